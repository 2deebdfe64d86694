import Derived.Test.YtecnfgikbmcgoaaGreatG2
import Derived.Test.YtecnfgikbmcgoaaGreatG6
import Derived.LoopN
namespace Go.Proofs.YtecnfgikbmcgoaaGreat
open Go.RowKit

set_option maxHeartbeats 1000000 in
theorem pick_any (c n : Int) (w : World) (h1 : -9223372036854775808 ≤ c) (h2 : c ≤ 9223372036854775807) (h3 : 1 ≤ n) (h4 : n ≤ 1073741824) :
    Calls Tryz.prog 11 #[.int .i64 c, .int .i64 n] w fun e w' => e = .returned (.int .i64 (pickF c n)) ∧ w' = w := by
  by_cases hc : c < 0
  · have H : Hid (pickF c n = -(c + 1) % n) := by
      show _ = _
      simp [pickF, hc]
    go_enter Tryz.func11, Tryz.ntmps11
    go_wp2
    go_ret
    exact ⟨ret_int (by rw [H.out, ← Int.neg_tmod]; exact Int.tmod_eq_emod_of_nonneg (by omega)), rfl⟩
  · have H : Hid (pickF c n = c % n) := by
      show _ = _
      simp [pickF, hc]
    go_enter Tryz.func11, Tryz.ntmps11
    go_wp2
    go_ret
    exact ⟨ret_int (by rw [H.out]), rfl⟩

theorem ret_str {a b : ByteArray} (h : a = b) : Ending.returned (.string a) = .returned (.string b) := by rw [h]

set_option maxHeartbeats 1000000 in
theorem texts_any (n : Int) (w : World) (h1 : 0 ≤ n) (h2 : n ≤ 1073741824) :
    Calls Tryz.prog 83 #[.int .i64 n] w fun e w' => e = .returned (.string (textF n)) ∧ w' = w.alloc (.cells #[.string ⟨#[]⟩, .string ⟨#[97]⟩, .string ⟨#[97, 98]⟩, .string ⟨#[98, 97]⟩, .string ⟨#[97, 98, 97]⟩, .string ⟨#[98]⟩] 9) := by
  have h : n % 6 = 0 ∨ n % 6 = 1 ∨ n % 6 = 2 ∨ n % 6 = 3 ∨ n % 6 = 4 ∨ n % 6 = 5 := by omega
  rcases h with h | h | h | h | h | h
  all_goals
    go_enter Tryz.func83, Tryz.ntmps83
    go_wp2
    go_ret
    exact ⟨ret_str (by simp [textF, h]), rfl⟩

set_option maxHeartbeats 1000000 in
theorem keepName_any (n : Int) (w : World) (h1 : 0 ≤ n) (h2 : n ≤ 1073741824) :
    Calls Tryz.prog 51 #[.int .i64 n] w fun e w' => e = .returned (.string (nameF n)) ∧ w' = w := by
  have h : n % 3 = 0 ∨ n % 3 = 1 ∨ n % 3 = 2 := by omega
  rcases h with h | h | h
  all_goals
    go_enter Tryz.func51, Tryz.ntmps51
    go_wp2
    go_ret
    exact ⟨ret_str (by simp [nameF, h]; first | rfl | decide), rfl⟩

/-- What 'value' leaves behind: its result, and where it is a text the six texts. -/
def valW (n : Int) (w : World) : World :=
  if pickF n 60 % 3 = 1 then (w.alloc (.cells #[.int .i64 (valK n), .int .i64 (valN n), .string (valS n)] 72)).alloc (.cells #[.string ⟨#[]⟩, .string ⟨#[97]⟩, .string ⟨#[97, 98]⟩, .string ⟨#[98, 97]⟩, .string ⟨#[97, 98, 97]⟩, .string ⟨#[98]⟩] 9)
  else w.alloc (.cells #[.int .i64 (valK n), .int .i64 (valN n), .string (valS n)] 72)

set_option maxHeartbeats 1000000 in
theorem keepValue_any (n : Int) (w : World) (h1 : -9223372036854775808 ≤ n) (h2 : n ≤ 9223372036854775807) :
    Calls Tryz.prog 52 #[.int .i64 n] w fun e w' => e = .returned (.agg #[.int .i64 (valK n), .int .i64 (valN n), .string (valS n)]) ∧ w' = valW n w := by
  obtain ⟨hb1, hb2⟩ := pickF_bd n 60 (by omega)
  have h : pickF n 60 % 3 = 0 ∨ pickF n 60 % 3 = 1 ∨ pickF n 60 % 3 = 2 := by omega
  rcases h with h | h | h
  · have HK : Hid (valK n = 1 ∧ valN n = pickF n 60 / 3 % 7 - 3 ∧ valS n = ⟨#[]⟩) := by
      show _ ∧ _
      simp [valK, valN, valS, h]
    go_enter Tryz.func52, Tryz.ntmps52
    go_wp2_with fail
    refine (pick_any _ _ _ h1 h2 (by omega) (by omega)).mono ?_
    rintro e w1 ⟨rfl, rfl⟩
    go_wp2_with fail
    refine bodyPost_ret (v := .agg #[.int .i64 1, .int .i64 (pickF n 60 / 3 % 7 - 3), .string ⟨#[]⟩]) (by simp [results, Tryz.results52, go_sem]) rfl ⟨?_, ?_⟩
    · rw [HK.out.1, HK.out.2.1, HK.out.2.2]
    · rw [valW, if_neg (by omega), HK.out.1, HK.out.2.1, HK.out.2.2]
  · have HK : Hid (valK n = 2 ∧ valN n = 0 ∧ valS n = textF (pickF n 60 / 3)) := by
      show _ ∧ _
      simp [valK, valN, valS, h]
    go_enter Tryz.func52, Tryz.ntmps52
    go_wp2_with fail
    refine (pick_any _ _ _ h1 h2 (by omega) (by omega)).mono ?_
    rintro e w1 ⟨rfl, rfl⟩
    go_wp2_with fail
    refine (texts_any _ _ (by omega) (by omega)).mono ?_
    rintro e w1 ⟨rfl, rfl⟩
    go_wp2_with fail
    refine bodyPost_ret (v := .agg #[.int .i64 2, .int .i64 0, .string (textF (pickF n 60 / 3))]) (by simp [results, Tryz.results52, go_sem]) rfl ⟨?_, ?_⟩
    · rw [HK.out.1, HK.out.2.1, HK.out.2.2]
    · rw [valW, if_pos h, HK.out.1, HK.out.2.1, HK.out.2.2]
  · have HK : Hid (valK n = 3 ∧ valN n = pickF n 60 / 3 % 2 ∧ valS n = ⟨#[]⟩) := by
      show _ ∧ _
      simp [valK, valN, valS, h]
    go_enter Tryz.func52, Tryz.ntmps52
    go_wp2_with fail
    refine (pick_any _ _ _ h1 h2 (by omega) (by omega)).mono ?_
    rintro e w1 ⟨rfl, rfl⟩
    go_wp2_with fail
    refine bodyPost_ret (v := .agg #[.int .i64 3, .int .i64 (pickF n 60 / 3 % 2), .string ⟨#[]⟩]) (by simp [results, Tryz.results52, go_sem]) rfl ⟨?_, ?_⟩
    · rw [HK.out.1, HK.out.2.1, HK.out.2.2]
    · rw [valW, if_neg (by omega), HK.out.1, HK.out.2.1, HK.out.2.2]
theorem valW_gr (n : Int) (w : World) : Gr w (valW n w) := by
  unfold valW
  split
  · exact ((Gr.refl w).alloc _).alloc _
  · exact (Gr.refl w).alloc _

set_option maxHeartbeats 4000000 in
theorem keepWant_any (n : Int) (w : World) (h1 : -9223372036854775808 ≤ n) (h2 : n ≤ 9223372036854775807) :
    Calls Tryz.prog 45 #[.int .i64 n] w fun e w' => e = .returned (.agg #[.string (wantF n).a, .int .i64 (wantF n).y, .int .i64 (wantF n).k, .int .i64 (wantF n).n, .string (wantF n).s]) ∧ Gr w w' := by
  obtain ⟨hb1, hb2⟩ := pickF_bd n 1073741824 (by omega)
  have HP : Hid (pickF n 1073741824 = wk n) := rfl
  rw [HP.out] at hb1 hb2
  have HY : Hid (1 + wk n / 3 % 10 = wy n) := rfl
  have hy : 1 ≤ wy n ∧ wy n ≤ 10 := by have := HY.out; omega
  obtain ⟨hy1, hy2⟩ := hy
  have hq : 0 ≤ wk n / 30 ∧ wk n / 30 ≤ 1073741824 := by omega
  obtain ⟨hq1, hq2⟩ := hq
  have HV : Hid (∀ w, valW (wk n / 30) w = (w.alloc (.cells #[.int .i64 (valK (wk n / 30)), .int .i64 (valN (wk n / 30)), .string (valS (wk n / 30))] 72)).alloc (.cells #[.string ⟨#[]⟩, .string ⟨#[97]⟩, .string ⟨#[97, 98]⟩, .string ⟨#[98, 97]⟩, .string ⟨#[97, 98, 97]⟩, .string ⟨#[98]⟩] 9)) ∨ Hid (∀ w, valW (wk n / 30) w = w.alloc (.cells #[.int .i64 (valK (wk n / 30)), .int .i64 (valN (wk n / 30)), .string (valS (wk n / 30))] 72)) := by
    by_cases h : pickF (wk n / 30) 60 % 3 = 1
    · exact Or.inl fun w => by rw [valW, if_pos h]
    · exact Or.inr fun w => by rw [valW, if_neg h]
  have hc : wy n = 1 ∨ 8 ≤ wy n ∨ (4 ≤ wy n ∧ wy n < 8) ∨ (1 < wy n ∧ wy n < 4) := by omega
  rcases HV with HV | HV
  all_goals
    rcases hc with hc | hc | hc | hc
    · have HR : Hid (wantF n = ⟨nameF (wk n), 1, 0, 0, ⟨#[]⟩⟩) := by
        show _ = _
        rw [wantF, if_pos hc]
      go_enter Tryz.func45, Tryz.ntmps45
      go_wp2_with fail
      refine (pick_any _ _ _ h1 h2 (by omega) (by omega)).mono ?_
      rw [HP.out]
      rintro e w1 ⟨rfl, rfl⟩
      go_wp2_with fail
      refine (keepName_any _ _ (by omega) (by omega)).mono ?_
      rintro e w1 ⟨rfl, rfl⟩
      go_wp2_with fail
      rw [HY.out]
      refine (keepValue_any _ _ (by omega) (by omega)).mono ?_
      rw [HV.out]
      rintro e w1 ⟨rfl, rfl⟩
      go_wp2_with fail
      refine bodyPost_ret (v := .agg #[.string (nameF (wk n)), .int .i64 1, .int .i64 0, .int .i64 0, .string ⟨#[]⟩]) (by simp [results, Tryz.results45, go_sem]) rfl ⟨by rw [HR.out], (by repeat (first | exact Gr.refl _ | apply Gr.alloc))⟩
    · have HR : Hid (wantF n = ⟨nameF (wk n), wy n, 2, 0, textF (wk n / 30)⟩) := by
        show _ = _
        rw [wantF, if_neg (by omega), if_pos hc]
      go_enter Tryz.func45, Tryz.ntmps45
      go_wp2_with fail
      refine (pick_any _ _ _ h1 h2 (by omega) (by omega)).mono ?_
      rw [HP.out]
      rintro e w1 ⟨rfl, rfl⟩
      go_wp2_with fail
      refine (keepName_any _ _ (by omega) (by omega)).mono ?_
      rintro e w1 ⟨rfl, rfl⟩
      go_wp2_with fail
      rw [HY.out]
      refine (keepValue_any _ _ (by omega) (by omega)).mono ?_
      rw [HV.out]
      rintro e w1 ⟨rfl, rfl⟩
      go_wp2_with fail
      refine (texts_any _ _ (by omega) (by omega)).mono ?_
      rintro e w1 ⟨rfl, rfl⟩
      go_wp2_with fail
      refine bodyPost_ret (v := .agg #[.string (nameF (wk n)), .int .i64 (wy n), .int .i64 2, .int .i64 0, .string (textF (wk n / 30))]) (by simp [results, Tryz.results45, go_sem]) rfl ⟨by rw [HR.out], (by repeat (first | exact Gr.refl _ | apply Gr.alloc))⟩
    · obtain ⟨hc1, hc2⟩ := hc
      have HR : Hid (wantF n = ⟨nameF (wk n), wy n, 1, wk n / 30 % 7 - 3, ⟨#[]⟩⟩) := by
        show _ = _
        rw [wantF, if_neg (by omega), if_neg (by omega), if_pos hc1]
      go_enter Tryz.func45, Tryz.ntmps45
      go_wp2_with fail
      refine (pick_any _ _ _ h1 h2 (by omega) (by omega)).mono ?_
      rw [HP.out]
      rintro e w1 ⟨rfl, rfl⟩
      go_wp2_with fail
      refine (keepName_any _ _ (by omega) (by omega)).mono ?_
      rintro e w1 ⟨rfl, rfl⟩
      go_wp2_with fail
      rw [HY.out]
      refine (keepValue_any _ _ (by omega) (by omega)).mono ?_
      rw [HV.out]
      rintro e w1 ⟨rfl, rfl⟩
      go_wp2_with fail
      refine bodyPost_ret (v := .agg #[.string (nameF (wk n)), .int .i64 (wy n), .int .i64 1, .int .i64 (wk n / 30 % 7 - 3), .string ⟨#[]⟩]) (by simp [results, Tryz.results45, go_sem]) rfl ⟨by rw [HR.out], (by repeat (first | exact Gr.refl _ | apply Gr.alloc))⟩
    · obtain ⟨hc1, hc2⟩ := hc
      have HR : Hid (wantF n = ⟨nameF (wk n), wy n, valK (wk n / 30), valN (wk n / 30), valS (wk n / 30)⟩) := by
        show _ = _
        rw [wantF, if_neg (by omega), if_neg (by omega), if_neg (by omega)]
      go_enter Tryz.func45, Tryz.ntmps45
      go_wp2_with fail
      refine (pick_any _ _ _ h1 h2 (by omega) (by omega)).mono ?_
      rw [HP.out]
      rintro e w1 ⟨rfl, rfl⟩
      go_wp2_with fail
      refine (keepName_any _ _ (by omega) (by omega)).mono ?_
      rintro e w1 ⟨rfl, rfl⟩
      go_wp2_with fail
      rw [HY.out]
      refine (keepValue_any _ _ (by omega) (by omega)).mono ?_
      rw [HV.out]
      rintro e w1 ⟨rfl, rfl⟩
      go_wp2_with fail
      refine bodyPost_ret (v := .agg #[.string (nameF (wk n)), .int .i64 (wy n), .int .i64 (valK (wk n / 30)), .int .i64 (valN (wk n / 30)), .string (valS (wk n / 30))]) (by simp [results, Tryz.results45, go_sem]) rfl ⟨by rw [HR.out], (by repeat (first | exact Gr.refl _ | apply Gr.alloc))⟩
end Go.Proofs.YtecnfgikbmcgoaaGreat
namespace Go.Proofs.YtecnfgikbmcgoaaGreat
open Go.RowKit

theorem Tryz.infoWant : (Tryz.prog.info? 76).map (fun i => (i.zero, i.size, i.bytes)) = some (some (.agg #[.string ⟨#[]⟩, .int .i64 0, .int .i64 0, .int .i64 0, .string ⟨#[]⟩]), 5, 56) := by kernel_rfl
theorem Tryz.infoAttr : (Tryz.prog.info? 74).map (fun i => (i.zero, i.size, i.bytes)) = some (some (.agg #[.string ⟨#[]⟩, .int .i64 0, .int .i64 0, .string ⟨#[]⟩]), 4, 48) := by kernel_rfl

set_option maxHeartbeats 2000000 in
theorem wants_nil (ad : Option Addr) (cap : Nat) (w : World) :
    Calls Tryz.prog 21 #[.slice ad 0 cap] w fun e w' => ∃ v, e = .returned v ∧ Gr w w' ∧ w'.ownsRow w.heap.size 76 5 v 1 (wcells [anyW]) := by
  go_enter Tryz.func21, Tryz.ntmps21
  go_wp2
  refine wp_loop_rounds 1 ?_
  rw [rounds_succ]
  go_wp2
  go_ret
  refine ⟨_, rfl, (Gr.refl w).alloc _, ?_⟩
  exact World.ownsRow_lit w #[.string ⟨#[97]⟩, .int .i64 1, .int .i64 0, .int .i64 0, .string ⟨#[]⟩] 1 (Nat.le_refl _) (by unfold maxLen; omega) rfl

set_option maxRecDepth 100000 in
set_option maxHeartbeats 2000000 in
theorem wants_any (zs : List Int) (ad : Option Addr) (cap : Nat) (w : World) (hl : zs.length ≤ maxLen) (h : InAt w ad zs) (hwf : IntWf zs) :
    Calls Tryz.prog 21 #[.slice ad zs.length cap] w fun e w' => ∃ v, e = .returned v ∧ Gr w w' ∧ w'.ownsRow w.heap.size 76 5 v (wantsF zs).length (wcells (wantsF zs)) := by
  unfold maxLen at hl
  obtain ⟨i0, hi, hz0, hz1, hz2⟩ := info_parts Tryz.infoWant
  have HW : Hid (IntWf zs) := hwf
  clear hwf
  by_cases hne : zs = []
  · subst hne; exact wants_nil ad cap w
  rcases h with h | ⟨b, off, rfl, hb, hat⟩
  · exact absurd h hne
  have HC : Hid (IntsAt w b off zs) := hat
  have HE : Hid (zs ≠ []) := hne
  clear hat hne
  go_enter Tryz.func21, Tryz.ntmps21
  go_wp2
  go_loopw [3, 4] (fun v i wr => ∃ k : Nat, k ≤ zs.length ∧ k ≤ 3 ∧ i = .int .i64 k ∧ Gr w wr ∧ Hid (wr.ownsRow w.heap.size 76 5 v k (wcells (kw zs k)))) (fun _ i _ => 3 - (intOf i).toNat)
  case atStart => exact ⟨0, Nat.zero_le _, by omega, rfl, Gr.refl _, World.ownsRow_nil _ _ _ _⟩
  case round =>
    obtain ⟨k, hk, hk3, rfl, g, HO⟩ := hrel
    by_cases hlt : k < zs.length ∧ k < 3
    · obtain ⟨hlt, hlt3⟩ := hlt
      have c1 := (HC.out.gr g hb) k hlt
      have hbr := g.lt hb
      go_wp2_with fail
      refine (keepWant_any _ _ (iat_bd HW.out hlt).1 (iat_bd HW.out hlt).2).mono ?_
      rintro e w1 ⟨rfl, hb1⟩
      have g1 : Gr w w1 := Gr.call g hb1
      have HO1 : Hid (w1.ownsRow w.heap.size 76 5 u3 k (wcells (kw zs k))) := ownsGr HO.out hb1
      have hsz := g1.size
      clear c1
      go_wp2_with (at_builtin; refine wpList_append_own _ rfl _ _ 48 rfl w.heap.size 76 i0 _ 5 56 Tryz.underlying48 hi hz0 hz1 hz2 rfl (by decide) _ _ _ rfl (HO1.out.alloc _) ⟨w1.heap.size, 0, none⟩ 1 1 [.string (wantF (iat zs k)).a, .int .i64 (wantF (iat zs k)).y, .int .i64 (wantF (iat zs k)).k, .int .i64 (wantF (iat zs k)).n, .string (wantF (iat zs k)).s] rfl rfl (World.news_of_block (heap_alloc_new _ _)) ?c2 ?c3 ?c4 ?c5 ?_)
      case c2 => intro u hu; simp at hu; rcases hu with rfl | rfl | rfl | rfl | rfl <;> rfl
      case c3 => unfold maxLen; omega
      case c4 => omega
      case c5 => simp; omega
      intro v' w4 hown' hgrow _
      have g4 : Gr w w4 := owns_grown rfl HO1.out g1 hgrow
      have HO4 : Hid (w4.ownsRow w.heap.size 76 5 v' (k + 1) (wcells (kw zs (k + 1)))) := by
        show World.ownsRow _ _ _ _ _ _ _
        rw [kw_snoc hlt, wcells_snoc]; exact hown'
      clear hown' hgrow
      go_wp2
      go_roundw
      case rel => exact ⟨k + 1, by omega, by omega, by go_num, g4, HO4⟩
      case measure => simp [intOf]; omega
    · obtain ⟨hf, hk0⟩ := kw_full hlt hk hk3 HE.out
      have HF : Hid (wantsF zs = kw zs k) := hf
      clear hf
      obtain ⟨ad', cap', rfl⟩ := owns_form HO.out
      have hk1 : ((k : Int) == 0) = false := by simp; omega
      have HR : Hid (∀ w', Gr wr w' → w'.ownsRow w.heap.size 76 5 (.slice ad' k cap') (wantsF zs).length (wcells (wantsF zs))) := fun w' hg => by
        rw [HF.out, kw_len hk]; exact ownsGr HO.out hg
      by_cases hl1 : k < zs.length
      · have hl3 : ¬ k < 3 := by omega
        clear hlt
        go_wp2
        go_ret
        exact ⟨_, rfl, g, HR.out _ (Gr.refl _)⟩
      · clear hlt
        go_wp2
        go_ret
        exact ⟨_, rfl, g, HR.out _ (Gr.refl _)⟩
end Go.Proofs.YtecnfgikbmcgoaaGreat
