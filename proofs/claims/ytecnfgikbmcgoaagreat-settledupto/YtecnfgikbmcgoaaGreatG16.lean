import Derived.Test.YtecnfgikbmcgoaaGreatG1
import Derived.Test.YtecnfgikbmcgoaaGreatG2
import Derived.LoopN
import Derived.Test.YtecnfgikbmcgoaaGreatG15
namespace Go.Proofs.YtecnfgikbmcgoaaGreat
open Go.RowKit

set_option maxHeartbeats 1000000 in
theorem pick_any (c n : Int) (w : World) (h1 : -9223372036854775808 ≤ c) (h2 : c ≤ 9223372036854775807) (h3 : 1 ≤ n) (h4 : n ≤ 1073741824) :
    Calls Tryz.prog 11 #[.int .i64 c, .int .i64 n] w fun e w' => e = .returned (.int .i64 (pickF c n)) ∧ w' = w := by
  by_cases hc : c < 0
  · have H : Hid (pickF c n = -(c + 1) % n) := by
      show _ = _
      simp [pickF, hc]
    go_enter Tryz.func11, Tryz.ntmps11
    go_wp2
    go_ret
    exact ⟨ret_int (by rw [H.out, ← Int.neg_tmod]; exact Int.tmod_eq_emod_of_nonneg (by omega)), rfl⟩
  · have H : Hid (pickF c n = c % n) := by
      show _ = _
      simp [pickF, hc]
    go_enter Tryz.func11, Tryz.ntmps11
    go_wp2
    go_ret
    exact ⟨ret_int (by rw [H.out]), rfl⟩

theorem ret_str {a b : ByteArray} (h : a = b) : Ending.returned (.string a) = .returned (.string b) := by rw [h]

set_option maxHeartbeats 1000000 in
theorem texts_any (n : Int) (w : World) (h1 : 0 ≤ n) (h2 : n ≤ 1073741824) :
    Calls Tryz.prog 83 #[.int .i64 n] w fun e w' => e = .returned (.string (textF n)) ∧ w' = w.alloc (.cells #[.string ⟨#[]⟩, .string ⟨#[97]⟩, .string ⟨#[97, 98]⟩, .string ⟨#[98, 97]⟩, .string ⟨#[97, 98, 97]⟩, .string ⟨#[98]⟩] 9) := by
  have h : n % 6 = 0 ∨ n % 6 = 1 ∨ n % 6 = 2 ∨ n % 6 = 3 ∨ n % 6 = 4 ∨ n % 6 = 5 := by omega
  rcases h with h | h | h | h | h | h
  all_goals
    go_enter Tryz.func83, Tryz.ntmps83
    go_wp2
    go_ret
    exact ⟨ret_str (by simp [textF, h]), rfl⟩

set_option maxHeartbeats 1000000 in
theorem keepName_any (n : Int) (w : World) (h1 : 0 ≤ n) (h2 : n ≤ 1073741824) :
    Calls Tryz.prog 51 #[.int .i64 n] w fun e w' => e = .returned (.string (nameF n)) ∧ w' = w := by
  have h : n % 3 = 0 ∨ n % 3 = 1 ∨ n % 3 = 2 := by omega
  rcases h with h | h | h
  all_goals
    go_enter Tryz.func51, Tryz.ntmps51
    go_wp2
    go_ret
    exact ⟨ret_str (by simp [nameF, h]; first | rfl | decide), rfl⟩

/-- What 'value' leaves behind: its result, and where it is a text the six texts. -/
def valW (n : Int) (w : World) : World :=
  if pickF n 60 % 3 = 1 then (w.alloc (.cells #[.int .i64 (valK n), .int .i64 (valN n), .string (valS n)] 72)).alloc (.cells #[.string ⟨#[]⟩, .string ⟨#[97]⟩, .string ⟨#[97, 98]⟩, .string ⟨#[98, 97]⟩, .string ⟨#[97, 98, 97]⟩, .string ⟨#[98]⟩] 9)
  else w.alloc (.cells #[.int .i64 (valK n), .int .i64 (valN n), .string (valS n)] 72)

set_option maxHeartbeats 1000000 in
theorem keepValue_any (n : Int) (w : World) (h1 : -9223372036854775808 ≤ n) (h2 : n ≤ 9223372036854775807) :
    Calls Tryz.prog 52 #[.int .i64 n] w fun e w' => e = .returned (.agg #[.int .i64 (valK n), .int .i64 (valN n), .string (valS n)]) ∧ w' = valW n w := by
  obtain ⟨hb1, hb2⟩ := pickF_bd n 60 (by omega)
  have h : pickF n 60 % 3 = 0 ∨ pickF n 60 % 3 = 1 ∨ pickF n 60 % 3 = 2 := by omega
  rcases h with h | h | h
  · have HK : Hid (valK n = 1 ∧ valN n = pickF n 60 / 3 % 7 - 3 ∧ valS n = ⟨#[]⟩) := by
      show _ ∧ _
      simp [valK, valN, valS, h]
    go_enter Tryz.func52, Tryz.ntmps52
    go_wp2_with fail
    refine (pick_any _ _ _ h1 h2 (by omega) (by omega)).mono ?_
    rintro e w1 ⟨rfl, rfl⟩
    go_wp2_with fail
    refine bodyPost_ret (v := .agg #[.int .i64 1, .int .i64 (pickF n 60 / 3 % 7 - 3), .string ⟨#[]⟩]) (by simp [results, Tryz.results52, go_sem]) rfl ⟨?_, ?_⟩
    · rw [HK.out.1, HK.out.2.1, HK.out.2.2]
    · rw [valW, if_neg (by omega), HK.out.1, HK.out.2.1, HK.out.2.2]
  · have HK : Hid (valK n = 2 ∧ valN n = 0 ∧ valS n = textF (pickF n 60 / 3)) := by
      show _ ∧ _
      simp [valK, valN, valS, h]
    go_enter Tryz.func52, Tryz.ntmps52
    go_wp2_with fail
    refine (pick_any _ _ _ h1 h2 (by omega) (by omega)).mono ?_
    rintro e w1 ⟨rfl, rfl⟩
    go_wp2_with fail
    refine (texts_any _ _ (by omega) (by omega)).mono ?_
    rintro e w1 ⟨rfl, rfl⟩
    go_wp2_with fail
    refine bodyPost_ret (v := .agg #[.int .i64 2, .int .i64 0, .string (textF (pickF n 60 / 3))]) (by simp [results, Tryz.results52, go_sem]) rfl ⟨?_, ?_⟩
    · rw [HK.out.1, HK.out.2.1, HK.out.2.2]
    · rw [valW, if_pos h, HK.out.1, HK.out.2.1, HK.out.2.2]
  · have HK : Hid (valK n = 3 ∧ valN n = pickF n 60 / 3 % 2 ∧ valS n = ⟨#[]⟩) := by
      show _ ∧ _
      simp [valK, valN, valS, h]
    go_enter Tryz.func52, Tryz.ntmps52
    go_wp2_with fail
    refine (pick_any _ _ _ h1 h2 (by omega) (by omega)).mono ?_
    rintro e w1 ⟨rfl, rfl⟩
    go_wp2_with fail
    refine bodyPost_ret (v := .agg #[.int .i64 3, .int .i64 (pickF n 60 / 3 % 2), .string ⟨#[]⟩]) (by simp [results, Tryz.results52, go_sem]) rfl ⟨?_, ?_⟩
    · rw [HK.out.1, HK.out.2.1, HK.out.2.2]
    · rw [valW, if_neg (by omega), HK.out.1, HK.out.2.1, HK.out.2.2]
theorem valW_gr (n : Int) (w : World) : Gr w (valW n w) := by
  unfold valW
  split
  · exact ((Gr.refl w).alloc _).alloc _
  · exact (Gr.refl w).alloc _

set_option maxHeartbeats 4000000 in
theorem keepWant_any (n : Int) (w : World) (h1 : -9223372036854775808 ≤ n) (h2 : n ≤ 9223372036854775807) :
    Calls Tryz.prog 45 #[.int .i64 n] w fun e w' => e = .returned (.agg #[.string (wantF n).a, .int .i64 (wantF n).y, .int .i64 (wantF n).k, .int .i64 (wantF n).n, .string (wantF n).s]) ∧ Gr w w' := by
  obtain ⟨hb1, hb2⟩ := pickF_bd n 1073741824 (by omega)
  have HP : Hid (pickF n 1073741824 = wk n) := rfl
  rw [HP.out] at hb1 hb2
  have HY : Hid (1 + wk n / 3 % 10 = wy n) := rfl
  have hy : 1 ≤ wy n ∧ wy n ≤ 10 := by have := HY.out; omega
  obtain ⟨hy1, hy2⟩ := hy
  have hq : 0 ≤ wk n / 30 ∧ wk n / 30 ≤ 1073741824 := by omega
  obtain ⟨hq1, hq2⟩ := hq
  have HV : Hid (∀ w, valW (wk n / 30) w = (w.alloc (.cells #[.int .i64 (valK (wk n / 30)), .int .i64 (valN (wk n / 30)), .string (valS (wk n / 30))] 72)).alloc (.cells #[.string ⟨#[]⟩, .string ⟨#[97]⟩, .string ⟨#[97, 98]⟩, .string ⟨#[98, 97]⟩, .string ⟨#[97, 98, 97]⟩, .string ⟨#[98]⟩] 9)) ∨ Hid (∀ w, valW (wk n / 30) w = w.alloc (.cells #[.int .i64 (valK (wk n / 30)), .int .i64 (valN (wk n / 30)), .string (valS (wk n / 30))] 72)) := by
    by_cases h : pickF (wk n / 30) 60 % 3 = 1
    · exact Or.inl fun w => by rw [valW, if_pos h]
    · exact Or.inr fun w => by rw [valW, if_neg h]
  have hc : wy n = 1 ∨ 8 ≤ wy n ∨ (4 ≤ wy n ∧ wy n < 8) ∨ (1 < wy n ∧ wy n < 4) := by omega
  rcases HV with HV | HV
  all_goals
    rcases hc with hc | hc | hc | hc
    · have HR : Hid (wantF n = ⟨nameF (wk n), 1, 0, 0, ⟨#[]⟩⟩) := by
        show _ = _
        rw [wantF, if_pos hc]
      go_enter Tryz.func45, Tryz.ntmps45
      go_wp2_with fail
      refine (pick_any _ _ _ h1 h2 (by omega) (by omega)).mono ?_
      rw [HP.out]
      rintro e w1 ⟨rfl, rfl⟩
      go_wp2_with fail
      refine (keepName_any _ _ (by omega) (by omega)).mono ?_
      rintro e w1 ⟨rfl, rfl⟩
      go_wp2_with fail
      rw [HY.out]
      refine (keepValue_any _ _ (by omega) (by omega)).mono ?_
      rw [HV.out]
      rintro e w1 ⟨rfl, rfl⟩
      go_wp2_with fail
      refine bodyPost_ret (v := .agg #[.string (nameF (wk n)), .int .i64 1, .int .i64 0, .int .i64 0, .string ⟨#[]⟩]) (by simp [results, Tryz.results45, go_sem]) rfl ⟨by rw [HR.out], (by repeat (first | exact Gr.refl _ | apply Gr.alloc))⟩
    · have HR : Hid (wantF n = ⟨nameF (wk n), wy n, 2, 0, textF (wk n / 30)⟩) := by
        show _ = _
        rw [wantF, if_neg (by omega), if_pos hc]
      go_enter Tryz.func45, Tryz.ntmps45
      go_wp2_with fail
      refine (pick_any _ _ _ h1 h2 (by omega) (by omega)).mono ?_
      rw [HP.out]
      rintro e w1 ⟨rfl, rfl⟩
      go_wp2_with fail
      refine (keepName_any _ _ (by omega) (by omega)).mono ?_
      rintro e w1 ⟨rfl, rfl⟩
      go_wp2_with fail
      rw [HY.out]
      refine (keepValue_any _ _ (by omega) (by omega)).mono ?_
      rw [HV.out]
      rintro e w1 ⟨rfl, rfl⟩
      go_wp2_with fail
      refine (texts_any _ _ (by omega) (by omega)).mono ?_
      rintro e w1 ⟨rfl, rfl⟩
      go_wp2_with fail
      refine bodyPost_ret (v := .agg #[.string (nameF (wk n)), .int .i64 (wy n), .int .i64 2, .int .i64 0, .string (textF (wk n / 30))]) (by simp [results, Tryz.results45, go_sem]) rfl ⟨by rw [HR.out], (by repeat (first | exact Gr.refl _ | apply Gr.alloc))⟩
    · obtain ⟨hc1, hc2⟩ := hc
      have HR : Hid (wantF n = ⟨nameF (wk n), wy n, 1, wk n / 30 % 7 - 3, ⟨#[]⟩⟩) := by
        show _ = _
        rw [wantF, if_neg (by omega), if_neg (by omega), if_pos hc1]
      go_enter Tryz.func45, Tryz.ntmps45
      go_wp2_with fail
      refine (pick_any _ _ _ h1 h2 (by omega) (by omega)).mono ?_
      rw [HP.out]
      rintro e w1 ⟨rfl, rfl⟩
      go_wp2_with fail
      refine (keepName_any _ _ (by omega) (by omega)).mono ?_
      rintro e w1 ⟨rfl, rfl⟩
      go_wp2_with fail
      rw [HY.out]
      refine (keepValue_any _ _ (by omega) (by omega)).mono ?_
      rw [HV.out]
      rintro e w1 ⟨rfl, rfl⟩
      go_wp2_with fail
      refine bodyPost_ret (v := .agg #[.string (nameF (wk n)), .int .i64 (wy n), .int .i64 1, .int .i64 (wk n / 30 % 7 - 3), .string ⟨#[]⟩]) (by simp [results, Tryz.results45, go_sem]) rfl ⟨by rw [HR.out], (by repeat (first | exact Gr.refl _ | apply Gr.alloc))⟩
    · obtain ⟨hc1, hc2⟩ := hc
      have HR : Hid (wantF n = ⟨nameF (wk n), wy n, valK (wk n / 30), valN (wk n / 30), valS (wk n / 30)⟩) := by
        show _ = _
        rw [wantF, if_neg (by omega), if_neg (by omega), if_neg (by omega)]
      go_enter Tryz.func45, Tryz.ntmps45
      go_wp2_with fail
      refine (pick_any _ _ _ h1 h2 (by omega) (by omega)).mono ?_
      rw [HP.out]
      rintro e w1 ⟨rfl, rfl⟩
      go_wp2_with fail
      refine (keepName_any _ _ (by omega) (by omega)).mono ?_
      rintro e w1 ⟨rfl, rfl⟩
      go_wp2_with fail
      rw [HY.out]
      refine (keepValue_any _ _ (by omega) (by omega)).mono ?_
      rw [HV.out]
      rintro e w1 ⟨rfl, rfl⟩
      go_wp2_with fail
      refine bodyPost_ret (v := .agg #[.string (nameF (wk n)), .int .i64 (wy n), .int .i64 (valK (wk n / 30)), .int .i64 (valN (wk n / 30)), .string (valS (wk n / 30))]) (by simp [results, Tryz.results45, go_sem]) rfl ⟨by rw [HR.out], (by repeat (first | exact Gr.refl _ | apply Gr.alloc))⟩
end Go.Proofs.YtecnfgikbmcgoaaGreat
namespace Go.Proofs.YtecnfgikbmcgoaaGreat
open Go.RowKit

theorem Tryz.infoWant : (Tryz.prog.info? 76).map (fun i => (i.zero, i.size, i.bytes)) = some (some (.agg #[.string ⟨#[]⟩, .int .i64 0, .int .i64 0, .int .i64 0, .string ⟨#[]⟩]), 5, 56) := by kernel_rfl
theorem Tryz.infoAttr : (Tryz.prog.info? 74).map (fun i => (i.zero, i.size, i.bytes)) = some (some (.agg #[.string ⟨#[]⟩, .int .i64 0, .int .i64 0, .string ⟨#[]⟩]), 4, 48) := by kernel_rfl

set_option maxHeartbeats 2000000 in
theorem wants_nil (ad : Option Addr) (cap : Nat) (w : World) :
    Calls Tryz.prog 21 #[.slice ad 0 cap] w fun e w' => ∃ v, e = .returned v ∧ Gr w w' ∧ w'.ownsRow w.heap.size 76 5 v 1 (wcells [anyW]) := by
  go_enter Tryz.func21, Tryz.ntmps21
  go_wp2
  refine wp_loop_rounds 1 ?_
  rw [rounds_succ]
  go_wp2
  go_ret
  refine ⟨_, rfl, (Gr.refl w).alloc _, ?_⟩
  exact World.ownsRow_lit w #[.string ⟨#[97]⟩, .int .i64 1, .int .i64 0, .int .i64 0, .string ⟨#[]⟩] 1 (Nat.le_refl _) (by unfold maxLen; omega) rfl

set_option maxRecDepth 100000 in
set_option maxHeartbeats 2000000 in
theorem wants_any (zs : List Int) (ad : Option Addr) (cap : Nat) (w : World) (hl : zs.length ≤ maxLen) (h : InAt w ad zs) (hwf : IntWf zs) :
    Calls Tryz.prog 21 #[.slice ad zs.length cap] w fun e w' => ∃ v, e = .returned v ∧ Gr w w' ∧ w'.ownsRow w.heap.size 76 5 v (wantsF zs).length (wcells (wantsF zs)) := by
  unfold maxLen at hl
  obtain ⟨i0, hi, hz0, hz1, hz2⟩ := info_parts Tryz.infoWant
  have HW : Hid (IntWf zs) := hwf
  clear hwf
  by_cases hne : zs = []
  · subst hne; exact wants_nil ad cap w
  rcases h with h | ⟨b, off, rfl, hb, hat⟩
  · exact absurd h hne
  have HC : Hid (IntsAt w b off zs) := hat
  have HE : Hid (zs ≠ []) := hne
  clear hat hne
  go_enter Tryz.func21, Tryz.ntmps21
  go_wp2
  go_loopw [3, 4] (fun v i wr => ∃ k : Nat, k ≤ zs.length ∧ k ≤ 3 ∧ i = .int .i64 k ∧ Gr w wr ∧ Hid (wr.ownsRow w.heap.size 76 5 v k (wcells (kw zs k)))) (fun _ i _ => 3 - (intOf i).toNat)
  case atStart => exact ⟨0, Nat.zero_le _, by omega, rfl, Gr.refl _, World.ownsRow_nil _ _ _ _⟩
  case round =>
    obtain ⟨k, hk, hk3, rfl, g, HO⟩ := hrel
    by_cases hlt : k < zs.length ∧ k < 3
    · obtain ⟨hlt, hlt3⟩ := hlt
      have c1 := (HC.out.gr g hb) k hlt
      have hbr := g.lt hb
      go_wp2_with fail
      refine (keepWant_any _ _ (iat_bd HW.out hlt).1 (iat_bd HW.out hlt).2).mono ?_
      rintro e w1 ⟨rfl, hb1⟩
      have g1 : Gr w w1 := Gr.call g hb1
      have HO1 : Hid (w1.ownsRow w.heap.size 76 5 u3 k (wcells (kw zs k))) := ownsGr HO.out hb1
      have hsz := g1.size
      clear c1
      go_wp2_with (at_builtin; refine wpList_append_own _ rfl _ _ 48 rfl w.heap.size 76 i0 _ 5 56 Tryz.underlying48 hi hz0 hz1 hz2 rfl (by decide) _ _ _ rfl (HO1.out.alloc _) ⟨w1.heap.size, 0, none⟩ 1 1 [.string (wantF (iat zs k)).a, .int .i64 (wantF (iat zs k)).y, .int .i64 (wantF (iat zs k)).k, .int .i64 (wantF (iat zs k)).n, .string (wantF (iat zs k)).s] rfl rfl (World.news_of_block (heap_alloc_new _ _)) ?c2 ?c3 ?c4 ?c5 ?_)
      case c2 => intro u hu; simp at hu; rcases hu with rfl | rfl | rfl | rfl | rfl <;> rfl
      case c3 => unfold maxLen; omega
      case c4 => omega
      case c5 => simp; omega
      intro v' w4 hown' hgrow _
      have g4 : Gr w w4 := owns_grown rfl HO1.out g1 hgrow
      have HO4 : Hid (w4.ownsRow w.heap.size 76 5 v' (k + 1) (wcells (kw zs (k + 1)))) := by
        show World.ownsRow _ _ _ _ _ _ _
        rw [kw_snoc hlt, wcells_snoc]; exact hown'
      clear hown' hgrow
      go_wp2
      go_roundw
      case rel => exact ⟨k + 1, by omega, by omega, by go_num, g4, HO4⟩
      case measure => simp [intOf]; omega
    · obtain ⟨hf, hk0⟩ := kw_full hlt hk hk3 HE.out
      have HF : Hid (wantsF zs = kw zs k) := hf
      clear hf
      obtain ⟨ad', cap', rfl⟩ := owns_form HO.out
      have hk1 : ((k : Int) == 0) = false := by simp; omega
      have HR : Hid (∀ w', Gr wr w' → w'.ownsRow w.heap.size 76 5 (.slice ad' k cap') (wantsF zs).length (wcells (wantsF zs))) := fun w' hg => by
        rw [HF.out, kw_len hk]; exact ownsGr HO.out hg
      by_cases hl1 : k < zs.length
      · have hl3 : ¬ k < 3 := by omega
        clear hlt
        go_wp2
        go_ret
        exact ⟨_, rfl, g, HR.out _ (Gr.refl _)⟩
      · clear hlt
        go_wp2
        go_ret
        exact ⟨_, rfl, g, HR.out _ (Gr.refl _)⟩
end Go.Proofs.YtecnfgikbmcgoaaGreat
namespace Go.Proofs.YtecnfgikbmcgoaaGreat
open Go.RowKit

/-! ### heraldkeep.shape -/
def nbF (zs : List Int) : Nat := min (1 + zs.length) 6
def edge1 (zs : List Int) (i : Nat) : Ky := if (iat zs (i - 1)).tmod 2 = 0 then (pickF (iat zs (i - 1)) i, (i : Int)) else ((i : Int), pickF (iat zs (i - 1)) i)
/-- The edges of the brokers 1 to k. -/
def edTo (zs : List Int) (k : Nat) : List Ky := (List.range k).map fun i => edge1 zs (i + 1)
theorem edTo_succ (zs : List Int) (k : Nat) : edTo zs (k + 1) = edTo zs k ++ [edge1 zs (k + 1)] := by simp [edTo, List.range_succ]
theorem edTo_len (zs : List Int) (k : Nat) : (edTo zs k).length = k := by simp [edTo]
theorem edge_nat (zs : List Int) (i : Nat) : ∃ a : Nat, a < i + 1 ∧ (edge1 zs (i + 1) = ((a : Int), ((i + 1 : Nat) : Int)) ∨ edge1 zs (i + 1) = (((i + 1 : Nat) : Int), (a : Int))) := by
  have hb := pickF_bd (iat zs (i + 1 - 1)) ((i + 1 : Nat) : Int) (by omega)
  refine ⟨(pickF (iat zs (i + 1 - 1)) ((i + 1 : Nat) : Int)).toNat, by omega, ?_⟩
  unfold edge1
  split
  · exact Or.inl (by rw [Int.toNat_of_nonneg hb.1])
  · exact Or.inr (by rw [Int.toNat_of_nonneg hb.1])
theorem tRun_append (n : Nat) : ∀ (a b : List Ky) (p : List Nat), tRun n p (a ++ b) = (tRun n p a).bind fun q => tRun n q b
  | [], _, _ => rfl
  | e :: a, b, p => by
    show (tStep n p e).bind (fun q => tRun n q (a ++ b)) = ((tStep n p e).bind fun q => tRun n q a).bind _
    cases tStep n p e with
    | none => rfl
    | some q => exact tRun_append n a b q
theorem ed_run (zs : List Int) (n : Nat) : ∀ k, k < n → ∃ p, tRun n (List.range n) (edTo zs k) = some p ∧ p.length = n ∧ (∀ x, x < k + 1 → pat p x < k + 1) ∧ ∀ x, k + 1 ≤ x → x < n → pat p x = x
  | 0, h => ⟨List.range n, rfl, by simp, fun x hx => by
      have : x = 0 := by omega
      subst this; simp [pat, h], fun x _ hx => by simp [pat, hx]⟩
  | k + 1, h => by
    obtain ⟨p, h1, h2, h3, h4⟩ := ed_run zs n k (by omega)
    obtain ⟨a, ha, hE⟩ := edge_nat zs k
    have pk1 := h4 (k + 1) (Nat.le_refl _) h
    have pa := h3 a ha
    have pm : ∀ (f : Nat → Nat) x, x < n → pat (p.map f) x = f (pat p x) := fun f x hx => pat_map (by omega)
    rw [edTo_succ, tRun_append, h1]
    rcases hE with hE | hE
    · refine ⟨p.map fun x => if x = pat p (k + 1) then pat p a else x, ?_, by simpa using h2, fun x hx => ?_, fun x hx hxn => ?_⟩
      · show tRun n p [edge1 zs (k + 1)] = _
        rw [hE]
        show (tStep n p _).bind _ = _
        unfold tStep
        simp only [Int.toNat_natCast]
        rw [if_pos ⟨by omega, by omega, by omega, by omega, by omega⟩]; rfl
      · rw [pm _ x (by omega), pk1]
        split
        · omega
        · by_cases hxk : x = k + 1
          · subst hxk; omega
          · have := h3 x (by omega); omega
      · rw [pm _ x hxn, h4 x (by omega) hxn, pk1, if_neg (by omega)]
    · refine ⟨p.map fun x => if x = pat p a then pat p (k + 1) else x, ?_, by simpa using h2, fun x hx => ?_, fun x hx hxn => ?_⟩
      · show tRun n p [edge1 zs (k + 1)] = _
        rw [hE]
        show (tStep n p _).bind _ = _
        unfold tStep
        simp only [Int.toNat_natCast]
        rw [if_pos ⟨by omega, by omega, by omega, by omega, by omega⟩]; rfl
      · rw [pm _ x (by omega), pk1]
        split
        · omega
        · by_cases hxk : x = k + 1
          · subst hxk; omega
          · have := h3 x (by omega); omega
      · rw [pm _ x hxn, h4 x (by omega) hxn, if_neg (by omega)]
theorem shape_tree (zs : List Int) : treeB (nbF zs) (edTo zs (nbF zs - 1)) = true := by
  have h1 : 1 ≤ nbF zs ∧ nbF zs ≤ 6 := by unfold nbF; omega
  obtain ⟨p, hp, _⟩ := ed_run zs (nbF zs) (nbF zs - 1) (by omega)
  simp only [treeB, edTo_len, Int.toNat_natCast, hp, Option.isSome_some, Bool.and_true, Bool.and_eq_true, decide_eq_true_eq]
  omega
theorem ed_mem {zs : List Int} {k : Nat} {e : Ky} (h : e ∈ edTo zs k) : ∃ a b : Nat, e = ((a : Int), (b : Int)) ∧ a ≤ k ∧ b ≤ k := by
  simp only [edTo, List.mem_map, List.mem_range] at h
  obtain ⟨i, hi, rfl⟩ := h
  obtain ⟨a, ha, hE⟩ := edge_nat zs i
  rcases hE with hE | hE
  · exact ⟨a, i + 1, hE, by omega, by omega⟩
  · exact ⟨i + 1, a, hE, by omega, by omega⟩
theorem Tryz.infoEd : (Tryz.prog.info? 81).map (fun i => (i.zero, i.size, i.bytes)) = some (some (.agg #[.int .i64 0, .int .i64 0]), 2, 16) := by kernel_rfl
set_option maxRecDepth 100000 in
set_option maxHeartbeats 4000000 in
theorem shape_any (zs : List Int) (ad : Option Addr) (cap : Nat) (w : World) (hl : zs.length ≤ 1048576) (h : InAt w ad zs) (hwf : IntWf zs) :
    Calls Tryz.prog 15 #[.slice ad zs.length cap] w fun e w' => ∃ v, e = .returned (.tuple #[.int .i64 (nbF zs : Nat), v]) ∧ w'.ownsRow w.heap.size 81 2 v (nbF zs - 1) (kcells (edTo zs (nbF zs - 1))) ∧ Gr w w' := by
  obtain ⟨i0, hi, hz0, hz1, hz2⟩ := info_parts Tryz.infoEd
  have HH := Hid.mk' h
  have HW := Hid.mk' hwf
  have hnb : 1 ≤ nbF zs ∧ nbF zs ≤ 6 := by unfold nbF; omega
  have hnl : nbF zs ≤ 1 + zs.length := by unfold nbF; omega
  clear h hwf
  have hw1 : wrap64 (1 + (zs.length : Int)) = 1 + (zs.length : Int) := by unfold wrap64; omega
  go_enter Tryz.func15, Tryz.ntmps15
  have NB : (6 : Int) < 1 + (zs.length : Int) ∧ nbF zs = 6 ∨ ¬ (6 : Int) < 1 + (zs.length : Int) ∧ (1 + (zs.length : Int) = (nbF zs : Int)) := by unfold nbF; omega
  rcases NB with ⟨h6, hn6⟩ | ⟨h6, hn6⟩
  · rw [hn6] at hnb hnl ⊢
    go_wp2_with fail
    clear hw1 h6
    go_loopw [5, 6] (fun v i wr => ∃ q : Nat, q + 1 ≤ 6 ∧ i = .int .i64 ((q + 1 : Nat) : Int) ∧ Hid (Gr w wr) ∧ Hid (wr.ownsRow w.heap.size 81 2 v q (kcells (edTo zs q)))) (fun _ i _ => 6 - (intOf i).toNat)
    case atStart => exact ⟨0, by omega, rfl, Gr.refl _, World.ownsRow_nil _ _ _ _⟩
    case round =>
      obtain ⟨q, hq, rfl, G, O⟩ := hrel
      obtain ⟨va, vm, vk, rfl⟩ := owns_slice O.out
      by_cases hlt : q + 1 < 6
      · have hqz : q < zs.length := by omega
        obtain ⟨b, off, rfl, hbw, hat⟩ : ∃ b off, ad = some ⟨b, off, none⟩ ∧ b < w.heap.size ∧ IntsAt w b off zs := by
          rcases HH.out with h0 | h0
          · rw [h0] at hqz; simp at hqz
          · exact h0
        have hat' := hat.gr G.out hbw
        have cz := hat' q hqz
        have hbd := iat_bd HW.out hqz
        have hbd2 := G.out.lt hbw
        have PK := Hid.mk' (pick_any (iat zs q) ((q + 1 : Nat) : Int) wr hbd.1 hbd.2 (by omega) (by omega))
        have ED : Hid (edge1 zs (q + 1) = if (iat zs q).tmod 2 = 0 then (pickF (iat zs q) ((q + 1 : Nat) : Int), ((q + 1 : Nat) : Int)) else (((q + 1 : Nat) : Int), pickF (iat zs q) ((q + 1 : Nat) : Int))) := rfl
        have SUC := Hid.mk' (edTo_succ zs q)
        have hpb := pickF_bd (iat zs q) ((q + 1 : Nat) : Int) (by omega)
        have hsub : wrap64 (((q + 1 : Nat) : Int) - 1) = (q : Int) := by unfold wrap64; omega
        have SZ := G.out.size
        clear hat hat'
        generalize iat zs q = z at *
        generalize pickF z ((q + 1 : Nat) : Int) = pz at *
        have cast1 : ((q + 1 : Nat) : Int) = (q : Int) + 1 := by omega
        by_cases hev : z.tmod 2 = 0
        · have hev' : (z.tmod 2 == 0) = true := by simpa using hev
          have EE : Hid (edTo zs (q + 1) = edTo zs q ++ [(pz, ((q + 1 : Nat) : Int))]) := by
            show _ = _
            rw [SUC.out, ED.out, if_pos hev]
          clear ED SUC
          rw [cast1] at PK
          go_wp2_with fail
          refine PK.out.mono ?_
          rintro e w1 ⟨rfl, hw⟩
          have hw' := hw.symm
          clear hw
          subst hw'
          go_wp2_with (at_builtin; refine wpList_append_own _ rfl _ _ 22 rfl w.heap.size 81 i0 (.agg #[.int .i64 0, .int .i64 0]) 2 16 Tryz.underlying22 hi hz0 hz1 hz2 rfl (by decide) _ _ _ rfl (O.out.alloc _) ⟨wr.heap.size, 0, none⟩ 1 1 [.int .i64 pz, .int .i64 ((q : Int) + 1)] rfl rfl (World.news_of_block (heap_alloc_new _ _)) ?k2 ?k3 ?k4 ?k5 ?_)
          case k2 => first | exact ⟨rfl, rfl⟩ | (intro t ht; simp at ht; rcases ht with rfl | rfl <;> rfl)
          case k3 => unfold maxLen; omega
          case k4 => omega
          case k5 => simp; omega
          intro v5 w5 ho5 hg5 _
          have G5 : Hid (Gr w w5) := Below.grown (G.out.alloc _) hg5 (Nat.le_trans G.out.size (by simp)) (own_low O.out)
          have O5 : Hid (w5.ownsRow w.heap.size 81 2 v5 (q + 1) (kcells (edTo zs (q + 1)))) := by
            show World.ownsRow _ _ _ _ _ _ _
            rw [EE.out, kcells_snoc]; exact ho5
          obtain ⟨za, zm, zk, rfl⟩ := owns_slice ho5
          clear ho5 hg5 O G cz
          go_wp2_with fail
          refine ⟨⟨q + 1, hlt, by simp, G5, O5⟩, ?_⟩
          simp [intOf]; omega
        · have hev' : (z.tmod 2 == 0) = false := by simpa using hev
          have EE : Hid (edTo zs (q + 1) = edTo zs q ++ [(((q + 1 : Nat) : Int), pz)]) := by
            show _ = _
            rw [SUC.out, ED.out, if_neg hev]
          clear ED SUC
          rw [cast1] at PK
          go_wp2_with fail
          refine PK.out.mono ?_
          rintro e w1 ⟨rfl, hw⟩
          have hw' := hw.symm
          clear hw
          subst hw'
          go_wp2_with (at_builtin; refine wpList_append_own _ rfl _ _ 22 rfl w.heap.size 81 i0 (.agg #[.int .i64 0, .int .i64 0]) 2 16 Tryz.underlying22 hi hz0 hz1 hz2 rfl (by decide) _ _ _ rfl (O.out.alloc _) ⟨wr.heap.size, 0, none⟩ 1 1 [.int .i64 ((q : Int) + 1), .int .i64 pz] rfl rfl (World.news_of_block (heap_alloc_new _ _)) ?k2 ?k3 ?k4 ?k5 ?_)
          case k2 => first | exact ⟨rfl, rfl⟩ | (intro t ht; simp at ht; rcases ht with rfl | rfl <;> rfl)
          case k3 => unfold maxLen; omega
          case k4 => omega
          case k5 => simp; omega
          intro v5 w5 ho5 hg5 _
          have G5 : Hid (Gr w w5) := Below.grown (G.out.alloc _) hg5 (Nat.le_trans G.out.size (by simp)) (own_low O.out)
          have O5 : Hid (w5.ownsRow w.heap.size 81 2 v5 (q + 1) (kcells (edTo zs (q + 1)))) := by
            show World.ownsRow _ _ _ _ _ _ _
            rw [EE.out, kcells_snoc]; exact ho5
          obtain ⟨za, zm, zk, rfl⟩ := owns_slice ho5
          clear ho5 hg5 O G cz
          go_wp2_with fail
          refine ⟨⟨q + 1, hlt, by simp, G5, O5⟩, ?_⟩
          simp [intOf]; omega
      · have hqn : 6 - 1 = q := by omega
        have hqq : q + 1 = 6 := by omega
        have OE : Hid (wr.ownsRow w.heap.size 81 2 (.slice va vm vk) (6 - 1) (kcells (edTo zs (6 - 1)))) := by
          show World.ownsRow _ _ _ _ _ _ _
          rw [hqn]; exact O.out
        clear O
        go_wp2_with fail
        exact bodyPost_ret (v := .tuple #[.int .i64 ((6 : Nat) : Int), .slice va vm vk]) (by simp [results, Tryz.results15, go_sem]) rfl ⟨_, rfl, OE.out, G.out⟩
  · go_wp2_with fail
    clear hw1 h6
    try simp only [hn6]
    clear hn6
    go_loopw [5, 6] (fun v i wr => ∃ q : Nat, q + 1 ≤ nbF zs ∧ i = .int .i64 ((q + 1 : Nat) : Int) ∧ Hid (Gr w wr) ∧ Hid (wr.ownsRow w.heap.size 81 2 v q (kcells (edTo zs q)))) (fun _ i _ => nbF zs - (intOf i).toNat)
    case atStart => exact ⟨0, by omega, rfl, Gr.refl _, World.ownsRow_nil _ _ _ _⟩
    case round =>
      obtain ⟨q, hq, rfl, G, O⟩ := hrel
      obtain ⟨va, vm, vk, rfl⟩ := owns_slice O.out
      by_cases hlt : q + 1 < nbF zs
      · have hqz : q < zs.length := by omega
        obtain ⟨b, off, rfl, hbw, hat⟩ : ∃ b off, ad = some ⟨b, off, none⟩ ∧ b < w.heap.size ∧ IntsAt w b off zs := by
          rcases HH.out with h0 | h0
          · rw [h0] at hqz; simp at hqz
          · exact h0
        have hat' := hat.gr G.out hbw
        have cz := hat' q hqz
        have hbd := iat_bd HW.out hqz
        have hbd2 := G.out.lt hbw
        have PK := Hid.mk' (pick_any (iat zs q) ((q + 1 : Nat) : Int) wr hbd.1 hbd.2 (by omega) (by omega))
        have ED : Hid (edge1 zs (q + 1) = if (iat zs q).tmod 2 = 0 then (pickF (iat zs q) ((q + 1 : Nat) : Int), ((q + 1 : Nat) : Int)) else (((q + 1 : Nat) : Int), pickF (iat zs q) ((q + 1 : Nat) : Int))) := rfl
        have SUC := Hid.mk' (edTo_succ zs q)
        have hpb := pickF_bd (iat zs q) ((q + 1 : Nat) : Int) (by omega)
        have hsub : wrap64 (((q + 1 : Nat) : Int) - 1) = (q : Int) := by unfold wrap64; omega
        have SZ := G.out.size
        clear hat hat'
        generalize iat zs q = z at *
        generalize pickF z ((q + 1 : Nat) : Int) = pz at *
        have cast1 : ((q + 1 : Nat) : Int) = (q : Int) + 1 := by omega
        by_cases hev : z.tmod 2 = 0
        · have hev' : (z.tmod 2 == 0) = true := by simpa using hev
          have EE : Hid (edTo zs (q + 1) = edTo zs q ++ [(pz, ((q + 1 : Nat) : Int))]) := by
            show _ = _
            rw [SUC.out, ED.out, if_pos hev]
          clear ED SUC
          rw [cast1] at PK
          go_wp2_with fail
          refine PK.out.mono ?_
          rintro e w1 ⟨rfl, hw⟩
          have hw' := hw.symm
          clear hw
          subst hw'
          go_wp2_with (at_builtin; refine wpList_append_own _ rfl _ _ 22 rfl w.heap.size 81 i0 (.agg #[.int .i64 0, .int .i64 0]) 2 16 Tryz.underlying22 hi hz0 hz1 hz2 rfl (by decide) _ _ _ rfl (O.out.alloc _) ⟨wr.heap.size, 0, none⟩ 1 1 [.int .i64 pz, .int .i64 ((q : Int) + 1)] rfl rfl (World.news_of_block (heap_alloc_new _ _)) ?k2 ?k3 ?k4 ?k5 ?_)
          case k2 => first | exact ⟨rfl, rfl⟩ | (intro t ht; simp at ht; rcases ht with rfl | rfl <;> rfl)
          case k3 => unfold maxLen; omega
          case k4 => omega
          case k5 => simp; omega
          intro v5 w5 ho5 hg5 _
          have G5 : Hid (Gr w w5) := Below.grown (G.out.alloc _) hg5 (Nat.le_trans G.out.size (by simp)) (own_low O.out)
          have O5 : Hid (w5.ownsRow w.heap.size 81 2 v5 (q + 1) (kcells (edTo zs (q + 1)))) := by
            show World.ownsRow _ _ _ _ _ _ _
            rw [EE.out, kcells_snoc]; exact ho5
          obtain ⟨za, zm, zk, rfl⟩ := owns_slice ho5
          clear ho5 hg5 O G cz
          go_wp2_with fail
          refine ⟨⟨q + 1, hlt, by simp, G5, O5⟩, ?_⟩
          simp [intOf]; omega
        · have hev' : (z.tmod 2 == 0) = false := by simpa using hev
          have EE : Hid (edTo zs (q + 1) = edTo zs q ++ [(((q + 1 : Nat) : Int), pz)]) := by
            show _ = _
            rw [SUC.out, ED.out, if_neg hev]
          clear ED SUC
          rw [cast1] at PK
          go_wp2_with fail
          refine PK.out.mono ?_
          rintro e w1 ⟨rfl, hw⟩
          have hw' := hw.symm
          clear hw
          subst hw'
          go_wp2_with (at_builtin; refine wpList_append_own _ rfl _ _ 22 rfl w.heap.size 81 i0 (.agg #[.int .i64 0, .int .i64 0]) 2 16 Tryz.underlying22 hi hz0 hz1 hz2 rfl (by decide) _ _ _ rfl (O.out.alloc _) ⟨wr.heap.size, 0, none⟩ 1 1 [.int .i64 ((q : Int) + 1), .int .i64 pz] rfl rfl (World.news_of_block (heap_alloc_new _ _)) ?k2 ?k3 ?k4 ?k5 ?_)
          case k2 => first | exact ⟨rfl, rfl⟩ | (intro t ht; simp at ht; rcases ht with rfl | rfl <;> rfl)
          case k3 => unfold maxLen; omega
          case k4 => omega
          case k5 => simp; omega
          intro v5 w5 ho5 hg5 _
          have G5 : Hid (Gr w w5) := Below.grown (G.out.alloc _) hg5 (Nat.le_trans G.out.size (by simp)) (own_low O.out)
          have O5 : Hid (w5.ownsRow w.heap.size 81 2 v5 (q + 1) (kcells (edTo zs (q + 1)))) := by
            show World.ownsRow _ _ _ _ _ _ _
            rw [EE.out, kcells_snoc]; exact ho5
          obtain ⟨za, zm, zk, rfl⟩ := owns_slice ho5
          clear ho5 hg5 O G cz
          go_wp2_with fail
          refine ⟨⟨q + 1, hlt, by simp, G5, O5⟩, ?_⟩
          simp [intOf]; omega
      · have hqn : nbF zs - 1 = q := by omega
        have hqq : q + 1 = nbF zs := by omega
        have OE : Hid (wr.ownsRow w.heap.size 81 2 (.slice va vm vk) (nbF zs - 1) (kcells (edTo zs (nbF zs - 1)))) := by
          show World.ownsRow _ _ _ _ _ _ _
          rw [hqn]; exact O.out
        clear O
        go_wp2_with fail
        exact bodyPost_ret (v := .tuple #[.int .i64 ((nbF zs : Nat) : Int), .slice va vm vk]) (by simp [results, Tryz.results15, go_sem]) rfl ⟨_, rfl, OE.out, G.out⟩
end Go.Proofs.YtecnfgikbmcgoaaGreat
