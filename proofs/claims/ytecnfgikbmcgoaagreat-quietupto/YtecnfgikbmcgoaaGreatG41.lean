import Derived.Test.YtecnfgikbmcgoaaGreatG38
import Derived.Test.YtecnfgikbmcgoaaGreatG40
import Derived.Test.YtecnfgikbmcgoaaGreatG35
import Derived.Test.YtecnfgikbmcgoaaGreatG11
namespace Go.Proofs.YtecnfgikbmcgoaaGreat
open Go.RowKit

theorem keepValue_gr (n : Int) (w : World) (h1 : -9223372036854775808 ≤ n) (h2 : n ≤ 9223372036854775807) :
    Calls Tryz.prog 52 #[.int .i64 n] w fun e w' => e = .returned (.agg #[.int .i64 (valK n), .int .i64 (valN n), .string (valS n)]) ∧ Gr w w' :=
  (keepValue_any n w h1 h2).mono fun e w' ⟨he, hw⟩ => ⟨he, by rw [hw]; exact valW_gr n w⟩
theorem quarter (n : Int) (h1 : -9223372036854775808 ≤ n) (h2 : n ≤ 9223372036854775807) : wrap64 (n.tdiv 4) = n.tdiv 4 :=
  (IntWalk.i64_left _).symm.trans (wrap_i64_tdiv n 4 h1 h2 (by omega))
theorem quarter_bd (n : Int) (h1 : -9223372036854775808 ≤ n) (h2 : n ≤ 9223372036854775807) : -9223372036854775808 ≤ n.tdiv 4 ∧ n.tdiv 4 ≤ 9223372036854775807 := by
  rcases Int.le_total 0 n with h | h
  · rw [Int.tdiv_eq_ediv_of_nonneg h]; omega
  · have e : n.tdiv 4 = -((-n) / 4) := by rw [← Int.tdiv_eq_ediv_of_nonneg (by omega), Int.neg_tdiv]; omega
    rw [e]; omega

set_option maxRecDepth 100000 in
set_option maxHeartbeats 2000000 in
theorem event_any (zs : List Int) (ad : Option Addr) (cap : Nat) (w : World) (hl : zs.length ≤ maxLen) (h : InAt w ad zs) (hwf : IntWf zs) :
    Calls Tryz.prog 24 #[.slice ad zs.length cap] w fun e w' => ∃ v, e = .returned v ∧ Gr w w' ∧ w'.ownsRow w.heap.size 74 4 v (evF zs).length (acells (evF zs)) := by
  unfold maxLen at hl
  obtain ⟨i0, hi, hz0, hz1, hz2⟩ := info_parts Tryz.infoAttr
  have HW : Hid (IntWf zs) := hwf
  have HA : Hid (InAt w ad zs) := h
  clear hwf h
  go_enter Tryz.func24, Tryz.ntmps24
  go_wp2
  go_loopw [3, 4] (fun v i wr => ∃ k : Nat, k ≤ 3 ∧ i = .int .i64 k ∧ Gr w wr ∧ Hid (wr.ownsRow w.heap.size 74 4 v (ke zs k).length (acells (ke zs k)))) (fun _ i _ => 3 - (intOf i).toNat)
  case atStart => exact ⟨0, by omega, rfl, Gr.refl _, World.ownsRow_nil _ _ _ _⟩
  case round =>
    obtain ⟨k, hk3, rfl, g, HO⟩ := hrel
    by_cases hlt : k < 3
    · by_cases hzl : k < zs.length
      · have HN : Hid (nOf zs k = iat zs k) := by
          show _ = _
          rw [nOf, if_pos hzl]
        rcases HA.out with hne | ⟨b, off, rfl, hb, hat⟩
        · subst hne; simp at hzl
        have c1 := (hat.gr g hb) k hzl
        clear hat
        cases hp : (pickF (iat zs k) 4 == 3)
        · have hp' : (pickF (iat zs k) 4 != 3) = true := by simp [bne, hp]
          have HK : Hid (ke zs (k + 1) = ke zs k ++ [atrF zs k]) := by
            show _ = _
            rw [ke, if_neg (by rw [HN.out]; simpa using hp)]
          clear hp
          go_wp2_with fail
          refine (pick_any _ _ _ (iat_bd HW.out hzl).1 (iat_bd HW.out hzl).2 (by omega) (by omega)).mono ?_
          rintro e w1 ⟨rfl, rfl⟩
          go_wp2_with fail
          refine (keepName_any _ _ (by omega) (by omega)).mono ?_
          rintro e w1 ⟨rfl, rfl⟩
          go_wp2_with fail
          rw [quarter _ (iat_bd HW.out hzl).1 (iat_bd HW.out hzl).2]
          refine (keepValue_gr _ _ (quarter_bd _ (iat_bd HW.out hzl).1 (iat_bd HW.out hzl).2).1 (quarter_bd _ (iat_bd HW.out hzl).1 (iat_bd HW.out hzl).2).2).mono ?_
          rintro e w2 ⟨rfl, hb2⟩
          have g2 : Gr w w2 := Gr.call g hb2
          have HO2 : Hid (w2.ownsRow w.heap.size 74 4 u3 (ke zs k).length (acells (ke zs k))) := ownsGr HO.out hb2
          have hsz := g2.size
          have hkl := ke_len zs k
          try clear c1
          go_wp2_with (at_builtin; refine wpList_append_own _ rfl _ _ 65 rfl w.heap.size 74 i0 _ 4 48 Tryz.underlying65 hi hz0 hz1 hz2 rfl (by decide) _ _ _ rfl (HO2.out.alloc _) ⟨w2.heap.size, 0, none⟩ 1 1 [.string (nameF (k : Int)), .int .i64 (valK ((iat zs k).tdiv 4)), .int .i64 (valN ((iat zs k).tdiv 4)), .string (valS ((iat zs k).tdiv 4))] rfl rfl (World.news_of_block (heap_alloc_new _ _)) ?c2 ?c3 ?c4 ?c5 ?_)
          case c2 => intro u hu; simp at hu; rcases hu with rfl | rfl | rfl | rfl <;> rfl
          case c3 => unfold maxLen; omega
          case c4 => omega
          case c5 => simp; omega
          intro v' w4 hown' hgrow _
          have g4 : Gr w w4 := owns_grown rfl HO2.out g2 hgrow
          have HO4 : Hid (w4.ownsRow w.heap.size 74 4 v' (ke zs (k + 1)).length (acells (ke zs (k + 1)))) := by
            show World.ownsRow _ _ _ _ _ _ _
            rw [HK.out, acells_snoc, List.length_append]
            simp only [atrF, HN.out]; exact hown'
          clear hown' hgrow
          go_wp2
          go_roundw
          case rel => exact ⟨k + 1, by omega, by go_num, g4, HO4⟩
          case measure => simp [intOf]; omega
        · have hp' : (pickF (iat zs k) 4 != 3) = false := by simp [bne, hp]
          have HK : Hid (ke zs (k + 1) = ke zs k) := by
            show _ = _
            rw [ke, if_pos (by rw [HN.out]; simpa using hp)]
          clear hp
          go_wp2_with fail
          refine (pick_any _ _ _ (iat_bd HW.out hzl).1 (iat_bd HW.out hzl).2 (by omega) (by omega)).mono ?_
          rintro e w1 ⟨rfl, rfl⟩
          go_wp2_with fail
          go_roundw
          case rel => exact ⟨k + 1, by omega, by go_num, g, by rw [HK.out]; exact HO.out⟩
          case measure => simp [intOf]; omega
      · have HN : Hid (nOf zs k = (k : Int)) := by
          show _ = _
          rw [nOf, if_neg hzl]
        cases hp : (pickF (k : Int) 4 == 3)
        · have hp' : (pickF (k : Int) 4 != 3) = true := by simp [bne, hp]
          have HK : Hid (ke zs (k + 1) = ke zs k ++ [atrF zs k]) := by
            show _ = _
            rw [ke, if_neg (by rw [HN.out]; simpa using hp)]
          clear hp
          go_wp2_with fail
          refine (pick_any _ _ _ (by omega) (by omega) (by omega) (by omega)).mono ?_
          rintro e w1 ⟨rfl, rfl⟩
          go_wp2_with fail
          refine (keepName_any _ _ (by omega) (by omega)).mono ?_
          rintro e w1 ⟨rfl, rfl⟩
          go_wp2_with fail
          rw [← Int.tdiv_eq_ediv_of_nonneg (a := (k : Int)) (b := 4) (by omega)]
          refine (keepValue_gr _ _ (quarter_bd _ (by omega) (by omega)).1 (quarter_bd _ (by omega) (by omega)).2).mono ?_
          rintro e w2 ⟨rfl, hb2⟩
          have g2 : Gr w w2 := Gr.call g hb2
          have HO2 : Hid (w2.ownsRow w.heap.size 74 4 u3 (ke zs k).length (acells (ke zs k))) := ownsGr HO.out hb2
          have hsz := g2.size
          have hkl := ke_len zs k
          try clear c1
          go_wp2_with (at_builtin; refine wpList_append_own _ rfl _ _ 65 rfl w.heap.size 74 i0 _ 4 48 Tryz.underlying65 hi hz0 hz1 hz2 rfl (by decide) _ _ _ rfl (HO2.out.alloc _) ⟨w2.heap.size, 0, none⟩ 1 1 [.string (nameF (k : Int)), .int .i64 (valK ((k : Int).tdiv 4)), .int .i64 (valN ((k : Int).tdiv 4)), .string (valS ((k : Int).tdiv 4))] rfl rfl (World.news_of_block (heap_alloc_new _ _)) ?c2 ?c3 ?c4 ?c5 ?_)
          case c2 => intro u hu; simp at hu; rcases hu with rfl | rfl | rfl | rfl <;> rfl
          case c3 => unfold maxLen; omega
          case c4 => omega
          case c5 => simp; omega
          intro v' w4 hown' hgrow _
          have g4 : Gr w w4 := owns_grown rfl HO2.out g2 hgrow
          have HO4 : Hid (w4.ownsRow w.heap.size 74 4 v' (ke zs (k + 1)).length (acells (ke zs (k + 1)))) := by
            show World.ownsRow _ _ _ _ _ _ _
            rw [HK.out, acells_snoc, List.length_append]
            simp only [atrF, HN.out]; exact hown'
          clear hown' hgrow
          go_wp2
          go_roundw
          case rel => exact ⟨k + 1, by omega, by go_num, g4, HO4⟩
          case measure => simp [intOf]; omega
        · have hp' : (pickF (k : Int) 4 != 3) = false := by simp [bne, hp]
          have HK : Hid (ke zs (k + 1) = ke zs k) := by
            show _ = _
            rw [ke, if_pos (by rw [HN.out]; simpa using hp)]
          clear hp
          go_wp2_with fail
          refine (pick_any _ _ _ (by omega) (by omega) (by omega) (by omega)).mono ?_
          rintro e w1 ⟨rfl, rfl⟩
          go_wp2_with fail
          go_roundw
          case rel => exact ⟨k + 1, by omega, by go_num, g, by rw [HK.out]; exact HO.out⟩
          case measure => simp [intOf]; omega
    · have hk : k = 3 := by omega
      subst hk
      obtain ⟨ad', cap', rfl⟩ := owns_form HO.out
      by_cases hne : (ke zs 3).length = 0
      · have HF : Hid (evF zs = [dAtr]) := by
          show _ = _
          rw [evF, if_pos (List.length_eq_zero_iff.1 hne)]
        have hne' : (((ke zs 3).length : Int) == 0) = true := by simp; exact List.length_eq_zero_iff.1 hne
        rw [hne] at *
        go_wp2_with fail
        refine (keepValue_gr 0 _ (by omega) (by omega)).mono ?_
        rintro e w2 ⟨rfl, hb2⟩
        go_wp2_with fail
        go_ret
        refine ⟨_, rfl, (Gr.call g hb2).alloc _, ?_⟩
        rw [HF.out]
        exact World.ownsRow_lit w2 #[.string ⟨#[100]⟩, .int .i64 (valK 0), .int .i64 (valN 0), .string (valS 0)] 1 (Gr.call g hb2).size (by unfold maxLen; omega) rfl
      · have HF : Hid (evF zs = ke zs 3) := by
          show _ = _
          rw [evF, if_neg (fun h => hne (by rw [h]; rfl))]
        have hne' : (((ke zs 3).length : Int) == 0) = false := by simp; exact fun h => hne (by rw [h]; rfl)
        go_wp2
        go_ret
        refine ⟨_, rfl, g, ?_⟩
        rw [HF.out]; exact HO.out

theorem mRes_one (l : List Atr) (f : List Wnt) (he : evOk l = true) (hf : filterOk f = true) : mErr l [f] = 0 ∧ mRes l [f] = if mat l f then [0] else [] := by
  have h1 : mErr l [f] = 0 := by simp [mErr, he, hf]
  refine ⟨h1, ?_⟩
  cases hm : mat l f <;> simp [mRes, h1, hits, List.range_succ, fat, hm]

set_option maxHeartbeats 2000000 in
theorem one_any (l : List Atr) (f : List Wnt) (ad ad' : Option Addr) (cap cap' : Nat) (m : Int) (w : World) (hl : l.length ≤ maxLen) (h : EvAt w ad l) (hwf : ∀ x ∈ l, Atr.Wf x)
    (hl' : f.length ≤ maxLen) (h' : FiAt w ad' f) (hwf' : ∀ x ∈ f, Wnt.Wf x) (he : evOk l = true) (hf : filterOk f = true) (hM : Ml m w) :
    Calls Tryz.prog 26 #[.slice ad l.length cap, .slice ad' f.length cap'] w fun e w' => e = .returned (.bool (mat l f)) ∧ Gr w w' := by
  have HE : Hid (EvAt w ad l) := h
  have HF : Hid (FiAt w ad' f) := h'
  have HW : Hid (∀ x ∈ l, Atr.Wf x) := hwf
  have HW' : Hid (∀ x ∈ f, Wnt.Wf x) := hwf'
  have HL : Hid (l.length ≤ maxLen) := hl
  have HL' : Hid (f.length ≤ maxLen) := hl'
  have HR : Hid (mErr l [f] = 0 ∧ mRes l [f] = if mat l f then [0] else []) := mRes_one l f he hf
  clear h h' hwf hwf' hl hl' he hf
  go_enter Tryz.func26, Tryz.ntmps26
  go_wp2_with fail
  refine (Match_any l [f] ad cap w.heap.size 0 1 m _ HL.out (HE.out.gr ((Gr.refl w).alloc _)) HW.out (by simp) (by simp) ?_ ?_ ?_ (hM.alloc _)).mono ?_
  · intro i hi
    have e : i = 0 := by simpa using hi
    subst e
    exact ⟨ad', cap', by simp [go_sem, fat], HF.out.gr ((Gr.refl w).alloc _)⟩
  · intro x hx; simp at hx; subst hx; exact HL'.out
  · intro x hx; simp at hx; subst hx; exact HW'.out
  rw [HR.out.1, HR.out.2]
  rintro e w1 ⟨v, rfl, hb1, hown⟩
  have g1 : Gr w w1 := Gr.call ((Gr.refl w).alloc _) hb1
  cases hm : mat l f
  · rw [hm] at hown
    obtain ⟨ad2, cap2, rfl⟩ := owns_form hown
    clear hown
    go_wp2_with fail
    go_ret
    exact ⟨ret_bool hm.symm, g1⟩
  · rw [hm] at hown
    rcases hown.2 with ⟨_, hn⟩ | ⟨b2, cap2, cur, rfl, hb2, _⟩
    · simp at hn
    have hc := World.ownsRow.cellAt hown 0 (by simp)
    simp [ints] at hc
    clear hown
    go_wp2_with fail
    go_ret
    exact ⟨ret_bool hm.symm, g1⟩
end Go.Proofs.YtecnfgikbmcgoaaGreat
namespace Go.Proofs.YtecnfgikbmcgoaaGreat
open Go.RowKit

def moreW : Wnt := ⟨⟨#[97]⟩, 6, 1, 3, ⟨#[]⟩⟩
def threeA : Atr := ⟨⟨#[97]⟩, 1, 3, ⟨#[]⟩⟩
theorem moreW_ok : wOk moreW = true := by
  simp only [wOk, wantOk, moreW, name97, Bool.true_and]
  rw [wayOk_mid _ _ _ _ (by omega) (by omega)]; simp [valOk]
theorem live_fi : filterOk [anyW] = true ∧ filterOk [moreW] = true := by simp [filterOk, anyW_ok, moreW_ok]
theorem live_ev : evOk [threeA] = true := one_ok threeA name97 (by simp [threeA, valOk])
theorem live_mat : mat [threeA] [anyW] = true ∧ mat [threeA] [moreW] = false := by simp [mat, ans, threeA, anyW, moreW, lets]
theorem live_cov : cov [anyW] [moreW] = true ∧ cov [moreW] [anyW] = false := by
  have h1 := anyW_ok
  have h2 := moreW_ok
  simp only [wOk, anyW, moreW] at h1 h2
  refine ⟨?_, ?_⟩
  · rw [cov, live_fi.1, live_fi.2]; simp [impW, impB, anyW, moreW, h1, h2, withinB]
  · rw [cov, live_fi.1, live_fi.2]; simp [impW, impB, anyW, moreW, h1, h2, withinB, nothingB]
theorem live_wf : (∀ x ∈ [anyW], Wnt.Wf x) ∧ (∀ x ∈ [moreW], Wnt.Wf x) ∧ (∀ x ∈ [threeA], Atr.Wf x) := by
  refine ⟨?_, ?_, ?_⟩
  all_goals
    intro x hx
    simp at hx; subst hx
    constructor <;> decide

def liveW (w : World) : World := (((w.alloc (.cells #[.string ⟨#[97]⟩, .int .i64 1, .int .i64 0, .int .i64 0, .string ⟨#[]⟩] 76)).alloc (.cells #[.string ⟨#[97]⟩, .int .i64 6, .int .i64 1, .int .i64 3, .string ⟨#[]⟩] 76)).alloc (.cells #[.string ⟨#[97]⟩, .int .i64 1, .int .i64 3, .string ⟨#[]⟩] 74))
theorem live_gr (w : World) : Gr w (liveW w) := (((Gr.refl w).alloc _).alloc _).alloc _
theorem live_any (w : World) : FiAt (liveW w) (some ⟨w.heap.size, 0, none⟩) [anyW] := by
  refine Or.inr ⟨w.heap.size, 0, rfl, by simp [liveW]; omega, fun i hi => ?_⟩
  have e : i = 0 := by simpa using hi
  subst e
  simp [liveW, go_sem, wat, anyW]
theorem live_more (w : World) : FiAt (liveW w) (some ⟨w.heap.size + 1, 0, none⟩) [moreW] := by
  refine Or.inr ⟨w.heap.size + 1, 0, rfl, by simp [liveW], fun i hi => ?_⟩
  have e : i = 0 := by simpa using hi
  subst e
  simp [liveW, go_sem, wat, moreW]
theorem live_three (w : World) : EvAt (liveW w) (some ⟨w.heap.size + 1 + 1, 0, none⟩) [threeA] := by
  refine Or.inr ⟨w.heap.size + 1 + 1, 0, rfl, by simp [liveW], fun i hi => ?_⟩
  have e : i = 0 := by simpa using hi
  subst e
  simp [liveW, go_sem, aat, threeA]
theorem one_len {α : Type} (x : α) : [x].length ≤ maxLen := by simp [maxLen]
theorem Covers_ad (f g : List Wnt) (ad ad' : Option Addr) (cap cap' : Nat) (m : Int) (w : World) (hl : f.length ≤ maxLen) (h : FiAt w ad f) (hwf : ∀ x ∈ f, Wnt.Wf x) (hne : f ≠ [])
    (hl' : g.length ≤ maxLen) (h' : FiAt w ad' g) (hwf' : ∀ x ∈ g, Wnt.Wf x) (hne' : g ≠ []) (hM : Ml m w) :
    Calls Tryz.prog 44 #[.slice ad f.length cap, .slice ad' g.length cap'] w fun e w' => e = .returned (.bool (cov f g)) ∧ Gr w w' := by
  rcases h with h | ⟨b, off, rfl, hb, hat⟩
  · exact absurd h hne
  rcases h' with h' | ⟨b', off', rfl, hb', hat'⟩
  · exact absurd h' hne'
  exact Covers_any f g b off cap b' off' cap' m w hl hb hat hwf hl' hb' hat' hwf' hM

set_option maxHeartbeats 2000000 in
theorem lives_any (m : Int) (w : World) (hM : Ml m w) : Calls Tryz.prog 20 #[] w fun e w' => e = .returned (.bool true) ∧ Gr w w' := by
  have HW : Hid ((∀ x ∈ [anyW], Wnt.Wf x) ∧ (∀ x ∈ [moreW], Wnt.Wf x) ∧ (∀ x ∈ [threeA], Atr.Wf x)) := live_wf
  have HF : Hid (filterOk [anyW] = true ∧ filterOk [moreW] = true) := live_fi
  have HE : Hid (evOk [threeA] = true) := live_ev
  have HM : Hid (mat [threeA] [anyW] = true ∧ mat [threeA] [moreW] = false) := live_mat
  have HC : Hid (cov [anyW] [moreW] = true ∧ cov [moreW] [anyW] = false) := live_cov
  go_enter Tryz.func20, Tryz.ntmps20
  go_wp2_with fail
  have hMl : Ml m (liveW w) := (live_gr w).ml hM
  refine (one_any [threeA] [anyW] _ _ 1 1 m (liveW w) (one_len _) (live_three w) HW.out.2.2 (one_len _) (live_any w) HW.out.1 HE.out HF.out.1 hMl).mono ?_
  rw [HM.out.1]
  rintro e w1 ⟨rfl, hb1⟩
  have g1 : Gr (liveW w) w1 := hb1
  clear hb1
  go_wp2_with fail
  refine (one_any [threeA] [moreW] _ _ 1 1 m w1 (one_len _) ((live_three w).gr g1) HW.out.2.2 (one_len _) ((live_more w).gr g1) HW.out.2.1 HE.out HF.out.2 (g1.ml hMl)).mono ?_
  rw [HM.out.2]
  rintro e w2 ⟨rfl, hb2⟩
  have g2 : Gr (liveW w) w2 := Gr.call g1 hb2
  clear hb2
  go_wp2_with fail
  refine (Covers_ad [anyW] [moreW] _ _ 1 1 m w2 (one_len _) ((live_any w).gr g2) HW.out.1 (by simp) (one_len _) ((live_more w).gr g2) HW.out.2.1 (by simp) (g2.ml hMl)).mono ?_
  rw [HC.out.1]
  rintro e w3 ⟨rfl, hb3⟩
  have g3 : Gr (liveW w) w3 := Gr.call g2 hb3
  clear hb3
  go_wp2_with fail
  refine (Covers_ad [moreW] [anyW] _ _ 1 1 m w3 (one_len _) ((live_more w).gr g3) HW.out.2.1 (by simp) (one_len _) ((live_any w).gr g3) HW.out.1 (by simp) (g3.ml hMl)).mono ?_
  rw [HC.out.2]
  rintro e w4 ⟨rfl, hb4⟩
  have g4 : Gr (liveW w) w4 := Gr.call g3 hb4
  clear hb4
  go_wp2_with fail
  go_ret
  exact ⟨rfl, Gr.call (live_gr w) g4⟩
end Go.Proofs.YtecnfgikbmcgoaaGreat
