import Derived.Test.YtecnfgikbmcgoaaDoorWO
import Derived.Test.YtecnfgikbmcgoaaDoorEvents
import Derived.Test.YtecnfgikbmcgoaaDoorOwn
namespace Go.Proofs.YtecnfgikbmcgoaaDoor
open Go.RowKit

theorem keepValue_gr (n : Int) (w : World) (h1 : -9223372036854775808 ≤ n) (h2 : n ≤ 9223372036854775807) :
    Calls Tryd.prog 48 #[.int .i64 n] w fun e w' => e = .returned (.agg #[.int .i64 (valK n), .int .i64 (valN n), .string (valS n)]) ∧ Gr w w' :=
  (keepValue_any n w h1 h2).mono fun e w' ⟨he, hw⟩ => ⟨he, by rw [hw]; exact valW_gr n w⟩
theorem quarter (n : Int) (h1 : -9223372036854775808 ≤ n) (h2 : n ≤ 9223372036854775807) : wrap64 (n.tdiv 4) = n.tdiv 4 :=
  (IntWalk.i64_left _).symm.trans (wrap_i64_tdiv n 4 h1 h2 (by omega))
theorem quarter_bd (n : Int) (h1 : -9223372036854775808 ≤ n) (h2 : n ≤ 9223372036854775807) : -9223372036854775808 ≤ n.tdiv 4 ∧ n.tdiv 4 ≤ 9223372036854775807 := by
  rcases Int.le_total 0 n with h | h
  · rw [Int.tdiv_eq_ediv_of_nonneg h]; omega
  · have e : n.tdiv 4 = -((-n) / 4) := by rw [← Int.tdiv_eq_ediv_of_nonneg (by omega), Int.neg_tdiv]; omega
    rw [e]; omega

set_option maxRecDepth 100000 in
set_option maxHeartbeats 2000000 in
theorem evKeep_any (zs : List Int) (ad : Option Addr) (cap : Nat) (w : World) (hl : zs.length ≤ maxLen) (h : InAt w ad zs) (hwf : IntWf zs) :
    Calls Tryd.prog 23 #[.slice ad zs.length cap] w fun e w' => ∃ v, e = .returned v ∧ Gr w w' ∧ w'.ownsRow w.heap.size 37 4 v (evF zs).length (acells (evF zs)) := by
  unfold maxLen at hl
  obtain ⟨i0, hi, hz0, hz1, hz2⟩ := info_parts Tryd.infoAttr
  have HW : Hid (IntWf zs) := hwf
  have HA : Hid (InAt w ad zs) := h
  clear hwf h
  go_enter Tryd.func23, Tryd.ntmps23
  go_wp2
  go_loopw [3, 4] (fun v i wr => ∃ k : Nat, k ≤ 3 ∧ i = .int .i64 k ∧ Gr w wr ∧ Hid (wr.ownsRow w.heap.size 37 4 v (ke zs k).length (acells (ke zs k)))) (fun _ i _ => 3 - (intOf i).toNat)
  case atStart => exact ⟨0, by omega, rfl, Gr.refl _, World.ownsRow_nil _ _ _ _⟩
  case round =>
    obtain ⟨k, hk3, rfl, g, HO⟩ := hrel
    by_cases hlt : k < 3
    · by_cases hzl : k < zs.length
      · have HN : Hid (nOf zs k = iat zs k) := by
          show _ = _
          rw [nOf, if_pos hzl]
        rcases HA.out with hne | ⟨b, off, rfl, hb, hat⟩
        · subst hne; simp at hzl
        have c1 := (hat.gr g hb) k hzl
        clear hat
        cases hp : (pickF (iat zs k) 4 == 3)
        · have hp' : (pickF (iat zs k) 4 != 3) = true := by simp [bne, hp]
          have HK : Hid (ke zs (k + 1) = ke zs k ++ [atrF zs k]) := by
            show _ = _
            rw [ke, if_neg (by rw [HN.out]; simpa using hp)]
          clear hp
          go_wp2_with fail
          refine (pick_any _ _ _ (iat_bd HW.out hzl).1 (iat_bd HW.out hzl).2 (by omega) (by omega)).mono ?_
          rintro e w1 ⟨rfl, rfl⟩
          go_wp2_with fail
          refine (keepName_any _ _ (by omega) (by omega)).mono ?_
          rintro e w1 ⟨rfl, rfl⟩
          go_wp2_with fail
          rw [quarter _ (iat_bd HW.out hzl).1 (iat_bd HW.out hzl).2]
          refine (keepValue_gr _ _ (quarter_bd _ (iat_bd HW.out hzl).1 (iat_bd HW.out hzl).2).1 (quarter_bd _ (iat_bd HW.out hzl).1 (iat_bd HW.out hzl).2).2).mono ?_
          rintro e w2 ⟨rfl, hb2⟩
          have g2 : Gr w w2 := Gr.call g hb2
          have HO2 : Hid (w2.ownsRow w.heap.size 37 4 u3 (ke zs k).length (acells (ke zs k))) := ownsGr HO.out hb2
          have hsz := g2.size
          have hkl := ke_len zs k
          try clear c1
          go_wp2_with (at_builtin; refine wpList_append_own _ rfl _ _ 39 rfl w.heap.size 37 i0 _ 4 48 Tryd.underlying39 hi hz0 hz1 hz2 rfl (by decide) _ _ _ rfl (HO2.out.alloc _) ⟨w2.heap.size, 0, none⟩ 1 1 [.string (nameF (k : Int)), .int .i64 (valK ((iat zs k).tdiv 4)), .int .i64 (valN ((iat zs k).tdiv 4)), .string (valS ((iat zs k).tdiv 4))] rfl rfl (World.news_of_block (heap_alloc_new _ _)) ?c2 ?c3 ?c4 ?c5 ?_)
          case c2 => intro u hu; simp at hu; rcases hu with rfl | rfl | rfl | rfl <;> rfl
          case c3 => unfold maxLen; omega
          case c4 => omega
          case c5 => simp; omega
          intro v' w4 hown' hgrow _
          have g4 : Gr w w4 := owns_grown rfl HO2.out g2 hgrow
          have HO4 : Hid (w4.ownsRow w.heap.size 37 4 v' (ke zs (k + 1)).length (acells (ke zs (k + 1)))) := by
            show World.ownsRow _ _ _ _ _ _ _
            rw [HK.out, acells_snoc, List.length_append]
            simp only [atrF, HN.out]; exact hown'
          clear hown' hgrow
          go_wp2
          go_roundw
          case rel => exact ⟨k + 1, by omega, by go_num, g4, HO4⟩
          case measure => simp [intOf]; omega
        · have hp' : (pickF (iat zs k) 4 != 3) = false := by simp [bne, hp]
          have HK : Hid (ke zs (k + 1) = ke zs k) := by
            show _ = _
            rw [ke, if_pos (by rw [HN.out]; simpa using hp)]
          clear hp
          go_wp2_with fail
          refine (pick_any _ _ _ (iat_bd HW.out hzl).1 (iat_bd HW.out hzl).2 (by omega) (by omega)).mono ?_
          rintro e w1 ⟨rfl, rfl⟩
          go_wp2_with fail
          go_roundw
          case rel => exact ⟨k + 1, by omega, by go_num, g, by rw [HK.out]; exact HO.out⟩
          case measure => simp [intOf]; omega
      · have HN : Hid (nOf zs k = (k : Int)) := by
          show _ = _
          rw [nOf, if_neg hzl]
        cases hp : (pickF (k : Int) 4 == 3)
        · have hp' : (pickF (k : Int) 4 != 3) = true := by simp [bne, hp]
          have HK : Hid (ke zs (k + 1) = ke zs k ++ [atrF zs k]) := by
            show _ = _
            rw [ke, if_neg (by rw [HN.out]; simpa using hp)]
          clear hp
          go_wp2_with fail
          refine (pick_any _ _ _ (by omega) (by omega) (by omega) (by omega)).mono ?_
          rintro e w1 ⟨rfl, rfl⟩
          go_wp2_with fail
          refine (keepName_any _ _ (by omega) (by omega)).mono ?_
          rintro e w1 ⟨rfl, rfl⟩
          go_wp2_with fail
          rw [← Int.tdiv_eq_ediv_of_nonneg (a := (k : Int)) (b := 4) (by omega)]
          refine (keepValue_gr _ _ (quarter_bd _ (by omega) (by omega)).1 (quarter_bd _ (by omega) (by omega)).2).mono ?_
          rintro e w2 ⟨rfl, hb2⟩
          have g2 : Gr w w2 := Gr.call g hb2
          have HO2 : Hid (w2.ownsRow w.heap.size 37 4 u3 (ke zs k).length (acells (ke zs k))) := ownsGr HO.out hb2
          have hsz := g2.size
          have hkl := ke_len zs k
          try clear c1
          go_wp2_with (at_builtin; refine wpList_append_own _ rfl _ _ 39 rfl w.heap.size 37 i0 _ 4 48 Tryd.underlying39 hi hz0 hz1 hz2 rfl (by decide) _ _ _ rfl (HO2.out.alloc _) ⟨w2.heap.size, 0, none⟩ 1 1 [.string (nameF (k : Int)), .int .i64 (valK ((k : Int).tdiv 4)), .int .i64 (valN ((k : Int).tdiv 4)), .string (valS ((k : Int).tdiv 4))] rfl rfl (World.news_of_block (heap_alloc_new _ _)) ?c2 ?c3 ?c4 ?c5 ?_)
          case c2 => intro u hu; simp at hu; rcases hu with rfl | rfl | rfl | rfl <;> rfl
          case c3 => unfold maxLen; omega
          case c4 => omega
          case c5 => simp; omega
          intro v' w4 hown' hgrow _
          have g4 : Gr w w4 := owns_grown rfl HO2.out g2 hgrow
          have HO4 : Hid (w4.ownsRow w.heap.size 37 4 v' (ke zs (k + 1)).length (acells (ke zs (k + 1)))) := by
            show World.ownsRow _ _ _ _ _ _ _
            rw [HK.out, acells_snoc, List.length_append]
            simp only [atrF, HN.out]; exact hown'
          clear hown' hgrow
          go_wp2
          go_roundw
          case rel => exact ⟨k + 1, by omega, by go_num, g4, HO4⟩
          case measure => simp [intOf]; omega
        · have hp' : (pickF (k : Int) 4 != 3) = false := by simp [bne, hp]
          have HK : Hid (ke zs (k + 1) = ke zs k) := by
            show _ = _
            rw [ke, if_pos (by rw [HN.out]; simpa using hp)]
          clear hp
          go_wp2_with fail
          refine (pick_any _ _ _ (by omega) (by omega) (by omega) (by omega)).mono ?_
          rintro e w1 ⟨rfl, rfl⟩
          go_wp2_with fail
          go_roundw
          case rel => exact ⟨k + 1, by omega, by go_num, g, by rw [HK.out]; exact HO.out⟩
          case measure => simp [intOf]; omega
    · have hk : k = 3 := by omega
      subst hk
      obtain ⟨ad', cap', rfl⟩ := owns_form HO.out
      by_cases hne : (ke zs 3).length = 0
      · have HF : Hid (evF zs = [dAtr]) := by
          show _ = _
          rw [evF, if_pos (List.length_eq_zero_iff.1 hne)]
        have hne' : (((ke zs 3).length : Int) == 0) = true := by simp; exact List.length_eq_zero_iff.1 hne
        rw [hne] at *
        go_wp2_with fail
        refine (keepValue_gr 0 _ (by omega) (by omega)).mono ?_
        rintro e w2 ⟨rfl, hb2⟩
        go_wp2_with fail
        go_ret
        refine ⟨_, rfl, (Gr.call g hb2).alloc _, ?_⟩
        rw [HF.out]
        exact World.ownsRow_lit w2 #[.string ⟨#[100]⟩, .int .i64 (valK 0), .int .i64 (valN 0), .string (valS 0)] 1 (Gr.call g hb2).size (by unfold maxLen; omega) rfl
      · have HF : Hid (evF zs = ke zs 3) := by
          show _ = _
          rw [evF, if_neg (fun h => hne (by rw [h]; rfl))]
        have hne' : (((ke zs 3).length : Int) == 0) = false := by simp; exact fun h => hne (by rw [h]; rfl)
        go_wp2
        go_ret
        refine ⟨_, rfl, g, ?_⟩
        rw [HF.out]; exact HO.out
end Go.Proofs.YtecnfgikbmcgoaaDoor
