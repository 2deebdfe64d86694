import Derived.Test.YtecnfgikbmcgoaaWE
import Derived.Test.YtecnfgikbmcgoaaWF
import Derived.Test.YtecnfgikbmcgoaaWG
import Derived.Test.YtecnfgikbmcgoaaImp2
namespace Go.Proofs.Ytecnfgikbmcgoaa
open Go.RowKit

set_option maxHeartbeats 4000000 in
theorem within_any (a : ByteArray) (y k n : Int) (s a' : ByteArray) (y' k' n' : Int) (s' : ByteArray) (m : Int) (w : World) (hw : wayOk y k n s = true) (hw' : wayOk y' k' n' s' = true) (hlo : minI ≤ n) (hhi : n ≤ maxI) (hM : Ml m w) :
    Calls Try.prog 41 #[.agg #[.string a, .int .i64 y, .int .i64 k, .int .i64 n, .string s], .agg #[.string a', .int .i64 y', .int .i64 k', .int .i64 n', .string s']] w
      fun e w' => e = .returned (.bool (withinB y k n s y' k' n' s')) ∧ Gr w w' := by
  have Hlo : Hid (minI ≤ n) := hlo
  have Hhi : Hid (n ≤ maxI) := hhi
  have Hw : Hid (wayOk y k n s = true) := hw
  have Hw' : Hid (wayOk y' k' n' s' = true) := hw'
  clear hw hw' hlo hhi
  by_cases hy' : (y' == 1) = true
  · go_enter Try.func41, Try.ntmps41
    go_wp2_with fail
    go_ret
    exact ⟨ret_bool (by simp only [withinB, hy', Bool.true_or, if_true]), ((Gr.refl w).alloc _).alloc _⟩
  replace hy' : (y' == 1) = false := by simpa using hy'
  by_cases hno : nothingB y n = true
  · have Hno : Hid (nothingB y n = true) := hno
    clear hno
    go_enter Try.func41, Try.ntmps41
    go_wp2_with fail
    refine (letsNothingBy_any _ _ _ _ _ _).mono ?_
    rw [Hno.out]
    rintro e w1 ⟨rfl, hb1⟩
    go_wp2_with fail
    go_ret
    exact ⟨ret_bool (by simp only [withinB, Hno.out, Bool.or_true, if_true]), Gr.call (((Gr.refl w).alloc _).alloc _) hb1⟩
  have Hno : Hid (nothingB y n = false) := by
    show _ = _
    simpa using hno
  clear hno
  have HW : Hid (withinB y k n s y' k' n' s' = if y == 1 || k != k' then false else if y' == 3 then !lets y k n s k' n' s' else if k == 1 then numbersB y n y' n' s' else if k == 2 then textsB y s y' s' else flagsB y n s y' n' s') := by
    show _ = _
    simp only [withinB, hy', Hno.out, Bool.or_self, Bool.false_eq_true, if_false]
  by_cases hyk : y = 1 ∨ k ≠ k'
  · have Hr : Hid (withinB y k n s y' k' n' s' = false) := by
      show _ = _
      rw [HW.out]; rcases hyk with h | h <;> simp [h]
    by_cases hy : (y == 1) = true
    all_goals
      try replace hy : (y == 1) = false := by simpa using hy
    · go_enter Try.func41, Try.ntmps41
      go_wp2_with fail
      refine (letsNothingBy_any _ _ _ _ _ _).mono ?_
      rw [Hno.out]
      rintro e w1 ⟨rfl, hb1⟩
      obtain ⟨hc1, hf1⟩ := bcell hb1
      go_wp2_with fail
      go_ret
      exact ⟨ret_bool (by rw [Hr.out]), Gr.call (((Gr.refl w).alloc _).alloc _) hb1⟩
    · have hk : (k != k') = true := by
        rcases hyk with h | h
        · simp [h] at hy
        · simpa using h
      clear hyk
      go_enter Try.func41, Try.ntmps41
      go_wp2_with fail
      refine (letsNothingBy_any _ _ _ _ _ _).mono ?_
      rw [Hno.out]
      rintro e w1 ⟨rfl, hb1⟩
      obtain ⟨hc1, hf1⟩ := bcell hb1
      go_wp2_with fail
      go_ret
      exact ⟨ret_bool (by rw [Hr.out]), Gr.call (((Gr.refl w).alloc _).alloc _) hb1⟩
  obtain ⟨hy1, hkk⟩ : y ≠ 1 ∧ k = k' := by omega
  clear hyk
  subst hkk
  have hy : (y == 1) = false := by simpa using hy1
  have Hv : Hid (valOk k n s = true) := way_val Hw.out hy1
  have Hy : Hid (y ≠ 1) := hy1
  have Hv' : Hid (valOk k n' s' = true) := way_val Hw'.out (by simpa using hy')
  clear hy1
  by_cases hy3 : (y' == 3) = true
  · have Hr : Hid (withinB y k n s y' k n' s' = !lets y k n s k n' s') := by
      show _ = _
      rw [HW.out]; simp [hy, hy3]
    go_enter Try.func41, Try.ntmps41
    go_wp2_with fail
    refine (letsNothingBy_any _ _ _ _ _ _).mono ?_
    rw [Hno.out]
    rintro e w1 ⟨rfl, hb1⟩
    obtain ⟨hc1, hf1⟩ := bcell hb1
    have hM1 : Ml m w1 := Gr.ml hb1 ((hM.alloc _).alloc _)
    have hz1 : w.heap.size + 1 < w1.heap.size := Gr.lt hb1 (by simp)
    go_wp2_with fail
    refine (letsBy_any _ _ _ _ _ _ _ _ m _ Hw.out Hv'.out hM1).mono ?_
    rintro e w2 ⟨rfl, hb2⟩
    go_wp2_with fail
    go_ret
    exact ⟨ret_bool (by rw [Hr.out]), Gr.call (Gr.call (((Gr.refl w).alloc _).alloc _) hb1) hb2⟩
  replace hy3 : (y' == 3) = false := by simpa using hy3
  rcases val_kind Hv.out with rfl | rfl | rfl
  · have Hr : Hid (withinB y 1 n s y' 1 n' s' = numbersB y n y' n' s') := by
      show _ = _
      rw [HW.out]; simp [hy, hy3]
    go_enter Try.func41, Try.ntmps41
    go_wp2_with fail
    refine (letsNothingBy_any _ _ _ _ _ _).mono ?_
    rw [Hno.out]
    rintro e w1 ⟨rfl, hb1⟩
    obtain ⟨hc1, hf1⟩ := bcell hb1
    have hM1 : Ml m w1 := Gr.ml hb1 ((hM.alloc _).alloc _)
    have hz1 : w.heap.size + 1 < w1.heap.size := Gr.lt hb1 (by simp)
    go_wp2_with fail
    refine (numbersWithin_any _ _ _ _ _ _ _ _ m _ (way_num Hw.out Hy.out).1 (way_num Hw.out Hy.out).2 Hlo.out Hhi.out Hno.out Hw'.out hM1).mono ?_
    rintro e w2 ⟨rfl, hb2⟩
    go_wp2_with fail
    go_ret
    exact ⟨ret_bool (by rw [Hr.out]), Gr.call (Gr.call (((Gr.refl w).alloc _).alloc _) hb1) hb2⟩
  · obtain rfl := val_text Hv.out
    obtain rfl := val_text Hv'.out
    have Hr : Hid (withinB y 2 0 s y' 2 0 s' = textsB y s y' s') := by
      show _ = _
      rw [HW.out]; simp [hy, hy3]
    go_enter Try.func41, Try.ntmps41
    go_wp2_with fail
    refine (letsNothingBy_any _ _ _ _ _ _).mono ?_
    rw [Hno.out]
    rintro e w1 ⟨rfl, hb1⟩
    obtain ⟨hc1, hf1⟩ := bcell hb1
    have hM1 : Ml m w1 := Gr.ml hb1 ((hM.alloc _).alloc _)
    have hz1 : w.heap.size + 1 < w1.heap.size := Gr.lt hb1 (by simp)
    go_wp2_with fail
    refine (textsWithin_any _ _ _ _ _ _ m _ Hw.out Hw'.out hM1).mono ?_
    rintro e w2 ⟨rfl, hb2⟩
    go_wp2_with fail
    go_ret
    exact ⟨ret_bool (by rw [Hr.out]), Gr.call (Gr.call (((Gr.refl w).alloc _).alloc _) hb1) hb2⟩
  · have Hr : Hid (withinB y 3 n s y' 3 n' s' = flagsB y n s y' n' s') := by
      show _ = _
      rw [HW.out]; simp [hy, hy3]
    go_enter Try.func41, Try.ntmps41
    go_wp2_with fail
    refine (letsNothingBy_any _ _ _ _ _ _).mono ?_
    rw [Hno.out]
    rintro e w1 ⟨rfl, hb1⟩
    obtain ⟨hc1, hf1⟩ := bcell hb1
    have hM1 : Ml m w1 := Gr.ml hb1 ((hM.alloc _).alloc _)
    have hz1 : w.heap.size + 1 < w1.heap.size := Gr.lt hb1 (by simp)
    go_wp2_with fail
    refine (flagsWithin_any _ _ _ _ _ _ _ _ m _ Hw.out Hw'.out hM1).mono ?_
    rintro e w2 ⟨rfl, hb2⟩
    go_wp2_with fail
    go_ret
    exact ⟨ret_bool (by rw [Hr.out]), Gr.call (Gr.call (((Gr.refl w).alloc _).alloc _) hb1) hb2⟩
end Go.Proofs.Ytecnfgikbmcgoaa
