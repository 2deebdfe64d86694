import Derived.Test.YtecnfgikbmcgoaaGreatG9
import Derived.Test.YtecnfgikbmcgoaaGreatG1
import Derived.Deep.RegionWith
import Derived.LoopN
import Derived.Test.YtecnfgikbmcgoaaGreatG6
namespace Go.Proofs.YtecnfgikbmcgoaaGreat
open Go.RowKit

set_option maxHeartbeats 1000000 in
theorem letsNothingBy_any (a : ByteArray) (y k n : Int) (s : ByteArray) (w : World) :
    Calls Tryz.prog 156 #[.agg #[.string a, .int .i64 y, .int .i64 k, .int .i64 n, .string s]] w fun e w' => e = .returned (.bool (nothingB y n)) ∧ Below w.heap.size w w' := by
  go_enter Tryz.func156, Tryz.ntmps156
  go_wp2
  all_goals
    go_ret
    refine ⟨ret_bool ?_, (Below.refl _ _).alloc (Nat.le_refl _) _⟩
    go_light
    first | (simp_all [nothingB, minI, maxI]; done) | go_show

set_option maxHeartbeats 1000000 in
theorem number_any (n : Int) (w : World) :
    Calls Tryz.prog 170 #[.int .i64 n] w fun e w' => e = .returned (.agg #[.int .i64 1, .int .i64 n, .string noText]) ∧ w' = w.alloc (.cells #[.int .i64 1, .int .i64 n, .string ⟨#[]⟩] 72) := by
  go_enter Tryz.func170, Tryz.ntmps170
  go_wp2
  exact bodyPost_ret (v := .agg #[.int .i64 1, .int .i64 n, .string noText]) (by simp [results, Tryz.results170, go_sem, noText]) rfl ⟨rfl, rfl⟩

set_option maxHeartbeats 1000000 in
theorem ends_any (a : ByteArray) (y k n : Int) (s : ByteArray) (w : World) (h2 : 2 ≤ y) (h7 : y ≤ 7) (hlo : minI ≤ n) (hhi : n ≤ maxI) (hn : nothingB y n = false) :
    Calls Tryz.prog 169 #[.agg #[.string a, .int .i64 y, .int .i64 k, .int .i64 n, .string s]] w fun e w' => e = .returned (.tuple #[.int .i64 (endLo y n), .int .i64 (endHi y n)]) ∧ Below w.heap.size w w' := by
  unfold minI at hlo
  unfold maxI at hhi
  have Hn : Hid (nothingB y n = false) := hn
  clear hn
  have hy : y = 2 ∨ y = 3 ∨ y = 4 ∨ y = 5 ∨ y = 6 ∨ y = 7 := by omega
  rcases hy with rfl | rfl | rfl | rfl | rfl | rfl
  case' inr.inr.inl => have hx : -9223372036854775808 < n := by (have h := Hn.out; simp [nothingB, minI] at h; omega)
  case' inr.inr.inr.inr.inl => have hx : n < 9223372036854775807 := by (have h := Hn.out; simp [nothingB, maxI] at h; omega)
  all_goals
    go_enter Tryz.func169, Tryz.ntmps169
    go_wp2
  all_goals
    go_ret2
    refine ⟨ret_ii ?_ ?_, (Below.refl _ _).alloc (Nat.le_refl _) _⟩
    all_goals
      go_light
      simp_all [endLo, endHi, minI, maxI]

theorem letsBy_eq (b : Bool) (a : ByteArray) (y k n : Int) (s : ByteArray) (k' n' : Int) (s' : ByteArray) (m : Int) (w : World) (hl : lets y k n s k' n' s' = b) (hw : wayOk y k n s = true) (hv : valOk k' n' s' = true) (hM : Ml m w) :
    Calls Tryz.prog 140 #[.agg #[.string a, .int .i64 y, .int .i64 k, .int .i64 n, .string s], .agg #[.int .i64 k', .int .i64 n', .string s']] w fun e w' => e = .returned (.bool b) ∧ Below w.heap.size w w' := by
  subst hl
  exact letsBy_any a y k n s k' n' s' m w hw hv hM

set_option maxHeartbeats 2000000 in
theorem numbersWithin_any (a : ByteArray) (y n : Int) (s a' : ByteArray) (y' n' : Int) (s' : ByteArray) (m : Int) (w : World) (h2 : 2 ≤ y) (h7 : y ≤ 7) (hlo : minI ≤ n) (hhi : n ≤ maxI) (hn : nothingB y n = false)
    (hw' : wayOk y' 1 n' s' = true) (hM : Ml m w) :
    Calls Tryz.prog 157 #[.agg #[.string a, .int .i64 y, .int .i64 1, .int .i64 n, .string s], .agg #[.string a', .int .i64 y', .int .i64 1, .int .i64 n', .string s']] w
      fun e w' => e = .returned (.bool (numbersB y n y' n' s')) ∧ Below w.heap.size w w' := by
  have hv : ∀ q, valOk 1 q noText = true := fun q => by simp [valOk, noText_list]
  have Hw' : Hid (wayOk y' 1 n' s' = true) := hw'
  have Hv : Hid (∀ q, valOk 1 q noText = true) := hv
  clear hw' hv
  go_enter Tryz.func157, Tryz.ntmps157
  go_wp2_with fail
  refine (ends_any a y 1 n s _ h2 h7 hlo hhi hn).mono ?_
  rintro e w1 ⟨rfl, hb⟩
  obtain ⟨hc, hf⟩ := bcell hb
  have hz1 : w.heap.size + 1 < w1.heap.size := by have := hb.size; simp at this; omega
  have hM1 : Ml m w1 := ((hM.alloc _).alloc _).below hb
  clear hn h2 h7 hlo hhi
  go_wp2_with fail
  cases hlet : lets y' 1 n' s' 1 (endLo y n) noText
  · first | go_region_with (first | (go_at_call 170; refine (number_any _ _).mono ?_; rintro e w2 ⟨rfl, rfl⟩) | (go_at_call_of 140 (Value.agg #[.int .i64 1, .int .i64 (endLo y n), .string noText]); refine (letsBy_eq false _ _ _ _ _ _ _ _ m _ hlet Hw'.out (Hv.out _) (by repeat (first | assumption | apply Ml.drew | apply Ml.alloc))).mono ?_; rintro e w3 ⟨rfl, hb3⟩; have g3 : Gr w1 w3 := Gr.call (by repeat (first | exact Gr.refl _ | assumption | apply Gr.drew | apply Gr.alloc)) hb3; clear hb3; obtain ⟨hc3, hf3⟩ := bcell g3; have hz3 := g3.lt hz1; have hM3 := g3.ml hM1)) | fail
    all_goals
      go_wp2
      go_ret
      exact ⟨ret_bool (by simp [numbersB, hlet]), Gr.call (((Gr.refl w).alloc _).alloc _) (Gr.call hb g3)⟩
  · cases hlet2 : lets y' 1 n' s' 1 (endHi y n) noText
    all_goals
      first | go_region_with (first | (go_at_call 170; refine (number_any _ _).mono ?_; rintro e w2 ⟨rfl, rfl⟩) | (go_at_call_of 140 (Value.agg #[.int .i64 1, .int .i64 (endLo y n), .string noText]); refine (letsBy_eq true _ _ _ _ _ _ _ _ m _ hlet Hw'.out (Hv.out _) (by repeat (first | assumption | apply Ml.drew | apply Ml.alloc))).mono ?_; rintro e w3 ⟨rfl, hb3⟩; have g3 : Gr w1 w3 := Gr.call (by repeat (first | exact Gr.refl _ | assumption | apply Gr.drew | apply Gr.alloc)) hb3; clear hb3; obtain ⟨hc3, hf3⟩ := bcell g3; have hz3 := g3.lt hz1; have hM3 := g3.ml hM1) | (go_at_call_of 140 (Value.agg #[.int .i64 1, .int .i64 (endHi y n), .string noText]); refine (letsBy_eq _ _ _ _ _ _ _ _ _ m _ hlet2 Hw'.out (Hv.out _) (by repeat (first | assumption | apply Ml.drew | apply Ml.alloc))).mono ?_; rintro e w3 ⟨rfl, hb3⟩; have g3 : Gr w1 w3 := Gr.call (by repeat (first | exact Gr.refl _ | assumption | apply Gr.drew | apply Gr.alloc)) hb3; clear hb3; obtain ⟨hc3, hf3⟩ := bcell g3; have hz3 := g3.lt hz1; have hM3 := g3.ml hM1)) | fail
      all_goals
        go_wp2
        go_ret
        exact ⟨ret_bool (by simp [numbersB, hlet, hlet2]), Gr.call (((Gr.refl w).alloc _).alloc _) (Gr.call hb (by assumption))⟩
end Go.Proofs.YtecnfgikbmcgoaaGreat
namespace Go.Proofs.YtecnfgikbmcgoaaGreat
open Go.RowKit

set_option maxHeartbeats 2000000 in
theorem textsWithin_any (a : ByteArray) (y : Int) (s a' : ByteArray) (y' : Int) (s' : ByteArray) (m : Int) (w : World) (hw : wayOk y 2 0 s = true) (hw' : wayOk y' 2 0 s' = true) (hM : Ml m w) :
    Calls Tryz.prog 158 #[.agg #[.string a, .int .i64 y, .int .i64 2, .int .i64 0, .string s], .agg #[.string a', .int .i64 y', .int .i64 2, .int .i64 0, .string s']] w
      fun e w' => e = .returned (.bool (textsB y s y' s')) ∧ Gr w w' := by
  have hv : valOk 2 0 s = true := way_text hw
  have hs := val_size hv
  have Hw : Hid (wayOk y 2 0 s = true) := hw
  have Hw' : Hid (wayOk y' 2 0 s' = true) := hw'
  have Hv : Hid (valOk 2 0 s = true) := hv
  clear hw hw' hv
  go_enter Tryz.func158, Tryz.ntmps158
  go_wp2_with (go_at_call 140; refine (letsBy_any _ _ _ _ _ _ _ _ m _ Hw'.out Hv.out (by repeat (first | assumption | apply Ml.drew | apply Ml.alloc))).mono ?_; rintro e w3 ⟨rfl, hb3⟩; obtain ⟨hc3, hf3⟩ := bcell hb3; have hz3 : w.heap.size + 1 < w3.heap.size := Gr.lt hb3 (by simp))
  all_goals
    go_ret
    refine ⟨ret_bool ?_, ?_⟩
    · go_light
      try clear hc3 hf3 hb3
      try clear hM
      first | (simp_all [textsB]; done) | go_show
    · first | exact ((Gr.refl w).alloc _).alloc _ | exact Gr.call (((Gr.refl w).alloc _).alloc _) hb3
end Go.Proofs.YtecnfgikbmcgoaaGreat
namespace Go.Proofs.YtecnfgikbmcgoaaGreat
open Go.RowKit

set_option maxHeartbeats 2000000 in
theorem flagsWithin_any (a : ByteArray) (y n : Int) (s a' : ByteArray) (y' n' : Int) (s' : ByteArray) (m : Int) (w : World) (hw : wayOk y 3 n s = true) (hw' : wayOk y' 3 n' s' = true) (hM : Ml m w) :
    Calls Tryz.prog 159 #[.agg #[.string a, .int .i64 y, .int .i64 3, .int .i64 n, .string s], .agg #[.string a', .int .i64 y', .int .i64 3, .int .i64 n', .string s']] w
      fun e w' => e = .returned (.bool (flagsB y n s y' n' s')) ∧ Gr w w' := by
  have Hv : Hid (valOk 3 0 ⟨#[]⟩ = true) := by show valOk 3 0 noText = true; simp [valOk, noText_list]
  have Hv1 : Hid (valOk 3 1 ⟨#[]⟩ = true) := by show valOk 3 1 noText = true; simp [valOk, noText_list]
  have Hw : Hid (wayOk y 3 n s = true) := hw
  have Hw' : Hid (wayOk y' 3 n' s' = true) := hw'
  clear hw hw'
  go_enter Tryz.func159, Tryz.ntmps159
  go_wp2
  refine wp_loop_rounds 3 ?_
  rw [rounds_succ]
  go_wp2_with (go_at_call 140; refine (letsBy_any _ _ _ _ _ _ _ _ m _ (by first | exact Hw.out | exact Hw'.out) (by first | exact Hv.out | exact Hv1.out) (by repeat (first | assumption | apply Ml.drew | apply Ml.alloc))).mono ?_; rintro e w3 ⟨rfl, hb3⟩; have g3 : Gr w w3 := Gr.call (by repeat (first | exact Gr.refl _ | assumption | apply Gr.drew | apply Gr.alloc)) hb3; obtain ⟨hc3, hf3⟩ := bcell hb3; have hq3 : w.heap.size + 3 ≤ w3.heap.size := (by (have := hb3.size; (try simp at this); omega)); obtain ⟨hz3, hz4, hz5⟩ := sizes3 hq3; have hM3 := g3.ml hM)
  all_goals (try rw [rounds_succ])
  all_goals go_wp2_with (go_at_call 140; refine (letsBy_any _ _ _ _ _ _ _ _ m _ (by first | exact Hw.out | exact Hw'.out) (by first | exact Hv.out | exact Hv1.out) (by repeat (first | assumption | apply Ml.drew | apply Ml.alloc))).mono ?_; rintro e w3 ⟨rfl, hb3⟩; have g3 : Gr w w3 := Gr.call (by repeat (first | exact Gr.refl _ | assumption | apply Gr.drew | apply Gr.alloc)) hb3; obtain ⟨hc3, hf3⟩ := bcell hb3; have hq3 : w.heap.size + 3 ≤ w3.heap.size := (by (have := hb3.size; (try simp at this); omega)); obtain ⟨hz3, hz4, hz5⟩ := sizes3 hq3; have hM3 := g3.ml hM)
  all_goals (try rw [rounds_succ])
  all_goals go_wp2_with fail
  all_goals
    go_ret
    refine ⟨ret_bool ?_, by assumption⟩
    go_light
    first | (simp_all [flagsB, noText]; done) | go_show
end Go.Proofs.YtecnfgikbmcgoaaGreat
namespace Go.Proofs.YtecnfgikbmcgoaaGreat
open Go.RowKit

set_option maxHeartbeats 4000000 in
theorem within_any (a : ByteArray) (y k n : Int) (s a' : ByteArray) (y' k' n' : Int) (s' : ByteArray) (m : Int) (w : World) (hw : wayOk y k n s = true) (hw' : wayOk y' k' n' s' = true) (hlo : minI ≤ n) (hhi : n ≤ maxI) (hM : Ml m w) :
    Calls Tryz.prog 139 #[.agg #[.string a, .int .i64 y, .int .i64 k, .int .i64 n, .string s], .agg #[.string a', .int .i64 y', .int .i64 k', .int .i64 n', .string s']] w
      fun e w' => e = .returned (.bool (withinB y k n s y' k' n' s')) ∧ Gr w w' := by
  have Hlo : Hid (minI ≤ n) := hlo
  have Hhi : Hid (n ≤ maxI) := hhi
  have Hw : Hid (wayOk y k n s = true) := hw
  have Hw' : Hid (wayOk y' k' n' s' = true) := hw'
  clear hw hw' hlo hhi
  by_cases hy' : (y' == 1) = true
  · go_enter Tryz.func139, Tryz.ntmps139
    go_wp2_with fail
    go_ret
    exact ⟨ret_bool (by simp only [withinB, hy', Bool.true_or, if_true]), ((Gr.refl w).alloc _).alloc _⟩
  replace hy' : (y' == 1) = false := by simpa using hy'
  by_cases hno : nothingB y n = true
  · have Hno : Hid (nothingB y n = true) := hno
    clear hno
    go_enter Tryz.func139, Tryz.ntmps139
    go_wp2_with fail
    refine (letsNothingBy_any _ _ _ _ _ _).mono ?_
    rw [Hno.out]
    rintro e w1 ⟨rfl, hb1⟩
    go_wp2_with fail
    go_ret
    exact ⟨ret_bool (by simp only [withinB, Hno.out, Bool.or_true, if_true]), Gr.call (((Gr.refl w).alloc _).alloc _) hb1⟩
  have Hno : Hid (nothingB y n = false) := by
    show _ = _
    simpa using hno
  clear hno
  have HW : Hid (withinB y k n s y' k' n' s' = if y == 1 || k != k' then false else if y' == 3 then !lets y k n s k' n' s' else if k == 1 then numbersB y n y' n' s' else if k == 2 then textsB y s y' s' else flagsB y n s y' n' s') := by
    show _ = _
    simp only [withinB, hy', Hno.out, Bool.or_self, Bool.false_eq_true, if_false]
  by_cases hyk : y = 1 ∨ k ≠ k'
  · have Hr : Hid (withinB y k n s y' k' n' s' = false) := by
      show _ = _
      rw [HW.out]; rcases hyk with h | h <;> simp [h]
    by_cases hy : (y == 1) = true
    all_goals
      try replace hy : (y == 1) = false := by simpa using hy
    · go_enter Tryz.func139, Tryz.ntmps139
      go_wp2_with fail
      refine (letsNothingBy_any _ _ _ _ _ _).mono ?_
      rw [Hno.out]
      rintro e w1 ⟨rfl, hb1⟩
      obtain ⟨hc1, hf1⟩ := bcell hb1
      go_wp2_with fail
      go_ret
      exact ⟨ret_bool (by rw [Hr.out]), Gr.call (((Gr.refl w).alloc _).alloc _) hb1⟩
    · have hk : (k != k') = true := by
        rcases hyk with h | h
        · simp [h] at hy
        · simpa using h
      clear hyk
      go_enter Tryz.func139, Tryz.ntmps139
      go_wp2_with fail
      refine (letsNothingBy_any _ _ _ _ _ _).mono ?_
      rw [Hno.out]
      rintro e w1 ⟨rfl, hb1⟩
      obtain ⟨hc1, hf1⟩ := bcell hb1
      go_wp2_with fail
      go_ret
      exact ⟨ret_bool (by rw [Hr.out]), Gr.call (((Gr.refl w).alloc _).alloc _) hb1⟩
  obtain ⟨hy1, hkk⟩ : y ≠ 1 ∧ k = k' := by omega
  clear hyk
  subst hkk
  have hy : (y == 1) = false := by simpa using hy1
  have Hv : Hid (valOk k n s = true) := way_val Hw.out hy1
  have Hy : Hid (y ≠ 1) := hy1
  have Hv' : Hid (valOk k n' s' = true) := way_val Hw'.out (by simpa using hy')
  clear hy1
  by_cases hy3 : (y' == 3) = true
  · have Hr : Hid (withinB y k n s y' k n' s' = !lets y k n s k n' s') := by
      show _ = _
      rw [HW.out]; simp [hy, hy3]
    go_enter Tryz.func139, Tryz.ntmps139
    go_wp2_with fail
    refine (letsNothingBy_any _ _ _ _ _ _).mono ?_
    rw [Hno.out]
    rintro e w1 ⟨rfl, hb1⟩
    obtain ⟨hc1, hf1⟩ := bcell hb1
    have hM1 : Ml m w1 := Gr.ml hb1 ((hM.alloc _).alloc _)
    have hz1 : w.heap.size + 1 < w1.heap.size := Gr.lt hb1 (by simp)
    go_wp2_with fail
    refine (letsBy_any _ _ _ _ _ _ _ _ m _ Hw.out Hv'.out hM1).mono ?_
    rintro e w2 ⟨rfl, hb2⟩
    go_wp2_with fail
    go_ret
    exact ⟨ret_bool (by rw [Hr.out]), Gr.call (Gr.call (((Gr.refl w).alloc _).alloc _) hb1) hb2⟩
  replace hy3 : (y' == 3) = false := by simpa using hy3
  rcases val_kind Hv.out with rfl | rfl | rfl
  · have Hr : Hid (withinB y 1 n s y' 1 n' s' = numbersB y n y' n' s') := by
      show _ = _
      rw [HW.out]; simp [hy, hy3]
    go_enter Tryz.func139, Tryz.ntmps139
    go_wp2_with fail
    refine (letsNothingBy_any _ _ _ _ _ _).mono ?_
    rw [Hno.out]
    rintro e w1 ⟨rfl, hb1⟩
    obtain ⟨hc1, hf1⟩ := bcell hb1
    have hM1 : Ml m w1 := Gr.ml hb1 ((hM.alloc _).alloc _)
    have hz1 : w.heap.size + 1 < w1.heap.size := Gr.lt hb1 (by simp)
    go_wp2_with fail
    refine (numbersWithin_any _ _ _ _ _ _ _ _ m _ (way_num Hw.out Hy.out).1 (way_num Hw.out Hy.out).2 Hlo.out Hhi.out Hno.out Hw'.out hM1).mono ?_
    rintro e w2 ⟨rfl, hb2⟩
    go_wp2_with fail
    go_ret
    exact ⟨ret_bool (by rw [Hr.out]), Gr.call (Gr.call (((Gr.refl w).alloc _).alloc _) hb1) hb2⟩
  · obtain rfl := val_text Hv.out
    obtain rfl := val_text Hv'.out
    have Hr : Hid (withinB y 2 0 s y' 2 0 s' = textsB y s y' s') := by
      show _ = _
      rw [HW.out]; simp [hy, hy3]
    go_enter Tryz.func139, Tryz.ntmps139
    go_wp2_with fail
    refine (letsNothingBy_any _ _ _ _ _ _).mono ?_
    rw [Hno.out]
    rintro e w1 ⟨rfl, hb1⟩
    obtain ⟨hc1, hf1⟩ := bcell hb1
    have hM1 : Ml m w1 := Gr.ml hb1 ((hM.alloc _).alloc _)
    have hz1 : w.heap.size + 1 < w1.heap.size := Gr.lt hb1 (by simp)
    go_wp2_with fail
    refine (textsWithin_any _ _ _ _ _ _ m _ Hw.out Hw'.out hM1).mono ?_
    rintro e w2 ⟨rfl, hb2⟩
    go_wp2_with fail
    go_ret
    exact ⟨ret_bool (by rw [Hr.out]), Gr.call (Gr.call (((Gr.refl w).alloc _).alloc _) hb1) hb2⟩
  · have Hr : Hid (withinB y 3 n s y' 3 n' s' = flagsB y n s y' n' s') := by
      show _ = _
      rw [HW.out]; simp [hy, hy3]
    go_enter Tryz.func139, Tryz.ntmps139
    go_wp2_with fail
    refine (letsNothingBy_any _ _ _ _ _ _).mono ?_
    rw [Hno.out]
    rintro e w1 ⟨rfl, hb1⟩
    obtain ⟨hc1, hf1⟩ := bcell hb1
    have hM1 : Ml m w1 := Gr.ml hb1 ((hM.alloc _).alloc _)
    have hz1 : w.heap.size + 1 < w1.heap.size := Gr.lt hb1 (by simp)
    go_wp2_with fail
    refine (flagsWithin_any _ _ _ _ _ _ _ _ m _ Hw.out Hw'.out hM1).mono ?_
    rintro e w2 ⟨rfl, hb2⟩
    go_wp2_with fail
    go_ret
    exact ⟨ret_bool (by rw [Hr.out]), Gr.call (Gr.call (((Gr.refl w).alloc _).alloc _) hb1) hb2⟩
end Go.Proofs.YtecnfgikbmcgoaaGreat
namespace Go.Proofs.YtecnfgikbmcgoaaGreat
open Go.RowKit

set_option maxHeartbeats 1000000 in
theorem goodWant_any (a : ByteArray) (y k n : Int) (s : ByteArray) (w : World) (ha : a.size ≤ maxLen) :
    Calls Tryz.prog 84 #[.agg #[.string a, .int .i64 y, .int .i64 k, .int .i64 n, .string s]] w fun e w' => e = .returned (.bool (wantOk a y k n s)) ∧ Below w.heap.size w w' := by
  go_enter Tryz.func84, Tryz.ntmps84
  go_wp2_with (first | (go_at_call 88; refine (goodName_any _ _ ha).mono ?_; rintro e w' ⟨rfl, rfl⟩) | (go_at_call 89; refine (goodValue_any _ _ _ _).mono ?_; rintro e w1 ⟨rfl, hb⟩))
  all_goals
    go_ret
    refine ⟨ret_bool ?_, ?_⟩
    · go_light
      first | (simp_all [wantOk, wayOk]; done) | (simp_all [wantOk, wayOk]; omega)
    · first | exact (Below.refl _ _).alloc (Nat.le_refl _) _ | exact ((Below.refl _ _).alloc (Nat.le_refl _) _).trans (hb.mono (by simp))

set_option maxHeartbeats 1000000 in
theorem WantOf_any (a : ByteArray) (y k n : Int) (s : ByteArray) (w : World) (ha : a.size ≤ maxLen) :
    Calls Tryz.prog 119 #[.agg #[.string a, .int .i64 y, .int .i64 k, .int .i64 n, .string s]] w fun e w' => e = .returned (.bool (wantOk a y k n s)) ∧ Below w.heap.size w w' := by
  go_enter Tryz.func119, Tryz.ntmps119
  go_wp2_with (first | (go_at_call 123; refine (name_any _ _ ha).mono ?_; rintro e w' ⟨rfl, rfl⟩) | (go_at_call 124; refine (value_any _ _ _ _).mono ?_; rintro e w1 ⟨rfl, hb⟩; obtain ⟨hc, hf⟩ := bcell hb))
  all_goals
    go_ret
    refine ⟨ret_bool ?_, ?_⟩
    · go_light
      try clear hc hf
      try clear hb
      unfold wantOk
      first | (rw [wayOk_out y k n s (by omega)]; simp; done) | (rw [wayOk_hi y k n s (by omega) (by omega)]; simp_all; done) | (rw [wayOk_mid y k n s (by omega) (by omega)]; simp_all; done) | (simp_all [wayOk_any]; done) | (have hne : ¬ y = 1 := (by simp_all); rw [wayOk_low y k n s (by omega) (by omega)]; simp_all; done) | (simp_all; done)
    · first | exact (Below.refl _ _).alloc (Nat.le_refl _) _ | exact ((Below.refl _ _).alloc (Nat.le_refl _) _).trans (hb.mono (by simp))
end Go.Proofs.YtecnfgikbmcgoaaGreat
namespace Go.Proofs.YtecnfgikbmcgoaaGreat
open Go.RowKit

set_option maxHeartbeats 1000000 in
theorem Check_any (l : List Wnt) (b off cap : Nat) (w : World) (hl : l.length ≤ maxLen) (hb : b < w.heap.size) (hat : WantsAt w b off l) (hwf : ∀ x ∈ l, Wnt.Wf x) :
    Calls Tryz.prog 46 #[.slice (some ⟨b, off, none⟩) l.length cap] w fun e w' => e = .returned (.int .i64 (chk l)) ∧ Gr w w' := by
  unfold maxLen at hl
  have HC : Hid (WantsAt w b off l) := hat
  have HF : Hid (∀ x ∈ l, Wnt.Wf x) := hwf
  clear hat hwf
  go_enter Tryz.func46, Tryz.ntmps46
  go_wp2
  · go_ret; exact ⟨ret_int (chk_size ‹_›).symm, Gr.refl _⟩
  · go_loopw [15] (fun i wr => ∃ k : Nat, k ≤ l.length ∧ i = .int .i64 k ∧ Gr w wr ∧ Hid ((l.take k).all wOk = true)) (fun i _ => l.length - (intOf i).toNat)
    case atStart => exact ⟨0, Nat.zero_le _, rfl, Gr.refl _, rfl⟩
    case round =>
      obtain ⟨k, hk, rfl, g, HA⟩ := hrel
      by_cases hlt : k < l.length
      · obtain ⟨c1, c2, c3, c4, c5⟩ := (HC.out.gr g hb) k hlt
        have hb' := g.lt hb
        go_wp2_with fail
        refine (goodWant_any _ _ _ _ _ _ (HF.out _ (wat_mem hlt)).a).mono ?_
        rintro e w1 ⟨rfl, hb1⟩
        have g1 : Gr w w1 := Gr.call (g.alloc _) hb1
        clear c1 c2 c3 c4 c5
        go_wp2
        · go_ret
          refine ⟨ret_int (chk_stop k hlt ?_).symm, g1⟩
          simpa [wOk] using ‹(!wantOk _ _ _ _ _) = true›
        · go_roundw
          case rel =>
            refine ⟨k + 1, by omega, by go_num, g1, all_snoc wOk l k dW hlt HA.out ?_⟩
            simpa [wOk, wat] using ‹(!wantOk _ _ _ _ _) = false›
          case measure => simp [intOf]; omega
      · go_wp2
        go_ret
        exact ⟨ret_int (chk_end k hlt (by omega) (by omega) HA.out).symm, g⟩
  · go_ret; exact ⟨ret_int (chk_size (Or.inl ‹_›)).symm, Gr.refl _⟩
end Go.Proofs.YtecnfgikbmcgoaaGreat
