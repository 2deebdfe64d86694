import Derived.Test.YtecnfgikbmcgoaaWC
import Derived.Test.YtecnfgikbmcgoaaImp
import Derived.Deep.RegionWith
namespace Go.Proofs.Ytecnfgikbmcgoaa
open Go.RowKit

set_option maxHeartbeats 1000000 in
theorem letsNothingBy_any (a : ByteArray) (y k n : Int) (s : ByteArray) (w : World) :
    Calls Try.prog 51 #[.agg #[.string a, .int .i64 y, .int .i64 k, .int .i64 n, .string s]] w fun e w' => e = .returned (.bool (nothingB y n)) ∧ Below w.heap.size w w' := by
  go_enter Try.func51, Try.ntmps51
  go_wp2
  all_goals
    go_ret
    refine ⟨ret_bool ?_, (Below.refl _ _).alloc (Nat.le_refl _) _⟩
    go_light
    first | (simp_all [nothingB, minI, maxI]; done) | go_show

set_option maxHeartbeats 1000000 in
theorem number_any (n : Int) (w : World) :
    Calls Try.prog 60 #[.int .i64 n] w fun e w' => e = .returned (.agg #[.int .i64 1, .int .i64 n, .string noText]) ∧ w' = w.alloc (.cells #[.int .i64 1, .int .i64 n, .string ⟨#[]⟩] 65) := by
  go_enter Try.func60, Try.ntmps60
  go_wp2
  exact bodyPost_ret (v := .agg #[.int .i64 1, .int .i64 n, .string noText]) (by simp [results, Try.results60, go_sem, noText]) rfl ⟨rfl, rfl⟩

set_option maxHeartbeats 1000000 in
theorem ends_any (a : ByteArray) (y k n : Int) (s : ByteArray) (w : World) (h2 : 2 ≤ y) (h7 : y ≤ 7) (hlo : minI ≤ n) (hhi : n ≤ maxI) (hn : nothingB y n = false) :
    Calls Try.prog 59 #[.agg #[.string a, .int .i64 y, .int .i64 k, .int .i64 n, .string s]] w fun e w' => e = .returned (.tuple #[.int .i64 (endLo y n), .int .i64 (endHi y n)]) ∧ Below w.heap.size w w' := by
  unfold minI at hlo
  unfold maxI at hhi
  have Hn : Hid (nothingB y n = false) := hn
  clear hn
  have hy : y = 2 ∨ y = 3 ∨ y = 4 ∨ y = 5 ∨ y = 6 ∨ y = 7 := by omega
  rcases hy with rfl | rfl | rfl | rfl | rfl | rfl
  case' inr.inr.inl => have hx : -9223372036854775808 < n := by (have h := Hn.out; simp [nothingB, minI] at h; omega)
  case' inr.inr.inr.inr.inl => have hx : n < 9223372036854775807 := by (have h := Hn.out; simp [nothingB, maxI] at h; omega)
  all_goals
    go_enter Try.func59, Try.ntmps59
    go_wp2
  all_goals
    go_ret2
    refine ⟨ret_ii ?_ ?_, (Below.refl _ _).alloc (Nat.le_refl _) _⟩
    all_goals
      go_light
      simp_all [endLo, endHi, minI, maxI]

theorem letsBy_eq (b : Bool) (a : ByteArray) (y k n : Int) (s : ByteArray) (k' n' : Int) (s' : ByteArray) (m : Int) (w : World) (hl : lets y k n s k' n' s' = b) (hw : wayOk y k n s = true) (hv : valOk k' n' s' = true) (hM : Ml m w) :
    Calls Try.prog 52 #[.agg #[.string a, .int .i64 y, .int .i64 k, .int .i64 n, .string s], .agg #[.int .i64 k', .int .i64 n', .string s']] w fun e w' => e = .returned (.bool b) ∧ Below w.heap.size w w' := by
  subst hl
  exact letsBy_any a y k n s k' n' s' m w hw hv hM

set_option maxHeartbeats 2000000 in
theorem numbersWithin_any (a : ByteArray) (y n : Int) (s a' : ByteArray) (y' n' : Int) (s' : ByteArray) (m : Int) (w : World) (h2 : 2 ≤ y) (h7 : y ≤ 7) (hlo : minI ≤ n) (hhi : n ≤ maxI) (hn : nothingB y n = false)
    (hw' : wayOk y' 1 n' s' = true) (hM : Ml m w) :
    Calls Try.prog 53 #[.agg #[.string a, .int .i64 y, .int .i64 1, .int .i64 n, .string s], .agg #[.string a', .int .i64 y', .int .i64 1, .int .i64 n', .string s']] w
      fun e w' => e = .returned (.bool (numbersB y n y' n' s')) ∧ Below w.heap.size w w' := by
  have hv : ∀ q, valOk 1 q noText = true := fun q => by simp [valOk, noText_list]
  have Hw' : Hid (wayOk y' 1 n' s' = true) := hw'
  have Hv : Hid (∀ q, valOk 1 q noText = true) := hv
  clear hw' hv
  go_enter Try.func53, Try.ntmps53
  go_wp2_with fail
  refine (ends_any a y 1 n s _ h2 h7 hlo hhi hn).mono ?_
  rintro e w1 ⟨rfl, hb⟩
  obtain ⟨hc, hf⟩ := bcell hb
  have hz1 : w.heap.size + 1 < w1.heap.size := by have := hb.size; simp at this; omega
  have hM1 : Ml m w1 := ((hM.alloc _).alloc _).below hb
  clear hn h2 h7 hlo hhi
  go_wp2_with fail
  cases hlet : lets y' 1 n' s' 1 (endLo y n) noText
  · first | go_region_with (first | (go_at_call 60; refine (number_any _ _).mono ?_; rintro e w2 ⟨rfl, rfl⟩) | (go_at_call_of 52 (Value.agg #[.int .i64 1, .int .i64 (endLo y n), .string noText]); refine (letsBy_eq false _ _ _ _ _ _ _ _ m _ hlet Hw'.out (Hv.out _) (by repeat (first | assumption | apply Ml.drew | apply Ml.alloc))).mono ?_; rintro e w3 ⟨rfl, hb3⟩; have g3 : Gr w1 w3 := Gr.call (by repeat (first | exact Gr.refl _ | assumption | apply Gr.drew | apply Gr.alloc)) hb3; clear hb3; obtain ⟨hc3, hf3⟩ := bcell g3; have hz3 := g3.lt hz1; have hM3 := g3.ml hM1)) | fail
    all_goals
      go_wp2
      go_ret
      exact ⟨ret_bool (by simp [numbersB, hlet]), Gr.call (((Gr.refl w).alloc _).alloc _) (Gr.call hb g3)⟩
  · cases hlet2 : lets y' 1 n' s' 1 (endHi y n) noText
    all_goals
      first | go_region_with (first | (go_at_call 60; refine (number_any _ _).mono ?_; rintro e w2 ⟨rfl, rfl⟩) | (go_at_call_of 52 (Value.agg #[.int .i64 1, .int .i64 (endLo y n), .string noText]); refine (letsBy_eq true _ _ _ _ _ _ _ _ m _ hlet Hw'.out (Hv.out _) (by repeat (first | assumption | apply Ml.drew | apply Ml.alloc))).mono ?_; rintro e w3 ⟨rfl, hb3⟩; have g3 : Gr w1 w3 := Gr.call (by repeat (first | exact Gr.refl _ | assumption | apply Gr.drew | apply Gr.alloc)) hb3; clear hb3; obtain ⟨hc3, hf3⟩ := bcell g3; have hz3 := g3.lt hz1; have hM3 := g3.ml hM1) | (go_at_call_of 52 (Value.agg #[.int .i64 1, .int .i64 (endHi y n), .string noText]); refine (letsBy_eq _ _ _ _ _ _ _ _ _ m _ hlet2 Hw'.out (Hv.out _) (by repeat (first | assumption | apply Ml.drew | apply Ml.alloc))).mono ?_; rintro e w3 ⟨rfl, hb3⟩; have g3 : Gr w1 w3 := Gr.call (by repeat (first | exact Gr.refl _ | assumption | apply Gr.drew | apply Gr.alloc)) hb3; clear hb3; obtain ⟨hc3, hf3⟩ := bcell g3; have hz3 := g3.lt hz1; have hM3 := g3.ml hM1)) | fail
      all_goals
        go_wp2
        go_ret
        exact ⟨ret_bool (by simp [numbersB, hlet, hlet2]), Gr.call (((Gr.refl w).alloc _).alloc _) (Gr.call hb (by assumption))⟩
end Go.Proofs.Ytecnfgikbmcgoaa
