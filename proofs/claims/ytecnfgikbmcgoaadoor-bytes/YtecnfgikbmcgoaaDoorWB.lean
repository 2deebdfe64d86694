import Derived.Test.YtecnfgikbmcgoaaDoorWA
namespace Go.Proofs.YtecnfgikbmcgoaaDoor
open Go.RowKit

set_option maxHeartbeats 1000000 in
theorem goodWant_any (a : ByteArray) (y k n : Int) (s : ByteArray) (w : World) (ha : a.size ≤ maxLen) :
    Calls Tryd.prog 55 #[.agg #[.string a, .int .i64 y, .int .i64 k, .int .i64 n, .string s]] w fun e w' => e = .returned (.bool (wantOk a y k n s)) ∧ Below w.heap.size w w' := by
  go_enter Tryd.func55, Tryd.ntmps55
  go_wp2_with (first | (go_at_call 50; refine (goodName_any _ _ ha).mono ?_; rintro e w' ⟨rfl, rfl⟩) | (go_at_call 51; refine (goodValue_any _ _ _ _).mono ?_; rintro e w1 ⟨rfl, hb⟩))
  all_goals
    go_ret
    refine ⟨ret_bool ?_, ?_⟩
    · go_light
      first | (simp_all [wantOk, wayOk]; done) | (simp_all [wantOk, wayOk]; omega)
    · first | exact (Below.refl _ _).alloc (Nat.le_refl _) _ | exact ((Below.refl _ _).alloc (Nat.le_refl _) _).trans (hb.mono (by simp))

set_option maxHeartbeats 1000000 in
theorem WantOf_any (a : ByteArray) (y k n : Int) (s : ByteArray) (w : World) (ha : a.size ≤ maxLen) :
    Calls Tryd.prog 34 #[.agg #[.string a, .int .i64 y, .int .i64 k, .int .i64 n, .string s]] w fun e w' => e = .returned (.bool (wantOk a y k n s)) ∧ Below w.heap.size w w' := by
  go_enter Tryd.func34, Tryd.ntmps34
  go_wp2_with (first | (go_at_call 32; refine (name_any _ _ ha).mono ?_; rintro e w' ⟨rfl, rfl⟩) | (go_at_call 33; refine (value_any _ _ _ _).mono ?_; rintro e w1 ⟨rfl, hb⟩; obtain ⟨hc, hf⟩ := bcell hb))
  all_goals
    go_ret
    refine ⟨ret_bool ?_, ?_⟩
    · go_light
      try clear hc hf
      try clear hb
      unfold wantOk
      first | (rw [wayOk_out y k n s (by omega)]; simp; done) | (rw [wayOk_hi y k n s (by omega) (by omega)]; simp_all; done) | (rw [wayOk_mid y k n s (by omega) (by omega)]; simp_all; done) | (simp_all [wayOk_any]; done) | (have hne : ¬ y = 1 := (by simp_all); rw [wayOk_low y k n s (by omega) (by omega)]; simp_all; done) | (simp_all; done)
    · first | exact (Below.refl _ _).alloc (Nat.le_refl _) _ | exact ((Below.refl _ _).alloc (Nat.le_refl _) _).trans (hb.mono (by simp))
end Go.Proofs.YtecnfgikbmcgoaaDoor
