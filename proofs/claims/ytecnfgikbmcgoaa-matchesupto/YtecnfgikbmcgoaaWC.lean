import Derived.Test.YtecnfgikbmcgoaaWA
import Derived.Test.YtecnfgikbmcgoaaShelf
import Derived.Test.YtecnfgikbmcgoaaMl
namespace Go.Proofs.Ytecnfgikbmcgoaa
open Go.RowKit

set_option maxHeartbeats 1000000 in
theorem letsBy_any (a : ByteArray) (y k n : Int) (s : ByteArray) (k' n' : Int) (s' : ByteArray) (m : Int) (w : World) (hw : wayOk y k n s = true) (hv : valOk k' n' s' = true) (hM : Ml m w) :
    Calls Try.prog 52 #[.agg #[.string a, .int .i64 y, .int .i64 k, .int .i64 n, .string s], .agg #[.int .i64 k', .int .i64 n', .string s']] w fun e w' => e = .returned (.bool (lets y k n s k' n' s')) ∧ Below w.heap.size w w' := by
  have hs' := val_size hv
  have Hw : Hid (wayOk y k n s = true) := hw
  have Hv : Hid (valOk k' n' s' = true) := hv
  clear hw hv
  rcases way_cases Hw.out with rfl | rfl | rfl | rfl | rfl | rfl | rfl | rfl | rfl | rfl
  · go_enter Try.func52, Try.ntmps52
    go_wp2
    go_ret
    exact ⟨ret_bool (by simp [lets]), ((Below.refl _ _).alloc (Nat.le_refl _) _).alloc (by simp) _⟩
  all_goals
    by_cases hk : (k != k') = true
    · go_enter Try.func52, Try.ntmps52
      go_wp2
      go_ret
      exact ⟨ret_bool (by simp [lets, hk]), ((Below.refl _ _).alloc (Nat.le_refl _) _).alloc (by simp) _⟩
    · have hk' : k = k' := by simpa using hk
      subst hk'
      clear hk
      go_enter Try.func52, Try.ntmps52
      go_wp2_with (first | (go_at_call 56; refine (Try.strings_HasPrefix _ _ _).mono ?_; rintro e w' ⟨rfl, rfl⟩) | (go_at_call 57; refine (Try.strings_HasSuffix _ _ _ (by omega)).mono ?_; rintro e w' ⟨rfl, rfl⟩) | (go_at_call 58; refine (Try.strings_Contains _ _ m _ (by omega) ((hM.alloc _).alloc _).cell).mono ?_; rintro e w' ⟨rfl, rfl⟩))
      all_goals
        go_ret
        refine ⟨ret_bool ?_, ((Below.refl _ _).alloc (Nat.le_refl _) _).alloc (by simp) _⟩
        go_light
        first | (have h1 := way_mid Hw.out (by omega) (by omega); obtain ⟨rfl, h1⟩ := h1; have h2 := val_int Hv.out; simp_all [lets]; done) | (simp_all [lets]; done) | (simp [lets]; omega)
end Go.Proofs.Ytecnfgikbmcgoaa
