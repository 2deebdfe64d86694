import Derived.Test.YtecnfgikbmcgoaaWD
import Derived.Test.YtecnfgikbmcgoaaMl
import Derived.Test.YtecnfgikbmcgoaaImp2
namespace Go.Proofs.Ytecnfgikbmcgoaa
open Go.RowKit

set_option maxHeartbeats 2000000 in
theorem Lets_part (a : ByteArray) (k n : Int) (s : ByteArray) (n' : Int) (s' : ByteArray) (w : World) (hs : s.size ≤ 64) (hs' : s'.size ≤ 33) :
    Calls Try.prog 39 #[.agg #[.string a, .int .i64 10, .int .i64 k, .int .i64 n, .string s], .agg #[.int .i64 k, .int .i64 n', .string s']] w fun e w' => e = .returned (.bool (lets 10 k n s k n' s')) ∧ Gr w w' := by
  go_enter Try.func39, Try.ntmps39
  go_wp2
  go_loop [5] (fun i => ∃ j : Nat, j ≤ s'.size + 1 ∧ i = .int .i64 j ∧ Hid (∀ q : Nat, q < j → atB s' (q : Int) s = false)) (fun i => s'.size + 1 - (intOf i).toNat)
  case atStart => exact ⟨0, by omega, rfl, fun q hq => by omega⟩
  case round =>
    obtain ⟨j, hj, rfl, HA⟩ := hrel
    by_cases hlt : j ≤ s'.size
    · have hlt' : (j : Int) ≤ (s'.size : Int) := by omega
      cases hat : atB s' (j : Int) s
      · go_wp2_with fail
        refine (at_any _ _ _ _ (by omega) (by omega) (by omega) (by omega)).mono ?_
        rw [hat]
        rintro e w1 ⟨rfl, rfl⟩
        go_wp2_with fail
        go_round
        case rel =>
          refine ⟨j + 1, by omega, by go_num, fun q hq => ?_⟩
          by_cases e : q = j
          · rw [e]; exact hat
          · exact HA.out q (by omega)
        case measure => simp [intOf]; omega
      · go_wp2_with fail
        refine (at_any _ _ _ _ (by omega) (by omega) (by omega) (by omega)).mono ?_
        rw [hat]
        rintro e w1 ⟨rfl, rfl⟩
        go_wp2_with fail
        go_ret
        refine ⟨ret_bool ?_, ((Gr.refl _).alloc _).alloc _⟩
        have := contains_yes s' s j hlt hat
        simp [lets, this]
    · have hlt' : ¬ (j : Int) ≤ (s'.size : Int) := by omega
      go_wp2
      go_ret
      refine ⟨ret_bool ?_, ((Gr.refl _).alloc _).alloc _⟩
      have := contains_no s' s (fun q hq => HA.out q (by omega))
      simp [lets, this]

set_option maxHeartbeats 2000000 in
theorem Lets_any (a : ByteArray) (y k n : Int) (s : ByteArray) (k' n' : Int) (s' : ByteArray) (w : World) (hw : wayOk y k n s = true) (hs : s.size ≤ 64) (hs' : s'.size ≤ 33) :
    Calls Try.prog 39 #[.agg #[.string a, .int .i64 y, .int .i64 k, .int .i64 n, .string s], .agg #[.int .i64 k', .int .i64 n', .string s']] w fun e w' => e = .returned (.bool (lets y k n s k' n' s')) ∧ Gr w w' := by
  have Hw : Hid (wayOk y k n s = true) := hw
  clear hw
  by_cases h10 : y = 10 ∧ k = k'
  · obtain ⟨rfl, rfl⟩ := h10
    exact Lets_part a k n s n' s' w hs hs'
  rcases way_cases Hw.out with rfl | rfl | rfl | rfl | rfl | rfl | rfl | rfl | rfl | rfl
  · go_enter Try.func39, Try.ntmps39
    go_wp2
    go_ret
    exact ⟨ret_bool (by simp [lets]), ((Gr.refl _).alloc _).alloc _⟩
  all_goals
    by_cases hk : (k' != k) = true
    · go_enter Try.func39, Try.ntmps39
      go_wp2
      go_ret
      exact ⟨ret_bool (by have h2 : (k != k') = true := (by simp at hk ⊢; exact fun e => hk e.symm); simp [lets, h2]), ((Gr.refl _).alloc _).alloc _⟩
    have hk' : k' = k := by simpa using hk
    subst hk'
    clear hk
    try simp at h10
    try clear h10
    try (
      go_enter Try.func39, Try.ntmps39
      go_wp2_with (go_at_call 50; refine (at_any _ _ _ _ (by omega) (by omega) (by omega) (by omega)).mono ?_; rintro e w' ⟨rfl, rfl⟩)
      all_goals
        go_ret
        refine ⟨ret_bool ?_, ((Gr.refl _).alloc _).alloc _⟩
        go_light
        first | (simp [lets, atB_prefix]; done) | (simp [lets, atB_suffix]; done) | (simp_all [lets]; done) | (simp [lets]; omega) | go_show)
end Go.Proofs.Ytecnfgikbmcgoaa
