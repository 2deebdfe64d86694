import Derived.Test.YtecnfgikbmcgoaaWA
namespace Go.Proofs.Ytecnfgikbmcgoaa
open Go.RowKit

set_option maxHeartbeats 1000000 in
theorem at_any (s : ByteArray) (i : Int) (t : ByteArray) (w : World) (hs : s.size ≤ 64) (ht : t.size ≤ 64) (h1 : -64 ≤ i) (h2 : i ≤ 64) :
    Calls Try.prog 50 #[.string s, .int .i64 i, .string t] w fun e w' => e = .returned (.bool (atB s i t)) ∧ w' = w := by
  by_cases h0 : i < 0
  · go_enter Try.func50, Try.ntmps50
    go_wp2
    go_ret
    exact ⟨ret_bool (atB_no s i t (Or.inl h0)).symm, rfl⟩
  · obtain ⟨j, rfl⟩ := Int.eq_ofNat_of_zero_le (Int.not_lt.1 h0)
    by_cases hj : j + t.size ≤ s.size
    · go_enter Try.func50, Try.ntmps50
      go_wp2
      go_ret
      exact ⟨ret_bool (atB_in s j t hj).symm, rfl⟩
    · have hj' : (s.size : Int) < (j : Int) + t.size := by omega
      go_enter Try.func50, Try.ntmps50
      go_wp2
      go_ret
      exact ⟨ret_bool (atB_no s j t (Or.inr hj')).symm, rfl⟩
end Go.Proofs.Ytecnfgikbmcgoaa
