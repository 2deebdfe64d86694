import Derived.Test.YtecnfgikbmcgoaaDoorRows
import Derived.Test.YtecnfgikbmcgoaaDoorSpec
import Derived.WalkKit
import Derived.WalkSpells
import Derived.WalkLawsBesides
import Derived.Deep.Light
namespace Go.Proofs.YtecnfgikbmcgoaaDoor
open Go.RowKit

set_option maxHeartbeats 400000 in
theorem goodName_any (s : ByteArray) (w : World) (hs : s.size ≤ maxLen) :
    Calls Tryd.prog 50 #[.string s] w fun e w' => e = .returned (.bool (nameOk s)) ∧ w' = w := by
  unfold maxLen at hs
  go_enter Tryd.func50, Tryd.ntmps50
  go_wp2
  · go_ret; exact ⟨ret_bool (name_short s ‹_›), rfl⟩
  · go_loop [14] (fun i => ∃ k : Nat, k ≤ s.size ∧ i = .int .i64 k ∧ Hid ((s.data.toList.take k).all letter = true)) (fun i => s.size - (intOf i).toNat)
    case atStart => exact ⟨0, Nat.zero_le _, rfl, rfl⟩
    case round =>
      obtain ⟨k, hk, rfl, HA⟩ := hrel
      by_cases hlt : k < s.size
      · go_wp2
        · go_ret; exact ⟨ret_bool (name_stop s k hlt ‹_›), rfl⟩
        · go_round
          case rel => exact ⟨k + 1, by omega, by go_num, letters_go s k hlt HA.out (by omega) (by omega)⟩
          case measure => simp [intOf]; omega
        · go_ret; exact ⟨ret_bool (name_stop s k hlt (Or.inl ‹_›)), rfl⟩
      · go_wp2
        go_ret
        refine ⟨ret_bool ?_, rfl⟩
        rw [name_end s k hlt HA.out]; symm; simp; omega
  · go_ret; exact ⟨ret_bool (name_short s (Or.inl ‹_›)), rfl⟩

set_option maxHeartbeats 400000 in
theorem name_any (s : ByteArray) (w : World) (hs : s.size ≤ maxLen) :
    Calls Tryd.prog 32 #[.string s] w fun e w' => e = .returned (.bool (nameOk s)) ∧ w' = w := by
  unfold maxLen at hs
  go_enter Tryd.func32, Tryd.ntmps32
  go_wp2
  go_loop [3] (fun i => ∃ k : Nat, k ≤ s.size ∧ i = .int .i64 k ∧ Hid ((s.data.toList.take k).all letter = true)) (fun i => s.size - (intOf i).toNat)
  case atStart => exact ⟨0, Nat.zero_le _, rfl, rfl⟩
  case round =>
    obtain ⟨k, hk, rfl, HA⟩ := hrel
    by_cases hlt : k < s.size
    · go_wp2
      · go_ret; exact ⟨ret_bool (name_stop s k hlt ‹_›), rfl⟩
      · go_round
        case rel => exact ⟨k + 1, by omega, by go_num, letters_go s k hlt HA.out (by omega) (by omega)⟩
        case measure => simp [intOf]; omega
      · go_ret; exact ⟨ret_bool (name_stop s k hlt (Or.inl ‹_›)), rfl⟩
    · go_wp2
      all_goals
        go_ret
        refine ⟨ret_bool ?_, rfl⟩
        rw [name_end s k hlt HA.out]
        go_light
        first | (simp [*]; done) | (simp; omega)

set_option maxHeartbeats 400000 in
theorem goodValue_any (k n : Int) (s : ByteArray) (w : World) :
    Calls Tryd.prog 51 #[.agg #[.int .i64 k, .int .i64 n, .string s]] w fun e w' => e = .returned (.bool (valOk k n s)) ∧ Below w.heap.size w w' := by
  go_enter Tryd.func51, Tryd.ntmps51
  go_wp2
  all_goals
    go_ret
    refine ⟨ret_bool ?_, (Below.refl _ _).alloc (Nat.le_refl _) _⟩
    go_light
    simp_all [valOk]

set_option maxHeartbeats 400000 in
theorem value_any (k n : Int) (s : ByteArray) (w : World) :
    Calls Tryd.prog 33 #[.agg #[.int .i64 k, .int .i64 n, .string s]] w fun e w' => e = .returned (.bool (valOk k n s)) ∧ Below w.heap.size w w' := by
  go_enter Tryd.func33, Tryd.ntmps33
  go_wp2
  all_goals
    go_ret
    refine ⟨ret_bool ?_, (Below.refl _ _).alloc (Nat.le_refl _) _⟩
    go_light
    simp_all [valOk]

end Go.Proofs.YtecnfgikbmcgoaaDoor
