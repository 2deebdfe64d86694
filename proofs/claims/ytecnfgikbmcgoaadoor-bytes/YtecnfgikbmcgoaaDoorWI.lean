import Derived.Test.YtecnfgikbmcgoaaDoorWB
import Derived.Test.YtecnfgikbmcgoaaDoorMem
namespace Go.Proofs.YtecnfgikbmcgoaaDoor
open Go.RowKit

set_option maxHeartbeats 1000000 in
theorem Check_any (l : List Wnt) (b off cap : Nat) (w : World) (hl : l.length ≤ maxLen) (hb : b < w.heap.size) (hat : WantsAt w b off l) (hwf : ∀ x ∈ l, Wnt.Wf x) :
    Calls Tryd.prog 29 #[.slice (some ⟨b, off, none⟩) l.length cap] w fun e w' => e = .returned (.int .i64 (chk l)) ∧ Gr w w' := by
  unfold maxLen at hl
  have HC : Hid (WantsAt w b off l) := hat
  have HF : Hid (∀ x ∈ l, Wnt.Wf x) := hwf
  clear hat hwf
  go_enter Tryd.func29, Tryd.ntmps29
  go_wp2
  · go_ret; exact ⟨ret_int (chk_size ‹_›).symm, Gr.refl _⟩
  · go_loopw [15] (fun i wr => ∃ k : Nat, k ≤ l.length ∧ i = .int .i64 k ∧ Gr w wr ∧ Hid ((l.take k).all wOk = true)) (fun i _ => l.length - (intOf i).toNat)
    case atStart => exact ⟨0, Nat.zero_le _, rfl, Gr.refl _, rfl⟩
    case round =>
      obtain ⟨k, hk, rfl, g, HA⟩ := hrel
      by_cases hlt : k < l.length
      · obtain ⟨c1, c2, c3, c4, c5⟩ := (HC.out.gr g hb) k hlt
        have hb' := g.lt hb
        go_wp2_with fail
        refine (goodWant_any _ _ _ _ _ _ (HF.out _ (wat_mem hlt)).a).mono ?_
        rintro e w1 ⟨rfl, hb1⟩
        have g1 : Gr w w1 := Gr.call (g.alloc _) hb1
        clear c1 c2 c3 c4 c5
        go_wp2
        · go_ret
          refine ⟨ret_int (chk_stop k hlt ?_).symm, g1⟩
          simpa [wOk] using ‹(!wantOk _ _ _ _ _) = true›
        · go_roundw
          case rel =>
            refine ⟨k + 1, by omega, by go_num, g1, all_snoc wOk l k dW hlt HA.out ?_⟩
            simpa [wOk, wat] using ‹(!wantOk _ _ _ _ _) = false›
          case measure => simp [intOf]; omega
      · go_wp2
        go_ret
        exact ⟨ret_int (chk_end k hlt (by omega) (by omega) HA.out).symm, g⟩
  · go_ret; exact ⟨ret_int (chk_size (Or.inl ‹_›)).symm, Gr.refl _⟩
end Go.Proofs.YtecnfgikbmcgoaaDoor
