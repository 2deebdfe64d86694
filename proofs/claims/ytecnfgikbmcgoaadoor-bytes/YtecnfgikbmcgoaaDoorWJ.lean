import Derived.Test.YtecnfgikbmcgoaaDoorWB
import Derived.Test.YtecnfgikbmcgoaaDoorEvt
import Derived.Deep.QuietTactic
import Derived.BigQuiet
namespace Go.Proofs.YtecnfgikbmcgoaaDoor
open Go.RowKit

set_option maxHeartbeats 1000000 in
theorem refCheck_any (l : List Wnt) (b off cap : Nat) (w : World) (hl : l.length ≤ maxLen) (hb : b < w.heap.size) (hat : WantsAt w b off l) (hwf : ∀ x ∈ l, Wnt.Wf x) :
    Calls Tryd.prog 13 #[.slice (some ⟨b, off, none⟩) l.length cap] w fun e w' => e = .returned (.int .i64 (chk l)) ∧ Gr w w' := by
  unfold maxLen at hl
  have HC : Hid (WantsAt w b off l) := hat
  have HF : Hid (∀ x ∈ l, Wnt.Wf x) := hwf
  clear hat hwf
  go_enter Tryd.func13, Tryd.ntmps13
  go_wp2
  · go_ret; exact ⟨ret_int (chk_size ‹_›).symm, Gr.refl _⟩
  · go_loopw [3] (fun i wr => ∃ k : Nat, k ≤ l.length ∧ i = .int .i64 k ∧ Gr w wr ∧ Hid ((l.take k).all wOk = true)) (fun i _ => l.length - (intOf i).toNat)
    case atStart => exact ⟨0, Nat.zero_le _, rfl, Gr.refl _, rfl⟩
    case round =>
      obtain ⟨k, hk, rfl, g, HA⟩ := hrel
      by_cases hlt : k < l.length
      · obtain ⟨c1, c2, c3, c4, c5⟩ := (HC.out.gr g hb) k hlt
        go_wp2_with fail
        refine (WantOf_any _ _ _ _ _ _ (HF.out _ (wat_mem hlt)).a).mono ?_
        rintro e w1 ⟨rfl, hb1⟩
        have g1 : Gr w w1 := Gr.call g hb1
        clear c1 c2 c3 c4 c5
        go_wp2
        · go_ret
          refine ⟨ret_int (chk_stop k hlt ?_).symm, g1⟩
          simpa [wOk] using ‹(!wantOk _ _ _ _ _) = true›
        · go_roundw
          case rel =>
            refine ⟨k + 1, by omega, by go_num, g1, all_snoc wOk l k dW hlt HA.out ?_⟩
            simpa [wOk, wat] using ‹(!wantOk _ _ _ _ _) = false›
          case measure => simp [intOf]; omega
      · go_wp2
        go_ret
        exact ⟨ret_int (chk_end k hlt (by omega) (by omega) HA.out).symm, g⟩
  · go_ret; exact ⟨ret_int (chk_size (Or.inl ‹_›)).symm, Gr.refl _⟩

set_option maxHeartbeats 2000000 in
theorem CheckEvent_any (l : List Atr) (b off cap : Nat) (w : World) (hl : l.length ≤ maxLen) (hb : b < w.heap.size) (hat : AttrsAt w b off l) (hwf : ∀ x ∈ l, Atr.Wf x) :
    Calls Tryd.prog 26 #[.slice (some ⟨b, off, none⟩) l.length cap] w fun e w' => e = .returned (.int .i64 (chkE l)) ∧ Gr w w' := by
  unfold maxLen at hl
  have HC : Hid (AttrsAt w b off l) := hat
  have HF : Hid (∀ x ∈ l, Atr.Wf x) := hwf
  clear hat hwf
  go_enter Tryd.func26, Tryd.ntmps26
  go_wp2
  · go_ret; exact ⟨ret_int (chkE_size ‹_›).symm, Gr.refl _⟩
  · go_loopw [15] (fun i wr => ∃ k : Nat, k ≤ l.length ∧ i = .int .i64 k ∧ Gr w wr ∧ Hid ((List.range k).all (okAt l) = true)) (fun i _ => l.length - (intOf i).toNat)
    case atStart => exact ⟨0, Nat.zero_le _, rfl, Gr.refl _, rfl⟩
    case round =>
      obtain ⟨k, hk, rfl, g, HA⟩ := hrel
      by_cases hlt : k < l.length
      · obtain ⟨c1, c2, c3, c4⟩ := (HC.out.gr g hb) k hlt
        have hb' := g.lt hb
        cases hn : nameOk (aat l k).a
        · go_wp2_with (go_at_call 50; refine (goodName_any _ _ (HF.out _ (aat_mem hlt)).a).mono ?_; rw [hn]; rintro e w' ⟨rfl, rfl⟩)
          go_ret
          exact ⟨ret_int (chkE_stop k hlt (by simp [okAt, hn])).symm, g.alloc _⟩
        · cases hv : valOk (aat l k).k (aat l k).n (aat l k).s
          · go_wp2_with (first | (go_at_call 50; refine (goodName_any _ _ (HF.out _ (aat_mem hlt)).a).mono ?_; rw [hn]; rintro e w' ⟨rfl, rfl⟩) | (go_at_call 51; refine (goodValue_any _ _ _ _).mono ?_; rw [hv]; rintro e w1 ⟨rfl, hb1⟩))
            go_ret
            exact ⟨ret_int (chkE_stop k hlt (by simp [okAt, hv])).symm, Gr.call (g.alloc _) hb1⟩
          · go_wp2_with (first | (go_at_call 50; refine (goodName_any _ _ (HF.out _ (aat_mem hlt)).a).mono ?_; rw [hn]; rintro e w' ⟨rfl, rfl⟩) | (go_at_call 51; refine (goodValue_any _ _ _ _).mono ?_; rw [hv]; rintro e w1 ⟨rfl, hb1⟩; obtain ⟨hc1, hf1⟩ := bcell hb1))
            have gz : Gr w w1 := Gr.call (g.alloc _) hb1
            have hbz := gz.lt hb
            have q1 : w1.cell? ⟨wr.heap.size, 0, none⟩ = some (.string (aat l k).a) := by rw [hc1 _ _ (by simp)]; simp [go_sem]
            clear hc1 hf1 c1 c2 c3 c4
            by_cases hk0 : k = 0
            · have hd : decide (0 < (k : Int)) = false := by simp; omega
              have HO : Hid (okAt l k = true) := by
                show _ = _
                simp only [okAt, hn, hv, show (k == 0) = true by simpa using hk0, Bool.true_or, Bool.and_self]
              go_quiet (fail)
              go_wp2
              go_roundw
              case rel => exact ⟨k + 1, by omega, by subst hk0; rfl, gz.drewN _, range_snoc k HA.out HO.out⟩
              case measure => simp [intOf]; omega
            · obtain ⟨p1, p2, p3, p4⟩ := (HC.out.gr gz hb) (k - 1) (by omega)
              have hi0 : 0 < k := by omega
              have hd : decide (0 < k) = true := by simpa using hi0
              clear hk0
              have hw1 : IntKind.i64.wrap ((k : Int) - 1) = ((k - 1 : Nat) : Int) := by rw [IntWalk.i64_in _ (by omega)]; omega
              have hi1 : (0 : Int) < (k : Int) := by omega
              have hi4 : ((k - 1 : Nat) : Int) < (l.length : Int) := by omega
              have hi5 : k - 1 < l.length := by omega
              have hi2 : (0 : Int) ≤ (k : Int) - 1 := by omega
              have hi3 : (k : Int) - 1 < (l.length : Int) := by omega
              have HO : Hid (okAt l k = Op.bytesLess (aat l (k - 1)).a.toList (aat l k).a.toList) := by
                show _ = _
                simp [okAt, hn, hv, show (k == 0) = false by simp; omega]
              go_quiet (fail)
              go_wp2
              · go_ret
                refine ⟨ret_int (chkE_stop k hlt ?_).symm, gz.drewN _⟩
                rw [HO.out]
                simpa using ‹(!Op.bytesLess _ _) = true›
              · go_roundw
                case rel =>
                  refine ⟨k + 1, by omega, by go_num, gz.drewN _, range_snoc k HA.out ?_⟩
                  rw [HO.out]
                  simpa using ‹(!Op.bytesLess _ _) = false›
                case measure => simp [intOf]; omega
      · go_wp2
        go_ret
        exact ⟨ret_int (chkE_end k hlt hk (by omega) (by omega) HA.out).symm, g⟩
  · go_ret; exact ⟨ret_int (chkE_size (Or.inl ‹_›)).symm, Gr.refl _⟩
end Go.Proofs.YtecnfgikbmcgoaaDoor
