import Derived.Test.YtecnfgikbmcgoaaWC
import Derived.Test.YtecnfgikbmcgoaaEvt
namespace Go.Proofs.Ytecnfgikbmcgoaa
open Go.RowKit

set_option maxHeartbeats 1000000 in
theorem answers_any (l : List Atr) (x : Wnt) (b off cap : Nat) (m : Int) (w : World) (hl : l.length ≤ maxLen) (hb : b < w.heap.size) (hat : AttrsAt w b off l) (hv : ∀ z ∈ l, valOk z.k z.n z.s = true) (hx : wOk x = true) (hM : Ml m w) :
    Calls Try.prog 49 #[.slice (some ⟨b, off, none⟩) l.length cap, .agg #[.string x.a, .int .i64 x.y, .int .i64 x.k, .int .i64 x.n, .string x.s]] w
      fun e w' => e = .returned (.bool (ans l x)) ∧ Gr w w' := by
  unfold maxLen at hl
  have HC : Hid (AttrsAt w b off l) := hat
  have HV : Hid (∀ z ∈ l, valOk z.k z.n z.s = true) := hv
  have HX : Hid (wayOk x.y x.k x.n x.s = true) := by
    show _ = _
    simp [wOk, wantOk] at hx; exact hx.2
  clear hat hv hx
  go_enter Try.func49, Try.ntmps49
  go_wp2
  go_loopw [9] (fun i wr => ∃ k : Nat, k ≤ l.length ∧ i = .int .i64 k ∧ Gr (w.alloc (.cells #[.string x.a, .int .i64 x.y, .int .i64 x.k, .int .i64 x.n, .string x.s] 67)) wr ∧ Hid (ans (l.drop k) x = ans l x)) (fun i _ => l.length - (intOf i).toNat)
  case atStart => exact ⟨0, Nat.zero_le _, rfl, Gr.refl _, rfl⟩
  case round =>
    obtain ⟨k, hk, rfl, g, HA⟩ := hrel
    have gw : Gr w wr := Gr.call ((Gr.refl w).alloc _) g
    by_cases hlt : k < l.length
    · obtain ⟨c1, c2, c3, c4⟩ := (HC.out.gr gw hb) k hlt
      have hb' := gw.lt hb
      have hzr : w.heap.size < wr.heap.size := g.lt (by simp)
      have x1 : wr.cell? ⟨w.heap.size, 0, none⟩ = some (.string x.a) := by rw [(bcell g).1 _ _ (by simp)]; simp [go_sem]
      have x2 : wr.cell? ⟨w.heap.size, 1, none⟩ = some (.int .i64 x.y) := by rw [(bcell g).1 _ _ (by simp)]; simp [go_sem]
      have x3 : wr.cell? ⟨w.heap.size, 1 + 1, none⟩ = some (.int .i64 x.k) := by rw [(bcell g).1 _ _ (by simp)]; simp [go_sem]
      have x4 : wr.cell? ⟨w.heap.size, 1 + 1 + 1, none⟩ = some (.int .i64 x.n) := by rw [(bcell g).1 _ _ (by simp)]; simp [go_sem]
      have x5 : wr.cell? ⟨w.heap.size, 1 + 1 + 1 + 1, none⟩ = some (.string x.s) := by rw [(bcell g).1 _ _ (by simp)]; simp [go_sem]
      cases hn : ((aat l k).a.toList == x.a.toList)
      · have HN := ans_next (x := x) k hlt hn
        have HN' : Hid (ans (l.drop (k + 1)) x = ans l x) := by
          show _ = _
          rw [← HN]; exact HA.out
        clear HN
        go_wp2_with fail
        clear c1 c2 c3 c4 x1 x2 x3 x4 x5
        go_roundw
        case rel => exact ⟨k + 1, by omega, by go_num, g.alloc _, HN'⟩
        case measure => simp [intOf]; omega
      · have HN : Hid (ans l x = lets x.y x.k x.n x.s (aat l k).k (aat l k).n (aat l k).s) := by
          show _ = _
          rw [← HA.out]; exact ans_here k hlt hn
        go_wp2_with fail
        refine (letsBy_any _ _ _ _ _ _ _ _ m _ HX.out (HV.out _ (aat_mem hlt)) ((gw.ml hM).alloc _)).mono ?_
        rintro e w1 ⟨rfl, hb1⟩
        go_wp2_with fail
        go_ret
        exact ⟨ret_bool (by rw [HN.out]), Gr.call (gw.alloc _) hb1⟩
    · go_wp2
      go_ret
      refine ⟨ret_bool ?_, gw⟩
      rw [← HA.out, ans_end k hlt]

set_option maxHeartbeats 1000000 in
theorem matches_any (f : List Wnt) (l : List Atr) (b' off' cap' b off cap : Nat) (m : Int) (w : World) (hf : f.length ≤ maxLen) (hl : l.length ≤ maxLen) (hb' : b' < w.heap.size) (hat' : WantsAt w b' off' f) (hb : b < w.heap.size) (hat : AttrsAt w b off l)
    (hv : ∀ z ∈ l, valOk z.k z.n z.s = true) (hx : ∀ x ∈ f, wOk x = true) (hM : Ml m w) :
    Calls Try.prog 31 #[.slice (some ⟨b', off', none⟩) f.length cap', .slice (some ⟨b, off, none⟩) l.length cap] w
      fun e w' => e = .returned (.bool (mat l f)) ∧ Gr w w' := by
  have HL : Hid (l.length ≤ maxLen) := hl
  unfold maxLen at hl hf
  have HC : Hid (AttrsAt w b off l) := hat
  have HC' : Hid (WantsAt w b' off' f) := hat'
  have HV : Hid (∀ z ∈ l, valOk z.k z.n z.s = true) := hv
  have HX : Hid (∀ x ∈ f, wOk x = true) := hx
  clear hat hv hx hat'
  go_enter Try.func31, Try.ntmps31
  go_wp2
  go_loopw [9] (fun i wr => ∃ k : Nat, k ≤ f.length ∧ i = .int .i64 k ∧ Gr w wr ∧ Hid ((f.take k).all (ans l) = true)) (fun i _ => f.length - (intOf i).toNat)
  case atStart => exact ⟨0, Nat.zero_le _, rfl, Gr.refl _, rfl⟩
  case round =>
    obtain ⟨k, hk, rfl, g, HA⟩ := hrel
    by_cases hlt : k < f.length
    · obtain ⟨c1, c2, c3, c4, c5⟩ := (HC'.out.gr g hb') k hlt
      have hbr := g.lt hb'
      go_wp2_with fail
      refine (answers_any l (wat f k) _ _ _ m _ HL.out (Gr.lt (g.alloc _) hb) (HC.out.gr (g.alloc _) hb) HV.out (HX.out _ (wat_mem hlt)) ((g.ml hM).alloc _)).mono ?_
      rintro e w1 ⟨rfl, hb1⟩
      have g1 : Gr w w1 := Gr.call (g.alloc _) hb1
      clear c1 c2 c3 c4 c5
      go_wp2
      · go_ret
        refine ⟨ret_bool (all_stop _ f k dW hlt ?_).symm, g1⟩
        simpa [wat] using ‹(!(ans l _)) = true›
      · go_roundw
        case rel =>
          refine ⟨k + 1, by omega, by go_num, g1, all_snoc _ f k dW hlt HA.out ?_⟩
          simpa [wat] using ‹(!(ans l _)) = false›
        case measure => simp [intOf]; omega
    · go_wp2
      go_ret
      exact ⟨ret_bool (all_end _ f k hlt HA.out).symm, g⟩
end Go.Proofs.Ytecnfgikbmcgoaa
