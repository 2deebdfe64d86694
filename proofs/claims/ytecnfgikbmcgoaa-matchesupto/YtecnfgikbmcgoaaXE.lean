import Derived.Test.YtecnfgikbmcgoaaXD
import Derived.Test.YtecnfgikbmcgoaaMt
import Derived.Deep.RegionHeld3
import Derived.Deep.QuietTactic
import Derived.BigQuiet
namespace Go.Proofs.Ytecnfgikbmcgoaa
open Go.RowKit

theorem Lets_s (wz : World) (a : ByteArray) (y k n : Int) (s : ByteArray) (k' n' : Int) (s' : ByteArray) (w : World) (hw : wayOk y k n s = true) (hs : s.size ≤ 64) (hs' : s'.size ≤ 33) (h : Gr wz w) :
    Calls Try.prog 39 #[.agg #[.string a, .int .i64 y, .int .i64 k, .int .i64 n, .string s], .agg #[.int .i64 k', .int .i64 n', .string s']] w fun e w' => e = .returned (.bool (lets y k n s k' n' s')) ∧ Gr wz w' :=
  (Lets_any a y k n s k' n' s' w hw hs hs').mono fun _ _ ⟨h1, h2⟩ => ⟨h1, Gr.call h h2⟩
set_option maxRecDepth 100000 in
set_option maxHeartbeats 4000000 in
theorem refMatches_any (l : List Atr) (f : List Wnt) (b off cap b' off' cap' : Nat) (w : World) (hl : l.length ≤ maxLen) (hb : b < w.heap.size) (hat : AttrsAt w b off l) (hs : ∀ z ∈ l, z.s.size ≤ 33)
    (hl' : f.length ≤ maxLen) (hb' : b' < w.heap.size) (hat' : WantsAt w b' off' f) (hx : ∀ x ∈ f, wayOk x.y x.k x.n x.s = true ∧ x.s.size ≤ 64) :
    Calls Try.prog 17 #[.slice (some ⟨b, off, none⟩) l.length cap, .slice (some ⟨b', off', none⟩) f.length cap'] w fun e w' => e = .returned (.bool (f.all fun x => l.any (hit x))) ∧ Gr w w' := by
  unfold maxLen at hl hl'
  have HA : Hid (AttrsAt w b off l) := hat
  have HA' : Hid (WantsAt w b' off' f) := hat'
  have HS : Hid (∀ z ∈ l, z.s.size ≤ 33) := hs
  have HX : Hid (∀ x ∈ f, wayOk x.y x.k x.n x.s = true ∧ x.s.size ≤ 64) := hx
  clear hat hat' hs hx
  go_enter Try.func17, Try.ntmps17
  go_wp2_with fail
  go_loopw [5] (fun i wr => ∃ k : Nat, k ≤ f.length ∧ i = .int .i64 k ∧ Gr w wr ∧ Hid ((f.take k).all (fun x => l.any (hit x)) = true)) (fun i _ => f.length - (intOf i).toNat)
  case atStart => exact ⟨0, Nat.zero_le _, rfl, Gr.refl _, rfl⟩
  case round =>
    obtain ⟨k, hk, rfl, gr, HP⟩ := hrel
    by_cases hlt : k < f.length
    · go_wp2_with fail
      go_loopw [6, 7] (fun fb i wr => ∃ (q : Nat) (c : Bool), q ≤ l.length ∧ i = .int .i64 q ∧ fb = .bool c ∧ Gr w wr ∧ Hid (c = (l.take q).any (hit (wat f k)))) (fun _ i _ => l.length - (intOf i).toNat)
      case atStart => exact ⟨0, false, Nat.zero_le _, rfl, rfl, gr, rfl⟩
      case round =>
        obtain ⟨q, c, hq, rfl, rfl, gq, HQ⟩ := hrel
        by_cases hqt : q < l.length
        · obtain ⟨c1, c2, c3, c4, c5⟩ := (HA'.out.gr gq hb') k hlt
          obtain ⟨d1, d2, d3, d4⟩ := (HA.out.gr gq hb) q hqt
          have e1 : (0 : Int) ≤ (k : Int) := by omega
          have e2 : (k : Int) < (f.length : Int) := by omega
          have e3 : (0 : Int) ≤ (q : Int) := by omega
          have e4 : (q : Int) < (l.length : Int) := by omega
          have HN : Hid ((l.take (q + 1)).any (hit (wat f k)) = ((l.take q).any (hit (wat f k)) || hit (wat f k) (aat l q))) := any_take _ l q dA hqt
          have T : Hid (∀ w', Gr wr w' → (Gr wr w' ∧ w'.cell? ⟨b', off' + k * 5, none⟩ = some (.string (wat f k).a) ∧ w'.cell? ⟨b', off' + k * 5 + 1, none⟩ = some (.int .i64 (wat f k).y) ∧ w'.cell? ⟨b', off' + k * 5 + 1 + 1, none⟩ = some (.int .i64 (wat f k).k) ∧ w'.cell? ⟨b', off' + k * 5 + 1 + 1 + 1, none⟩ = some (.int .i64 (wat f k).n) ∧ w'.cell? ⟨b', off' + k * 5 + 1 + 1 + 1 + 1, none⟩ = some (.string (wat f k).s) ∧ w'.cell? ⟨b, off + q * 4, none⟩ = some (.string (aat l q).a) ∧ w'.cell? ⟨b, off + q * 4 + 1, none⟩ = some (.int .i64 (aat l q).k) ∧ w'.cell? ⟨b, off + q * 4 + 1 + 1, none⟩ = some (.int .i64 (aat l q).n) ∧ w'.cell? ⟨b, off + q * 4 + 1 + 1 + 1, none⟩ = some (.string (aat l q).s))) := fun w' hg => by
            obtain ⟨c1, c2, c3, c4, c5⟩ := (HA'.out.gr (Gr.call gq hg) hb') k hlt
            obtain ⟨d1, d2, d3, d4⟩ := (HA.out.gr (Gr.call gq hg) hb) q hqt
            exact ⟨hg, c1, c2, c3, c4, c5, d1, d2, d3, d4⟩
          cases hn : ((aat l q).a.toList == (wat f k).a.toList)
          · have HH : Hid (hit (wat f k) (aat l q) = false) := by
              show _ = _
              rw [hit, hn]; rfl
            go_wp2_with fail
            go_quiet (fail)
            cases c
            · go_wp2
              go_roundw
              case rel => exact ⟨q + 1, false, by omega, by go_num, rfl, gq.drewN _, by show _ = _; rw [HN.out, ← HQ.out, HH.out]; rfl⟩
              case measure => simp [intOf]; omega
            · go_wp2
              go_roundw
              case rel => exact ⟨q + 1, true, by omega, by go_num, rfl, gq.drewN _, by show _ = _; rw [HN.out, ← HQ.out]; rfl⟩
              case measure => simp [intOf]; omega
          · have HH : Hid (hit (wat f k) (aat l q) = lets (wat f k).y (wat f k).k (wat f k).n (wat f k).s (aat l q).k (aat l q).n (aat l q).s) := by
              show _ = _
              rw [hit, hn]; rfl
            go_wp2_with fail
            go_region_held3 (fun w' => Gr wr w' ∧ w'.cell? ⟨b', off' + k * 5, none⟩ = some (.string (wat f k).a) ∧ w'.cell? ⟨b', off' + k * 5 + 1, none⟩ = some (.int .i64 (wat f k).y) ∧ w'.cell? ⟨b', off' + k * 5 + 1 + 1, none⟩ = some (.int .i64 (wat f k).k) ∧ w'.cell? ⟨b', off' + k * 5 + 1 + 1 + 1, none⟩ = some (.int .i64 (wat f k).n) ∧ w'.cell? ⟨b', off' + k * 5 + 1 + 1 + 1 + 1, none⟩ = some (.string (wat f k).s) ∧ w'.cell? ⟨b, off + q * 4, none⟩ = some (.string (aat l q).a) ∧ w'.cell? ⟨b, off + q * 4 + 1, none⟩ = some (.int .i64 (aat l q).k) ∧ w'.cell? ⟨b, off + q * 4 + 1 + 1, none⟩ = some (.int .i64 (aat l q).n) ∧ w'.cell? ⟨b, off + q * 4 + 1 + 1 + 1, none⟩ = some (.string (aat l q).s))
              (exact T.out _ (by first | exact Gr.refl _ | assumption | exact Gr.drew (Gr.refl _) | exact Gr.drew (by assumption))) (first | (go_at_call 39; refine (Lets_s wr _ _ _ _ _ _ _ _ _ (HX.out _ (wat_mem hlt)).1 (HX.out _ (wat_mem hlt)).2 (HS.out _ (aat_mem hqt)) (by exact (show Gr wr _ ∧ _ by assumption).1)).mono ?_; rintro e w4 ⟨rfl, g4⟩))
            have g5 := Gr.call gq g4
            clear g4
            cases c
            · go_wp2
              go_roundw
              case rel => exact ⟨q + 1, _, by omega, by go_num, rfl, g5, by show _ = _; rw [HN.out, ← HQ.out, HH.out]; rfl⟩
              case measure => simp [intOf]; omega
            · go_wp2
              go_roundw
              case rel => exact ⟨q + 1, true, by omega, by go_num, rfl, g5, by show _ = _; rw [HN.out, ← HQ.out]; rfl⟩
              case measure => simp [intOf]; omega
        · have HE : Hid (c = l.any (hit (wat f k))) := by
            show _ = _
            rw [HQ.out, List.take_of_length_le (by omega)]
          cases c
          · have HS : Hid ((f.all fun x => l.any (hit x)) = false) := by
              show _ = _
              exact all_stop _ f k dW hlt HE.out.symm
            go_wp2
            go_ret
            exact ⟨ret_bool (by rw [HS.out]), gq⟩
          · go_wp2
            go_roundw
            case rel => exact ⟨k + 1, by omega, by go_num, gq, all_snoc _ f k dW hlt HP.out HE.out.symm⟩
            case measure => simp [intOf]; omega
    · go_wp2
      go_ret
      exact ⟨ret_bool (by rw [all_end _ f k hlt HP.out]), gr⟩
end Go.Proofs.Ytecnfgikbmcgoaa
