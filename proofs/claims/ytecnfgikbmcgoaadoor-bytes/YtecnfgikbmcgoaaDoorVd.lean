import Derived.Test.YtecnfgikbmcgoaaDoorYA
import Derived.Test.YtecnfgikbmcgoaaDoorEvt
import Derived.Test.YtecnfgikbmcgoaaDoorWants
import Derived.Test.YtecnfgikbmcgoaaDoorLent
import Derived.Test.YtecnfgikbmcgoaaDoorLn
import Derived.Deep.RegionHeld3
namespace Go.Proofs.YtecnfgikbmcgoaaDoor
open Go.RowKit

theorem lawAttr_s' (wz : World) (a : ByteArray) (k n : Int) (s : ByteArray) (w : World) (h : Gr wz w) :
    Calls Tryd.prog 28 #[.agg #[.string a, .int .i64 k, .int .i64 n, .string s]] w fun e w' => e = .returned (.agg #[.string a, .int .i64 k, .int .i64 n, .string s]) ∧ Gr wz w' :=
  (lawAttr_any a k n s w).mono fun _ _ ⟨h1, h2⟩ => ⟨h1, Gr.call h h2⟩
set_option maxHeartbeats 1000000 in
theorem sameEvent_nil (ad ad' : Option Addr) (cap cap' : Nat) (w : World) : Calls Tryd.prog 15 #[.slice ad 0 cap, .slice ad' 0 cap'] w fun e w' => e = .returned (.bool true) ∧ Gr w w' := by
  go_enter Tryd.func15, Tryd.ntmps15
  go_wp2_with fail
  go_loopw [5] (fun kv wr => kv = .int .i64 0 ∧ wr = w) (fun _ _ => 0)
  case atStart => exact ⟨rfl, rfl⟩
  case round =>
    obtain ⟨rfl, rfl⟩ := hrel
    go_wp2_with fail
    go_ret
    exact ⟨rfl, Gr.refl _⟩
set_option maxRecDepth 100000 in
set_option maxHeartbeats 4000000 in
theorem sameEvent_any (l : List Atr) (ad ad' : Option Addr) (cap cap' : Nat) (w : World) (hl : l.length ≤ maxLen) (h : EvAt w ad l) (h' : EvAt w ad' l) :
    Calls Tryd.prog 15 #[.slice ad l.length cap, .slice ad' l.length cap'] w fun e w' => e = .returned (.bool true) ∧ Gr w w' := by
  by_cases hn : l = []
  · subst hn
    exact sameEvent_nil _ _ _ _ _
  rcases h with h | ⟨b, off, rfl, hb, hat⟩
  · exact absurd h hn
  rcases h' with h | ⟨b', off', rfl, hb', hat'⟩
  · exact absurd h hn
  have HAT := Hid.mk' hat
  have HAT' := Hid.mk' hat'
  clear hat hat' hn
  go_enter Tryd.func15, Tryd.ntmps15
  go_wp2_with fail
  go_loopw [5] (fun kv wr => ∃ q : Nat, q ≤ l.length ∧ kv = .int .i64 q ∧ Hid (Gr w wr)) (fun kv _ => l.length - (intOf kv).toNat)
  case atStart => exact ⟨0, by omega, rfl, Gr.refl _⟩
  case round =>
    obtain ⟨q, hq, rfl, G⟩ := hrel
    by_cases hlt : q < l.length
    · obtain ⟨d1, d2, d3, d4⟩ := HAT.out q hlt
      obtain ⟨e1, e2, e3, e4⟩ := HAT'.out q hlt
      have hbw : b < wr.heap.size := G.out.lt hb
      have hbw' : b' < wr.heap.size := G.out.lt hb'
      have ee : ∀ o, wr.cell? ⟨b, o, none⟩ = w.cell? ⟨b, o, none⟩ := fun o => G.out.cell (p := ⟨b, o, none⟩) hb
      have ee' : ∀ o, wr.cell? ⟨b', o, none⟩ = w.cell? ⟨b', o, none⟩ := fun o => G.out.cell (p := ⟨b', o, none⟩) hb'
      rw [← ee] at d1 d2 d3 d4
      rw [← ee'] at e1 e2 e3 e4
      clear ee ee'
      have hq1 : (q : Int) + 1 ≤ 9223372036854775807 := by unfold maxLen at hl; omega
      have hw1 : wrap64 ((q : Int) + 1) = (q : Int) + 1 := by unfold wrap64; omega
      have T : Hid (∀ w', Gr wr w' → Gr wr w' ∧ (w'.cell? ⟨b, off + q * 4, none⟩ = some (.string (aat l q).a) ∧ w'.cell? ⟨b, off + q * 4 + 1, none⟩ = some (.int .i64 (aat l q).k) ∧ w'.cell? ⟨b, off + q * 4 + 1 + 1, none⟩ = some (.int .i64 (aat l q).n) ∧ w'.cell? ⟨b, off + q * 4 + 1 + 1 + 1, none⟩ = some (.string (aat l q).s)) ∧ w'.cell? ⟨b', off' + q * 4, none⟩ = some (.string (aat l q).a) ∧ w'.cell? ⟨b', off' + q * 4 + 1, none⟩ = some (.int .i64 (aat l q).k) ∧ w'.cell? ⟨b', off' + q * 4 + 1 + 1, none⟩ = some (.int .i64 (aat l q).n) ∧ w'.cell? ⟨b', off' + q * 4 + 1 + 1 + 1, none⟩ = some (.string (aat l q).s)) := by
        intro w' g'
        have e := fun o => g'.cell (p := ⟨b, o, none⟩) hbw
        have e' := fun o => g'.cell (p := ⟨b', o, none⟩) hbw'
        rw [e, e, e, e, e', e', e', e']
        exact ⟨g', ⟨d1, d2, d3, d4⟩, e1, e2, e3, e4⟩
      go_wp2_with fail
      go_region_held3 (fun w' => Gr wr w' ∧ (w'.cell? ⟨b, off + q * 4, none⟩ = some (.string (aat l q).a) ∧ w'.cell? ⟨b, off + q * 4 + 1, none⟩ = some (.int .i64 (aat l q).k) ∧ w'.cell? ⟨b, off + q * 4 + 1 + 1, none⟩ = some (.int .i64 (aat l q).n) ∧ w'.cell? ⟨b, off + q * 4 + 1 + 1 + 1, none⟩ = some (.string (aat l q).s)) ∧ w'.cell? ⟨b', off' + q * 4, none⟩ = some (.string (aat l q).a) ∧ w'.cell? ⟨b', off' + q * 4 + 1, none⟩ = some (.int .i64 (aat l q).k) ∧ w'.cell? ⟨b', off' + q * 4 + 1 + 1, none⟩ = some (.int .i64 (aat l q).n) ∧ w'.cell? ⟨b', off' + q * 4 + 1 + 1 + 1, none⟩ = some (.string (aat l q).s))
        (exact T.out _ (by first | exact Gr.refl _ | assumption | exact Gr.drew (Gr.refl _) | exact Gr.drew (by assumption)))
        (first | (go_at_call 28; refine (lawAttr_s' wr _ _ _ _ _ (by exact (show Gr wr _ ∧ _ by assumption).1)).mono ?_; rintro e w4 ⟨rfl, g4⟩))
      all_goals
        have G5 := Hid.mk' (Gr.call G.out g4)
        clear g4
        go_wp2_with fail
        go_roundw
      case rel => exact ⟨q + 1, by omega, by go_num, G5⟩
      case measure => simp [intOf]; omega
    · have hq8 : q = l.length := by omega
      subst hq8
      go_wp2_with fail
      go_ret
      exact ⟨rfl, G.out⟩
end Go.Proofs.YtecnfgikbmcgoaaDoor
