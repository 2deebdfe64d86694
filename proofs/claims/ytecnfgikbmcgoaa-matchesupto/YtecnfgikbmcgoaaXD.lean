import Derived.Test.YtecnfgikbmcgoaaXC
import Derived.Test.YtecnfgikbmcgoaaWJ
import Derived.Test.YtecnfgikbmcgoaaWM
namespace Go.Proofs.Ytecnfgikbmcgoaa
open Go.RowKit

theorem any_take {α : Type} (p : α → Bool) (l : List α) (k : Nat) (d : α) (h : k < l.length) : (l.take (k + 1)).any p = ((l.take k).any p || p (l.getD k d)) := by
  rw [List.take_succ_eq_append_getElem h, List.any_append]
  simp [List.getD_eq_getElem?_getD, List.getElem?_eq_getElem h]

set_option maxHeartbeats 1000000 in
theorem refCheck_nil (ad : Option Addr) (cap : Nat) (w : World) : Calls Try.prog 16 #[.slice ad 0 cap] w fun e w' => e = .returned (.int .i64 2) ∧ w' = w := by
  go_enter Try.func16, Try.ntmps16
  go_wp2
  go_ret
  exact ⟨rfl, rfl⟩
theorem refCheck_ad (l : List Wnt) (ad : Option Addr) (cap : Nat) (w : World) (hl : l.length ≤ maxLen) (h : FiAt w ad l) (hwf : ∀ x ∈ l, Wnt.Wf x) :
    Calls Try.prog 16 #[.slice ad l.length cap] w fun e w' => e = .returned (.int .i64 (chk l)) ∧ Gr w w' := by
  rcases h with rfl | ⟨b, off, rfl, hb, hat⟩
  · exact (refCheck_nil ad cap w).mono fun e w' ⟨h1, h2⟩ => ⟨h1, by rw [h2]; exact Gr.refl _⟩
  · exact refCheck_any l b off cap w hl hb hat hwf

set_option maxRecDepth 100000 in
set_option maxHeartbeats 4000000 in
theorem refCovers_any (f g : List Wnt) (ad ad' : Option Addr) (cap cap' : Nat) (w : World) (hl : f.length ≤ maxLen) (h : FiAt w ad f) (hwf : ∀ x ∈ f, Wnt.Wf x)
    (hl' : g.length ≤ maxLen) (h' : FiAt w ad' g) (hwf' : ∀ x ∈ g, Wnt.Wf x) :
    Calls Try.prog 25 #[.slice ad f.length cap, .slice ad' g.length cap'] w fun e w' => e = .returned (.bool (cov f g)) ∧ Gr w w' := by
  have HC : Hid (FiAt w ad f) := h
  have HF : Hid (∀ x ∈ f, Wnt.Wf x) := hwf
  have HC' : Hid (FiAt w ad' g) := h'
  have HF' : Hid (∀ x ∈ g, Wnt.Wf x) := hwf'
  have HL : Hid (f.length ≤ maxLen) := hl
  have HL' : Hid (g.length ≤ maxLen) := hl'
  unfold maxLen at hl hl'
  clear h hwf h' hwf'
  cases h1 : filterOk f
  · have Hc : Hid (chk f = 2) := by
      show _ = _
      simp [chk, h1]
    have Hr : Hid (cov f g = false) := by
      show _ = _
      simp [cov, h1]
    go_enter Try.func25, Try.ntmps25
    go_wp2_with fail
    refine (refCheck_ad _ _ _ _ HL.out HC.out HF.out).mono ?_
    rw [Hc.out]
    rintro e w1 ⟨rfl, hb1⟩
    go_wp2_with fail
    go_ret
    exact ⟨ret_bool (by rw [Hr.out]), hb1⟩
  have Hc : Hid (chk f = 0) := by
    show _ = _
    simp [chk, h1]
  cases h2 : filterOk g
  · have Hc' : Hid (chk g = 2) := by
      show _ = _
      simp [chk, h2]
    have Hr : Hid (cov f g = false) := by
      show _ = _
      simp [cov, h2]
    go_enter Try.func25, Try.ntmps25
    go_wp2_with fail
    refine (refCheck_ad _ _ _ _ HL.out HC.out HF.out).mono ?_
    rw [Hc.out]
    rintro e w1 ⟨rfl, hb1⟩
    go_wp2_with fail
    refine (refCheck_ad _ _ _ _ HL'.out (HC'.out.gr hb1) HF'.out).mono ?_
    rw [Hc'.out]
    rintro e w2 ⟨rfl, hb2⟩
    go_wp2_with fail
    go_ret
    exact ⟨ret_bool (by rw [Hr.out]), Gr.call hb1 hb2⟩
  have Hc' : Hid (chk g = 0) := by
    show _ = _
    simp [chk, h2]
  have Hr : Hid (cov f g = f.all fun x => g.any fun v => impW v x) := by
    show _ = _
    simp [cov, h1, h2]
  obtain ⟨b, off, rfl, hb, hat⟩ : ∃ b off, ad = some ⟨b, off, none⟩ ∧ b < w.heap.size ∧ WantsAt w b off f := by
    rcases HC.out with h | h
    · exact absurd h (fi_ok_of h1).2
    · exact h
  obtain ⟨b', off', rfl, hb', hat'⟩ : ∃ b off, ad' = some ⟨b, off, none⟩ ∧ b < w.heap.size ∧ WantsAt w b off g := by
    rcases HC'.out with h | h
    · exact absurd h (fi_ok_of h2).2
    · exact h
  have HA : Hid (WantsAt w b off f) := hat
  have HA' : Hid (WantsAt w b' off' g) := hat'
  clear hat hat'
  go_enter Try.func25, Try.ntmps25
  go_wp2_with fail
  refine (refCheck_ad _ _ _ _ HL.out HC.out HF.out).mono ?_
  rw [Hc.out]
  rintro e w1 ⟨rfl, hb1⟩
  go_wp2_with fail
  refine (refCheck_ad _ _ _ _ HL'.out (HC'.out.gr hb1) HF'.out).mono ?_
  rw [Hc'.out]
  rintro e w2 ⟨rfl, hb2⟩
  have g2 : Gr w w2 := Gr.call hb1 hb2
  clear hb1 hb2
  go_wp2_with fail
  go_loopw [5] (fun i wr => ∃ k : Nat, k ≤ f.length ∧ i = .int .i64 k ∧ Gr w wr ∧ Hid ((f.take k).all (fun x => g.any fun v => impW v x) = true)) (fun i _ => f.length - (intOf i).toNat)
  case atStart => exact ⟨0, Nat.zero_le _, rfl, g2, rfl⟩
  case round =>
    obtain ⟨k, hk, rfl, gr, HP⟩ := hrel
    by_cases hlt : k < f.length
    · go_wp2_with fail
      go_loopw [6, 7] (fun fb i wr => ∃ (q : Nat) (c : Bool), q ≤ g.length ∧ i = .int .i64 q ∧ fb = .bool c ∧ Gr w wr ∧ Hid (c = (g.take q).any (fun v => impW v (wat f k)))) (fun _ i _ => g.length - (intOf i).toNat)
      case atStart => exact ⟨0, false, Nat.zero_le _, rfl, rfl, gr, rfl⟩
      case round =>
        obtain ⟨q, c, hq, rfl, rfl, gq, HQ⟩ := hrel
        by_cases hqt : q < g.length
        · obtain ⟨c1, c2, c3, c4, c5⟩ := (HA.out.gr gq hb) k hlt
          obtain ⟨d1, d2, d3, d4, d5⟩ := (HA'.out.gr gq hb') q hqt
          have e1 : (0 : Int) ≤ (k : Int) := by omega
          have e2 : (k : Int) < (f.length : Int) := by omega
          have e3 : (0 : Int) ≤ (q : Int) := by omega
          have e4 : (q : Int) < (g.length : Int) := by omega
          have HN : Hid ((g.take (q + 1)).any (fun v => impW v (wat f k)) = ((g.take q).any (fun v => impW v (wat f k)) || impW (wat g q) (wat f k))) := any_take _ g q dW hqt
          go_wp2_with fail
          first | go_region_with (go_at_call 24; refine (refImplies_any _ _ _ _ _ _ _ _ _ _ _ (HF'.out _ (wat_mem hqt)).a (HF.out _ (wat_mem hlt)).a (HF'.out _ (wat_mem hqt)).n1 (HF'.out _ (wat_mem hqt)).n2 (HF.out _ (wat_mem hlt)).n1 (HF.out _ (wat_mem hlt)).n2).mono ?_; rintro e w4 ⟨rfl, hb4⟩) | fail
          all_goals
            have g4 : Gr w w4 := Gr.call gq.drew hb4
            clear hb4 c1 c2 c3 c4 c5 d1 d2 d3 d4 d5
            cases c
            · go_wp2
              go_roundw
              case rel => exact ⟨q + 1, impW (wat g q) (wat f k), by omega, by go_num, rfl, g4, by show _ = _; rw [HN.out, ← HQ.out]; rfl⟩
              case measure => simp [intOf]; omega
            · go_wp2
              go_roundw
              case rel => exact ⟨q + 1, true, by omega, by go_num, rfl, g4, by show _ = _; rw [HN.out, ← HQ.out]; rfl⟩
              case measure => simp [intOf]; omega
        · have HE : Hid (c = g.any fun v => impW v (wat f k)) := by
            show _ = _
            rw [HQ.out, List.take_of_length_le (by omega)]
          cases c
          · have HS : Hid (cov f g = false) := by
              show _ = _
              rw [Hr.out]
              exact all_stop _ f k dW hlt HE.out.symm
            go_wp2
            go_ret
            exact ⟨ret_bool (by rw [HS.out]), gq⟩
          · go_wp2
            go_roundw
            case rel => exact ⟨k + 1, by omega, by go_num, gq, all_snoc _ f k dW hlt HP.out HE.out.symm⟩
            case measure => simp [intOf]; omega
    · go_wp2
      go_ret
      refine ⟨ret_bool ?_, gr⟩
      rw [Hr.out, all_end _ f k hlt HP.out]
end Go.Proofs.Ytecnfgikbmcgoaa
