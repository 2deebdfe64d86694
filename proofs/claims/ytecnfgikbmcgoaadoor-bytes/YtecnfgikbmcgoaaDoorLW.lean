import Derived.Test.YtecnfgikbmcgoaaDoorZD
namespace Go.Proofs.YtecnfgikbmcgoaaDoor
open Go.RowKit

/-- The lent box, whole. -/
structure Lb (w : World) (base LB : Nat) (Es : List EE) (Fs : List FE) : Prop where
  ex : ∃ ve vew vf vw, LnE w base LB ve vew vf vw Es ∧ LnF w base LB ve vew vf vw Fs
  be : ∀ e ∈ Es, e.f.length ≤ 2932031007402
  bf : ∀ e ∈ Fs, e.f.length ≤ 2513169434845
theorem Lb.gr {w w' : World} {base LB : Nat} {Es : List EE} {Fs : List FE} (h : Lb w base LB Es Fs) (g : Gr w w') : Lb w' base LB Es Fs := by
  obtain ⟨⟨ve, vew, vf, vw, h1, h2⟩, b1, b2⟩ := h
  exact ⟨⟨ve, vew, vf, vw, h1.gr g, h2.gr g⟩, b1, b2⟩
theorem Lb.le {w : World} {base LB : Nat} {Es : List EE} {Fs : List FE} (h : Lb w base LB Es Fs) : base ≤ w.heap.size := by
  obtain ⟨⟨_, _, _, _, h1, _⟩, _⟩ := h
  exact h1.le
/-- What touches no block of the box's types leaves it alone. -/
theorem Lb.kp {ts : List TypeId} {w w' : World} {base LB : Nat} {Es : List EE} {Fs : List FE} (h : Lb w base LB Es Fs) (k : Kp ts base w w') (hn : ∀ t ∈ ts, ¬ t ∈ tsL) (hw : ¬ 69 ∈ ts) (ha : ¬ 84 ∈ ts) : Lb w' base LB Es Fs := by
  obtain ⟨⟨ve, vew, vf, vw, h1, h2⟩, b1, b2⟩ := h
  have q : ∀ t ∈ tsL, ¬ t ∈ ts := fun t ht hm => hn t hm ht
  have hb := k.kp _ _ _ _ h1.box (q _ (by decide))
  exact ⟨⟨ve, vew, vf, vw,
    ⟨h1.lb, Nat.le_trans h1.le k.size, hb, k.owns h1.ownf (q _ (by decide)), k.owns h1.ownw (q _ (by decide)), fun e he => ⟨(h1.outs e he).1, k.kp _ _ _ _ (h1.outs e he).2 (q _ (by decide))⟩, fun e he => ⟨(h1.args e he).1, (h1.args e he).2.1.kp k ha, (h1.args e he).2.2⟩, h1.nodup⟩,
    ⟨h2.lb, Nat.le_trans h2.le k.size, hb, k.owns h2.ownf (q _ (by decide)), k.owns h2.ownw (q _ (by decide)), fun e he => ⟨(h2.outs e he).1, k.kp _ _ _ _ (h2.outs e he).2 (q _ (by decide))⟩, fun e he => ⟨(h2.args e he).1, (h2.args e he).2.1.kp k hw, (h2.args e he).2.2⟩, h2.nodup⟩⟩, b1, b2⟩
def OutF (Fs : List FE) (ad : Option Addr) (f : List Wnt) : Prop := f = [] ∨ ∃ e ∈ Fs, e.f = f ∧ ad = some ⟨e.g, 0, none⟩
def OutE (Es : List EE) (ad : Option Addr) (f : List Atr) : Prop := f = [] ∨ ∃ e ∈ Es, e.f = f ∧ ad = some ⟨e.g, 0, none⟩
theorem OutF.mono {Fs Fs' : List FE} {ad : Option Addr} {f : List Wnt} (h : OutF Fs ad f) (k : ∀ e ∈ Fs, e ∈ Fs') : OutF Fs' ad f := by
  rcases h with h | ⟨e, he, h1, h2⟩
  · exact Or.inl h
  · exact Or.inr ⟨e, k e he, h1, h2⟩
theorem OutF.fi {w : World} {base LB : Nat} {Es : List EE} {Fs : List FE} {ad : Option Addr} {f : List Wnt} (h : OutF Fs ad f) (hL : Lb w base LB Es Fs) : FiAt w ad f := by
  obtain ⟨⟨_, _, _, _, _, hL⟩, _⟩ := hL
  rcases h with h | ⟨e, he, rfl, rfl⟩
  · exact Or.inl h
  · refine Or.inr ⟨e.g, 0, rfl, blk_lt (hL.outs e he).2, fun i hi => ?_⟩
    have hc := (hL.outs e he).2
    obtain ⟨a1, a2, a3, a4, a5⟩ := wcells_at (outW e.f) i (by rw [outW_len]; omega)
    rw [outW_in hi] at a1 a2 a3 a4 a5
    rw [cell_of_row _ _ _ _ _ _ hc, cell_of_row _ _ _ _ _ _ hc, cell_of_row _ _ _ _ _ _ hc, cell_of_row _ _ _ _ _ _ hc, cell_of_row _ _ _ _ _ _ hc]
    simp only [List.getElem?_toArray, Nat.zero_add]
    exact ⟨a1, a2, a3, a4, a5⟩
theorem OutE.ev {w : World} {base LB : Nat} {Es : List EE} {Fs : List FE} {ad : Option Addr} {f : List Atr} (h : OutE Es ad f) (hL : Lb w base LB Es Fs) : EvAt w ad f := by
  obtain ⟨⟨_, _, _, _, hL, _⟩, _⟩ := hL
  rcases h with h | ⟨e, he, rfl, rfl⟩
  · exact Or.inl h
  · refine Or.inr ⟨e.g, 0, rfl, blk_lt (hL.outs e he).2, fun i hi => ?_⟩
    have hc := (hL.outs e he).2
    obtain ⟨a1, a2, a3, a4⟩ := acells_at (outA e.f) i (by rw [outA_len]; omega)
    rw [outA_in hi] at a1 a2 a3 a4
    rw [cell_of_row _ _ _ _ _ _ hc, cell_of_row _ _ _ _ _ _ hc, cell_of_row _ _ _ _ _ _ hc, cell_of_row _ _ _ _ _ _ hc]
    simp only [List.getElem?_toArray, Nat.zero_add]
    exact ⟨a1, a2, a3, a4⟩

theorem lendF (f : List Wnt) (ad : Option Addr) (cap : Nat) (base LB : Nat) (Es : List EE) (Fs : List FE) (w : World) (hlen : f.length ≤ 2513169434845) (hF : f = [] ∨ FiK base w ad f) (hwf : ∀ x ∈ f, Wnt.Wf x)
    (hn : Fs.length ≤ 1099511627776) (hL : Lb w base LB Es Fs) :
    Calls Tryd.prog 9 #[.pointer (some ⟨LB, 0, none⟩), .slice ad f.length cap] w fun e w' => ∃ ad' cap' Fs', e = .returned (.slice ad' f.length cap') ∧ Kp tsF base w w' ∧
      Lb w' base LB Es Fs' ∧ (∀ e ∈ Fs, e ∈ Fs') ∧ Fs'.length ≤ Fs.length + 1 ∧ OutF Fs' ad' f := by
  by_cases hne : f = []
  · subst hne
    refine (filter_none ad cap _ w).mono ?_
    rintro e w' ⟨rfl, rfl⟩
    exact ⟨_, _, _, rfl, Kp.refl _ _ _, hL, fun e he => he, by omega, Or.inl rfl⟩
  · obtain ⟨⟨ve, vew, vf, vw, h1, h2⟩, b1, b2⟩ := hL
    have hF := hF.resolve_left hne
    refine (filter_any f ad cap base LB ve vew vf vw Fs w hne hlen hF hwf hn h2).mono ?_
    rintro e w' ⟨g, vf', vw', rfl, hk, hg, h2'⟩
    refine ⟨_, _, _, rfl, hk, ⟨⟨_, _, _, _, h1.kp hk h2'.box, h2'⟩, b1, ?_⟩, fun e he => List.mem_append_left _ he, by simp, Or.inr ⟨_, List.mem_append_right _ (List.mem_singleton.mpr rfl), rfl, rfl⟩⟩
    intro e he
    rcases List.mem_append.mp he with he | he
    · exact b2 e he
    · simp only [List.mem_singleton] at he; subst he; exact hlen
theorem lendE (f : List Atr) (ad : Option Addr) (cap : Nat) (base LB : Nat) (Es : List EE) (Fs : List FE) (w : World) (hlen : f.length ≤ 2932031007402) (hF : f = [] ∨ EvK base w ad f) (hwf : ∀ x ∈ f, Atr.Wf x)
    (hn : Es.length ≤ 1099511627776) (hL : Lb w base LB Es Fs) :
    Calls Tryd.prog 7 #[.pointer (some ⟨LB, 0, none⟩), .slice ad f.length cap] w fun e w' => ∃ ad' cap' Es', e = .returned (.slice ad' f.length cap') ∧ Kp tsE base w w' ∧
      Lb w' base LB Es' Fs ∧ (∀ e ∈ Es, e ∈ Es') ∧ Es'.length ≤ Es.length + 1 ∧ OutE Es' ad' f := by
  by_cases hne : f = []
  · subst hne
    refine (event_none ad cap _ w).mono ?_
    rintro e w' ⟨rfl, rfl⟩
    exact ⟨_, _, _, rfl, Kp.refl _ _ _, hL, fun e he => he, by omega, Or.inl rfl⟩
  · obtain ⟨⟨ve, vew, vf, vw, h1, h2⟩, b1, b2⟩ := hL
    have hF := hF.resolve_left hne
    refine (event_any f ad cap base LB ve vew vf vw Es w hne hlen hF hwf hn h1).mono ?_
    rintro e w' ⟨g, ve', vew', rfl, hk, hg, h1'⟩
    refine ⟨_, _, _, rfl, hk, ⟨⟨_, _, _, _, h1', h2.kp hk h1'.box⟩, ?_, b2⟩, fun e he => List.mem_append_left _ he, by simp, Or.inr ⟨_, List.mem_append_right _ (List.mem_singleton.mpr rfl), rfl, rfl⟩⟩
    intro e he
    rcases List.mem_append.mp he with he | he
    · exact b1 e he
    · simp only [List.mem_singleton] at he; subst he; show f.length ≤ _; omega
theorem stillL (base LB : Nat) (Es : List EE) (Fs : List FE) (w : World) (hm : Es.length ≤ 1099511627776) (hn : Fs.length ≤ 1099511627776) (hL : Lb w base LB Es Fs) :
    Calls Tryd.prog 10 #[.pointer (some ⟨LB, 0, none⟩)] w fun e w' => e = .returned (.bool true) ∧ Kp tsS base w w' ∧ Lb w' base LB [] [] := by
  obtain ⟨⟨ve, vew, vf, vw, h1, h2⟩, b1, b2⟩ := hL
  refine (still_all base LB ve vew vf vw Es Fs w hm hn b1 b2 h1 h2).mono ?_
  rintro e w' ⟨rfl, hk, hb⟩
  have hle := Nat.le_trans h1.le hk.size
  exact ⟨rfl, hk, ⟨⟨_, _, _, _, ⟨h1.lb, hle, hb, World.ownsRow_nil _ _ _ _, World.ownsRow_nil _ _ _ _, by simp, by simp, by simp⟩, ⟨h1.lb, hle, hb, World.ownsRow_nil _ _ _ _, World.ownsRow_nil _ _ _ _, by simp, by simp, by simp⟩⟩, by simp, by simp⟩⟩
end Go.Proofs.YtecnfgikbmcgoaaDoor
