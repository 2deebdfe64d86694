import Derived.Test.YtecnfgikbmcgoaaYB
namespace Go.Proofs.Ytecnfgikbmcgoaa
open Go.RowKit

def fe (Fs : List FE) (k : Nat) : FE := Fs.getD k ⟨0, [], none, 0⟩
theorem fe_mem {Fs : List FE} {k : Nat} (h : k < Fs.length) : fe Fs k ∈ Fs := by
  simp [fe, List.getD_eq_getElem?_getD, List.getElem?_eq_getElem h]
theorem fe_get {Fs : List FE} {k : Nat} (h : k < Fs.length) : Fs[k]? = some (fe Fs k) := by
  simp [fe, List.getD_eq_getElem?_getD, List.getElem?_eq_getElem h]
theorem fe_ne {Fs : List FE} (hn : (Fs.map FE.g).Nodup) {i j : Nat} (hi : i < Fs.length) (hj : j < Fs.length) (h : i ≠ j) : (fe Fs i).g ≠ (fe Fs j).g := by
  intro he
  have h1 : (Fs.map FE.g)[i]? = some (fe Fs i).g := by rw [List.getElem?_map, fe_get hi]; rfl
  have h2 : (Fs.map FE.g)[j]? = some (fe Fs j).g := by rw [List.getElem?_map, fe_get hj]; rfl
  rw [← he, ← h1] at h2
  have hl : i < (Fs.map FE.g).length := by simpa using hi
  exact h ((List.getElem?_inj hl hn).mp h2.symm)

theorem wcells_len5 (l : List Wnt) : (wcells l).length = l.length * 5 := by
  induction l with
  | nil => rfl
  | cons x l ih => simp [wcells, wcell] at ih ⊢; omega
/-- Kept filters from the k-th on are still as they were. -/
structure StF (w wr : World) (base LB : Nat) (ve vew vf vw : Value) (Fs : List FE) (k : Nat) : Prop where
  be : Below base w wr
  le : base ≤ w.heap.size
  lb : base ≤ LB
  box : wr.heap[LB]? = some (.cells #[ve, vew, vf, vw] 29 (0, 0))
  ownf : wr.ownsRow base 45 1 vf Fs.length (Fs.map FE.fc)
  ownw : wr.ownsRow base 53 1 vw Fs.length (Fs.map FE.wc)
  outs : ∀ j, k ≤ j → j < Fs.length → wr.heap[(fe Fs j).g]? = some (.cells (wcells (outW (fe Fs j).f)).toArray 67 (0, 0))
  low : ∀ j, j < Fs.length → base ≤ (fe Fs j).g
  nodup : (Fs.map FE.g).Nodup

/-- A row that is written over, up to the i-th. -/
def RowF (wr : World) (e : FE) (i : Nat) : Prop := ∃ cs : Array Value, wr.heap[e.g]? = some (.cells cs 67 (0, 0)) ∧ cs.size = (e.f.length + 8) * 5 ∧ ∀ j, i * 5 ≤ j → cs[j]? = (wcells (outW e.f))[j]?

theorem blk_gr {w w' : World} (g : Gr w w') {k : Nat} {o : Obj} (hk : w.heap[k]? = some o) : w'.heap[k]? = some o := by
  rw [g.block k (blk_lt hk)]; exact hk
theorem StF.gr {w wr w' : World} {base LB : Nat} {ve vew vf vw : Value} {Fs : List FE} {k : Nat} (h : StF w wr base LB ve vew vf vw Fs k) (g : Gr wr w') : StF w w' base LB ve vew vf vw Fs k :=
  ⟨Below.trans h.be (Below.mono g (Nat.le_trans h.le h.be.size)), h.le, h.lb, blk_gr g h.box, ownsGr h.ownf g, ownsGr h.ownw g, fun j a b => blk_gr g (h.outs j a b), h.low, h.nodup⟩
theorem StF.row {w wr : World} {base LB : Nat} {ve vew vf vw : Value} {Fs : List FE} {k : Nat} (h : StF w wr base LB ve vew vf vw Fs k) (hk : k < Fs.length) : RowF wr (fe Fs k) 0 :=
  ⟨_, h.outs k (Nat.le_refl k) hk, by rw [List.size_toArray, wcells_len5, outW_len], fun j _ => by simp⟩
theorem StF.weak {w wr : World} {base LB : Nat} {ve vew vf vw : Value} {Fs : List FE} {k : Nat} (h : StF w wr base LB ve vew vf vw Fs k) : StF w wr base LB ve vew vf vw Fs (k + 1) :=
  ⟨h.be, h.le, h.lb, h.box, h.ownf, h.ownw, fun j a b => h.outs j (by omega) b, h.low, h.nodup⟩
theorem RowF.gr {wr w' : World} {e : FE} {i : Nat} (h : RowF wr e i) (g : Gr wr w') : RowF w' e i := by
  obtain ⟨cs, h1, h2⟩ := h
  exact ⟨cs, blk_gr g h1, h2⟩
theorem StF.set {w wr : World} {base LB : Nat} {ve vew vf vw : Value} {Fs : List FE} {k i : Nat} (h : StF w wr base LB ve vew vf vw Fs (k + 1)) (hk : k < Fs.length) (r : ∃ cs, wr.heap[(fe Fs k).g]? = some (.cells cs 67 (0, 0))) (u : Value) :
    StF w (wr.setCell ⟨(fe Fs k).g, i, none⟩ u) base LB ve vew vf vw Fs (k + 1) := by
  obtain ⟨cs, hc⟩ := r
  refine ⟨Below.setCell h.be (p := ⟨(fe Fs k).g, i, none⟩) (h.low k hk) u, h.le, h.lb, blk_set h.box ?_ u, owns_set h.ownf hc (by decide) u, owns_set h.ownw hc (by decide) u, ?_, h.low, h.nodup⟩
  · intro he
    have he : LB = (fe Fs k).g := he
    rw [← he, h.box] at hc; injection hc with hc; injection hc with _ hc; exact absurd hc (by decide)
  · intro j a b
    exact blk_set (h.outs j a b) (fe_ne h.nodup b hk (by omega)) u
theorem set_some {wr : World} {g i : Nat} {t : TypeId} (r : ∃ cs, wr.heap[g]? = some (.cells cs t (0, 0))) (u : Value) : ∃ cs, (wr.setCell ⟨g, i, none⟩ u).heap[g]? = some (.cells cs t (0, 0)) := by
  obtain ⟨cs, h⟩ := r
  exact ⟨_, blk_set_same h u⟩
def over5 (wr : World) (g j : Nat) (a b c d e : Value) : World := ((((wr.setCell ⟨g, j, none⟩ a).setCell ⟨g, j + 1, none⟩ b).setCell ⟨g, j + 1 + 1, none⟩ c).setCell ⟨g, j + 1 + 1 + 1, none⟩ d).setCell ⟨g, j + 1 + 1 + 1 + 1, none⟩ e
theorem StF.set5 {w wr : World} {base LB : Nat} {ve vew vf vw : Value} {Fs : List FE} {k i q : Nat} (h : StF w wr base LB ve vew vf vw Fs (k + 1)) (hk : k < Fs.length) (r : RowF wr (fe Fs k) q) (a b c d e : Value) :
    StF w (over5 wr (fe Fs k).g i a b c d e) base LB ve vew vf vw Fs (k + 1) := by
  obtain ⟨cs, hc, _⟩ := r
  have r0 : ∃ cs, wr.heap[(fe Fs k).g]? = some (.cells cs 67 (0, 0)) := ⟨cs, hc⟩
  have r1 := set_some (i := i) r0 a
  have r2 := set_some (i := i + 1) r1 b
  have r3 := set_some (i := i + 1 + 1) r2 c
  have r4 := set_some (i := i + 1 + 1 + 1) r3 d
  exact ((((h.set hk r0 a).set hk r1 b).set hk r2 c).set hk r3 d).set hk r4 e
theorem RowF.set5 {wr : World} {x : FE} {i : Nat} (h : RowF wr x i) (a b c d e : Value) : RowF (over5 wr x.g (i * 5) a b c d e) x (i + 1) := by
  obtain ⟨cs, h1, h2, h3⟩ := h
  refine ⟨_, blk_set_same (blk_set_same (blk_set_same (blk_set_same (blk_set_same h1 a) b) c) d) e, by simpa using h2, fun j hj => ?_⟩
  rw [← h3 j (by omega)]
  simp only [Array.getElem?_setIfInBounds]
  rw [if_neg (by omega), if_neg (by omega), if_neg (by omega), if_neg (by omega), if_neg (by omega)]
theorem RowF.cells {wr : World} {e : FE} {i : Nat} (h : RowF wr e i) (hi : i < e.f.length + 8) :
    wr.cell? ⟨e.g, i * 5, none⟩ = some (.string (wat (outW e.f) i).a) ∧ wr.cell? ⟨e.g, i * 5 + 1, none⟩ = some (.int .i64 (wat (outW e.f) i).y) ∧
    wr.cell? ⟨e.g, i * 5 + 1 + 1, none⟩ = some (.int .i64 (wat (outW e.f) i).k) ∧ wr.cell? ⟨e.g, i * 5 + 1 + 1 + 1, none⟩ = some (.int .i64 (wat (outW e.f) i).n) ∧
    wr.cell? ⟨e.g, i * 5 + 1 + 1 + 1 + 1, none⟩ = some (.string (wat (outW e.f) i).s) := by
  obtain ⟨cs, h1, h2, h3⟩ := h
  obtain ⟨a1, a2, a3, a4, a5⟩ := wcells_at (outW e.f) i (by rw [outW_len]; exact hi)
  rw [cell_of_row _ _ _ _ _ _ h1, cell_of_row _ _ _ _ _ _ h1, cell_of_row _ _ _ _ _ _ h1, cell_of_row _ _ _ _ _ _ h1, cell_of_row _ _ _ _ _ _ h1]
  rw [h3 _ (by omega), h3 _ (by omega), h3 _ (by omega), h3 _ (by omega), h3 _ (by omega)]
  exact ⟨a1, a2, a3, a4, a5⟩
theorem RowF.frozen {wr : World} {e : FE} {i : Nat} (h : RowF wr e i) (j : Nat) : wr.frozen? ⟨e.g, j, none⟩ = false := by
  obtain ⟨cs, h1, _⟩ := h
  exact frozen_of_row _ _ _ _ _ h1
theorem owns_shape {w : World} {base : Nat} {e : TypeId} {size n : Nat} {v : Value} {xs : List Value} (h : w.ownsRow base e size v n xs) : ∃ a c, v = .slice a n c ∧ (0 < n → ∃ b, a = some ⟨b, 0, none⟩) := by
  rcases h.2 with ⟨hv, hn⟩ | ⟨q, cap, cur, hv, _⟩
  · subst hn; exact ⟨_, _, hv, fun h => absurd h (by omega)⟩
  · exact ⟨_, _, hv, fun _ => ⟨q, rfl⟩⟩

end Go.Proofs.Ytecnfgikbmcgoaa
