import Derived.Test.YtecnfgikbmcgoaaDoorZF
import Derived.Test.YtecnfgikbmcgoaaDoorZE
namespace Go.Proofs.YtecnfgikbmcgoaaDoor
open Go.RowKit

/-- Kept events from the i-th on and kept filters from the k-th on are still as they were. -/
structure St (w wr : World) (base LB : Nat) (ve vew vf vw : Value) (Es : List EE) (Fs : List FE) (i k : Nat) : Prop where
  le : base ≤ w.heap.size
  kp : Kp tsS base w wr
  box : wr.heap[LB]? = some (.cells #[ve, vew, vf, vw] 30 (0, 0))
  oe : ∀ j, i ≤ j → j < Es.length → wr.heap[(ee Es j).g]? = some (.cells (acells (outA (ee Es j).f)).toArray 37 (0, 0))
  of : ∀ j, k ≤ j → j < Fs.length → wr.heap[(fe Fs j).g]? = some (.cells (wcells (outW (fe Fs j).f)).toArray 76 (0, 0))
  lowe : ∀ j, j < Es.length → base ≤ (ee Es j).g
  lowf : ∀ j, j < Fs.length → base ≤ (fe Fs j).g
  nde : (Es.map EE.g).Nodup
  ndf : (Fs.map FE.g).Nodup
theorem St.sz {w wr : World} {base LB : Nat} {ve vew vf vw : Value} {Es : List EE} {Fs : List FE} {i k : Nat} (h : St w wr base LB ve vew vf vw Es Fs i k) : base ≤ wr.heap.size := Nat.le_trans h.le h.kp.size
theorem St.gr {w wr w' : World} {base LB : Nat} {ve vew vf vw : Value} {Es : List EE} {Fs : List FE} {i k : Nat} (h : St w wr base LB ve vew vf vw Es Fs i k) (g : Gr wr w') : St w w' base LB ve vew vf vw Es Fs i k :=
  ⟨h.le, h.kp.trans (Kp.gr g h.sz), blk_gr g h.box, fun j a b => blk_gr g (h.oe j a b), fun j a b => blk_gr g (h.of j a b), h.lowe, h.lowf, h.nde, h.ndf⟩
theorem St.weakF {w wr : World} {base LB : Nat} {ve vew vf vw : Value} {Es : List EE} {Fs : List FE} {i k : Nat} (h : St w wr base LB ve vew vf vw Es Fs i k) : St w wr base LB ve vew vf vw Es Fs i (k + 1) :=
  ⟨h.le, h.kp, h.box, h.oe, fun j a b => h.of j (by omega) b, h.lowe, h.lowf, h.nde, h.ndf⟩
theorem St.weakE {w wr : World} {base LB : Nat} {ve vew vf vw : Value} {Es : List EE} {Fs : List FE} {i k : Nat} (h : St w wr base LB ve vew vf vw Es Fs i k) : St w wr base LB ve vew vf vw Es Fs (i + 1) k :=
  ⟨h.le, h.kp, h.box, fun j a b => h.oe j (by omega) b, h.of, h.lowe, h.lowf, h.nde, h.ndf⟩
theorem blk_ne {w : World} {i k : Nat} {cs cs' : Array Value} {t t' : TypeId} {fr fr' : Nat × Nat} (h : w.heap[i]? = some (.cells cs t fr)) (h' : w.heap[k]? = some (.cells cs' t' fr')) (hn : t ≠ t') : i ≠ k := by
  intro he; subst he; rw [h] at h'; injection h' with h'; injection h' with _ h'; exact hn h'
theorem St.setF {w wr : World} {base LB : Nat} {ve vew vf vw : Value} {Es : List EE} {Fs : List FE} {i k q : Nat} (h : St w wr base LB ve vew vf vw Es Fs i (k + 1)) (hk : k < Fs.length) (r : ∃ cs, wr.heap[(fe Fs k).g]? = some (.cells cs 76 (0, 0))) (u : Value) :
    St w (wr.setCell ⟨(fe Fs k).g, q, none⟩ u) base LB ve vew vf vw Es Fs i (k + 1) := by
  obtain ⟨cs, hc⟩ := r
  exact ⟨h.le, h.kp.set hc (by decide) (h.lowf k hk) u, blk_set h.box (p := ⟨(fe Fs k).g, q, none⟩) (blk_ne h.box hc (by decide)) u,
    fun j a b => blk_set (h.oe j a b) (p := ⟨(fe Fs k).g, q, none⟩) (blk_ne (h.oe j a b) hc (by decide)) u, fun j a b => blk_set (h.of j a b) (p := ⟨(fe Fs k).g, q, none⟩) (fe_ne h.ndf b hk (by omega)) u, h.lowe, h.lowf, h.nde, h.ndf⟩
theorem St.setE {w wr : World} {base LB : Nat} {ve vew vf vw : Value} {Es : List EE} {Fs : List FE} {i k q : Nat} (h : St w wr base LB ve vew vf vw Es Fs (i + 1) k) (hk : i < Es.length) (r : ∃ cs, wr.heap[(ee Es i).g]? = some (.cells cs 37 (0, 0))) (u : Value) :
    St w (wr.setCell ⟨(ee Es i).g, q, none⟩ u) base LB ve vew vf vw Es Fs (i + 1) k := by
  obtain ⟨cs, hc⟩ := r
  exact ⟨h.le, h.kp.set hc (by decide) (h.lowe i hk) u, blk_set h.box (p := ⟨(ee Es i).g, q, none⟩) (blk_ne h.box hc (by decide)) u,
    fun j a b => blk_set (h.oe j a b) (p := ⟨(ee Es i).g, q, none⟩) (ee_ne h.nde b hk (by omega)) u, fun j a b => blk_set (h.of j a b) (p := ⟨(ee Es i).g, q, none⟩) (blk_ne (h.of j a b) hc (by decide)) u, h.lowe, h.lowf, h.nde, h.ndf⟩
/-- A row that is written over, up to the i-th. -/
def RowF (wr : World) (e : FE) (i : Nat) : Prop := ∃ cs : Array Value, wr.heap[e.g]? = some (.cells cs 76 (0, 0)) ∧ cs.size = (e.f.length + 8) * 5 ∧ ∀ j, i * 5 ≤ j → cs[j]? = (wcells (outW e.f))[j]?
theorem St.rowF {w wr : World} {base LB : Nat} {ve vew vf vw : Value} {Es : List EE} {Fs : List FE} {i k : Nat} (h : St w wr base LB ve vew vf vw Es Fs i k) (hk : k < Fs.length) : RowF wr (fe Fs k) 0 :=
  ⟨_, h.of k (Nat.le_refl k) hk, by rw [List.size_toArray, wcells_len5, outW_len], fun j _ => by simp⟩
theorem RowF.gr {wr w' : World} {e : FE} {i : Nat} (h : RowF wr e i) (g : Gr wr w') : RowF w' e i := by
  obtain ⟨cs, h1, h2⟩ := h
  exact ⟨cs, blk_gr g h1, h2⟩
theorem St.setF5 {w wr : World} {base LB : Nat} {ve vew vf vw : Value} {Es : List EE} {Fs : List FE} {x k i q : Nat} (h : St w wr base LB ve vew vf vw Es Fs x (k + 1)) (hk : k < Fs.length) (r : RowF wr (fe Fs k) q) (a b c d e : Value) :
    St w (over5 wr (fe Fs k).g i a b c d e) base LB ve vew vf vw Es Fs x (k + 1) := by
  obtain ⟨cs, hc, _⟩ := r
  have r0 : ∃ cs, wr.heap[(fe Fs k).g]? = some (.cells cs 76 (0, 0)) := ⟨cs, hc⟩
  have r1 := set_some (i := i) r0 a
  have r2 := set_some (i := i + 1) r1 b
  have r3 := set_some (i := i + 1 + 1) r2 c
  have r4 := set_some (i := i + 1 + 1 + 1) r3 d
  exact ((((h.setF hk r0 a).setF hk r1 b).setF hk r2 c).setF hk r3 d).setF hk r4 e
theorem RowF.set5 {wr : World} {x : FE} {i : Nat} (h : RowF wr x i) (a b c d e : Value) : RowF (over5 wr x.g (i * 5) a b c d e) x (i + 1) := by
  obtain ⟨cs, h1, h2, h3⟩ := h
  refine ⟨_, blk_set_same (blk_set_same (blk_set_same (blk_set_same (blk_set_same h1 a) b) c) d) e, by simpa using h2, fun j hj => ?_⟩
  rw [← h3 j (by omega)]
  simp only [Array.getElem?_setIfInBounds]
  rw [if_neg (by omega), if_neg (by omega), if_neg (by omega), if_neg (by omega), if_neg (by omega)]
theorem RowF.cells {wr : World} {e : FE} {i : Nat} (h : RowF wr e i) (hi : i < e.f.length + 8) :
    wr.cell? ⟨e.g, i * 5, none⟩ = some (.string (wat (outW e.f) i).a) ∧ wr.cell? ⟨e.g, i * 5 + 1, none⟩ = some (.int .i64 (wat (outW e.f) i).y) ∧
    wr.cell? ⟨e.g, i * 5 + 1 + 1, none⟩ = some (.int .i64 (wat (outW e.f) i).k) ∧ wr.cell? ⟨e.g, i * 5 + 1 + 1 + 1, none⟩ = some (.int .i64 (wat (outW e.f) i).n) ∧
    wr.cell? ⟨e.g, i * 5 + 1 + 1 + 1 + 1, none⟩ = some (.string (wat (outW e.f) i).s) := by
  obtain ⟨cs, h1, h2, h3⟩ := h
  obtain ⟨a1, a2, a3, a4, a5⟩ := wcells_at (outW e.f) i (by rw [outW_len]; exact hi)
  rw [cell_of_row _ _ _ _ _ _ h1, cell_of_row _ _ _ _ _ _ h1, cell_of_row _ _ _ _ _ _ h1, cell_of_row _ _ _ _ _ _ h1, cell_of_row _ _ _ _ _ _ h1]
  rw [h3 _ (by omega), h3 _ (by omega), h3 _ (by omega), h3 _ (by omega), h3 _ (by omega)]
  exact ⟨a1, a2, a3, a4, a5⟩
theorem RowF.frozen {wr : World} {e : FE} {i : Nat} (h : RowF wr e i) (j : Nat) : wr.frozen? ⟨e.g, j, none⟩ = false := by
  obtain ⟨cs, h1, _⟩ := h
  exact frozen_of_row _ _ _ _ _ h1
def over4 (wr : World) (g j : Nat) (a b c d : Value) : World := (((wr.setCell ⟨g, j, none⟩ a).setCell ⟨g, j + 1, none⟩ b).setCell ⟨g, j + 1 + 1, none⟩ c).setCell ⟨g, j + 1 + 1 + 1, none⟩ d
def box4 (w : World) (g : Nat) (a b c d : Value) : World := (((w.setCell ⟨g, 0, none⟩ a).setCell ⟨g, 1, none⟩ b).setCell ⟨g, 2, none⟩ c).setCell ⟨g, 3, none⟩ d
theorem box4_blk {w : World} {g : Nat} {t : TypeId} {x0 x1 x2 x3 : Value} (h : w.heap[g]? = some (.cells #[x0, x1, x2, x3] t (0, 0))) (a b c d : Value) : (box4 w g a b c d).heap[g]? = some (.cells #[a, b, c, d] t (0, 0)) :=
  blk_set_same (j := 3) (blk_set_same (j := 2) (blk_set_same (j := 1) (blk_set_same (j := 0) h a) b) c) d
def ov4 (wr : World) (g j : Nat) (a b c d : Value) : World := ((((wr.setCell ⟨g, j, none⟩ a).setCell ⟨g, j + 1, none⟩ b).setCell ⟨g, j + 2, none⟩ c).setCell ⟨g, j + 3, none⟩ d).drew
theorem ov4_eq (wr : World) (g j : Nat) (a b c d : Value) : ov4 wr g j a b c d = (over4 wr g j a b c d).drew := rfl
/-- A row that is written over, up to the i-th. -/
def RowE (wr : World) (e : EE) (i : Nat) : Prop := ∃ cs : Array Value, wr.heap[e.g]? = some (.cells cs 37 (0, 0)) ∧ cs.size = (e.f.length + 8) * 4 ∧ ∀ j, i * 4 ≤ j → cs[j]? = (acells (outA e.f))[j]?
theorem St.rowE {w wr : World} {base LB : Nat} {ve vew vf vw : Value} {Es : List EE} {Fs : List FE} {i k : Nat} (h : St w wr base LB ve vew vf vw Es Fs i k) (hk : i < Es.length) : RowE wr (ee Es i) 0 :=
  ⟨_, h.oe i (Nat.le_refl i) hk, by rw [List.size_toArray, acells_len4, outA_len], fun j _ => by simp⟩
theorem RowE.gr {wr w' : World} {e : EE} {i : Nat} (h : RowE wr e i) (g : Gr wr w') : RowE w' e i := by
  obtain ⟨cs, h1, h2⟩ := h
  exact ⟨cs, blk_gr g h1, h2⟩
theorem St.setE4 {w wr : World} {base LB : Nat} {ve vew vf vw : Value} {Es : List EE} {Fs : List FE} {x i p q : Nat} (h : St w wr base LB ve vew vf vw Es Fs (i + 1) x) (hk : i < Es.length) (r : RowE wr (ee Es i) q) (a b c d : Value) :
    St w (over4 wr (ee Es i).g p a b c d) base LB ve vew vf vw Es Fs (i + 1) x := by
  obtain ⟨cs, hc, _⟩ := r
  have r0 : ∃ cs, wr.heap[(ee Es i).g]? = some (.cells cs 37 (0, 0)) := ⟨cs, hc⟩
  have r1 := set_some (i := p) r0 a
  have r2 := set_some (i := p + 1) r1 b
  have r3 := set_some (i := p + 1 + 1) r2 c
  exact (((h.setE hk r0 a).setE hk r1 b).setE hk r2 c).setE hk r3 d
theorem RowE.set4 {wr : World} {x : EE} {i : Nat} (h : RowE wr x i) (a b c d : Value) : RowE (over4 wr x.g (i * 4) a b c d) x (i + 1) := by
  obtain ⟨cs, h1, h2, h3⟩ := h
  refine ⟨_, blk_set_same (blk_set_same (blk_set_same (blk_set_same h1 a) b) c) d, by simpa using h2, fun j hj => ?_⟩
  rw [← h3 j (by omega)]
  simp only [Array.getElem?_setIfInBounds]
  rw [if_neg (by omega), if_neg (by omega), if_neg (by omega), if_neg (by omega)]
theorem RowE.cells {wr : World} {e : EE} {i : Nat} (h : RowE wr e i) (hi : i < e.f.length + 8) :
    wr.cell? ⟨e.g, i * 4, none⟩ = some (.string (aat (outA e.f) i).a) ∧ wr.cell? ⟨e.g, i * 4 + 1, none⟩ = some (.int .i64 (aat (outA e.f) i).k) ∧
    wr.cell? ⟨e.g, i * 4 + 1 + 1, none⟩ = some (.int .i64 (aat (outA e.f) i).n) ∧ wr.cell? ⟨e.g, i * 4 + 1 + 1 + 1, none⟩ = some (.string (aat (outA e.f) i).s) := by
  obtain ⟨cs, h1, h2, h3⟩ := h
  obtain ⟨a1, a2, a3, a4⟩ := acells_at (outA e.f) i (by rw [outA_len]; exact hi)
  rw [cell_of_row _ _ _ _ _ _ h1, cell_of_row _ _ _ _ _ _ h1, cell_of_row _ _ _ _ _ _ h1, cell_of_row _ _ _ _ _ _ h1]
  rw [h3 _ (by omega), h3 _ (by omega), h3 _ (by omega), h3 _ (by omega)]
  exact ⟨a1, a2, a3, a4⟩
theorem RowE.frozen {wr : World} {e : EE} {i : Nat} (h : RowE wr e i) (j : Nat) : wr.frozen? ⟨e.g, j, none⟩ = false := by
  obtain ⟨cs, h1, _⟩ := h
  exact frozen_of_row _ _ _ _ _ h1
end Go.Proofs.YtecnfgikbmcgoaaDoor
