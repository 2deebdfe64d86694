import Derived.Test.YtecnfgikbmcgoaaGreatG6
import Derived.Test.YtecnfgikbmcgoaaGreatG2
namespace Go.Proofs.YtecnfgikbmcgoaaGreat
open Go.RowKit

theorem blk_lt {w : World} {k : Nat} {o : Obj} (h : w.heap[k]? = some o) : k < w.heap.size := by
  rcases Nat.lt_or_ge k w.heap.size with h' | h'
  · exact h'
  · rw [Array.getElem?_eq_none (by omega)] at h; cases h
theorem owns_kept {w w' : World} {base : Nat} {e : TypeId} {size : Nat} {v : Value} {n : Nat} {xs : List Value} {row : Option Nat} (h : w.ownsRow base e size v n xs) (hg : w.grownBy w' row) (hne : ∀ k, v.ownBlock = some k → row ≠ some k) : w'.ownsRow base e size v n xs := by
  obtain ⟨h1, h2⟩ := h
  refine ⟨h1, ?_⟩
  rcases h2 with h2 | ⟨b, cap, cur, hv, hb, hh, r⟩
  · exact Or.inl h2
  · exact Or.inr ⟨b, cap, cur, hv, hb, grown_block hg hh (hne b (by rw [hv]; rfl)), r⟩
theorem own_apart {w : World} {b1 b2 : Nat} {e1 e2 : TypeId} {s1 s2 : Nat} {v1 v2 : Value} {n1 n2 : Nat} {x1 x2 : List Value} (h1 : w.ownsRow b1 e1 s1 v1 n1 x1) (h2 : w.ownsRow b2 e2 s2 v2 n2 x2) (hne : e2 ≠ e1) : ∀ k, v2.ownBlock = some k → v1.ownBlock ≠ some k := by
  intro k hk
  rcases h2.2 with ⟨hv, _⟩ | ⟨b, cap, cur, hv, hb, hh, _⟩
  · rw [hv] at hk; simp [Value.ownBlock] at hk
  · rw [hv] at hk
    have : b = k := by simpa [Value.ownBlock] using hk
    subst this
    exact own_ne h1 hh hne
theorem blk_set {w : World} {k : Nat} {o : Obj} {p : Addr} (h : w.heap[k]? = some o) (hne : k ≠ p.block) (u : Value) : (w.setCell p u).heap[k]? = some o := by rw [Below.heap_setCell w p u k hne]; exact h
theorem owns_set {w : World} {base : Nat} {e t : TypeId} {size : Nat} {v : Value} {n : Nat} {xs : List Value} {k j : Nat} {cs : Array Value} {fr : Nat × Nat} (h : w.ownsRow base e size v n xs) (hk : w.heap[k]? = some (.cells cs t fr)) (hne : t ≠ e) (u : Value) : (w.setCell ⟨k, j, none⟩ u).ownsRow base e size v n xs := by
  have hn := own_ne h hk hne
  obtain ⟨h1, h2⟩ := h
  refine ⟨h1, ?_⟩
  rcases h2 with h2 | ⟨b, cap, cur, hv, hb, hh, r⟩
  · exact Or.inl h2
  · refine Or.inr ⟨b, cap, cur, hv, hb, blk_set hh (fun e => hn ?_) u, r⟩
    rw [hv]; simp [Value.ownBlock, e]
theorem blk_set_same {w : World} {k j : Nat} {cs : Array Value} {t : TypeId} {fr : Nat × Nat} (h : w.heap[k]? = some (.cells cs t fr)) (u : Value) : (w.setCell ⟨k, j, none⟩ u).heap[k]? = some (.cells (cs.setIfInBounds j u) t fr) := by
  simp [World.setCell, Array.getElem?_modify, h]
theorem owns_arr {w : World} {base : Nat} {e : TypeId} {size g n : Nat} {xs : List Value} (h : w.ownsRow base e size (.slice (some ⟨g, 0, none⟩) n n) n xs) : w.heap[g]? = some (.cells xs.toArray e (0, 0)) := by
  rcases h.2 with ⟨hv, _⟩ | ⟨q, cap, cur, hv, hb, hh, _, _, hcs, htake⟩
  · cases hv
  · simp only [Value.slice.injEq, Option.some.injEq, Addr.mk.injEq, and_true, true_and] at hv
    obtain ⟨rfl, rfl⟩ := hv
    have e : cur.toList = xs := by rw [← htake, List.take_of_length_le (by rw [Array.length_toList, hcs]; exact Nat.le_refl _)]
    rw [hh, ← e]
theorem size_set (w : World) (p : Addr) (u : Value) : (w.setCell p u).heap.size = w.heap.size := by
  simp [World.setCell]
theorem size_alloc' (w : World) (o : Obj) : (w.alloc o).heap.size = w.heap.size + 1 := by
  simp
theorem owns_slice {w : World} {base : Nat} {e : TypeId} {size n : Nat} {v : Value} {xs : List Value} (h : w.ownsRow base e size v n xs) : ∃ a m c, v = .slice a m c := by
  rcases h.2 with ⟨hv, _⟩ | ⟨q, cap, cur, hv, _⟩
  · exact ⟨_, _, _, hv⟩
  · exact ⟨_, _, _, hv⟩
theorem row_some {w : World} {base : Nat} {e : TypeId} {size g n cap : Nat} {xs : List Value} (h : w.ownsRow base e size (.slice (some ⟨g, 0, none⟩) n cap) n xs) (j : Nat) (hj : j < n * size) : ∃ v, w.cell? ⟨g, j, none⟩ = some v := by
  have hl : j < xs.length := by rw [h.1]; exact hj
  exact ⟨xs[j], by rw [World.ownsRow.cellAt h j hj, List.getElem?_eq_getElem hl]⟩
def fe (Fs : List FE) (k : Nat) : FE := Fs.getD k ⟨0, [], none, 0⟩
theorem fe_mem {Fs : List FE} {k : Nat} (h : k < Fs.length) : fe Fs k ∈ Fs := by
  simp [fe, List.getD_eq_getElem?_getD, List.getElem?_eq_getElem h]
theorem fe_get {Fs : List FE} {k : Nat} (h : k < Fs.length) : Fs[k]? = some (fe Fs k) := by
  simp [fe, List.getD_eq_getElem?_getD, List.getElem?_eq_getElem h]
theorem fe_ne {Fs : List FE} (hn : (Fs.map FE.g).Nodup) {i j : Nat} (hi : i < Fs.length) (hj : j < Fs.length) (h : i ≠ j) : (fe Fs i).g ≠ (fe Fs j).g := by
  intro he
  have h1 : (Fs.map FE.g)[i]? = some (fe Fs i).g := by rw [List.getElem?_map, fe_get hi]; rfl
  have h2 : (Fs.map FE.g)[j]? = some (fe Fs j).g := by rw [List.getElem?_map, fe_get hj]; rfl
  rw [← he, ← h1] at h2
  have hl : i < (Fs.map FE.g).length := by simpa using hi
  exact h ((List.getElem?_inj hl hn).mp h2.symm)
theorem wcells_len5 (l : List Wnt) : (wcells l).length = l.length * 5 := by
  induction l with
  | nil => rfl
  | cons x l ih => simp [wcells, wcell] at ih ⊢; omega
theorem blk_gr {w w' : World} (g : Gr w w') {k : Nat} {o : Obj} (hk : w.heap[k]? = some o) : w'.heap[k]? = some o := by
  rw [g.block k (blk_lt hk)]; exact hk
theorem set_some {wr : World} {g i : Nat} {t : TypeId} (r : ∃ cs, wr.heap[g]? = some (.cells cs t (0, 0))) (u : Value) : ∃ cs, (wr.setCell ⟨g, i, none⟩ u).heap[g]? = some (.cells cs t (0, 0)) := by
  obtain ⟨cs, h⟩ := r
  exact ⟨_, blk_set_same h u⟩
def over5 (wr : World) (g j : Nat) (a b c d e : Value) : World := ((((wr.setCell ⟨g, j, none⟩ a).setCell ⟨g, j + 1, none⟩ b).setCell ⟨g, j + 1 + 1, none⟩ c).setCell ⟨g, j + 1 + 1 + 1, none⟩ d).setCell ⟨g, j + 1 + 1 + 1 + 1, none⟩ e
theorem owns_shape {w : World} {base : Nat} {e : TypeId} {size n : Nat} {v : Value} {xs : List Value} (h : w.ownsRow base e size v n xs) : ∃ a c, v = .slice a n c ∧ (0 < n → ∃ b, a = some ⟨b, 0, none⟩) := by
  rcases h.2 with ⟨hv, hn⟩ | ⟨q, cap, cur, hv, _⟩
  · subst hn; exact ⟨_, _, hv, fun h => absurd h (by omega)⟩
  · exact ⟨_, _, hv, fun _ => ⟨q, rfl⟩⟩
theorem owns_lt {w : World} {base : Nat} {e : TypeId} {size b n m c : Nat} {xs : List Value} (h : w.ownsRow base e size (.slice (some ⟨b, 0, none⟩) m c) n xs) : b < w.heap.size := by
  rcases h.2 with ⟨hv, _⟩ | ⟨q, cap, cur, hv, _, hh, _⟩
  · cases hv
  · simp only [Value.slice.injEq, Option.some.injEq, Addr.mk.injEq, and_true] at hv
    rw [hv.1]; exact blk_lt hh
theorem heap_alloc_new (w : World) (o : Obj) : (w.alloc o).heap[w.heap.size]? = some o := by
  show (w.heap.push o)[w.heap.size]? = some o
  simp
def box5 (w : World) (g : Nat) (a b c d e : Value) : World := ((((w.setCell ⟨g, 0, none⟩ a).setCell ⟨g, 1, none⟩ b).setCell ⟨g, 2, none⟩ c).setCell ⟨g, 3, none⟩ d).setCell ⟨g, 4, none⟩ e
theorem box5_blk {w : World} {g : Nat} {t : TypeId} {x0 x1 x2 x3 x4 : Value} (h : w.heap[g]? = some (.cells #[x0, x1, x2, x3, x4] t (0, 0))) (a b c d e : Value) : (box5 w g a b c d e).heap[g]? = some (.cells #[a, b, c, d, e] t (0, 0)) :=
  blk_set_same (j := 4) (blk_set_same (j := 3) (blk_set_same (j := 2) (blk_set_same (j := 1) (blk_set_same (j := 0) h a) b) c) d) e
def ov5 (wr : World) (g j : Nat) (a b c d e : Value) : World := (((((wr.setCell ⟨g, j, none⟩ a).setCell ⟨g, j + 1, none⟩ b).setCell ⟨g, j + 2, none⟩ c).setCell ⟨g, j + 3, none⟩ d).setCell ⟨g, j + 4, none⟩ e).drew
theorem ov5_eq (wr : World) (g j : Nat) (a b c d e : Value) : ov5 wr g j a b c d e = (over5 wr g j a b c d e).drew := rfl
theorem Hid.mk' {p : Prop} (h : p) : Hid p := h
theorem heap_alloc_old (w : World) (o : Obj) {k : Nat} (h : k < w.heap.size) : (w.alloc o).heap[k]? = w.heap[k]? := Below.heap_alloc w o k h

/-- Nothing below base has turned, and no block of another type than these. -/
structure Kp (ts : List TypeId) (base : Nat) (w w' : World) : Prop where
  be : Below base w w'
  kp : ∀ (k : Nat) (cs : Array Value) (t : TypeId) (fr : Nat × Nat), w.heap[k]? = some (.cells cs t fr) → ¬ t ∈ ts → w'.heap[k]? = some (.cells cs t fr)
theorem Kp.refl (ts : List TypeId) (base : Nat) (w : World) : Kp ts base w w := ⟨Below.refl _ _, fun _ _ _ _ h _ => h⟩
theorem Kp.trans {ts : List TypeId} {base : Nat} {a b c : World} (h : Kp ts base a b) (k : Kp ts base b c) : Kp ts base a c :=
  ⟨Below.trans h.be k.be, fun i cs t fr hi ht => k.kp i cs t fr (h.kp i cs t fr hi ht) ht⟩
theorem Kp.wide {ts us : List TypeId} {base : Nat} {a b : World} (h : Kp ts base a b) (hs : ∀ t ∈ ts, t ∈ us) : Kp us base a b :=
  ⟨h.be, fun i cs t fr hi ht => h.kp i cs t fr hi (fun hm => ht (hs t hm))⟩
theorem Kp.gr {ts : List TypeId} {base : Nat} {a b : World} (g : Gr a b) (hb : base ≤ a.heap.size) : Kp ts base a b :=
  ⟨Below.mono g hb, fun _ _ _ _ hi _ => blk_gr g hi⟩
theorem Kp.alloc {ts : List TypeId} {base : Nat} {a b : World} (h : Kp ts base a b) (hb : base ≤ b.heap.size) (o : Obj) : Kp ts base a (b.alloc o) :=
  h.trans (Kp.gr ((Gr.refl b).alloc o) hb)
theorem own_low {w : World} {base : Nat} {e : TypeId} {size : Nat} {v : Value} {n : Nat} {xs : List Value} (h : w.ownsRow base e size v n xs) : ∀ k, v.ownBlock = some k → base ≤ k := by
  intro k hk
  rcases h.2 with ⟨hv, _⟩ | ⟨q, cap, cur, hv, hq, _⟩
  · rw [hv] at hk; simp [Value.ownBlock] at hk
  · rw [hv] at hk; simp [Value.ownBlock] at hk; omega
theorem Kp.grown {ts : List TypeId} {base : Nat} {a w w' : World} {e : TypeId} {size : Nat} {v : Value} {n : Nat} {xs : List Value} (h : Kp ts base a w) (own : w.ownsRow base e size v n xs) (he : e ∈ ts) (hg : w.grownBy w' v.ownBlock) (hB : base ≤ w.heap.size) : Kp ts base a w' :=
  h.trans ⟨Below.grown (Below.refl _ _) hg hB (own_low own), fun _ _ _ _ hk ht => grown_block hg hk (own_ne own hk (fun hh => ht (hh ▸ he)))⟩
theorem Kp.set {ts : List TypeId} {base : Nat} {a w : World} {k j : Nat} {cs : Array Value} {t : TypeId} {fr : Nat × Nat} (h : Kp ts base a w) (hk : w.heap[k]? = some (.cells cs t fr)) (ht : t ∈ ts) (hb : base ≤ k) (u : Value) : Kp ts base a (w.setCell ⟨k, j, none⟩ u) :=
  h.trans ⟨Below.setCell (Below.refl _ _) (p := ⟨k, j, none⟩) hb u, fun i cs' t' fr' hi ht' => blk_set hi (p := ⟨k, j, none⟩) (fun (he : i = k) => by subst he; rw [hk] at hi; injection hi with hi; injection hi with _ hi; subst hi; exact ht' ht) u⟩
theorem Kp.owns {ts : List TypeId} {base b2 : Nat} {w w' : World} {e : TypeId} {size : Nat} {v : Value} {n : Nat} {xs : List Value} (k : Kp ts base w w') (h : w.ownsRow b2 e size v n xs) (he : ¬ e ∈ ts) : w'.ownsRow b2 e size v n xs := by
  obtain ⟨h1, h2⟩ := h
  refine ⟨h1, ?_⟩
  rcases h2 with h2 | ⟨b, cap, cur, hv, hb, hh, r⟩
  · exact Or.inl h2
  · exact Or.inr ⟨b, cap, cur, hv, hb, k.kp _ _ _ _ hh he, r⟩
theorem Kp.size {ts : List TypeId} {base : Nat} {a b : World} (h : Kp ts base a b) : a.heap.size ≤ b.heap.size := h.be.size

/-- A filter that was handed to the box: below base, or in a block of the type that nobody writes. -/
def FiK (base : Nat) (w : World) (ad : Option Addr) (f : List Wnt) : Prop := ∃ b off, ad = some ⟨b, off, none⟩ ∧ b < w.heap.size ∧ (b < base ∨ ∃ cs fr, w.heap[b]? = some (.cells cs 96 fr)) ∧ WantsAt w b off f
def EvK (base : Nat) (w : World) (ad : Option Addr) (f : List Atr) : Prop := ∃ b off, ad = some ⟨b, off, none⟩ ∧ b < w.heap.size ∧ (b < base ∨ ∃ cs fr, w.heap[b]? = some (.cells cs 154 fr)) ∧ AttrsAt w b off f
theorem Kp.cell {ts : List TypeId} {base : Nat} {w w' : World} {b : Nat} {t : TypeId} (g : Kp ts base w w') (ht : ¬ t ∈ ts) (h : b < base ∨ ∃ cs fr, w.heap[b]? = some (.cells cs t fr)) : (∀ o, w'.cell? ⟨b, o, none⟩ = w.cell? ⟨b, o, none⟩) ∧ (b < base ∨ ∃ cs fr, w'.heap[b]? = some (.cells cs t fr)) := by
  rcases h with h | ⟨cs, fr, h⟩
  · exact ⟨fun o => g.be.cell (p := ⟨b, o, none⟩) h, Or.inl h⟩
  · have h' := g.kp _ _ _ _ h ht
    exact ⟨fun o => by rw [cell_of_row _ _ _ _ _ _ h', cell_of_row _ _ _ _ _ _ h], Or.inr ⟨cs, fr, h'⟩⟩
theorem FiK.kp {ts : List TypeId} {base : Nat} {w w' : World} {ad : Option Addr} {f : List Wnt} (h : FiK base w ad f) (g : Kp ts base w w') (ht : ¬ 96 ∈ ts) : FiK base w' ad f := by
  obtain ⟨b, off, h1, hl, h2, h3⟩ := h
  obtain ⟨e, h2'⟩ := g.cell ht h2
  refine ⟨b, off, h1, Nat.lt_of_lt_of_le hl g.size, h2', fun i hi => ?_⟩
  obtain ⟨c1, c2, c3, c4, c5⟩ := h3 i hi
  rw [e, e, e, e, e]
  exact ⟨c1, c2, c3, c4, c5⟩
theorem EvK.kp {ts : List TypeId} {base : Nat} {w w' : World} {ad : Option Addr} {f : List Atr} (h : EvK base w ad f) (g : Kp ts base w w') (ht : ¬ 154 ∈ ts) : EvK base w' ad f := by
  obtain ⟨b, off, h1, hl, h2, h3⟩ := h
  obtain ⟨e, h2'⟩ := g.cell ht h2
  refine ⟨b, off, h1, Nat.lt_of_lt_of_le hl g.size, h2', fun i hi => ?_⟩
  obtain ⟨c1, c2, c3, c4⟩ := h3 i hi
  rw [e, e, e, e]
  exact ⟨c1, c2, c3, c4⟩

/-- Filters that were handed in are kept, beside what was handed over. -/
structure LnF (w : World) (base LB : Nat) (ve vew vf vw : Value) (Fs : List FE) : Prop where
  lb : base ≤ LB
  le : base ≤ w.heap.size
  box : w.heap[LB]? = some (.cells #[ve, vew, vf, vw] 152 (0, 0))
  ownf : w.ownsRow base 47 1 vf Fs.length (Fs.map FE.fc)
  ownw : w.ownsRow base 90 1 vw Fs.length (Fs.map FE.wc)
  outs : ∀ e ∈ Fs, base ≤ e.g ∧ w.heap[e.g]? = some (.cells (wcells (outW e.f)).toArray 76 (0, 0))
  args : ∀ e ∈ Fs, e.f ≠ [] ∧ FiK base w e.ad e.f ∧ (∀ x ∈ e.f, Wnt.Wf x)
  nodup : (Fs.map FE.g).Nodup

def spareA : Atr := ⟨⟨#[115, 112, 97, 114, 101]⟩, 0, 0, ⟨#[]⟩⟩
def outA (f : List Atr) : List Atr := f ++ List.replicate 8 spareA
theorem outA_len (f : List Atr) : (outA f).length = f.length + 8 := by simp [outA]
theorem outA_in {f : List Atr} {i : Nat} (h : i < f.length) : aat (outA f) i = aat f i := by
  simp [aat, outA, List.getD_eq_getElem?_getD, List.getElem?_append_left h]
theorem outA_past {f : List Atr} {i : Nat} (h : ¬ i < f.length) (h2 : i < f.length + 8) : aat (outA f) i = spareA := by
  simp only [aat, outA, List.getD_eq_getElem?_getD]
  rw [List.getElem?_append_right (by omega), List.getElem?_replicate, if_pos (by omega)]; rfl
theorem acells_len4 (l : List Atr) : (acells l).length = l.length * 4 := by
  induction l with
  | nil => rfl
  | cons x l ih => simp [acells, acell] at ih ⊢; omega
def set4 (xs : List Value) (k : Nat) (a b c d : Value) : List Value := (((xs.set k a).set (k + 1) b).set (k + 1 + 1) c).set (k + 1 + 1 + 1) d
theorem take4 (xs : List Value) (k : Nat) (a b c d : Value) (h : k + 4 ≤ xs.length) : (set4 xs k a b c d).take (k + 4) = xs.take k ++ [a, b, c, d] := by
  unfold set4
  have h1 := take_set xs k a (by omega)
  have h2 := take_set (xs.set k a) (k + 1) b (by simp; omega)
  have h3 := take_set ((xs.set k a).set (k + 1) b) (k + 1 + 1) c (by simp; omega)
  have h4 := take_set (((xs.set k a).set (k + 1) b).set (k + 1 + 1) c) (k + 1 + 1 + 1) d (by simp; omega)
  rw [show k + 4 = k + 1 + 1 + 1 + 1 by omega, h4, h3, h2, h1]
  simp
theorem set4_len (xs : List Value) (k : Nat) (a b c d : Value) : (set4 xs k a b c d).length = xs.length := by simp [set4]
theorem acells_take (l : List Atr) (i : Nat) (h : i < l.length) : acells (l.take (i + 1)) = acells (l.take i) ++ [.string (aat l i).a, .int .i64 (aat l i).k, .int .i64 (aat l i).n, .string (aat l i).s] := by
  have e : aat l i = l[i] := by simp [aat, List.getD_eq_getElem?_getD, List.getElem?_eq_getElem h]
  rw [List.take_succ_eq_append_getElem h, acells_snoc, e]
theorem owns_set4 {w : World} {base : Nat} {e : TypeId} {g n cap : Nat} {xs : List Value} (h : w.ownsRow base e 4 (.slice (some ⟨g, 0, none⟩) n cap) n xs) (k : Nat) (a b c d : Value) :
    ((((w.setCell ⟨g, k, none⟩ a).setCell ⟨g, k + 1, none⟩ b).setCell ⟨g, k + 1 + 1, none⟩ c).setCell ⟨g, k + 1 + 1 + 1, none⟩ d).ownsRow base e 4 (.slice (some ⟨g, 0, none⟩) n cap) n (set4 xs k a b c d) :=
  (World.ownsRow.stored (World.ownsRow.stored (World.ownsRow.stored (World.ownsRow.stored h k a).1 (k + 1) b).1 (k + 1 + 1) c).1 (k + 1 + 1 + 1) d).1
theorem gr_set4 {w v : World} {g k : Nat} (hg : w.heap.size ≤ g) (h : Gr w v) (a b c d : Value) : Gr w ((((v.setCell ⟨g, k, none⟩ a).setCell ⟨g, k + 1, none⟩ b).setCell ⟨g, k + 1 + 1, none⟩ c).setCell ⟨g, k + 1 + 1 + 1, none⟩ d) :=
  Below.setCell (Below.setCell (Below.setCell (Below.setCell h hg _) hg _) hg _) hg _

structure EE where
  g : Nat
  f : List Atr
  ad : Option Addr
  cap : Nat
def EE.fc (e : EE) : Value := .slice (some ⟨e.g, 0, none⟩) (e.f.length + 8) (e.f.length + 8)
def EE.wc (e : EE) : Value := .slice e.ad e.f.length e.cap
def ee (Fs : List EE) (k : Nat) : EE := Fs.getD k ⟨0, [], none, 0⟩
theorem ee_mem {Fs : List EE} {k : Nat} (h : k < Fs.length) : ee Fs k ∈ Fs := by
  simp [ee, List.getD_eq_getElem?_getD, List.getElem?_eq_getElem h]
theorem ee_get {Fs : List EE} {k : Nat} (h : k < Fs.length) : Fs[k]? = some (ee Fs k) := by
  simp [ee, List.getD_eq_getElem?_getD, List.getElem?_eq_getElem h]
theorem ee_ne {Fs : List EE} (hn : (Fs.map EE.g).Nodup) {i j : Nat} (hi : i < Fs.length) (hj : j < Fs.length) (h : i ≠ j) : (ee Fs i).g ≠ (ee Fs j).g := by
  intro he
  have h1 : (Fs.map EE.g)[i]? = some (ee Fs i).g := by rw [List.getElem?_map, ee_get hi]; rfl
  have h2 : (Fs.map EE.g)[j]? = some (ee Fs j).g := by rw [List.getElem?_map, ee_get hj]; rfl
  rw [← he, ← h1] at h2
  have hl : i < (Fs.map EE.g).length := by simpa using hi
  exact h ((List.getElem?_inj hl hn).mp h2.symm)
/-- Events likewise. -/
structure LnE (w : World) (base LB : Nat) (ve vew vf vw : Value) (Es : List EE) : Prop where
  lb : base ≤ LB
  le : base ≤ w.heap.size
  box : w.heap[LB]? = some (.cells #[ve, vew, vf, vw] 152 (0, 0))
  ownf : w.ownsRow base 64 1 ve Es.length (Es.map EE.fc)
  ownw : w.ownsRow base 91 1 vew Es.length (Es.map EE.wc)
  outs : ∀ e ∈ Es, base ≤ e.g ∧ w.heap[e.g]? = some (.cells (acells (outA e.f)).toArray 74 (0, 0))
  args : ∀ e ∈ Es, e.f ≠ [] ∧ EvK base w e.ad e.f ∧ (∀ x ∈ e.f, Atr.Wf x)
  nodup : (Es.map EE.g).Nodup

def tsF : List TypeId := [152, 47, 90]
def tsE : List TypeId := [152, 64, 91]
def tsS : List TypeId := [152, 74, 76]
def tsL : List TypeId := [152, 47, 90, 64, 91, 74, 76]
theorem LnE.kp {w w' : World} {base LB : Nat} {ve vew vf vw vf' vw' : Value} {Es : List EE} (h : LnE w base LB ve vew vf vw Es) (k : Kp tsF base w w') (hb : w'.heap[LB]? = some (.cells #[ve, vew, vf', vw'] 152 (0, 0))) : LnE w' base LB ve vew vf' vw' Es :=
  ⟨h.lb, Nat.le_trans h.le k.size, hb, k.owns h.ownf (by decide), k.owns h.ownw (by decide), fun e he => ⟨(h.outs e he).1, k.kp _ _ _ _ (h.outs e he).2 (by decide)⟩, fun e he => ⟨(h.args e he).1, (h.args e he).2.1.kp k (by decide), (h.args e he).2.2⟩, h.nodup⟩
theorem LnF.kp {w w' : World} {base LB : Nat} {ve vew vf vw ve' vew' : Value} {Es : List FE} (h : LnF w base LB ve vew vf vw Es) (k : Kp tsE base w w') (hb : w'.heap[LB]? = some (.cells #[ve', vew', vf, vw] 152 (0, 0))) : LnF w' base LB ve' vew' vf vw Es :=
  ⟨h.lb, Nat.le_trans h.le k.size, hb, k.owns h.ownf (by decide), k.owns h.ownw (by decide), fun e he => ⟨(h.outs e he).1, k.kp _ _ _ _ (h.outs e he).2 (by decide)⟩, fun e he => ⟨(h.args e he).1, (h.args e he).2.1.kp k (by decide), (h.args e he).2.2⟩, h.nodup⟩
theorem LnF.gr {w w' : World} {base LB : Nat} {ve vew vf vw : Value} {Fs : List FE} (h : LnF w base LB ve vew vf vw Fs) (g : Gr w w') : LnF w' base LB ve vew vf vw Fs :=
  h.kp (Kp.gr g h.le) (blk_gr g h.box)
theorem LnE.gr {w w' : World} {base LB : Nat} {ve vew vf vw : Value} {Fs : List EE} (h : LnE w base LB ve vew vf vw Fs) (g : Gr w w') : LnE w' base LB ve vew vf vw Fs :=
  h.kp (Kp.gr g h.le) (blk_gr g h.box)
end Go.Proofs.YtecnfgikbmcgoaaGreat
