import Derived.Test.YtecnfgikbmcgoaaDoorEvt
import Derived.WalkSpells
namespace Go.Proofs.YtecnfgikbmcgoaaDoor
open Go.RowKit

theorem ownsGr {w w' : World} {base : Nat} {e : TypeId} {size : Nat} {v : Value} {n : Nat} {xs : List Value} (h : w.ownsRow base e size v n xs) (g : Gr w w') : w'.ownsRow base e size v n xs := by
  obtain ⟨h1, h2⟩ := h
  refine ⟨h1, ?_⟩
  rcases h2 with h2 | ⟨b, cap, cur, hv, hb, hh, r⟩
  · exact Or.inl h2
  · refine Or.inr ⟨b, cap, cur, hv, hb, ?_, r⟩
    have hlt : b < w.heap.size := by
      rcases Nat.lt_or_ge b w.heap.size with h | h
      · exact h
      · rw [Array.getElem?_eq_none (by omega)] at hh; cases hh
    rw [g.block b hlt]; exact hh

/-- A list of wants as a slice (nil, or of no want: its address is whatever). -/
def FiAt (w : World) (ad : Option Addr) (l : List Wnt) : Prop := l = [] ∨ ∃ b off, ad = some ⟨b, off, none⟩ ∧ b < w.heap.size ∧ WantsAt w b off l
def EvAt (w : World) (ad : Option Addr) (l : List Atr) : Prop := l = [] ∨ ∃ b off, ad = some ⟨b, off, none⟩ ∧ b < w.heap.size ∧ AttrsAt w b off l
theorem FiAt.gr {w w' : World} {ad : Option Addr} {l : List Wnt} (h : FiAt w ad l) (g : Gr w w') : FiAt w' ad l := by
  rcases h with h | ⟨b, off, h1, h2, h3⟩
  · exact Or.inl h
  · exact Or.inr ⟨b, off, h1, Gr.lt g h2, h3.gr g h2⟩
theorem EvAt.gr {w w' : World} {ad : Option Addr} {l : List Atr} (h : EvAt w ad l) (g : Gr w w') : EvAt w' ad l := by
  rcases h with h | ⟨b, off, h1, h2, h3⟩
  · exact Or.inl h
  · exact Or.inr ⟨b, off, h1, Gr.lt g h2, h3.gr g h2⟩

def fat (fs : List (List Wnt)) (i : Nat) : List Wnt := fs.getD i []
theorem fat_mem {fs : List (List Wnt)} {i : Nat} (h : i < fs.length) : fat fs i ∈ fs := getD_mem h []
/-- Filters lie in a block, a cell each. -/
def FisAt (w : World) (b off : Nat) (fs : List (List Wnt)) : Prop :=
  ∀ i, i < fs.length → ∃ ad cap, w.cell? ⟨b, off + i, none⟩ = some (.slice ad (fat fs i).length cap) ∧ FiAt w ad (fat fs i)
theorem FisAt.gr {w w' : World} {b off : Nat} {fs : List (List Wnt)} (h : FisAt w b off fs) (g : Gr w w') (hb : b < w.heap.size) : FisAt w' b off fs := fun i hi => by
  obtain ⟨ad, cap, h1, h2⟩ := h i hi
  exact ⟨ad, cap, by rw [(bcell g).1 b _ hb]; exact h1, h2.gr g⟩

theorem ret_tup {v : Value} {a b : Int} (h : a = b) : Ending.returned (.tuple #[v, .int .i64 a]) = .returned (.tuple #[v, .int .i64 b]) := by rw [h]

/-- Which filters match. -/
def hits (e : List Atr) (fs : List (List Wnt)) (k : Nat) : List Nat := (List.range k).filter fun i => mat e (fat fs i)
def mErr (e : List Atr) (fs : List (List Wnt)) : Int := if evOk e then (if fs.all filterOk then 0 else 2) else 1
def mRes (e : List Atr) (fs : List (List Wnt)) : List Nat := if mErr e fs = 0 then hits e fs fs.length else []
def ints (l : List Nat) : List Value := l.map fun i : Nat => .int .i64 (i : Int)

theorem hits_yes {e : List Atr} {fs : List (List Wnt)} {k : Nat} (h : mat e (fat fs k) = true) : hits e fs (k + 1) = hits e fs k ++ [k] := by
  simp [hits, List.range_succ, h]
theorem hits_no {e : List Atr} {fs : List (List Wnt)} {k : Nat} (h : mat e (fat fs k) = false) : hits e fs (k + 1) = hits e fs k := by
  simp [hits, List.range_succ, h]
theorem hits_le (e : List Atr) (fs : List (List Wnt)) (k : Nat) : (hits e fs k).length ≤ k := by
  have := List.length_filter_le (fun i => mat e (fat fs i)) (List.range k)
  simpa [hits] using this
theorem ints_snoc (l : List Nat) (k : Nat) : ints (l ++ [k]) = ints l ++ [.int .i64 (k : Int)] := by simp [ints]
theorem ev_ok_of {l : List Atr} (h : evOk l = true) : (∀ z ∈ l, valOk z.k z.n z.s = true) ∧ l ≠ [] := by
  simp only [evOk, Bool.and_eq_true, List.all_eq_true] at h
  refine ⟨fun z hz => ?_, fun e => ?_⟩
  · obtain ⟨i, hi, rfl⟩ := List.mem_iff_getElem.1 hz
    have := h.2 i (by simpa using hi)
    simp [okAt, aat, List.getD_eq_getElem?_getD, List.getElem?_eq_getElem hi] at this
    exact this.1.2
  · subst e; simp at h
theorem fi_ok_of {l : List Wnt} (h : filterOk l = true) : (∀ x ∈ l, wOk x = true) ∧ l ≠ [] := by
  simp only [filterOk, Bool.and_eq_true, List.all_eq_true] at h
  refine ⟨fun x hx => h.2 x hx, fun e => ?_⟩
  subst e; simp at h

end Go.Proofs.YtecnfgikbmcgoaaDoor
