import Derived.Test.YtecnfgikbmcgoaaDoorKeep
import Derived.Deep.AppendLies
namespace Go.Proofs.YtecnfgikbmcgoaaDoor
open Go.RowKit

def iat (zs : List Int) (i : Nat) : Int := zs.getD i 0
def IntsAt (w : World) (b off : Nat) (zs : List Int) : Prop := ∀ i, i < zs.length → w.cell? ⟨b, off + i, none⟩ = some (.int .i64 (iat zs i))
theorem IntsAt.gr {w w' : World} {b off : Nat} {zs : List Int} (h : IntsAt w b off zs) (g : Gr w w') (hb : b < w.heap.size) : IntsAt w' b off zs := fun i hi => by
  rw [(bcell g).1 b _ hb]; exact h i hi
def IntWf (zs : List Int) : Prop := ∀ z ∈ zs, -9223372036854775808 ≤ z ∧ z ≤ 9223372036854775807
theorem iat_bd {zs : List Int} (h : IntWf zs) {i : Nat} (hi : i < zs.length) : -9223372036854775808 ≤ iat zs i ∧ iat zs i ≤ 9223372036854775807 := h _ (getD_mem hi 0)
def InAt (w : World) (ad : Option Addr) (zs : List Int) : Prop := zs = [] ∨ ∃ b off, ad = some ⟨b, off, none⟩ ∧ b < w.heap.size ∧ IntsAt w b off zs
theorem InAt.gr {w w' : World} {ad : Option Addr} {zs : List Int} (h : InAt w ad zs) (g : Gr w w') : InAt w' ad zs := by
  rcases h with h | ⟨b, off, h1, h2, h3⟩
  · exact Or.inl h
  · exact Or.inr ⟨b, off, h1, Gr.lt g h2, h3.gr g h2⟩

def wcell (x : Wnt) : List Value := [.string x.a, .int .i64 x.y, .int .i64 x.k, .int .i64 x.n, .string x.s]
def wcells (l : List Wnt) : List Value := l.flatMap wcell
def acell (x : Atr) : List Value := [.string x.a, .int .i64 x.k, .int .i64 x.n, .string x.s]
def acells (l : List Atr) : List Value := l.flatMap acell
theorem wcells_snoc (l : List Wnt) (x : Wnt) : wcells (l ++ [x]) = wcells l ++ [.string x.a, .int .i64 x.y, .int .i64 x.k, .int .i64 x.n, .string x.s] := by simp [wcells, wcell]
theorem acells_snoc (l : List Atr) (x : Atr) : acells (l ++ [x]) = acells l ++ [.string x.a, .int .i64 x.k, .int .i64 x.n, .string x.s] := by simp [acells, acell]

theorem wcells_at : ∀ (l : List Wnt) (i : Nat), i < l.length → (wcells l)[i * 5]? = some (.string (wat l i).a) ∧ (wcells l)[i * 5 + 1]? = some (.int .i64 (wat l i).y) ∧ (wcells l)[i * 5 + 2]? = some (.int .i64 (wat l i).k) ∧
    (wcells l)[i * 5 + 3]? = some (.int .i64 (wat l i).n) ∧ (wcells l)[i * 5 + 4]? = some (.string (wat l i).s)
  | [], i, h => by simp at h
  | x :: l, 0, _ => by simp [wcells, wcell, wat]
  | x :: l, i + 1, h => by
    have ih := wcells_at l i (by simpa using h)
    have e : ∀ j, (wcells (x :: l))[(i + 1) * 5 + j]? = (wcells l)[i * 5 + j]? := fun j => by
      have : (i + 1) * 5 + j = (i * 5 + j) + 5 := by omega
      rw [this]; simp [wcells, wcell, List.getElem?_cons_succ]
    have e0 := e 0
    simp only [Nat.add_zero] at e0
    have ew : wat (x :: l) (i + 1) = wat l i := by simp [wat]
    rw [e0, e 1, e 2, e 3, e 4, ew]
    exact ih
theorem acells_at : ∀ (l : List Atr) (i : Nat), i < l.length → (acells l)[i * 4]? = some (.string (aat l i).a) ∧ (acells l)[i * 4 + 1]? = some (.int .i64 (aat l i).k) ∧
    (acells l)[i * 4 + 2]? = some (.int .i64 (aat l i).n) ∧ (acells l)[i * 4 + 3]? = some (.string (aat l i).s)
  | [], i, h => by simp at h
  | x :: l, 0, _ => by simp [acells, acell, aat]
  | x :: l, i + 1, h => by
    have ih := acells_at l i (by simpa using h)
    have e : ∀ j, (acells (x :: l))[(i + 1) * 4 + j]? = (acells l)[i * 4 + j]? := fun j => by
      have : (i + 1) * 4 + j = (i * 4 + j) + 4 := by omega
      rw [this]; simp [acells, acell, List.getElem?_cons_succ]
    have e0 := e 0
    simp only [Nat.add_zero] at e0
    have ew : aat (x :: l) (i + 1) = aat l i := by simp [aat]
    rw [e0, e 1, e 2, e 3, ew]
    exact ih

/-- Wants that the call owns, as a slice: where they lie. -/
theorem owns_wants {w : World} {base : Nat} {e : TypeId} {v : Value} {l : List Wnt} (h : w.ownsRow base e 5 v l.length (wcells l)) : ∃ ad cap, v = .slice ad l.length cap ∧ FiAt w ad l := by
  rcases h.2 with ⟨hv, hn⟩ | ⟨g, cap, cur, hv, hg, hh, _⟩
  · exact ⟨none, 0, by rw [hv, hn], Or.inl (List.length_eq_zero_iff.1 hn)⟩
  · refine ⟨some ⟨g, 0, none⟩, cap, hv, Or.inr ⟨g, 0, rfl, ?_, fun i hi => ?_⟩⟩
    · rcases Nat.lt_or_ge g w.heap.size with h | h
      · exact h
      · rw [Array.getElem?_eq_none (by omega)] at hh; cases hh
    · have hc := fun j (hj : j < l.length * 5) => World.ownsRow.cellAt (hv ▸ h) j hj
      obtain ⟨h1, h2, h3, h4, h5⟩ := wcells_at l i hi
      simp only [Nat.zero_add]
      rw [hc (i * 5) (by omega), hc (i * 5 + 1) (by omega), hc (i * 5 + 1 + 1) (by omega), hc (i * 5 + 1 + 1 + 1) (by omega), hc (i * 5 + 1 + 1 + 1 + 1) (by omega)]
      exact ⟨h1, h2, h3, h4, h5⟩
theorem owns_attrs {w : World} {base : Nat} {e : TypeId} {v : Value} {l : List Atr} (h : w.ownsRow base e 4 v l.length (acells l)) : ∃ ad cap, v = .slice ad l.length cap ∧ EvAt w ad l := by
  rcases h.2 with ⟨hv, hn⟩ | ⟨g, cap, cur, hv, hg, hh, _⟩
  · exact ⟨none, 0, by rw [hv, hn], Or.inl (List.length_eq_zero_iff.1 hn)⟩
  · refine ⟨some ⟨g, 0, none⟩, cap, hv, Or.inr ⟨g, 0, rfl, ?_, fun i hi => ?_⟩⟩
    · rcases Nat.lt_or_ge g w.heap.size with h | h
      · exact h
      · rw [Array.getElem?_eq_none (by omega)] at hh; cases hh
    · have hc := fun j (hj : j < l.length * 4) => World.ownsRow.cellAt (hv ▸ h) j hj
      obtain ⟨h1, h2, h3, h4⟩ := acells_at l i hi
      simp only [Nat.zero_add]
      rw [hc (i * 4) (by omega), hc (i * 4 + 1) (by omega), hc (i * 4 + 1 + 1) (by omega), hc (i * 4 + 1 + 1 + 1) (by omega)]
      exact ⟨h1, h2, h3, h4⟩

def kw (zs : List Int) (k : Nat) : List Wnt := (zs.take k).map wantF
theorem kw_snoc {zs : List Int} {k : Nat} (h : k < zs.length) : kw zs (k + 1) = kw zs k ++ [wantF (iat zs k)] := by
  have e : iat zs k = zs[k] := by simp [iat, List.getD_eq_getElem?_getD, List.getElem?_eq_getElem h]
  rw [kw, List.take_succ_eq_append_getElem h, List.map_append, e]; rfl
theorem kw_len {zs : List Int} {k : Nat} (h : k ≤ zs.length) : (kw zs k).length = k := by simp [kw]; omega
def anyW : Wnt := ⟨⟨#[97]⟩, 1, 0, 0, ⟨#[]⟩⟩
/-- The filter that 'wants' makes. -/
def wantsF (zs : List Int) : List Wnt := if zs = [] then [anyW] else kw zs 3
theorem name97 : nameOk ⟨#[97]⟩ = true := by decide
theorem anyW_ok : wOk anyW = true := by
  have he : (⟨#[]⟩ : ByteArray).toList = [] := noText_list
  simp [wOk, wantOk, anyW, wayOk_any, name97, he]
theorem wantsF_ok (zs : List Int) : filterOk (wantsF zs) = true ∧ (∀ x ∈ wantsF zs, Wnt.Wf x) ∧ 1 ≤ (wantsF zs).length ∧ (wantsF zs).length ≤ 3 := by
  unfold wantsF
  split
  · refine ⟨by simp [filterOk, anyW_ok], fun x hx => ?_, by simp, by simp⟩
    simp at hx; subst hx
    constructor <;> decide
  · rename_i hne
    have hp : 0 < zs.length := by cases zs <;> simp_all
    have hl : (kw zs 3).length = min 3 zs.length := by simp [kw]
    refine ⟨?_, fun x hx => ?_, by omega, by omega⟩
    · have e1 : decide (1 ≤ ((kw zs 3).length : Int)) = true := by simp; omega
      have e2 : decide (((kw zs 3).length : Int) ≤ 6) = true := by simp; omega
      have e3 : (kw zs 3).all wOk = true := by
        rw [List.all_eq_true]; intro x hx
        rw [kw, List.mem_map] at hx; obtain ⟨n, _, rfl⟩ := hx; exact wantF_ok n
      simp only [filterOk, e1, e2, e3, Bool.and_self]
    · rw [kw, List.mem_map] at hx; obtain ⟨n, _, rfl⟩ := hx; exact wantF_wf n

theorem kw_full {zs : List Int} {k : Nat} (h : ¬ (k < zs.length ∧ k < 3)) (h1 : k ≤ zs.length) (h2 : k ≤ 3) (hne : zs ≠ []) : wantsF zs = kw zs k ∧ 0 < k := by
  have hp : 0 < zs.length := by cases zs <;> simp_all
  refine ⟨?_, by omega⟩
  rw [wantsF, if_neg hne]
  by_cases h3 : k = 3
  · rw [h3]
  · have e : k = zs.length := by omega
    rw [kw, kw, e, List.take_of_length_le (i := 3) (by omega), List.take_of_length_le (Nat.le_refl _)]
theorem owns_form {w : World} {base : Nat} {e : TypeId} {size : Nat} {v : Value} {n : Nat} {xs : List Value} (h : w.ownsRow base e size v n xs) : ∃ ad cap, v = .slice ad n cap := by
  rcases h.2 with ⟨hv, hn⟩ | ⟨g, cap, cur, hv, _⟩
  · exact ⟨none, 0, by rw [hv, hn]⟩
  · exact ⟨_, cap, hv⟩
theorem owns_grown {w w1 w' : World} {base : Nat} {e : TypeId} {size : Nat} {v : Value} {n : Nat} {xs : List Value} {o : Obj} (hb : base = w.heap.size) (h : w1.ownsRow base e size v n xs) (g : Gr w w1) (hg : (w1.alloc o).grownBy w' v.ownBlock) : Gr w w' := by
  subst hb
  refine Below.grown (g.alloc _) hg (by have := g.size; simp; omega) (fun b hb => ?_)
  rcases h.2 with ⟨hv, _⟩ | ⟨q, cap, cur, hv, hq, _⟩
  · rw [hv] at hb; simp [Value.ownBlock] at hb
  · rw [hv] at hb; simp [Value.ownBlock] at hb; omega

end Go.Proofs.YtecnfgikbmcgoaaDoor
