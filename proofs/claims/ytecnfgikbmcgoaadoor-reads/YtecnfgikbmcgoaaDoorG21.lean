import Derived.Test.YtecnfgikbmcgoaaDoorG20
namespace Go.Proofs.YtecnfgikbmcgoaaDoor
open Go.RowKit

/-- One step of 'keep's last statement. -/
structure Gd (T TS : TypeId) (own : Option Nat) (base : Nat) (w : World) (mk : List Value) (n : Nat) (v vi : Value) (ls : List Value) (strict : Prop) (wa wb : World) : Prop where
  mks : ∀ u k, wa.ownsRow base T mk.length u k (rep k mk) → wb.ownsRow base T mk.length u k (rep k mk)
  bl : ∀ (k : Nat) (cs : Array Value) (t : TypeId) (fr : Nat × Nat), wa.heap[k]? = some (.cells cs t fr) → own ≠ some k → vi.ownBlock ≠ some k → wb.heap[k]? = some (.cells cs t fr)
  ki : KI T TS own base w wa mk n v vi ls [] → KI T TS own base w wb mk n v vi ls []
  ts : strict → ∀ u k xs, wa.ownsRow base TS 1 u k xs → wb.ownsRow base TS 1 u k xs
theorem Gd.gr {T TS : TypeId} {own : Option Nat} {base : Nat} {w : World} {mk : List Value} {n : Nat} {v vi : Value} {ls : List Value} {s : Prop} {wa wb : World} (g : Gr wa wb) : Gd T TS own base w mk n v vi ls s wa wb :=
  ⟨fun _ _ h => ownsGr h g, fun _ _ _ _ h _ _ => blk_gr g h, fun h => h.gr g, fun _ _ _ _ h => ownsGr h g⟩
theorem Gd.app {T TS : TypeId} {own : Option Nat} {base : Nat} {w : World} {mk : List Value} {n m : Nat} {v vi v' : Value} {ls : List Value} {s : Prop} {wa wb : World} (hts : TS ≠ T) (hv : v.ownBlock = own) (h0 : wa.ownsRow base T mk.length v n (rep n mk))
    (h2 : wb.ownsRow base T mk.length v' (n + m) (rep (n + m) mk)) (h3 : wa.grownBy wb v.ownBlock) (h4 : ∀ u k, wa.ownsRow base T mk.length u k (rep k mk) → wb.ownsRow base T mk.length u k (rep k mk)) : Gd T TS own base w mk n v vi ls s wa wb := by
  refine ⟨h4, fun k cs t fr hk ho _ => grown_block h3 hk (by rw [hv]; exact ho), fun h => ?_, fun _ u k xs h => owns_kept h h3 (own_apart h0 h hts)⟩
  have := h.app hts hv h2 h3 (fun u k _ => h4 u k) (by simp)
  exact ⟨this.fr, this.le, this.v0, this.vi, by simp⟩
theorem Gd.app4 {T TS : TypeId} {own : Option Nat} {base : Nat} {w : World} {mk : List Value} {n : Nat} {v vi : Value} {ls : List Value} {wa wb : World} (hts : T ≠ TS) (hvi : wa.ownsRow base TS 1 vi ls.length ls) (hle : base ≤ wa.heap.size)
    (h2 : wb.ownsRow base TS 1 vi ls.length ls) (h3 : wa.grownBy wb vi.ownBlock) : Gd T TS own base w mk n v vi ls False wa wb := by
  refine ⟨fun u k h => owns_kept h h3 (own_apart hvi h hts), fun k cs t fr hk _ ho => grown_block h3 hk ho, fun h => ?_, fun h => h.elim⟩
  refine ⟨h.fr.trans ⟨Below.grown (Below.refl _ _) h3 hle (own_low hvi), fun k cs t fr hk ht _ => grown_block h3 hk (own_ne hvi hk (fun e => ht (by simp [e])))⟩, Nat.le_trans h.le h3.size, owns_kept h.v0 h3 (own_apart hvi h.v0 hts), h2, by simp⟩

/-- A block of new elements. -/
def NewB (own : Option Nat) (vi : Value) (T : TypeId) (k : Nat) (cs : Array Value) (x : Value) (w : World) : Prop := ∃ B, x = .slice (some ⟨B, 0, none⟩) k k ∧ own ≠ some B ∧ vi.ownBlock ≠ some B ∧ w.heap[B]? = some (.cells cs T (0, 0))
def Mk (T : TypeId) (base : Nat) (mk : List Value) (k : Nat) (x : Value) (w : World) : Prop := (∃ b m q, x = .slice b m q) ∧ w.ownsRow base T mk.length x k (rep k mk)
theorem NewB.gd {T TS T' : TypeId} {own : Option Nat} {base : Nat} {w : World} {mk : List Value} {n k : Nat} {v vi x : Value} {ls : List Value} {cs : Array Value} {s : Prop} {wa wb : World} (h : NewB own vi T' k cs x wa) (g : Gd T TS own base w mk n v vi ls s wa wb) : NewB own vi T' k cs x wb := by
  obtain ⟨B, h1, h2, h3, h4⟩ := h
  exact ⟨B, h1, h2, h3, g.bl _ _ _ _ h4 h2 h3⟩
theorem Mk.gd {T TS : TypeId} {own : Option Nat} {base : Nat} {w : World} {mk : List Value} {n k : Nat} {v vi x : Value} {ls : List Value} {s : Prop} {wa wb : World} (h : Mk T base mk k x wa) (g : Gd T TS own base w mk n v vi ls s wa wb) : Mk T base mk k x wb := ⟨h.1, g.mks _ _ h.2⟩
theorem NewB.alloc {T TS T' : TypeId} {own : Option Nat} {base : Nat} {w wr : World} {mk : List Value} {n k : Nat} {v vi : Value} {ls : List Value} {cs : Array Value} (h : KI T TS own base w wr mk n v vi ls []) (hv : v.ownBlock = own) : NewB own vi T' k cs (.slice (some ⟨wr.heap.size, 0, none⟩) k k) (wr.alloc (.cells cs T')) := by
  refine ⟨wr.heap.size, rfl, fun he => ?_, fun he => ?_, heap_alloc_new _ _⟩
  · rcases h.v0.2 with ⟨hx, _⟩ | ⟨g, cap, cur, hx, _, hh, _⟩
    · rw [hx] at hv; rw [← hv] at he; simp [Value.ownBlock] at he
    · rw [hx] at hv; rw [← hv] at he
      have : g = wr.heap.size := by simpa [Value.ownBlock] using he
      have := blk_lt hh; omega
  · rcases h.vi.2 with ⟨hx, _⟩ | ⟨g, cap, cur, hx, _, hh, _⟩
    · rw [hx] at he; simp [Value.ownBlock] at he
    · rw [hx] at he
      have : g = wr.heap.size := by simpa [Value.ownBlock] using he
      have := blk_lt hh; omega
/-- Four new lists. -/
def Four (T TS : TypeId) (base : Nat) (mk : List Value) (n : Nat) (v : Value) (own : Option Nat) (vi x : Value) (w : World) : Prop :=
  ∃ v1 v2 v3, NewB own vi TS 4 #[v, v1, v2, v3] x w ∧ Mk T base mk (n + 1) v1 w ∧ Mk T base mk (n + 2) v2 w ∧ Mk T base mk (n + 3) v3 w
def Done (T TS : TypeId) (base : Nat) (mk : List Value) (n : Nat) (v : Value) (ls : List Value) (x : Value) (w : World) : Prop :=
  (∃ b m q, x = .slice b m q) ∧ ∃ v1 v2 v3, w.ownsRow base TS 1 x (ls.length + 4) (ls ++ [v, v1, v2, v3]) ∧ Mk T base mk (n + 1) v1 w ∧ Mk T base mk (n + 2) v2 w ∧ Mk T base mk (n + 3) v3 w
theorem Four.gd {T TS : TypeId} {own : Option Nat} {base : Nat} {w : World} {mk : List Value} {n : Nat} {v vi x : Value} {ls : List Value} {s : Prop} {wa wb : World} (h : Four T TS base mk n v own vi x wa) (g : Gd T TS own base w mk n v vi ls s wa wb) : Four T TS base mk n v own vi x wb := by
  obtain ⟨v1, v2, v3, h0, h1, h2, h3⟩ := h
  exact ⟨v1, v2, v3, h0.gd g, h1.gd g, h2.gd g, h3.gd g⟩
theorem Done.gd {T TS : TypeId} {own : Option Nat} {base : Nat} {w : World} {mk : List Value} {n : Nat} {v vi x : Value} {ls : List Value} {s : Prop} {wa wb : World} (h : Done T TS base mk n v ls x wa) (g : Gd T TS own base w mk n v vi ls s wa wb) (hs : s) : Done T TS base mk n v ls x wb := by
  obtain ⟨h', v1, v2, v3, h0, h1, h2, h3⟩ := h
  exact ⟨h', v1, v2, v3, g.ts hs _ _ _ h0, h1.gd g, h2.gd g, h3.gd g⟩
/-- The store at the end. -/
theorem Done.kept {T TS : TypeId} {own : Option Nat} {base : Nat} {w wr : World} {mk : List Value} {n : Nat} {v vi x : Value} {ls : List Value} {BB j : Nat} {bx : Array Value} (h : Done T TS base mk n v ls x wr) (k : KI T TS own base w wr mk n v vi ls []) (hbx : w.heap[BB]? = some (.cells bx 64 (0, 0))) (hbb : base ≤ BB)
    (h1 : TS ≠ 64) (h2 : own ≠ some BB) (h4 : T ≠ 64) : ∃ us, Kept T TS own base w (wr.setCell ⟨BB, j, none⟩ x) mk n v x ls us := by
  obtain ⟨_, v1, v2, v3, h0, m1, m2, m3⟩ := h
  have hb2 := k.box hbx h1 h2
  have kp : ∀ {u : Value} {q : Nat}, wr.ownsRow base T mk.length u q (rep q mk) → (wr.setCell ⟨BB, j, none⟩ x).ownsRow base T mk.length u q (rep q mk) := fun hu => owns_set hu hb2 (fun e => h4 e.symm) _
  refine ⟨ls ++ [v, v1, v2, v3], ?_, ?_, v1, v2, v3, rfl, kp k.v0, kp m1.2, kp m2.2, kp m3.2⟩
  · refine (k.fr.wide (by simp)).trans ⟨Below.setCell (Below.refl _ _) (p := ⟨BB, j, none⟩) hbb _, ?_⟩
    intro q cs t fr hk ht _
    simp only [List.mem_cons, List.not_mem_nil, or_false, not_or] at ht
    exact blk_set hk (p := ⟨BB, j, none⟩) (blk_ne' hk hb2 ht.2) _
  · have e : (ls ++ [v, v1, v2, v3]).length = ls.length + 4 := by simp
    rw [e]
    exact owns_set h0 hb2 (fun e => h1 e.symm) _
end Go.Proofs.YtecnfgikbmcgoaaDoor
