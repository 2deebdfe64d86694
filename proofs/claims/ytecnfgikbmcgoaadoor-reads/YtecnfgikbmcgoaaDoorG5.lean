import Derived.Test.YtecnfgikbmcgoaaDoorG4
import Derived.Test.YtecnfgikbmcgoaaDoorG2
import Derived.Test.YtecnfgikbmcgoaaDoorG0
import Derived.Deep.RegionHeld3
import Derived.Deep.RegionWith
namespace Go.Proofs.YtecnfgikbmcgoaaDoor
open Go.RowKit

def spareW : Wnt := ⟨⟨#[115, 112, 97, 114, 101]⟩, 0, 0, 0, ⟨#[]⟩⟩
/-- What is handed over, with its spare room. -/
def outW (f : List Wnt) : List Wnt := f ++ List.replicate 8 spareW
theorem outW_len (f : List Wnt) : (outW f).length = f.length + 8 := by simp [outW]
theorem outW_in {f : List Wnt} {i : Nat} (h : i < f.length) : wat (outW f) i = wat f i := by
  simp [wat, outW, List.getD_eq_getElem?_getD, List.getElem?_append_left h]
theorem outW_past {f : List Wnt} {i : Nat} (h : ¬ i < f.length) (h2 : i < f.length + 8) : wat (outW f) i = spareW := by
  simp only [wat, outW, List.getD_eq_getElem?_getD]
  rw [List.getElem?_append_right (by omega), List.getElem?_replicate, if_pos (by omega)]; rfl

def set5 (xs : List Value) (k : Nat) (a b c d e : Value) : List Value := ((((xs.set k a).set (k + 1) b).set (k + 1 + 1) c).set (k + 1 + 1 + 1) d).set (k + 1 + 1 + 1 + 1) e
theorem take_set (xs : List Value) (k : Nat) (v : Value) (h : k < xs.length) : (xs.set k v).take (k + 1) = xs.take k ++ [v] := by
  rw [List.take_succ_eq_append_getElem (by simpa using h), List.take_set_of_le (Nat.le_refl k)]
  simp
theorem take5 (xs : List Value) (k : Nat) (a b c d e : Value) (h : k + 5 ≤ xs.length) : (set5 xs k a b c d e).take (k + 5) = xs.take k ++ [a, b, c, d, e] := by
  unfold set5
  have h1 := take_set xs k a (by omega)
  have h2 := take_set (xs.set k a) (k + 1) b (by simp; omega)
  have h3 := take_set ((xs.set k a).set (k + 1) b) (k + 1 + 1) c (by simp; omega)
  have h4 := take_set (((xs.set k a).set (k + 1) b).set (k + 1 + 1) c) (k + 1 + 1 + 1) d (by simp; omega)
  have h5 := take_set ((((xs.set k a).set (k + 1) b).set (k + 1 + 1) c).set (k + 1 + 1 + 1) d) (k + 1 + 1 + 1 + 1) e (by simp; omega)
  rw [show k + 5 = k + 1 + 1 + 1 + 1 + 1 by omega, h5, h4, h3, h2, h1]
  simp
theorem set5_len (xs : List Value) (k : Nat) (a b c d e : Value) : (set5 xs k a b c d e).length = xs.length := by simp [set5]
theorem wcells_take (l : List Wnt) (i : Nat) (h : i < l.length) : wcells (l.take (i + 1)) = wcells (l.take i) ++ [.string (wat l i).a, .int .i64 (wat l i).y, .int .i64 (wat l i).k, .int .i64 (wat l i).n, .string (wat l i).s] := by
  have e : wat l i = l[i] := by simp [wat, List.getD_eq_getElem?_getD, List.getElem?_eq_getElem h]
  rw [List.take_succ_eq_append_getElem h, wcells_snoc, e]

/-- Five stores into a row of one's own. -/
theorem owns_set5 {w : World} {base : Nat} {e : TypeId} {g n cap : Nat} {xs : List Value} (h : w.ownsRow base e 5 (.slice (some ⟨g, 0, none⟩) n cap) n xs) (k : Nat) (a b c d f : Value) :
    (((((w.setCell ⟨g, k, none⟩ a).setCell ⟨g, k + 1, none⟩ b).setCell ⟨g, k + 1 + 1, none⟩ c).setCell ⟨g, k + 1 + 1 + 1, none⟩ d).setCell ⟨g, k + 1 + 1 + 1 + 1, none⟩ f).ownsRow base e 5 (.slice (some ⟨g, 0, none⟩) n cap) n (set5 xs k a b c d f) :=
  (World.ownsRow.stored (World.ownsRow.stored (World.ownsRow.stored (World.ownsRow.stored (World.ownsRow.stored h k a).1 (k + 1) b).1 (k + 1 + 1) c).1 (k + 1 + 1 + 1) d).1 (k + 1 + 1 + 1 + 1) f).1
theorem gr_set5 {w v : World} {g k : Nat} (hg : w.heap.size ≤ g) (h : Gr w v) (a b c d f : Value) : Gr w (((((v.setCell ⟨g, k, none⟩ a).setCell ⟨g, k + 1, none⟩ b).setCell ⟨g, k + 1 + 1, none⟩ c).setCell ⟨g, k + 1 + 1 + 1, none⟩ d).setCell ⟨g, k + 1 + 1 + 1 + 1, none⟩ f) :=
  Below.setCell (Below.setCell (Below.setCell (Below.setCell (Below.setCell h hg _) hg _) hg _) hg _) hg _

structure FE where
  g : Nat
  f : List Wnt
  ad : Option Addr
  cap : Nat
def FE.fc (e : FE) : Value := .slice (some ⟨e.g, 0, none⟩) (e.f.length + 8) (e.f.length + 8)
def FE.wc (e : FE) : Value := .slice e.ad e.f.length e.cap
def FiB (base : Nat) (w : World) (ad : Option Addr) (f : List Wnt) : Prop := ∃ b off, ad = some ⟨b, off, none⟩ ∧ b < base ∧ WantsAt w b off f

/-- Filters that were handed in are kept, beside what was handed over. -/
structure LentF (w : World) (base LB : Nat) (ve vew vf vw : Value) (Fs : List FE) : Prop where
  lb : base ≤ LB
  le : base ≤ w.heap.size
  box : w.heap[LB]? = some (.cells #[ve, vew, vf, vw] 30 (0, 0))
  ownf : w.ownsRow base 42 1 vf Fs.length (Fs.map FE.fc)
  ownw : w.ownsRow base 23 1 vw Fs.length (Fs.map FE.wc)
  outs : ∀ e ∈ Fs, base ≤ e.g ∧ e.g < w.heap.size ∧ w.heap[e.g]? = some (.cells (wcells (outW e.f)).toArray 76 (0, 0))
  args : ∀ e ∈ Fs, e.f ≠ [] ∧ FiB base w e.ad e.f ∧ (∀ x ∈ e.f, Wnt.Wf x)
  nodup : (Fs.map FE.g).Nodup

theorem FiB.gr {base : Nat} {w w' : World} {ad : Option Addr} {f : List Wnt} (h : FiB base w ad f) (g : Below base w w') : FiB base w' ad f := by
  obtain ⟨b, off, h1, h2, h3⟩ := h
  refine ⟨b, off, h1, h2, fun i hi => ?_⟩
  obtain ⟨c1, c2, c3, c4, c5⟩ := h3 i hi
  have e : ∀ o, w'.cell? ⟨b, o, none⟩ = w.cell? ⟨b, o, none⟩ := fun o => g.cell (p := ⟨b, o, none⟩) h2
  rw [e, e, e, e, e]
  exact ⟨c1, c2, c3, c4, c5⟩
theorem LentF.gr {w w' : World} {base LB : Nat} {ve vew vf vw : Value} {Fs : List FE} (h : LentF w base LB ve vew vf vw Fs) (g : Gr w w') : LentF w' base LB ve vew vf vw Fs := by
  have blk : ∀ k o, w.heap[k]? = some o → w'.heap[k]? = some o := fun k o hk => by
    have hlt : k < w.heap.size := by
      rcases Nat.lt_or_ge k w.heap.size with h' | h'
      · exact h'
      · rw [Array.getElem?_eq_none (by omega)] at hk; cases hk
    rw [g.block k hlt]; exact hk
  exact ⟨h.lb, Nat.le_trans h.le g.size, blk _ _ h.box, ownsGr h.ownf g, ownsGr h.ownw g,
    fun e he => ⟨(h.outs e he).1, Gr.lt g (h.outs e he).2.1, blk _ _ (h.outs e he).2.2⟩, fun e he => ⟨(h.args e he).1, (h.args e he).2.1.gr (Below.mono g h.le), (h.args e he).2.2⟩, h.nodup⟩

end Go.Proofs.YtecnfgikbmcgoaaDoor
namespace Go.Proofs.YtecnfgikbmcgoaaDoor
open Go.RowKit

set_option maxHeartbeats 1000000 in
theorem above_any (n : Int) (w : World) :
    Calls Tryd.prog 22 #[.int .i64 n] w fun e w' => e = .returned (.agg #[.string ⟨#[115, 105, 122, 101]⟩, .int .i64 6, .int .i64 1, .int .i64 n, .string ⟨#[]⟩]) ∧ Gr w w' := by
  go_enter Tryd.func22, Tryd.ntmps22
  go_wp2
  exact bodyPost_ret (v := .agg #[.string ⟨#[115, 105, 122, 101]⟩, .int .i64 6, .int .i64 1, .int .i64 n, .string ⟨#[]⟩]) (by simp [results, Tryd.results22, go_sem]) rfl ⟨rfl, (Gr.refl w).alloc _⟩

set_option maxHeartbeats 1000000 in
theorem lawVal_any (k n : Int) (s : ByteArray) (w : World) :
    Calls Tryd.prog 54 #[.agg #[.int .i64 k, .int .i64 n, .string s]] w fun e w' => e = .returned (.agg #[.int .i64 k, .int .i64 n, .string s]) ∧
      w' = (w.alloc (.cells #[.int .i64 k, .int .i64 n, .string s] 67)).alloc (.cells #[.int .i64 k, .int .i64 n, .string s] 35) := by
  go_enter Tryd.func54, Tryd.ntmps54
  go_wp2
  exact bodyPost_ret (v := .agg #[.int .i64 k, .int .i64 n, .string s]) (by simp [results, Tryd.results54, go_sem]) rfl ⟨rfl, rfl⟩

set_option maxHeartbeats 2000000 in
theorem lawWant_any (a : ByteArray) (y k n : Int) (s : ByteArray) (w : World) :
    Calls Tryd.prog 31 #[.agg #[.string a, .int .i64 y, .int .i64 k, .int .i64 n, .string s]] w fun e w' => e = .returned (.agg #[.string a, .int .i64 y, .int .i64 k, .int .i64 n, .string s]) ∧ Gr w w' := by
  go_enter Tryd.func31, Tryd.ntmps31
  go_wp2
  go_region_held3 (fun w' => w'.cell? ⟨w.heap.size, 0, none⟩ = some (.string a) ∧ w'.cell? ⟨w.heap.size, 1, none⟩ = some (.int .i64 y) ∧ w'.cell? ⟨w.heap.size, 2, none⟩ = some (.int .i64 k) ∧ w'.cell? ⟨w.heap.size, 3, none⟩ = some (.int .i64 n) ∧ w'.cell? ⟨w.heap.size, 4, none⟩ = some (.string s))
    (simp [go_sem, World.cell?_alloc_past]) (first | (go_at_call 54; refine (lawVal_any _ _ _ _).mono ?_; rintro e w1 ⟨rfl, rfl⟩))
  all_goals
    go_wp2
    refine bodyPost_ret (v := .agg #[.string a, .int .i64 y, .int .i64 k, .int .i64 n, .string s]) (by simp [results, Tryd.results31, go_sem]) rfl ⟨rfl, ?_⟩
    repeat (first | exact Gr.refl _ | apply Gr.drew | apply Gr.alloc)

set_option maxHeartbeats 2000000 in
theorem lawAttr_any (a : ByteArray) (k n : Int) (s : ByteArray) (w : World) :
    Calls Tryd.prog 28 #[.agg #[.string a, .int .i64 k, .int .i64 n, .string s]] w fun e w' => e = .returned (.agg #[.string a, .int .i64 k, .int .i64 n, .string s]) ∧ Gr w w' := by
  go_enter Tryd.func28, Tryd.ntmps28
  go_wp2
  go_region_held3 (fun w' => w'.cell? ⟨w.heap.size, 0, none⟩ = some (.string a) ∧ w'.cell? ⟨w.heap.size, 1, none⟩ = some (.int .i64 k) ∧ w'.cell? ⟨w.heap.size, 2, none⟩ = some (.int .i64 n) ∧ w'.cell? ⟨w.heap.size, 3, none⟩ = some (.string s))
    (simp [go_sem, World.cell?_alloc_past]) (first | (go_at_call 54; refine (lawVal_any _ _ _ _).mono ?_; rintro e w1 ⟨rfl, rfl⟩))
  all_goals
    go_wp2
    refine bodyPost_ret (v := .agg #[.string a, .int .i64 k, .int .i64 n, .string s]) (by simp [results, Tryd.results28, go_sem]) rfl ⟨rfl, ?_⟩
    repeat (first | exact Gr.refl _ | apply Gr.drew | apply Gr.alloc)
end Go.Proofs.YtecnfgikbmcgoaaDoor
