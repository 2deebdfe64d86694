import Derived.Test.YtecnfgikbmcgoaaDoorSpec
namespace Go.Proofs.YtecnfgikbmcgoaaDoor
open Go.RowKit

/-- The library's one variable (the first block) holds some number. -/
structure Ml (m : Int) (w : World) : Prop where
  cell : w.cell? ⟨0, 0, none⟩ = some (.int .i64 m)
  pos : 0 < w.heap.size

theorem Ml.below {m : Int} {w w' : World} (h : Ml m w) (hb : Below w.heap.size w w') : Ml m w' :=
  ⟨by rw [← h.cell]; exact hb.cell (p := ⟨0, 0, none⟩) h.pos, Nat.lt_of_lt_of_le h.pos hb.size⟩
theorem Ml.alloc {m : Int} {w : World} (h : Ml m w) (o : Obj) : Ml m (w.alloc o) := h.below ((Below.refl _ _).alloc (Nat.le_refl _) o)
theorem Ml.drew {m : Int} {w : World} (h : Ml m w) : Ml m w.drew := h.below (Below.refl _ _).drew

/-- What the walk wants behind a call that only makes memory. -/
theorem after {B : Nat} {W w1 : World} (hb : Below W.heap.size W w1) (h : B < W.heap.size) : B < w1.heap.size := Nat.lt_of_lt_of_le h hb.size

/-- From a to w only new memory has been made. -/
abbrev Gr (a w : World) : Prop := Below a.heap.size a w
theorem Gr.refl (a : World) : Gr a a := Below.refl _ _
theorem Gr.alloc {a w : World} (h : Gr a w) (o : Obj) : Gr a (w.alloc o) := Below.alloc h h.size o
theorem Gr.drew {a w : World} (h : Gr a w) : Gr a w.drew := Below.drew h
theorem Gr.call {a w w' : World} (h : Gr a w) (k : Gr w w') : Gr a w' := Below.trans h (Below.mono k h.size)
theorem Gr.lt {a w : World} (h : Gr a w) {n : Nat} (hn : n < a.heap.size) : n < w.heap.size := Nat.lt_of_lt_of_le hn h.size
theorem Gr.ml {m : Int} {a w : World} (h : Gr a w) (k : Ml m a) : Ml m w := k.below h
theorem sizes3 {a b : Nat} (h : a + 3 ≤ b) : a < b ∧ a + 1 < b ∧ a + 2 < b := by omega

end Go.Proofs.YtecnfgikbmcgoaaDoor
