import Derived.Test.YtecnfgikbmcgoaaDoorG10
namespace Go.Proofs.YtecnfgikbmcgoaaDoor
open Go.RowKit

def Wnt.val (x : Wnt) : Value := .agg #[.string x.a, .int .i64 x.y, .int .i64 x.k, .int .i64 x.n, .string x.s]
def pW (l : List UInt8) : Option (Wnt × List UInt8) := (pS l).bind fun a => (pB a.2).bind fun y =>
  if y.1 = 1 then some (⟨str a.1, 1, 0, 0, str []⟩, y.2) else (pV y.2).map fun v => (⟨str a.1, y.1, v.1.k, v.1.n, str v.1.s⟩, v.2)
set_option maxRecDepth 100000 in
set_option maxHeartbeats 4000000 in
theorem readWant_any (u : TypeId) (pv : Value) (R : Nat) (l : List UInt8) (w : World) (hR : 0 < R) (hRw : R < w.heap.size) (hr : Rd w R l) (ht : Te u pv w) :
    Calls Tryd.prog 59 #[.pointer (some ⟨R, 0, none⟩)] w (Rs u pv R w Wnt.val (pW l)) := by
  have HR := Hid.mk' hr
  have HT := Hid.mk' ht
  clear hr ht
  have ga : Gr w (w.alloc (.cells #[.string ⟨#[]⟩, .int .i64 0, .int .i64 0, .int .i64 0, .string ⟨#[]⟩] 76)) := (Gr.refl w).alloc _
  have hne : (some R : Option Nat) ≠ some w.heap.size := by simp; omega
  go_enter Tryd.func59, Tryd.ntmps59
  go_wp2_with fail
  refine (string_any u pv R l _ hR (HR.out.gr ga) (HT.out.gr ga)).mono ?_
  intro e w1 q1
  cases h1 : pS l with
  | none =>
    obtain ⟨g1, rfl⟩ := q1.none h1
    have HP : Hid (pW l = none) := by
      show _ = _
      rw [pW, h1]; rfl
    go_wp2_with fail
    exact ⟨rfl, Rs.mkNone (grown_trans (grown_gr ga) g1) HP.out⟩
  | some y =>
    obtain ⟨a, r⟩ := y
    obtain ⟨g1, rfl, r1⟩ := q1.some h1
    have V1 := Hid.mk' (grown_block g1 (heap_alloc_new w _) hne)
    have G1 := Hid.mk' (grown_trans (grown_gr ga) g1)
    have D1 := Hid.mk' r1
    clear g1 r1 q1
    go_wp2_with fail
    refine (oneByte_any u pv R r _ D1.out (HT.out.grown G1.out hR)).mono ?_
    intro e w2 q2
    cases h2 : pB r with
    | none =>
      obtain ⟨g2, rfl⟩ := q2.none h2
      have HP : Hid (pW l = none) := by
        show _ = _
        rw [pW, h1]; simp [h2]
      go_wp2_with fail
      exact ⟨rfl, Rs.mkNone (grown_trans G1.out g2) HP.out⟩
    | some z =>
      obtain ⟨b, r'⟩ := z
      obtain ⟨g2, rfl, r2⟩ := q2.some h2
      have hb := pB_lt h2
      have V2 := Hid.mk' (grown_block g2 V1.out hne)
      have G2 := Hid.mk' (grown_trans G1.out g2)
      have D2 := Hid.mk' r2
      clear g2 r2 q2 V1 G1 D1
      have v0 : w2.cell? ⟨w.heap.size, 0, none⟩ = some (.string ⟨#[]⟩) := by rw [cell_of_row _ _ _ _ _ _ V2.out]; rfl
      have v1 : w2.cell? ⟨w.heap.size, 1, none⟩ = some (.int .i64 0) := by rw [cell_of_row _ _ _ _ _ _ V2.out]; rfl
      have v2 : w2.cell? ⟨w.heap.size, 2, none⟩ = some (.int .i64 0) := by rw [cell_of_row _ _ _ _ _ _ V2.out]; rfl
      have v3 : w2.cell? ⟨w.heap.size, 3, none⟩ = some (.int .i64 0) := by rw [cell_of_row _ _ _ _ _ _ V2.out]; rfl
      have v4 : w2.cell? ⟨w.heap.size, 4, none⟩ = some (.string ⟨#[]⟩) := by rw [cell_of_row _ _ _ _ _ _ V2.out]; rfl
      have f0 : w2.frozen? ⟨w.heap.size, 0, none⟩ = false := frozen_of_row _ _ _ _ _ V2.out
      have f1 : w2.frozen? ⟨w.heap.size, 1, none⟩ = false := frozen_of_row _ _ _ _ _ V2.out
      have f2 : w2.frozen? ⟨w.heap.size, 2, none⟩ = false := frozen_of_row _ _ _ _ _ V2.out
      have f3 : w2.frozen? ⟨w.heap.size, 3, none⟩ = false := frozen_of_row _ _ _ _ _ V2.out
      have f4 : w2.frozen? ⟨w.heap.size, 4, none⟩ = false := frozen_of_row _ _ _ _ _ V2.out
      have hw2 : w.heap.size < w2.heap.size := blk_lt V2.out
      by_cases hb1 : b = 1
      · subst hb1
        have HP : Hid (pW l = some (⟨str a, 1, 0, 0, str []⟩, r')) := by
          show _ = _
          rw [pW, h1]; simp [h2]
        go_wp2_with fail
        exact bodyPost_ret (v := .agg #[.string (str a), .int .i64 1, .int .i64 0, .int .i64 0, .string ⟨#[]⟩]) (by simp [results, Tryd.results59, go_sem, v0, v1, v2, v3, v4, World.cell?_alloc_past, hw2]) rfl
          (Rs.mkSome (grown_trans (grown_new (grown_new (grown_new (grown_new (grown_new G2.out (Nat.le_refl _) _) (Nat.le_refl _) _) (Nat.le_refl _) _) (Nat.le_refl _) _) (Nat.le_refl _) _) (grown_gr ((Gr.refl _).alloc _))) HP.out rfl ((((((D2.out.set (by omega) _).set (by omega) _).set (by omega) _).set (by omega) _).set (by omega) _).gr ((Gr.refl _).alloc _)))
      · have e1 : ((b : Int) == 1) = false := by simp; omega
        have gb : Gr w2 (w2.alloc (.cells #[.string (str a), .int .i64 b, .int .i64 0, .int .i64 0, .string ⟨#[]⟩] 76)) := (Gr.refl w2).alloc _
        have hne1 : (some R : Option Nat) ≠ some w2.heap.size := by simp; omega
        go_wp2_with fail
        refine (readValue_any u pv R r' _ hR (by simp; omega) (D2.out.gr gb) ((HT.out.grown G2.out hR).gr gb)).mono ?_
        intro e w3 q3
        cases h3 : pV r' with
        | none =>
          obtain ⟨g3, rfl⟩ := q3.none h3
          have HP : Hid (pW l = none) := by
            show _ = _
            rw [pW, h1]; simp [h2, h3, hb1]
          go_wp2_with fail
          exact ⟨rfl, Rs.mkNone (grown_trans G2.out (grown_trans (grown_gr gb) g3)) HP.out⟩
        | some z3 =>
          obtain ⟨vl, r3'⟩ := z3
          obtain ⟨g3, he3, r3⟩ := q3.some h3
          unfold Vl.val at he3
          subst he3
          have HP : Hid (pW l = some (⟨str a, b, vl.k, vl.n, str vl.s⟩, r3')) := by
            show _ = _
            rw [pW, h1]; simp [h2, h3, hb1]
          have V3 := Hid.mk' (grown_block g3 (blk_gr gb V2.out) hne)
          have N3 := Hid.mk' (grown_block g3 (heap_alloc_new w2 (.cells #[.string (str a), .int .i64 b, .int .i64 0, .int .i64 0, .string ⟨#[]⟩] 76)) hne1)
          have G3 := Hid.mk' (grown_trans G2.out (grown_trans (grown_gr gb) g3))
          have D3 := Hid.mk' r3
          clear v0 v1 v2 v3 v4 f0 f1 f2 f3 f4 g3 r3 q3
          have v0 : w3.cell? ⟨w.heap.size, 0, none⟩ = some (.string ⟨#[]⟩) := by rw [cell_of_row _ _ _ _ _ _ V3.out]; rfl
          have v1 : w3.cell? ⟨w.heap.size, 1, none⟩ = some (.int .i64 0) := by rw [cell_of_row _ _ _ _ _ _ V3.out]; rfl
          have v2 : w3.cell? ⟨w.heap.size, 2, none⟩ = some (.int .i64 0) := by rw [cell_of_row _ _ _ _ _ _ V3.out]; rfl
          have v3 : w3.cell? ⟨w.heap.size, 3, none⟩ = some (.int .i64 0) := by rw [cell_of_row _ _ _ _ _ _ V3.out]; rfl
          have v4 : w3.cell? ⟨w.heap.size, 4, none⟩ = some (.string ⟨#[]⟩) := by rw [cell_of_row _ _ _ _ _ _ V3.out]; rfl
          have f0 : w3.frozen? ⟨w.heap.size, 0, none⟩ = false := frozen_of_row _ _ _ _ _ V3.out
          have f1 : w3.frozen? ⟨w.heap.size, 1, none⟩ = false := frozen_of_row _ _ _ _ _ V3.out
          have f2 : w3.frozen? ⟨w.heap.size, 2, none⟩ = false := frozen_of_row _ _ _ _ _ V3.out
          have f3 : w3.frozen? ⟨w.heap.size, 3, none⟩ = false := frozen_of_row _ _ _ _ _ V3.out
          have f4 : w3.frozen? ⟨w.heap.size, 4, none⟩ = false := frozen_of_row _ _ _ _ _ V3.out
          have n0 : w3.cell? ⟨w2.heap.size, 0, none⟩ = some (.string (str a)) := by rw [cell_of_row _ _ _ _ _ _ N3.out]; rfl
          have n1 : w3.cell? ⟨w2.heap.size, 1, none⟩ = some (.int .i64 b) := by rw [cell_of_row _ _ _ _ _ _ N3.out]; rfl
          have n2 : w3.cell? ⟨w2.heap.size, 2, none⟩ = some (.int .i64 0) := by rw [cell_of_row _ _ _ _ _ _ N3.out]; rfl
          have n3 : w3.cell? ⟨w2.heap.size, 3, none⟩ = some (.int .i64 0) := by rw [cell_of_row _ _ _ _ _ _ N3.out]; rfl
          have n4 : w3.cell? ⟨w2.heap.size, 4, none⟩ = some (.string ⟨#[]⟩) := by rw [cell_of_row _ _ _ _ _ _ N3.out]; rfl
          have m2 : w3.frozen? ⟨w2.heap.size, 2, none⟩ = false := frozen_of_row _ _ _ _ _ N3.out
          have m3 : w3.frozen? ⟨w2.heap.size, 3, none⟩ = false := frozen_of_row _ _ _ _ _ N3.out
          have m4 : w3.frozen? ⟨w2.heap.size, 4, none⟩ = false := frozen_of_row _ _ _ _ _ N3.out
          have hne2 : w.heap.size ≠ w2.heap.size := by omega
          have hne3 : w2.heap.size ≠ w.heap.size := by omega
          go_wp2_with fail
          exact bodyPost_ret (v := .agg #[.string (str a), .int .i64 b, .int .i64 vl.k, .int .i64 vl.n, .string (str vl.s)]) (by simp [results, Tryd.results59, go_sem, v0, v1, v2, v3, v4]) rfl
            (Rs.mkSome (grown_new (grown_new (grown_new (grown_new (grown_new (grown_new (grown_new (grown_new G3.out (by omega) _) (by omega) _) (by omega) _) (Nat.le_refl _) _) (Nat.le_refl _) _) (Nat.le_refl _) _) (Nat.le_refl _) _) (Nat.le_refl _) _) HP.out rfl ((((((((D3.out.set (by omega) _).set (by omega) _).set (by omega) _).set (by omega) _).set (by omega) _).set (by omega) _).set (by omega) _).set (by omega) _))
end Go.Proofs.YtecnfgikbmcgoaaDoor
