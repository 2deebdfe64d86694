import Derived.Test.YtecnfgikbmcgoaaDoorUh2
namespace Go.Proofs.YtecnfgikbmcgoaaDoor
open Go.RowKit

structure Vl where
  k : Int
  n : Int
  s : List UInt8
def Vl.val (v : Vl) : Value := .agg #[.int .i64 v.k, .int .i64 v.n, .string (str v.s)]
def pV (l : List UInt8) : Option (Vl × List UInt8) := (pB l).bind fun y =>
  if y.1 = 1 then (pN y.2).map fun z => (⟨1, z.1, []⟩, z.2)
  else if y.1 = 2 then (pS y.2).map fun z => (⟨2, 0, z.1⟩, z.2)
  else if y.1 = 3 then (pB y.2).map fun z => (⟨3, z.1, []⟩, z.2)
  else some (⟨y.1, 0, []⟩, y.2)
theorem grown_new {w w' : World} {R B j : Nat} (h : w.grownBy w' (some R)) (hB : w.heap.size ≤ B) (u : Value) : w.grownBy (w'.setCell ⟨B, j, none⟩ u) (some R) :=
  ⟨h.os, h.tape, h.output, by rw [size_set]; exact h.size, fun i hi hr => by rw [Below.heap_setCell w' ⟨B, j, none⟩ u i (show i ≠ B by omega)]; exact h.block i hi hr⟩
theorem Rd.set {w : World} {R B j : Nat} {l : List UInt8} (h : Rd w R l) (hB : R ≠ B) (u : Value) : Rd (w.setCell ⟨B, j, none⟩ u) R l := blk_set h (p := ⟨B, j, none⟩) hB u
theorem str_nil : str [] = ⟨#[]⟩ := rfl
set_option maxRecDepth 100000 in
set_option maxHeartbeats 4000000 in
theorem readValue_any (u : TypeId) (pv : Value) (R : Nat) (l : List UInt8) (w : World) (hR : 0 < R) (hRw : R < w.heap.size) (hr : Rd w R l) (ht : Te u pv w) :
    Calls Tryd.prog 58 #[.pointer (some ⟨R, 0, none⟩)] w (Rs u pv R w Vl.val (pV l)) := by
  have HR := Hid.mk' hr
  have HT := Hid.mk' ht
  clear hr ht
  go_enter Tryd.func58, Tryd.ntmps58
  go_wp2_with fail
  have ga : Gr w (w.alloc (.cells #[.int .i64 0, .int .i64 0, .string ⟨#[]⟩] 35)) := (Gr.refl w).alloc _
  have hne : (some R : Option Nat) ≠ some w.heap.size := by simp; omega
  refine (oneByte_any u pv R l _ (HR.out.gr ga) (HT.out.gr ga)).mono ?_
  intro e w1 q1
  cases h1 : pB l with
  | none =>
    obtain ⟨g1, rfl⟩ := q1.none h1
    have HP : Hid (pV l = none) := by
      show _ = _
      rw [pV, h1]; rfl
    go_wp2_with fail
    exact ⟨rfl, Rs.mkNone (grown_trans (grown_gr ga) g1) HP.out⟩
  | some y =>
    obtain ⟨b, r⟩ := y
    obtain ⟨g1, rfl, r1⟩ := q1.some h1
    have hb := pB_lt h1
    have V1 := Hid.mk' (grown_block g1 (heap_alloc_new w _) hne)
    have G1 := Hid.mk' (grown_trans (grown_gr ga) g1)
    have D1 := Hid.mk' r1
    have v0 : w1.cell? ⟨w.heap.size, 0, none⟩ = some (.int .i64 0) := by rw [cell_of_row _ _ _ _ _ _ V1.out]; rfl
    have v1 : w1.cell? ⟨w.heap.size, 1, none⟩ = some (.int .i64 0) := by rw [cell_of_row _ _ _ _ _ _ V1.out]; rfl
    have v2 : w1.cell? ⟨w.heap.size, 2, none⟩ = some (.string ⟨#[]⟩) := by rw [cell_of_row _ _ _ _ _ _ V1.out]; rfl
    have f0 : w1.frozen? ⟨w.heap.size, 0, none⟩ = false := frozen_of_row _ _ _ _ _ V1.out
    have f1 : w1.frozen? ⟨w.heap.size, 1, none⟩ = false := frozen_of_row _ _ _ _ _ V1.out
    have f2 : w1.frozen? ⟨w.heap.size, 2, none⟩ = false := frozen_of_row _ _ _ _ _ V1.out
    clear g1 r1 q1
    by_cases hb1 : b = 1
    · subst hb1
      have gb : Gr w1 (w1.alloc (.cells #[.int .i64 1, .int .i64 0, .string ⟨#[]⟩] 35)) := (Gr.refl w1).alloc _
      have hw1 : w.heap.size + 1 ≤ w1.heap.size := blk_lt V1.out
      have hne1 : (some R : Option Nat) ≠ some w1.heap.size := by simp; omega
      go_wp2_with fail
      refine (number_any u pv R r _ hR (D1.out.gr gb) ((HT.out.grown G1.out hR).gr gb)).mono ?_
      intro e w3 q3
      cases h3 : pN r with
      | none =>
        obtain ⟨g3, rfl⟩ := q3.none h3
        have HP : Hid (pV l = none) := by
          show _ = _
          rw [pV, h1]; simp [h3]
        go_wp2_with fail
        exact ⟨rfl, Rs.mkNone (grown_trans G1.out (grown_trans (grown_gr gb) g3)) HP.out⟩
      | some z =>
        obtain ⟨n, r'⟩ := z
        obtain ⟨g3, rfl, r3⟩ := q3.some h3
        have HP : Hid (pV l = some (⟨1, n, []⟩, r')) := by
          show _ = _
          rw [pV, h1]; simp [h3]
        have V3 := Hid.mk' (grown_block g3 (blk_gr gb V1.out) hne)
        have N3 := Hid.mk' (grown_block g3 (heap_alloc_new w1 (.cells #[.int .i64 1, .int .i64 0, .string ⟨#[]⟩] 35)) hne1)
        have G3 := Hid.mk' (grown_trans G1.out (grown_trans (grown_gr gb) g3))
        have D3 := Hid.mk' r3
        clear v0 v1 v2 f0 f1 f2 g3 r3 q3
        have v0 : w3.cell? ⟨w.heap.size, 0, none⟩ = some (.int .i64 0) := by rw [cell_of_row _ _ _ _ _ _ V3.out]; rfl
        have v1 : w3.cell? ⟨w.heap.size, 1, none⟩ = some (.int .i64 0) := by rw [cell_of_row _ _ _ _ _ _ V3.out]; rfl
        have v2 : w3.cell? ⟨w.heap.size, 2, none⟩ = some (.string ⟨#[]⟩) := by rw [cell_of_row _ _ _ _ _ _ V3.out]; rfl
        have f0 : w3.frozen? ⟨w.heap.size, 0, none⟩ = false := frozen_of_row _ _ _ _ _ V3.out
        have f1 : w3.frozen? ⟨w.heap.size, 1, none⟩ = false := frozen_of_row _ _ _ _ _ V3.out
        have f2 : w3.frozen? ⟨w.heap.size, 2, none⟩ = false := frozen_of_row _ _ _ _ _ V3.out
        have n0 : w3.cell? ⟨w1.heap.size, 0, none⟩ = some (.int .i64 1) := by rw [cell_of_row _ _ _ _ _ _ N3.out]; rfl
        have n1 : w3.cell? ⟨w1.heap.size, 1, none⟩ = some (.int .i64 0) := by rw [cell_of_row _ _ _ _ _ _ N3.out]; rfl
        have n2 : w3.cell? ⟨w1.heap.size, 2, none⟩ = some (.string ⟨#[]⟩) := by rw [cell_of_row _ _ _ _ _ _ N3.out]; rfl
        have m1 : w3.frozen? ⟨w1.heap.size, 1, none⟩ = false := frozen_of_row _ _ _ _ _ N3.out
        have m2 : w3.frozen? ⟨w1.heap.size, 2, none⟩ = false := frozen_of_row _ _ _ _ _ N3.out
        have hne2 : w.heap.size ≠ w1.heap.size := by omega
        have hne3 : w1.heap.size ≠ w.heap.size := by omega
        go_wp2_with fail
        exact bodyPost_ret (v := .agg #[.int .i64 1, .int .i64 n, .string ⟨#[]⟩]) (by simp [results, Tryd.results58, go_sem, v0, v1, v2]) rfl
          (Rs.mkSome (grown_new (grown_new (grown_new (grown_new G3.out (by omega) _) (Nat.le_refl _) _) (Nat.le_refl _) _) (Nat.le_refl _) _) HP.out rfl ((((D3.out.set (by omega) _).set (by omega) _).set (by omega) _).set (by omega) _))
    · by_cases hb2 : b = 2
      · subst hb2
        have gb : Gr w1 (w1.alloc (.cells #[.int .i64 2, .int .i64 0, .string ⟨#[]⟩] 35)) := (Gr.refl w1).alloc _
        have hw1 : w.heap.size + 1 ≤ w1.heap.size := blk_lt V1.out
        have hne1 : (some R : Option Nat) ≠ some w1.heap.size := by simp; omega
        go_wp2_with fail
        refine (string_any u pv R r _ hR (D1.out.gr gb) ((HT.out.grown G1.out hR).gr gb)).mono ?_
        intro e w3 q3
        cases h3 : pS r with
        | none =>
          obtain ⟨g3, rfl⟩ := q3.none h3
          have HP : Hid (pV l = none) := by
            show _ = _
            rw [pV, h1]; simp [h3]
          go_wp2_with fail
          exact ⟨rfl, Rs.mkNone (grown_trans G1.out (grown_trans (grown_gr gb) g3)) HP.out⟩
        | some z =>
          obtain ⟨n, r'⟩ := z
          obtain ⟨g3, rfl, r3⟩ := q3.some h3
          have HP : Hid (pV l = some (⟨2, 0, n⟩, r')) := by
            show _ = _
            rw [pV, h1]; simp [h3]
          have V3 := Hid.mk' (grown_block g3 (blk_gr gb V1.out) hne)
          have N3 := Hid.mk' (grown_block g3 (heap_alloc_new w1 (.cells #[.int .i64 2, .int .i64 0, .string ⟨#[]⟩] 35)) hne1)
          have G3 := Hid.mk' (grown_trans G1.out (grown_trans (grown_gr gb) g3))
          have D3 := Hid.mk' r3
          clear v0 v1 v2 f0 f1 f2 g3 r3 q3
          have v0 : w3.cell? ⟨w.heap.size, 0, none⟩ = some (.int .i64 0) := by rw [cell_of_row _ _ _ _ _ _ V3.out]; rfl
          have v1 : w3.cell? ⟨w.heap.size, 1, none⟩ = some (.int .i64 0) := by rw [cell_of_row _ _ _ _ _ _ V3.out]; rfl
          have v2 : w3.cell? ⟨w.heap.size, 2, none⟩ = some (.string ⟨#[]⟩) := by rw [cell_of_row _ _ _ _ _ _ V3.out]; rfl
          have f0 : w3.frozen? ⟨w.heap.size, 0, none⟩ = false := frozen_of_row _ _ _ _ _ V3.out
          have f1 : w3.frozen? ⟨w.heap.size, 1, none⟩ = false := frozen_of_row _ _ _ _ _ V3.out
          have f2 : w3.frozen? ⟨w.heap.size, 2, none⟩ = false := frozen_of_row _ _ _ _ _ V3.out
          have n0 : w3.cell? ⟨w1.heap.size, 0, none⟩ = some (.int .i64 2) := by rw [cell_of_row _ _ _ _ _ _ N3.out]; rfl
          have n1 : w3.cell? ⟨w1.heap.size, 1, none⟩ = some (.int .i64 0) := by rw [cell_of_row _ _ _ _ _ _ N3.out]; rfl
          have n2 : w3.cell? ⟨w1.heap.size, 2, none⟩ = some (.string ⟨#[]⟩) := by rw [cell_of_row _ _ _ _ _ _ N3.out]; rfl
          have m1 : w3.frozen? ⟨w1.heap.size, 1, none⟩ = false := frozen_of_row _ _ _ _ _ N3.out
          have m2 : w3.frozen? ⟨w1.heap.size, 2, none⟩ = false := frozen_of_row _ _ _ _ _ N3.out
          have hne2 : w.heap.size ≠ w1.heap.size := by omega
          have hne3 : w1.heap.size ≠ w.heap.size := by omega
          go_wp2_with fail
          exact bodyPost_ret (v := .agg #[.int .i64 2, .int .i64 0, .string (str n)]) (by simp [results, Tryd.results58, go_sem, v0, v1, v2]) rfl
            (Rs.mkSome (grown_new (grown_new (grown_new (grown_new G3.out (by omega) _) (Nat.le_refl _) _) (Nat.le_refl _) _) (Nat.le_refl _) _) HP.out rfl ((((D3.out.set (by omega) _).set (by omega) _).set (by omega) _).set (by omega) _))
      · by_cases hb3 : b = 3
        · subst hb3
          have gb : Gr w1 (w1.alloc (.cells #[.int .i64 3, .int .i64 0, .string ⟨#[]⟩] 35)) := (Gr.refl w1).alloc _
          have hw1 : w.heap.size + 1 ≤ w1.heap.size := blk_lt V1.out
          have hne1 : (some R : Option Nat) ≠ some w1.heap.size := by simp; omega
          go_wp2_with fail
          refine (oneByte_any u pv R r _ (D1.out.gr gb) ((HT.out.grown G1.out hR).gr gb)).mono ?_
          intro e w3 q3
          cases h3 : pB r with
          | none =>
            obtain ⟨g3, rfl⟩ := q3.none h3
            have HP : Hid (pV l = none) := by
              show _ = _
              rw [pV, h1]; simp [h3]
            go_wp2_with fail
            exact ⟨rfl, Rs.mkNone (grown_trans G1.out (grown_trans (grown_gr gb) g3)) HP.out⟩
          | some z =>
            obtain ⟨n, r'⟩ := z
            obtain ⟨g3, rfl, r3⟩ := q3.some h3
            have HP : Hid (pV l = some (⟨3, n, []⟩, r')) := by
              show _ = _
              rw [pV, h1]; simp [h3]
            have V3 := Hid.mk' (grown_block g3 (blk_gr gb V1.out) hne)
            have N3 := Hid.mk' (grown_block g3 (heap_alloc_new w1 (.cells #[.int .i64 3, .int .i64 0, .string ⟨#[]⟩] 35)) hne1)
            have G3 := Hid.mk' (grown_trans G1.out (grown_trans (grown_gr gb) g3))
            have D3 := Hid.mk' r3
            clear v0 v1 v2 f0 f1 f2 g3 r3 q3
            have v0 : w3.cell? ⟨w.heap.size, 0, none⟩ = some (.int .i64 0) := by rw [cell_of_row _ _ _ _ _ _ V3.out]; rfl
            have v1 : w3.cell? ⟨w.heap.size, 1, none⟩ = some (.int .i64 0) := by rw [cell_of_row _ _ _ _ _ _ V3.out]; rfl
            have v2 : w3.cell? ⟨w.heap.size, 2, none⟩ = some (.string ⟨#[]⟩) := by rw [cell_of_row _ _ _ _ _ _ V3.out]; rfl
            have f0 : w3.frozen? ⟨w.heap.size, 0, none⟩ = false := frozen_of_row _ _ _ _ _ V3.out
            have f1 : w3.frozen? ⟨w.heap.size, 1, none⟩ = false := frozen_of_row _ _ _ _ _ V3.out
            have f2 : w3.frozen? ⟨w.heap.size, 2, none⟩ = false := frozen_of_row _ _ _ _ _ V3.out
            have n0 : w3.cell? ⟨w1.heap.size, 0, none⟩ = some (.int .i64 3) := by rw [cell_of_row _ _ _ _ _ _ N3.out]; rfl
            have n1 : w3.cell? ⟨w1.heap.size, 1, none⟩ = some (.int .i64 0) := by rw [cell_of_row _ _ _ _ _ _ N3.out]; rfl
            have n2 : w3.cell? ⟨w1.heap.size, 2, none⟩ = some (.string ⟨#[]⟩) := by rw [cell_of_row _ _ _ _ _ _ N3.out]; rfl
            have m1 : w3.frozen? ⟨w1.heap.size, 1, none⟩ = false := frozen_of_row _ _ _ _ _ N3.out
            have m2 : w3.frozen? ⟨w1.heap.size, 2, none⟩ = false := frozen_of_row _ _ _ _ _ N3.out
            have hne2 : w.heap.size ≠ w1.heap.size := by omega
            have hne3 : w1.heap.size ≠ w.heap.size := by omega
            go_wp2_with fail
            exact bodyPost_ret (v := .agg #[.int .i64 3, .int .i64 n, .string ⟨#[]⟩]) (by simp [results, Tryd.results58, go_sem, v0, v1, v2]) rfl
              (Rs.mkSome (grown_new (grown_new (grown_new (grown_new G3.out (by omega) _) (Nat.le_refl _) _) (Nat.le_refl _) _) (Nat.le_refl _) _) HP.out rfl ((((D3.out.set (by omega) _).set (by omega) _).set (by omega) _).set (by omega) _))
        · have e1 : ((b : Int) == 1) = false := by simp; omega
          have e2 : ((b : Int) == 2) = false := by simp; omega
          have e3 : ((b : Int) == 3) = false := by simp; omega
          have HP : Hid (pV l = some (⟨b, 0, []⟩, r)) := by
            show _ = _
            rw [pV, h1]; simp [hb1, hb2, hb3]
          have hw1 : w.heap.size < w1.heap.size := blk_lt V1.out
          have hne2 : w.heap.size ≠ w1.heap.size := by omega
          have hne3 : w1.heap.size ≠ w.heap.size := by omega
          go_wp2_with fail
          exact bodyPost_ret (v := .agg #[.int .i64 b, .int .i64 0, .string ⟨#[]⟩]) (by simp [results, Tryd.results58, go_sem, v0, v1, v2, World.cell?_alloc_past, hw1]) rfl
            (Rs.mkSome (grown_trans (grown_new (grown_new (grown_new G1.out (Nat.le_refl _) _) (Nat.le_refl _) _) (Nat.le_refl _) _) (grown_gr ((Gr.refl _).alloc _))) HP.out rfl ((((D1.out.set (by omega) _).set (by omega) _).set (by omega) _).gr ((Gr.refl _).alloc _)))
end Go.Proofs.YtecnfgikbmcgoaaDoor
