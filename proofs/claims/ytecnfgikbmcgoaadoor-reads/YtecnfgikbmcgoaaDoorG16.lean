import Derived.Test.YtecnfgikbmcgoaaDoorG13
import Derived.Test.YtecnfgikbmcgoaaDoorG15
import Derived.Deep.RegionHeld3
import Derived.Deep.RegionWith
namespace Go.Proofs.YtecnfgikbmcgoaaDoor
open Go.RowKit

theorem fN_snoc (l : List UInt8) (q : Nat) (h : q < l.length) : fN (l.take (q + 1)) = stp (fN (l.take q)) (l[q]'h).toNat := by
  have e : l.take (q + 1) = l.take q ++ [l[q]'h] := by simp
  rw [e]
  unfold fN
  rw [List.foldl_append]; rfl
theorem sT_len (n : Nat) (st : Option (List UInt8)) : (sT n st).1.length ≤ n := by
  unfold sT
  split
  · simp
  · split
    · simp; omega
    · simp
theorem grown_drew {w w' : World} {r : Option Nat} (g : w.grownBy w' r) : w.grownBy w'.drew r := ⟨g.os, g.tape, g.output, g.size, g.block⟩
theorem str_at (l : List UInt8) (q : Nat) (h : q < l.length) : (str l).data[q]? = some (l[q]'h) := by simp [str, h]
set_option maxRecDepth 100000 in
set_option maxHeartbeats 4000000 in
theorem scValue_any (S : Nat) (L : List UInt8) (st : Option (List UInt8)) (w : World) (hL : L.length ≤ 1152921504606846976) (hS : S < w.heap.size) (h : Sn w S L st) :
    Calls Tryd.prog 62 #[.pointer (some ⟨S, 0, none⟩)] w fun e w' => e = .returned (sV st).1.val ∧ Sn w' S L (sV st).2 ∧ w.grownBy w' (some S) := by
  have HS := Hid.mk' h
  clear h
  go_enter Tryd.func62, Tryd.ntmps62
  go_wp2_with fail
  have ga : Gr w (w.alloc (.cells #[.int .i64 0, .int .i64 0, .string ⟨#[]⟩] 67)) := (Gr.refl w).alloc _
  have hne : (some S : Option Nat) ≠ some w.heap.size := by simp; omega
  refine (scOne_any S L st _ hL (HS.out.gr ga)).mono ?_
  rintro e w1 ⟨rfl, s1, g1⟩
  have hb := sB_lt st
  have V1 := Hid.mk' (grown_block g1 (heap_alloc_new w _) hne)
  have G1 := Hid.mk' (grown_trans (grown_gr ga) g1)
  have D1 := Hid.mk' s1
  have v0 : w1.cell? ⟨w.heap.size, 0, none⟩ = some (.int .i64 0) := by rw [cell_of_row _ _ _ _ _ _ V1.out]; rfl
  have v1 : w1.cell? ⟨w.heap.size, 1, none⟩ = some (.int .i64 0) := by rw [cell_of_row _ _ _ _ _ _ V1.out]; rfl
  have v2 : w1.cell? ⟨w.heap.size, 2, none⟩ = some (.string ⟨#[]⟩) := by rw [cell_of_row _ _ _ _ _ _ V1.out]; rfl
  have f0 : w1.frozen? ⟨w.heap.size, 0, none⟩ = false := frozen_of_row _ _ _ _ _ V1.out
  have f1 : w1.frozen? ⟨w.heap.size, 1, none⟩ = false := frozen_of_row _ _ _ _ _ V1.out
  have f2 : w1.frozen? ⟨w.heap.size, 2, none⟩ = false := frozen_of_row _ _ _ _ _ V1.out
  have HV := Hid.mk' (show sV st = sV st from rfl)
  clear g1 s1
  have hw1 : w.heap.size + 1 ≤ w1.heap.size := blk_lt V1.out
  have hne1 : (some S : Option Nat) ≠ some w1.heap.size := by simp; omega
  have hne2 : w.heap.size ≠ w1.heap.size := by omega
  have hne3 : w1.heap.size ≠ w.heap.size := by omega
  have EQ : Hid (sV st = (if (sB st).1 = 1 then (⟨1, fN (sT 8 (sB st).2).1, []⟩, (sT 8 (sB st).2).2)
      else if (sB st).1 = 2 then (⟨2, 0, (sT (sB (sB st).2).1 (sB (sB st).2).2).1⟩, (sT (sB (sB st).2).1 (sB (sB st).2).2).2)
      else if (sB st).1 = 3 then (⟨3, (sB (sB st).2).1, []⟩, (sB (sB st).2).2)
      else (⟨(sB st).1, 0, []⟩, (sB st).2))) := rfl
  clear HV
  generalize sB st = y at *
  obtain ⟨b, st1⟩ := y
  simp only at hb D1 EQ ⊢
  by_cases hb1 : b = 1
  · subst hb1
    have gb : Gr w1 (w1.alloc (.cells #[.int .i64 1, .int .i64 0, .string ⟨#[]⟩] 67)) := (Gr.refl w1).alloc _
    go_wp2_with fail
    refine (scTake_any S L st1 8 _ hL (by omega) (D1.out.gr gb)).mono ?_
    rintro e w3 ⟨rfl, s3, g3⟩
    have V3 := Hid.mk' (grown_block g3 (blk_gr gb V1.out) hne)
    have N3 := Hid.mk' (grown_block g3 (heap_alloc_new w1 (.cells #[.int .i64 1, .int .i64 0, .string ⟨#[]⟩] 67)) hne1)
    have G3 := Hid.mk' (grown_trans G1.out (grown_trans (grown_gr gb) g3))
    have D3 := Hid.mk' s3
    have hx8 := sT_len 8 st1
    clear v0 v1 v2 f0 f1 f2 g3 s3
    have EV : Hid (sV st = (⟨1, fN (sT 8 st1).1, []⟩, (sT 8 st1).2)) := EQ.out.trans (by simp)
    clear EQ
    generalize sT 8 st1 = z at *
    obtain ⟨x, st2⟩ := z
    simp only at hx8 D3 EV ⊢
    have hz := str_size x
    go_wp2_with fail
    go_loopw [5] (fun i wr => ∃ (q : Nat), q ≤ x.length ∧ i = .int .i64 q ∧ Hid (w.grownBy wr (some S)) ∧ Hid (Sn wr S L st2) ∧ Hid (wr.heap[w.heap.size]? = some (.cells #[.int .i64 0, .int .i64 0, .string ⟨#[]⟩] 67 (0, 0))) ∧ Hid (wr.heap[w1.heap.size]? = some (.cells #[.int .i64 1, .int .i64 (fN (x.take q)), .string ⟨#[]⟩] 67 (0, 0)))) (fun i _ => x.length - (intOf i).toNat)
    case atStart => exact ⟨0, by omega, rfl, G3, D3, V3, by
      show _ = _
      rw [N3.out]; rfl⟩
    case round =>
      obtain ⟨q, hq, rfl, G, D, V, N⟩ := hrel
      clear G3 D3 V3 N3
      have v0 : wr.cell? ⟨w.heap.size, 0, none⟩ = some (.int .i64 0) := by rw [cell_of_row _ _ _ _ _ _ V.out]; rfl
      have v1 : wr.cell? ⟨w.heap.size, 1, none⟩ = some (.int .i64 0) := by rw [cell_of_row _ _ _ _ _ _ V.out]; rfl
      have v2 : wr.cell? ⟨w.heap.size, 2, none⟩ = some (.string ⟨#[]⟩) := by rw [cell_of_row _ _ _ _ _ _ V.out]; rfl
      have f0 : wr.frozen? ⟨w.heap.size, 0, none⟩ = false := frozen_of_row _ _ _ _ _ V.out
      have f1 : wr.frozen? ⟨w.heap.size, 1, none⟩ = false := frozen_of_row _ _ _ _ _ V.out
      have f2 : wr.frozen? ⟨w.heap.size, 2, none⟩ = false := frozen_of_row _ _ _ _ _ V.out
      have n0 : wr.cell? ⟨w1.heap.size, 0, none⟩ = some (.int .i64 1) := by rw [cell_of_row _ _ _ _ _ _ N.out]; rfl
      have n1 : wr.cell? ⟨w1.heap.size, 1, none⟩ = some (.int .i64 (fN (x.take q))) := by rw [cell_of_row _ _ _ _ _ _ N.out]; rfl
      have n2 : wr.cell? ⟨w1.heap.size, 2, none⟩ = some (.string ⟨#[]⟩) := by rw [cell_of_row _ _ _ _ _ _ N.out]; rfl
      have m0 : wr.frozen? ⟨w1.heap.size, 0, none⟩ = false := frozen_of_row _ _ _ _ _ N.out
      have m1 : wr.frozen? ⟨w1.heap.size, 1, none⟩ = false := frozen_of_row _ _ _ _ _ N.out
      have m2 : wr.frozen? ⟨w1.heap.size, 2, none⟩ = false := frozen_of_row _ _ _ _ _ N.out
      by_cases hlt : q < x.length
      · have hlt' : q < (str x).size := by omega
        have hqi : (q : Int) < ((str x).size : Int) := by omega
        have hat := str_at x q hlt
        have hbt := bits_stp (fN (x.take q)) ((x[q]'hlt).toNat) (UInt8.toNat_lt _)
        have VX : Hid (∀ h : q < (str x).size, bits .or .i64 (wrap64 (fN (x.take q) * 256)) (wrap64 ((((str x)[q]'h).toNat : Nat) : Int)) = fN (x.take (q + 1))) := by
          intro h
          rw [fN_snoc x q hlt, ← hbt, wr_byte _ (UInt8.toNat_lt _)]; rfl
        clear hbt hat
        go_wp2_with fail
        first | go_region_with fail | fail
        all_goals
          go_wp2_with fail
          refine ⟨⟨q + 1, by omega, by go_num, grown_drew (grown_new G.out (by omega) _), Sn.gr (D.out.set (by omega) _) (Gr.drew (Gr.refl _)), blk_set V.out (p := ⟨w1.heap.size, 1, none⟩) hne2 _, ?_⟩, ?_⟩
          · show _ = _
            rw [VX.out]
            exact blk_set_same (j := 1) N.out _
          · simp [intOf]; omega
      · have hqx : q = x.length := by omega
        go_wp2_with fail
        exact bodyPost_ret (v := .agg #[.int .i64 1, .int .i64 (fN x), .string ⟨#[]⟩]) (by simp [results, Tryd.results62, go_sem, v0, v1, v2]) rfl
          ⟨by rw [EV.out]; rfl, by rw [EV.out]; exact ((D.out.set (by omega) _).set (by omega) _).set (by omega) _, grown_new (grown_new (grown_new G.out (Nat.le_refl _) _) (Nat.le_refl _) _) (Nat.le_refl _) _⟩
  · by_cases hb2 : b = 2
    · subst hb2
      have gb : Gr w1 (w1.alloc (.cells #[.int .i64 2, .int .i64 0, .string ⟨#[]⟩] 67)) := (Gr.refl w1).alloc _
      go_wp2_with fail
      refine (scOne_any S L st1 _ hL (D1.out.gr gb)).mono ?_
      rintro e w2 ⟨rfl, s2, g2⟩
      have V2 := Hid.mk' (grown_block g2 (blk_gr gb V1.out) hne)
      have N2 := Hid.mk' (grown_block g2 (heap_alloc_new w1 (.cells #[.int .i64 2, .int .i64 0, .string ⟨#[]⟩] 67)) hne1)
      have G2 := Hid.mk' (grown_trans G1.out (grown_trans (grown_gr gb) g2))
      have D2 := Hid.mk' s2
      have hn2 := sB_lt st1
      have EV : Hid (sV st = (⟨2, 0, (sT (sB st1).1 (sB st1).2).1⟩, (sT (sB st1).1 (sB st1).2).2)) := EQ.out.trans (by simp)
      clear v0 v1 v2 f0 f1 f2 g2 s2 EQ
      generalize sB st1 = z at *
      obtain ⟨n, st2⟩ := z
      simp only at hn2 D2 EV ⊢
      go_wp2_with fail
      refine (scTake_any S L st2 n _ hL (by omega) D2.out).mono ?_
      rintro e w3 ⟨rfl, s3, g3⟩
      have V3 := Hid.mk' (grown_block g3 V2.out hne)
      have N3 := Hid.mk' (grown_block g3 N2.out hne1)
      have G3 := Hid.mk' (grown_trans G2.out g3)
      have D3 := Hid.mk' s3
      clear g3 s3
      generalize sT n st2 = z at *
      obtain ⟨x, st3⟩ := z
      simp only at D3 EV ⊢
      have v0 : w3.cell? ⟨w.heap.size, 0, none⟩ = some (.int .i64 0) := by rw [cell_of_row _ _ _ _ _ _ V3.out]; rfl
      have v1 : w3.cell? ⟨w.heap.size, 1, none⟩ = some (.int .i64 0) := by rw [cell_of_row _ _ _ _ _ _ V3.out]; rfl
      have v2 : w3.cell? ⟨w.heap.size, 2, none⟩ = some (.string ⟨#[]⟩) := by rw [cell_of_row _ _ _ _ _ _ V3.out]; rfl
      have f0 : w3.frozen? ⟨w.heap.size, 0, none⟩ = false := frozen_of_row _ _ _ _ _ V3.out
      have f1 : w3.frozen? ⟨w.heap.size, 1, none⟩ = false := frozen_of_row _ _ _ _ _ V3.out
      have f2 : w3.frozen? ⟨w.heap.size, 2, none⟩ = false := frozen_of_row _ _ _ _ _ V3.out
      have n0 : w3.cell? ⟨w1.heap.size, 0, none⟩ = some (.int .i64 2) := by rw [cell_of_row _ _ _ _ _ _ N3.out]; rfl
      have n1 : w3.cell? ⟨w1.heap.size, 1, none⟩ = some (.int .i64 0) := by rw [cell_of_row _ _ _ _ _ _ N3.out]; rfl
      have n2 : w3.cell? ⟨w1.heap.size, 2, none⟩ = some (.string ⟨#[]⟩) := by rw [cell_of_row _ _ _ _ _ _ N3.out]; rfl
      have m1 : w3.frozen? ⟨w1.heap.size, 1, none⟩ = false := frozen_of_row _ _ _ _ _ N3.out
      have m2 : w3.frozen? ⟨w1.heap.size, 2, none⟩ = false := frozen_of_row _ _ _ _ _ N3.out
      go_wp2_with fail
      exact bodyPost_ret (v := .agg #[.int .i64 2, .int .i64 0, .string (str x)]) (by simp [results, Tryd.results62, go_sem, v0, v1, v2]) rfl
        ⟨by rw [EV.out]; rfl, by rw [EV.out]; exact (((D3.out.set (by omega) _).set (by omega) _).set (by omega) _).set (by omega) _, grown_new (grown_new (grown_new (grown_new G3.out (by omega) _) (Nat.le_refl _) _) (Nat.le_refl _) _) (Nat.le_refl _) _⟩
    · by_cases hb3 : b = 3
      · subst hb3
        have gb : Gr w1 (w1.alloc (.cells #[.int .i64 3, .int .i64 0, .string ⟨#[]⟩] 67)) := (Gr.refl w1).alloc _
        go_wp2_with fail
        refine (scOne_any S L st1 _ hL (D1.out.gr gb)).mono ?_
        rintro e w3 ⟨rfl, s3, g3⟩
        have V3 := Hid.mk' (grown_block g3 (blk_gr gb V1.out) hne)
        have N3 := Hid.mk' (grown_block g3 (heap_alloc_new w1 (.cells #[.int .i64 3, .int .i64 0, .string ⟨#[]⟩] 67)) hne1)
        have G3 := Hid.mk' (grown_trans G1.out (grown_trans (grown_gr gb) g3))
        have D3 := Hid.mk' s3
        have EV : Hid (sV st = (⟨3, (sB st1).1, []⟩, (sB st1).2)) := EQ.out.trans (by simp)
        clear v0 v1 v2 f0 f1 f2 g3 s3 EQ
        generalize sB st1 = z at *
        obtain ⟨n, st3⟩ := z
        simp only at D3 EV ⊢
        have v0 : w3.cell? ⟨w.heap.size, 0, none⟩ = some (.int .i64 0) := by rw [cell_of_row _ _ _ _ _ _ V3.out]; rfl
        have v1 : w3.cell? ⟨w.heap.size, 1, none⟩ = some (.int .i64 0) := by rw [cell_of_row _ _ _ _ _ _ V3.out]; rfl
        have v2 : w3.cell? ⟨w.heap.size, 2, none⟩ = some (.string ⟨#[]⟩) := by rw [cell_of_row _ _ _ _ _ _ V3.out]; rfl
        have f0 : w3.frozen? ⟨w.heap.size, 0, none⟩ = false := frozen_of_row _ _ _ _ _ V3.out
        have f1 : w3.frozen? ⟨w.heap.size, 1, none⟩ = false := frozen_of_row _ _ _ _ _ V3.out
        have f2 : w3.frozen? ⟨w.heap.size, 2, none⟩ = false := frozen_of_row _ _ _ _ _ V3.out
        have n0 : w3.cell? ⟨w1.heap.size, 0, none⟩ = some (.int .i64 3) := by rw [cell_of_row _ _ _ _ _ _ N3.out]; rfl
        have n1 : w3.cell? ⟨w1.heap.size, 1, none⟩ = some (.int .i64 0) := by rw [cell_of_row _ _ _ _ _ _ N3.out]; rfl
        have n2 : w3.cell? ⟨w1.heap.size, 2, none⟩ = some (.string ⟨#[]⟩) := by rw [cell_of_row _ _ _ _ _ _ N3.out]; rfl
        have m1 : w3.frozen? ⟨w1.heap.size, 1, none⟩ = false := frozen_of_row _ _ _ _ _ N3.out
        have m2 : w3.frozen? ⟨w1.heap.size, 2, none⟩ = false := frozen_of_row _ _ _ _ _ N3.out
        go_wp2_with fail
        exact bodyPost_ret (v := .agg #[.int .i64 3, .int .i64 n, .string ⟨#[]⟩]) (by simp [results, Tryd.results62, go_sem, v0, v1, v2]) rfl
          ⟨by rw [EV.out]; rfl, by rw [EV.out]; exact (((D3.out.set (by omega) _).set (by omega) _).set (by omega) _).set (by omega) _, grown_new (grown_new (grown_new (grown_new G3.out (by omega) _) (Nat.le_refl _) _) (Nat.le_refl _) _) (Nat.le_refl _) _⟩
      · have EV : Hid (sV st = (⟨b, 0, []⟩, st1)) := EQ.out.trans (by rw [if_neg hb1, if_neg hb2, if_neg hb3])
        have k1 : ((b : Int) == 1) = false := by simp; omega
        have k2 : ((b : Int) == 2) = false := by simp; omega
        have k3 : ((b : Int) == 3) = false := by simp; omega
        have hw1' : w.heap.size < w1.heap.size := by omega
        clear EQ
        go_wp2_with fail
        exact bodyPost_ret (v := .agg #[.int .i64 b, .int .i64 0, .string ⟨#[]⟩]) (by simp [results, Tryd.results62, go_sem, v0, v1, v2, World.cell?_alloc_past, hw1']) rfl
          ⟨by rw [EV.out]; rfl, by rw [EV.out]; exact (((D1.out.set (by omega) _).set (by omega) _).set (by omega) _).gr ((Gr.refl _).alloc _), grown_trans (grown_new (grown_new (grown_new G1.out (Nat.le_refl _) _) (Nat.le_refl _) _) (Nat.le_refl _) _) (grown_gr ((Gr.refl _).alloc _))⟩
end Go.Proofs.YtecnfgikbmcgoaaDoor
