import Derived.Test.YtecnfgikbmcgoaaGreatG13
import Derived.Test.YtecnfgikbmcgoaaGreatG1
import Derived.Test.YtecnfgikbmcgoaaGreatG2
import Derived.Conc.SmallLaws
import Derived.Test.YtecnfgikbmcgoaaGreatG4
import Derived.Deep.QuietTactic
import Derived.BigQuiet
namespace Go.Proofs.YtecnfgikbmcgoaaGreat
open Go.RowKit

set_option maxRecDepth 100000 in
set_option maxHeartbeats 1000000 in
theorem CloneS (wz : World) (s : ByteArray) (w : World) (hs : s.size ≤ 255) (h : Gr wz w) : Calls Tryz.prog 85 #[.string s] w fun e w' => e = .returned (.string s) ∧ Gr wz w' := by
  go_enter Tryz.func85, Tryz.ntmps85
  go_wp2_with fail
  refine (Tryz.stringslite_Clone s w (by omega)).mono ?_
  rintro e w1 ⟨rfl, g1⟩
  go_wp2_with fail
  go_ret
  exact ⟨rfl, Gr.call h g1⟩
set_option maxRecDepth 100000 in
set_option maxHeartbeats 1000000 in
theorem copyOfValue_any (k n : Int) (s : ByteArray) (w : World) (hs : s.size ≤ 255) : Calls Tryz.prog 86 #[.agg #[.int .i64 k, .int .i64 n, .string s]] w fun e w' => e = .returned (.agg #[.int .i64 k, .int .i64 n, .string s]) ∧ Gr w w' := by
  go_enter Tryz.func86, Tryz.ntmps86
  have G1 : Gr w ((w.alloc (.cells #[.int .i64 k, .int .i64 n, .string s] 72)).alloc (.cells #[.int .i64 0, .int .i64 0, .string ⟨#[]⟩] 72)) := ((Gr.refl w).alloc _).alloc _
  have HA := blk_gr ((Gr.refl _).alloc (.cells #[.int .i64 0, .int .i64 0, .string ⟨#[]⟩] 72)) (heap_alloc_new w (.cells #[.int .i64 k, .int .i64 n, .string s] 72))
  have HB := heap_alloc_new (w.alloc (.cells #[.int .i64 k, .int .i64 n, .string s] 72)) (.cells #[.int .i64 0, .int .i64 0, .string ⟨#[]⟩] 72)
  rw [show (w.alloc (.cells #[.int .i64 k, .int .i64 n, .string s] 72)).heap.size = w.heap.size + 1 by simp] at HB
  have HG := Hid.mk' G1
  have HHA := Hid.mk' HA
  have HHB := Hid.mk' HB
  clear G1 HA HB
  go_wp2_with fail
  refine (CloneS _ s _ hs (Gr.refl _)).mono ?_
  rintro e w1 ⟨rfl, g1⟩
  have hA := blk_gr g1 HHA.out
  have hB := blk_gr g1 HHB.out
  have G1 := Hid.mk' (Gr.call HG.out g1)
  clear HG HHA HHB g1
  have a0 : w1.cell? ⟨w.heap.size, 0, none⟩ = some (.int .i64 k) := by rw [cell_of_row _ _ _ _ _ _ hA]; rfl
  have a1 : w1.cell? ⟨w.heap.size, 1, none⟩ = some (.int .i64 n) := by rw [cell_of_row _ _ _ _ _ _ hA]; rfl
  have a2 : w1.cell? ⟨w.heap.size, 2, none⟩ = some (.string s) := by rw [cell_of_row _ _ _ _ _ _ hA]; rfl
  have b0 : w1.cell? ⟨w.heap.size + 1, 0, none⟩ = some (.int .i64 0) := by rw [cell_of_row _ _ _ _ _ _ hB]; rfl
  have b1 : w1.cell? ⟨w.heap.size + 1, 1, none⟩ = some (.int .i64 0) := by rw [cell_of_row _ _ _ _ _ _ hB]; rfl
  have b2 : w1.cell? ⟨w.heap.size + 1, 2, none⟩ = some (.string ⟨#[]⟩) := by rw [cell_of_row _ _ _ _ _ _ hB]; rfl
  have fa : ∀ j, w1.frozen? ⟨w.heap.size, j, none⟩ = false := fun j => frozen_of_row _ _ _ _ _ hA
  have fb : ∀ j, w1.frozen? ⟨w.heap.size + 1, j, none⟩ = false := fun j => frozen_of_row _ _ _ _ _ hB
  clear hA hB
  go_wp2_with fail
  refine bodyPost_ret (v := .agg #[.int .i64 k, .int .i64 n, .string s]) (by simp [results, Tryz.results86, go_sem, b0, b1, b2]) rfl ⟨rfl, ?_⟩
  exact Below.setCell (Below.setCell (Below.setCell (Below.setCell G1.out (p := ⟨w.heap.size, 2, none⟩) (Nat.le_refl _) _) (p := ⟨w.heap.size + 1, 0, none⟩) (Nat.le_succ _) _) (p := ⟨w.heap.size + 1, 1, none⟩) (Nat.le_succ _) _) (p := ⟨w.heap.size + 1, 2, none⟩) (Nat.le_succ _) _
theorem Tryz.infoWantK : (Tryz.prog.info? 76).map (fun i => (i.zero, i.size, i.bytes)) = some (some (.agg #[.string ⟨#[]⟩, .int .i64 0, .int .i64 0, .int .i64 0, .string ⟨#[]⟩]), 5, 56) := by kernel_rfl
/-- What each place of the copying statement yields. -/
def Rcf (B g n q : Nat) (y : Wnt) (j : Nat) (x : Value) (_w : World) : Prop :=
  match j with
  | 0 => x = .slice (some ⟨g, 0, none⟩) n n
  | 1 => x = .int .i64 q
  | 2 => x = .pointer (some ⟨B, 0, none⟩)
  | 3 => x = .string y.a
  | 4 => x = .string y.a
  | 5 => x = .pointer (some ⟨B, 1, none⟩)
  | 6 => x = .int .i64 y.y
  | 7 => x = .pointer (some ⟨B, 2, none⟩)
  | 8 => x = .agg #[.int .i64 y.k, .int .i64 y.n, .string y.s]
  | 9 => x = .agg #[.int .i64 y.k, .int .i64 y.n, .string y.s]
  | 10 => x = .agg #[.string y.a, .int .i64 y.y, .int .i64 y.k, .int .i64 y.n, .string y.s]
  | 11 => x = .pointer (some ⟨g, q * 5, none⟩)
  | _ => True
theorem Rcf.st {B g n q : Nat} {y : Wnt} (j : Nat) (x : Value) (wa wb : World) (h : Rcf B g n q y j x wa) : Rcf B g n q y j x wb := by
  unfold Rcf at h ⊢; split <;> first | exact h | trivial
/-- A frame: what stands ahead of a region's places, the places, what stands behind. -/
structure Efr (pre post : List Value) (m : Nat) (a : Act) : Prop where
  df : a.defers = []
  ts : ∃ z : List Value, z.length = m ∧ a.tmps = (pre ++ z ++ post).toArray
theorem Efr.put {pre post : List Value} {m : Nat} (a : Act) (i : Nat) (x : Value) (hi : i < m) (h : Efr pre post m a) : Efr pre post m (a.put (some (pre.length + i)) x) := by
  obtain ⟨z, hz, ht⟩ := h.ts
  refine ⟨h.df, z.set i x, by simpa using hz, ?_⟩
  simp only [Act.put, ht, List.setIfInBounds_toArray]
  rw [List.append_assoc, List.set_append_right _ _ (by omega), show pre.length + i - pre.length = i by omega, List.set_append_left _ _ (by omega), List.append_assoc]
theorem Efr.sz {pre post : List Value} {m : Nat} {a : Act} (h : Efr pre post m a) : a.tmps.size = pre.length + m + post.length := by
  obtain ⟨z, hz, ht⟩ := h.ts
  rw [ht]; simp; omega
theorem Efr.at_ {pre post : List Value} {m : Nat} {a : Act} (h : Efr pre post m a) {t : Nat} (ht : t < pre.length) : a.eval (.tmp t) = pre[t]?.getD undef := by
  obtain ⟨z, hz, e⟩ := h.ts
  rw [evn, e]
  simp [List.getElem?_append, ht]
set_option maxRecDepth 100000 in
set_option maxHeartbeats 4000000 in
theorem copyOfFilter_any (f : List Wnt) (ad : Option Addr) (cap : Nat) (w : World) (h : FiM w ad f) :
    Calls Tryz.prog 49 #[.slice ad f.length cap] w fun e w' => ∃ v, e = .returned v ∧ w'.ownsRow w.heap.size 76 5 v f.length (wcells f) ∧ Gr w w' := by
  obtain ⟨i0, hi, hz0, hz1, hz2⟩ := info_parts Tryz.infoWantK
  have HF := Hid.mk' h
  have hlen := h.len
  obtain ⟨b, off, rfl, hbw, hat⟩ := h.at'
  have HAT := Hid.mk' hat
  clear h hat
  go_enter Tryz.func49, Tryz.ntmps49
  go_wp2_with (at_make; refine wpList_make_full _ rfl _ _ 48 rfl w.heap.size 76 i0 _ 5 Tryz.underlying48 hi hz0 hz1 _ _ _ _ f.length rfl rfl (by omega) (by omega) ?b2 ?b3 (Nat.le_refl _) ?_)
  case b2 => rw [hz2]; omega
  case b3 => unfold maxLen; omega
  intro w1 hown1 hgrow1
  have G1 : Hid (Gr w w1) := Below.grown (Gr.refl w) hgrow1 (Nat.le_refl _) (fun b hb => by cases hb)
  have O1 := Hid.mk' hown1
  clear hown1 hgrow1
  go_wp2_with fail
  go_loopw [11] (fun i wr => ∃ (q : Nat) (xs : List Value), q ≤ f.length ∧ i = .int .i64 q ∧ Hid (Gr w wr) ∧ Hid (xs.take (q * 5) = wcells (f.take q)) ∧ Hid (wr.ownsRow w.heap.size 76 5 (.slice (some ⟨w.heap.size, 0, none⟩) f.length f.length) f.length xs)) (fun i _ => f.length - (intOf i).toNat)
  case atStart => exact ⟨0, _, Nat.zero_le _, rfl, G1, rfl, O1⟩
  case round =>
    obtain ⟨q, xs, hq, rfl, G, HX, O⟩ := hrel
    clear G1 O1
    by_cases hlt : q < f.length
    · have hxl : xs.length = f.length * 5 := O.out.1
      obtain ⟨d1, d2, d3, d4, d5⟩ := (HAT.out.gr G.out hbw) q hlt
      have hbw2 : b < wr.heap.size := G.out.lt hbw
      have wfq := HF.out.wf _ (wat_mem hlt)
      have okq := (fi_ok_of HF.out.ok).1 _ (wat_mem hlt)
      have hsa : (wat f q).a.size ≤ 255 := by
        simp only [wOk, wantOk, nameOk, Bool.and_eq_true, decide_eq_true_eq] at okq
        omega
      have hss : (wat f q).s.size ≤ 255 := by
        have := way_size (way_of okq)
        omega
      have HSA := Hid.mk' hsa
      have HSS := Hid.mk' hss
      have WT := Hid.mk' (wcells_take f q hlt)
      clear hsa hss okq wfq
      generalize wat f q = y at *
      have HNEW := heap_alloc_new wr (.cells #[.string y.a, .int .i64 y.y, .int .i64 y.k, .int .i64 y.n, .string y.s] 76)
      have gal : Gr wr (wr.alloc (.cells #[.string y.a, .int .i64 y.y, .int .i64 y.k, .int .i64 y.n, .string y.s] 76)) := (Gr.refl wr).alloc _
      have HHN := Hid.mk' HNEW
      have GAL := Hid.mk' gal
      clear HNEW gal
      go_wp2_with fail
      have hws : w.heap.size < wr.heap.size := by
        obtain ⟨r0, rc0⟩ := row_some O.out 0 (by omega)
        exact World.block_lt_of_cell? _ _ rc0
      refine region_S (c := 16) rfl 12 (by rfl) (Rcf wr.heap.size w.heap.size f.length q y)
        (Efr [.slice (some ⟨b, off, none⟩) f.length cap, undef, .slice none 0 0, .slice (some ⟨w.heap.size, 0, none⟩) f.length f.length, .int .i64 q, .pointer (some ⟨wr.heap.size, 0, none⟩), .slice (some ⟨b, off, none⟩) f.length cap, .int .i64 f.length, .slice (some ⟨w.heap.size, 0, none⟩) f.length f.length, .slice (some ⟨b, off, none⟩) f.length cap, .int .i64 f.length, .int .i64 q, .bool true, .int .i64 q, .pointer (some ⟨b, off + q * 5, none⟩), .agg #[.string y.a, .int .i64 y.y, .int .i64 y.k, .int .i64 y.n, .string y.s]] [u28, undef] 12)
        (fun w' => Gr (wr.alloc (.cells #[.string y.a, .int .i64 y.y, .int .i64 y.k, .int .i64 y.n, .string y.s] 76)) w') (fun _ wa wb => Gr wa wb) (fun a i x hi h => Efr.put a i x hi h) (fun a h => by have := h.sz; simp at this; omega) (fun i wa wb h g => Gr.call h g) (fun i j x wa wb _ h g => Rcf.st j x wa wb h) ?front ?last ?e0 (Gr.refl _).drew
      case e0 => exact ⟨rfl, [u16, u17, u18, u19, u20, u21, u22, u23, u24, u25, u26, u27], rfl, rfl⟩
      case front =>
        intro i o a' w2 ho hi2 hE hW hd K hK
        have hA := blk_gr hW HHN.out
        have c0 : w2.cell? ⟨wr.heap.size, 0, none⟩ = some (.string y.a) := by rw [cell_of_row _ _ _ _ _ _ hA]; rfl
        have c1 : w2.cell? ⟨wr.heap.size, 1, none⟩ = some (.int .i64 y.y) := by rw [cell_of_row _ _ _ _ _ _ hA]; rfl
        have c2 : w2.cell? ⟨wr.heap.size, 2, none⟩ = some (.int .i64 y.k) := by rw [cell_of_row _ _ _ _ _ _ hA]; rfl
        have c3 : w2.cell? ⟨wr.heap.size, 3, none⟩ = some (.int .i64 y.n) := by rw [cell_of_row _ _ _ _ _ _ hA]; rfl
        have c4 : w2.cell? ⟨wr.heap.size, 4, none⟩ = some (.string y.s) := by rw [cell_of_row _ _ _ _ _ _ hA]; rfl
        have t3 : a'.tmps[3]?.getD undef = .slice (some ⟨w.heap.size, 0, none⟩) f.length f.length := (evn a' 3).symm.trans (hE.at_ (by simp))
        have t4 : a'.tmps[4]?.getD undef = .int .i64 q := (evn a' 4).symm.trans (hE.at_ (by simp))
        have t5 : a'.tmps[5]?.getD undef = .pointer (some ⟨wr.heap.size, 0, none⟩) := (evn a' 5).symm.trans (hE.at_ (by simp))
        clear hE hA
        match i, ho, hi2, hd, hK with
        | 0, ho, _, hd, hK =>
          obtain rfl := Option.some.inj ho
          unfold Oper.wp
          go_simp
          exact hK _ _ (Gr.refl _) rfl
        | 1, ho, _, hd, hK =>
          obtain rfl := Option.some.inj ho
          unfold Oper.wp
          go_simp
          exact hK _ _ (Gr.refl _) rfl
        | 2, ho, _, hd, hK =>
          obtain rfl := Option.some.inj ho
          unfold Oper.wp
          go_simp
          exact hK _ _ (Gr.refl _) rfl
        | 3, ho, _, hd, hK =>
          obtain rfl := Option.some.inj ho
          have e0 : a'.eval (.tmp 18) = .pointer (some ⟨wr.heap.size, 0, none⟩) := hd ⟨2, .data⟩ (by simp) rfl
          rw [evn] at e0
          unfold Oper.wp
          go_simp
          exact hK _ _ (Gr.refl _) rfl
        | 4, ho, _, hd, hK =>
          obtain rfl := Option.some.inj ho
          have e0 : a'.eval (.tmp 19) = .string y.a := hd ⟨3, .data⟩ (by simp) rfl
          rw [evn] at e0
          unfold Oper.wp
          go_simp
          refine (CloneS w2 y.a w2 HSA.out (Gr.refl _)).mono ?_
          rintro e w3 ⟨rfl, g3⟩
          go_simp
          exact hK _ _ g3 rfl
        | 5, ho, _, hd, hK =>
          obtain rfl := Option.some.inj ho
          unfold Oper.wp
          go_simp
          exact hK _ _ (Gr.refl _) rfl
        | 6, ho, _, hd, hK =>
          obtain rfl := Option.some.inj ho
          have e0 : a'.eval (.tmp 21) = .pointer (some ⟨wr.heap.size, 1, none⟩) := hd ⟨5, .data⟩ (by simp) rfl
          rw [evn] at e0
          unfold Oper.wp
          go_simp
          exact hK _ _ (Gr.refl _) rfl
        | 7, ho, _, hd, hK =>
          obtain rfl := Option.some.inj ho
          unfold Oper.wp
          go_simp
          exact hK _ _ (Gr.refl _) rfl
        | 8, ho, _, hd, hK =>
          obtain rfl := Option.some.inj ho
          have e0 : a'.eval (.tmp 23) = .pointer (some ⟨wr.heap.size, 2, none⟩) := hd ⟨7, .data⟩ (by simp) rfl
          rw [evn] at e0
          unfold Oper.wp
          go_simp
          exact hK _ _ (Gr.refl _) rfl
        | 9, ho, _, hd, hK =>
          obtain rfl := Option.some.inj ho
          have e0 : a'.eval (.tmp 24) = .agg #[.int .i64 y.k, .int .i64 y.n, .string y.s] := hd ⟨8, .data⟩ (by simp) rfl
          rw [evn] at e0
          unfold Oper.wp
          go_simp
          refine (copyOfValue_any y.k y.n y.s w2 HSS.out).mono ?_
          rintro e w3 ⟨rfl, g3⟩
          go_simp
          exact hK _ _ g3 rfl
        | 10, ho, _, hd, hK =>
          obtain rfl := Option.some.inj ho
          have e0 : a'.eval (.tmp 20) = .string y.a := hd ⟨4, .data⟩ (by simp) rfl
          have e1 : a'.eval (.tmp 22) = .int .i64 y.y := hd ⟨6, .data⟩ (by simp) rfl
          have e2 : a'.eval (.tmp 25) = .agg #[.int .i64 y.k, .int .i64 y.n, .string y.s] := hd ⟨9, .data⟩ (by simp) rfl
          rw [evn] at e0 e1 e2
          unfold Oper.wp
          go_simp
          exact hK _ _ (Gr.refl _) rfl
        | 11, ho, _, hd, hK =>
          obtain rfl := Option.some.inj ho
          have e0 : a'.eval (.tmp 16) = .slice (some ⟨w.heap.size, 0, none⟩) f.length f.length := hd ⟨0, .data⟩ (by simp) rfl
          have e1 : a'.eval (.tmp 17) = .int .i64 q := hd ⟨1, .data⟩ (by simp) rfl
          rw [evn] at e0 e1
          unfold Oper.wp
          go_simp
          exact hK _ _ (Gr.refl _) rfl
        | k + 12, _, hi2, _, _ => exact absurd hi2 (by omega)
      case last =>
        intro o a' w2 ho hE hW hd K hK
        obtain rfl := Option.some.inj ho
        have e0 : a'.eval (.tmp 27) = .pointer (some ⟨w.heap.size, q * 5, none⟩) := hd 11 (by omega)
        have e1 : a'.eval (.tmp 26) = .agg #[.string y.a, .int .i64 y.y, .int .i64 y.k, .int .i64 y.n, .string y.s] := hd 10 (by omega)
        rw [evn] at e0 e1
        have g5 := Gr.call GAL.out hW
        have O5 := Hid.mk' (ownsGr O.out g5)
        have G5 := Hid.mk' (Gr.call G.out g5)
        obtain ⟨r0, rc0⟩ := row_some O5.out (q * 5) (by omega)
        have rf0 := World.ownsRow.frozenAt O5.out (q * 5)
        obtain ⟨r1, rc1⟩ := row_some O5.out (q * 5 + 1) (by omega)
        have rf1 := World.ownsRow.frozenAt O5.out (q * 5 + 1)
        obtain ⟨r2, rc2⟩ := row_some O5.out (q * 5 + 1 + 1) (by omega)
        have rf2 := World.ownsRow.frozenAt O5.out (q * 5 + 1 + 1)
        obtain ⟨r3, rc3⟩ := row_some O5.out (q * 5 + 1 + 1 + 1) (by omega)
        have rf3 := World.ownsRow.frozenAt O5.out (q * 5 + 1 + 1 + 1)
        obtain ⟨r4, rc4⟩ := row_some O5.out (q * 5 + 1 + 1 + 1 + 1) (by omega)
        have rf4 := World.ownsRow.frozenAt O5.out (q * 5 + 1 + 1 + 1 + 1)
        have O6 := Hid.mk' (owns_set5 O5.out (q * 5) (.string y.a) (.int .i64 y.y) (.int .i64 y.k) (.int .i64 y.n) (.string y.s))
        have G6 := Hid.mk' (gr_set5 (Nat.le_refl _) G5.out (.string y.a) (.int .i64 y.y) (.int .i64 y.k) (.int .i64 y.n) (.string y.s) (k := q * 5))
        have X6 : Hid ((set5 xs (q * 5) (.string y.a) (.int .i64 y.y) (.int .i64 y.k) (.int .i64 y.n) (.string y.s)).take ((q + 1) * 5) = wcells (f.take (q + 1))) := by
          show _ = _
          rw [show (q + 1) * 5 = q * 5 + 5 by omega, take5 _ _ _ _ _ _ _ (by omega), HX.out, WT.out]
        obtain ⟨z, hz, ht⟩ := hE.ts
        have hdf := hE.df
        clear O5 G5 O G HX g5 hd hE hW
        match z, hz with
        | [z0, z1, z2, z3, z4, z5, z6, z7, z8, z9, z10, z11], _ =>
        obtain ⟨tm, df⟩ := a'
        simp only at ht hdf
        subst ht
        subst hdf
        obtain rfl : z11 = .pointer (some ⟨w.heap.size, q * 5, none⟩) := e0
        obtain rfl : z10 = .agg #[.string y.a, .int .i64 y.y, .int .i64 y.k, .int .i64 y.n, .string y.s] := e1
        unfold Oper.wp
        go_simp
        refine hK _ _ ?_
        go_wp2_with fail
        exact ⟨⟨q + 1, _, hlt, by simp, G6, X6, O6⟩, measM_dec _ _ hlt⟩
    · have hql : q = f.length := by omega
      have OF : Hid (wr.ownsRow w.heap.size 76 5 (.slice (some ⟨w.heap.size, 0, none⟩) f.length f.length) f.length (wcells f)) := by
        have e : xs = wcells f := by
          have h1 := HX.out
          have h2 := O.out.1
          rw [hql, List.take_of_length_le (by omega), List.take_of_length_le (Nat.le_refl _)] at h1
          exact h1
        rw [← e]; exact O.out
      clear O HX
      go_wp2_with fail
      go_ret
      exact ⟨_, rfl, OF.out, G.out⟩
end Go.Proofs.YtecnfgikbmcgoaaGreat
namespace Go.Proofs.YtecnfgikbmcgoaaGreat
open Go.RowKit
open Go.Maps (Keyed)
open Go.ChangeMaps (setBlock)

theorem Tryz.infoEvC : (Tryz.prog.info? 65).map (fun i => (i.zero, i.size, i.bytes)) = some (some (.slice none 0 0), 1, 24) := by kernel_rfl
theorem mkInbox (w : World) : (Instr.makeChan 124 (.int .i64 16)).run Tryz.prog w = .ok (.chan (some w.heap.size)) (w.alloc (.chan 16 #[] false 0 0 false)) := by
  obtain ⟨i, hi, _, _, hb⟩ := info_parts Tryz.infoEvC
  simpa using Go.Conc.run_makeChan (P := Tryz.prog) (w := w) Tryz.underlying124 hi .i64 16 (by omega) (by rw [hb]; omega)
set_option maxRecDepth 100000 in
theorem newInbox_any (w : World) : Calls Tryz.prog 87 #[] w fun e w' => e = .returned (.chan (some w.heap.size)) ∧ w' = w.alloc (.chan 16 #[] false 0 0 false) := by
  have hmk := mkInbox
  go_enter Tryz.func87, Tryz.ntmps87
  go_wp2_with fail
  go_ret
  exact ⟨rfl, rfl⟩
set_option maxRecDepth 100000 in
theorem newClient_any (b : Nat) (w : World) : Calls Tryz.prog 74 #[.int .i64 b] w fun e w' => e = .returned (.pointer (some ⟨w.heap.size + 1, 0, none⟩)) ∧ w' = (w.alloc (.chan 16 #[] false 0 0 false)).alloc (.cells #[.int .i64 b, .chan (some w.heap.size), .int .i64 0] 126) := by
  go_enter Tryz.func74, Tryz.ntmps74
  go_wp2_with fail
  refine (newInbox_any w).mono ?_
  rintro e w1 ⟨rfl, rfl⟩
  go_wp2_with fail
  go_ret
  exact ⟨by simp, rfl⟩
set_option maxRecDepth 100000 in
set_option maxHeartbeats 4000000 in
theorem hasBroker_in (T : Tc) (r : Nat → Rl) (w : World) (b : Nat) (h : Tb T r w) (hb : b < T.nb) : Calls Tryz.prog 39 #[.pointer (some ⟨T.TB, 0, none⟩), .int .i64 b] w fun e w' => e = .returned (.bool true) ∧ Gr w w' := by
  have c0 := h.c0
  have hnb := h.nb8
  have h1 : (0 : Int) ≤ (b : Int) := by omega
  have h2 : (b : Int) < (T.nb : Int) := by omega
  go_enter Tryz.func39, Tryz.ntmps39
  go_wp2_with fail
  go_ret
  exact ⟨rfl, Gr.refl _⟩
/-- A client comes. -/
theorem Tm.attach {T : Tc} {r : Nat → Rl} {w : World} {Xs : Nat → List Hm} {qs : Nat → Nat → List Mm} {cls : List Cl} (h : Tm T r w Xs qs cls) (c : Int) (b : Nat) (hc : I64 c) (hb : b < T.nb) (_hn : ∀ x ∈ cls, x.num ≠ c) {w1 : World} (g : Gr w w1) {w2 : World} (hw2 : w2 = (w1.alloc (.chan 16 #[] false 0 0 false)).alloc (.cells #[.int .i64 b, .chan (some w1.heap.size), .int .i64 0] 126))
    {w3 : World} (g3 : Gr w2 w3) {es : Array MapEntry} {clock : Nat} (hm : Mp Tryz.prog 3 (setBlock w3 T.CB (.map es clock)) T.CB (cls.map cv ++ [(.int .i64 c, .pointer (some ⟨w1.heap.size + 1, 0, none⟩))]) es clock) :
    ∃ r', Tm T r' (setBlock w3 T.CB (.map es clock)) Xs qs (cls ++ [⟨c, b, w1.heap.size + 1, w1.heap.size, 0, []⟩]) ∧ Fr r r' w (setBlock w3 T.CB (.map es clock)) := by
  have g2 : Gr w1 w2 := by rw [hw2]; exact ((Gr.refl w1).alloc _).alloc _
  have gg := Gr.call (Gr.call g g2) g3
  have s2 : w2.heap.size = w1.heap.size + 2 := by rw [hw2]; simp
  have hcm : r T.CB = .cm := h.k.cm
  have hlt : T.CB < w.heap.size := h.b.lt (by rw [hcm]; exact fun e => by cases e)
  have hs : w.heap.size ≤ (setBlock w3 T.CB (.map es clock)).heap.size := by simp only [setBlock]; simpa using gg.size
  have hkeep : ∀ k, k < w.heap.size → r k ≠ .cm → (setBlock w3 T.CB (.map es clock)).heap[k]? = w.heap[k]? := fun k hk h1 => (setBlock_other (fun e => h1 (by rw [e]; exact hcm))).trans (gg.block k hk)
  have hsz := g.size
  have hch : (setBlock w3 T.CB (.map es clock)).heap[w1.heap.size]? = some (.chan 16 #[] false 0 0 false) := by
    rw [setBlock_other (by omega), g3.block _ (by omega), hw2, heap_alloc_old _ _ (by simp)]
    exact heap_alloc_new w1 _
  have hcl : (setBlock w3 T.CB (.map es clock)).heap[w1.heap.size + 1]? = some (.cells #[.int .i64 b, .chan (some w1.heap.size), .int .i64 0] 126 (0, 0)) := by
    rw [setBlock_other (by omega), g3.block _ (by omega), hw2]
    have := heap_alloc_new (w1.alloc (.chan 16 #[] false 0 0 false)) (.cells #[.int .i64 b, .chan (some w1.heap.size), .int .i64 0] 126)
    rw [show (w1.alloc (.chan 16 #[] false 0 0 false)).heap.size = w1.heap.size + 1 by simp] at this
    exact this
  have hs3 : (setBlock w3 T.CB (.map es clock)).heap.size = w3.heap.size := by simp [setBlock]
  have hsame : ∀ k, k < w.heap.size → (if k = w1.heap.size then Rl.ch c else if k = w1.heap.size + 1 then .cl c else r k) = r k := fun k hk => by rw [if_neg (by omega), if_neg (by omega)]
  have htop : ∀ k, (setBlock w3 T.CB (.map es clock)).heap.size ≤ k → (if k = w1.heap.size then Rl.ch c else if k = w1.heap.size + 1 then .cl c else r k) = .no := fun k hk => by
    have := g3.size
    rw [if_neg (by omega), if_neg (by omega)]; exact h.b.top k (by omega)
  refine ⟨fun k => if k = w1.heap.size then .ch c else if k = w1.heap.size + 1 then .cl c else r k, ⟨h.b.keep hs (fun k hk hr => hkeep k hk ?_) hsame htop, h.h.keep hs (fun k hk hr => hkeep k hk ?_) hsame, h.l.keep hs (fun k hk hr => hkeep k hk ?_) hsame, ⟨(hsame _ hlt).trans hcm, ⟨es, clock, by rw [List.map_append]; exact hm⟩, fun x hx => ?_, fun x hx => ?_, fun x hx => ?_, fun x hx y hy => ?_⟩⟩, ⟨gg.os, gg.tape, gg.output, hs, fun k hk hr => hkeep k hk ?_, hsame⟩⟩
  · rcases hr with hr | hr <;> (rw [hr]; exact fun e => by cases e)
  · rcases hr with hr | ⟨_, hr⟩ <;> (rw [hr]; exact fun e => by cases e)
  · rcases hr with hr | hr | ⟨_, _, hr⟩ <;> (rw [hr]; exact fun e => by cases e)
  · rcases List.mem_append.1 hx with hx | hx
    · exact h.k.num x hx
    · rw [List.mem_singleton.1 hx]; exact ⟨hc, hb⟩
  · rcases List.mem_append.1 hx with hx | hx
    · obtain ⟨k1, k2⟩ := h.k.blk x hx
      exact ⟨(hsame _ (blk_lt k2)).trans k1, (hkeep _ (blk_lt k2) (by rw [k1]; exact fun e => by cases e)).trans k2⟩
    · rw [List.mem_singleton.1 hx]
      exact ⟨by show (if w1.heap.size + 1 = w1.heap.size then _ else _) = _; rw [if_neg (by omega), if_pos rfl], hcl⟩
  · rcases List.mem_append.1 hx with hx | hx
    · obtain ⟨k1, s, q, tm, k2⟩ := h.k.chn x hx
      exact ⟨(hsame _ (blk_lt k2)).trans k1, s, q, tm, (hkeep _ (blk_lt k2) (by rw [k1]; exact fun e => by cases e)).trans k2⟩
    · rw [List.mem_singleton.1 hx]
      exact ⟨if_pos rfl, 0, 0, false, hch⟩
  · rcases List.mem_append.1 hx with hx | hx
    · exact (h.k.box x hx y hy).keep hs (fun k hk hr => hkeep k hk (by rw [hr]; exact fun e => by cases e)) hsame
    · rw [List.mem_singleton.1 hx] at hy; cases hy
  · rcases hr with hr | hr <;> (rw [hr]; exact fun e => by cases e)
theorem Tryz.zeroC (w : World) : (zeroValue 113).run Tryz.prog w = .ok (.pointer none) w := Tryz.zeroValue113 w
set_option maxRecDepth 100000 in
set_option maxHeartbeats 4000000 in
theorem Attach_new (T : Tc) (r : Nat → Rl) (w : World) (cls : List Cl) (s : Ts) (c : Int) (b : Nat) (hT : Tw T r w cls s) (hc : I64 c) (hb : b < T.nb) (hn : ∀ x ∈ cls, x.num ≠ c) (hl : cls.length < 16) :
    Calls Tryz.prog 36 #[.pointer (some ⟨T.TB, 0, none⟩), .int .i64 c, .int .i64 b] w fun e w' => e = .returned (.int .i64 0) ∧ ∃ r' k h, Tw T r' w' (cls ++ [⟨c, b, k, h, 0, []⟩]) s ∧ Fr r r' w w' := by
  obtain ⟨Xs, qs, hT, hV⟩ := hT
  obtain ⟨es, clock, hmp⟩ := hT.k.mp
  obtain ⟨lk, hlk⟩ := keyI c hc
  have hno : ∀ v, (Value.int .i64 c, v) ∉ cls.map cv := by
    intro v hv'
    obtain ⟨x, hx, e⟩ := List.mem_map.1 hv'
    injection e with e1 e2
    injection e1 with e1 e3
    exact hn x hx e3
  have HB := Hid.mk' (hasBroker_in T r w b hT.b hb)
  have HT := Hid.mk' hT
  have HV := Hid.mk' hV
  have HMP := Hid.mk' hmp
  have HN := Hid.mk' hn
  have HNO := Hid.mk' hno
  have HC := Hid.mk' hc
  clear hT hV hmp hn hno hc
  go_enter Tryz.func36, Tryz.ntmps36
  go_wp2_with fail
  refine HB.out.mono ?_
  rintro e w1 ⟨rfl, g1⟩
  have hlu := Mp.look_no Tryz.keyedI Tryz.underlying116 (HMP.out.kept (g1.block _ HMP.out.lt)) hlk HNO.out Tryz.zeroC true
  have T1 := HT.out.gr g1
  have c1 := T1.b.c1
  have hblk := (HMP.out.kept (g1.block _ HMP.out.lt)).blk
  have hsz : es.size = cls.length := by
    have := congrArg List.length HMP.out.ent
    simpa using this
  have G1 := Hid.mk' g1
  have hlen : (Builtin.len_ #[116] 3 #[.map (some T.CB)]).run Tryz.prog w1 = .ok (.int .i64 (cls.length : Nat)) w1 := by
    simp [Builtin.len_, run_underlying Tryz.underlying116, getObj, Sem.run, hblk, hsz, goInt]
  have hTB := T1.tlt
  clear HB T1 g1
  obtain ⟨hup, hM'⟩ := Mp.put_new (v := .pointer (some ⟨w1.heap.size + 1, 0, none⟩)) Tryz.keyedI Tryz.underlying116 (HMP.out.kept (w' := ((w1.alloc (.chan 16 #[] false 0 0 false)).alloc (.cells #[.int .i64 b, .chan (some w1.heap.size), .int .i64 0] 126)).drew) (((G1.out.alloc _).alloc _).drew.block _ HMP.out.lt)) hlk HNO.out
  have FIN := Tm.attach HT.out c b HC.out hb HN.out G1.out rfl ((Gr.refl _).drew) hM'
  have HF := Hid.mk' FIN
  clear FIN hM'
  go_wp2_with fail
  go_region_with (go_at_call 74; refine (newClient_any b _).mono ?_; rintro e w2 ⟨rfl, rfl⟩)
  all_goals
    go_wp2_with fail
    go_ret
    obtain ⟨r', z1, z2⟩ := HF.out
    exact ⟨rfl, r', _, _, ⟨Xs, qs, z1, HV.out⟩, z2⟩
end Go.Proofs.YtecnfgikbmcgoaaGreat
namespace Go.Proofs.YtecnfgikbmcgoaaGreat
open Go.RowKit

set_option maxHeartbeats 1000000 in
theorem refCheck_any (l : List Wnt) (b off cap : Nat) (w : World) (hl : l.length ≤ maxLen) (hb : b < w.heap.size) (hat : WantsAt w b off l) (hwf : ∀ x ∈ l, Wnt.Wf x) :
    Calls Tryz.prog 94 #[.slice (some ⟨b, off, none⟩) l.length cap] w fun e w' => e = .returned (.int .i64 (chk l)) ∧ Gr w w' := by
  unfold maxLen at hl
  have HC : Hid (WantsAt w b off l) := hat
  have HF : Hid (∀ x ∈ l, Wnt.Wf x) := hwf
  clear hat hwf
  go_enter Tryz.func94, Tryz.ntmps94
  go_wp2
  · go_ret; exact ⟨ret_int (chk_size ‹_›).symm, Gr.refl _⟩
  · go_loopw [3] (fun i wr => ∃ k : Nat, k ≤ l.length ∧ i = .int .i64 k ∧ Gr w wr ∧ Hid ((l.take k).all wOk = true)) (fun i _ => l.length - (intOf i).toNat)
    case atStart => exact ⟨0, Nat.zero_le _, rfl, Gr.refl _, rfl⟩
    case round =>
      obtain ⟨k, hk, rfl, g, HA⟩ := hrel
      by_cases hlt : k < l.length
      · obtain ⟨c1, c2, c3, c4, c5⟩ := (HC.out.gr g hb) k hlt
        go_wp2_with fail
        refine (WantOf_any _ _ _ _ _ _ (HF.out _ (wat_mem hlt)).a).mono ?_
        rintro e w1 ⟨rfl, hb1⟩
        have g1 : Gr w w1 := Gr.call g hb1
        clear c1 c2 c3 c4 c5
        go_wp2
        · go_ret
          refine ⟨ret_int (chk_stop k hlt ?_).symm, g1⟩
          simpa [wOk] using ‹(!wantOk _ _ _ _ _) = true›
        · go_roundw
          case rel =>
            refine ⟨k + 1, by omega, by go_num, g1, all_snoc wOk l k dW hlt HA.out ?_⟩
            simpa [wOk, wat] using ‹(!wantOk _ _ _ _ _) = false›
          case measure => simp [intOf]; omega
      · go_wp2
        go_ret
        exact ⟨ret_int (chk_end k hlt (by omega) (by omega) HA.out).symm, g⟩
  · go_ret; exact ⟨ret_int (chk_size (Or.inl ‹_›)).symm, Gr.refl _⟩

set_option maxHeartbeats 2000000 in
theorem CheckEvent_any (l : List Atr) (b off cap : Nat) (w : World) (hl : l.length ≤ maxLen) (hb : b < w.heap.size) (hat : AttrsAt w b off l) (hwf : ∀ x ∈ l, Atr.Wf x) :
    Calls Tryz.prog 53 #[.slice (some ⟨b, off, none⟩) l.length cap] w fun e w' => e = .returned (.int .i64 (chkE l)) ∧ Gr w w' := by
  unfold maxLen at hl
  have HC : Hid (AttrsAt w b off l) := hat
  have HF : Hid (∀ x ∈ l, Atr.Wf x) := hwf
  clear hat hwf
  go_enter Tryz.func53, Tryz.ntmps53
  go_wp2
  · go_ret; exact ⟨ret_int (chkE_size ‹_›).symm, Gr.refl _⟩
  · go_loopw [15] (fun i wr => ∃ k : Nat, k ≤ l.length ∧ i = .int .i64 k ∧ Gr w wr ∧ Hid ((List.range k).all (okAt l) = true)) (fun i _ => l.length - (intOf i).toNat)
    case atStart => exact ⟨0, Nat.zero_le _, rfl, Gr.refl _, rfl⟩
    case round =>
      obtain ⟨k, hk, rfl, g, HA⟩ := hrel
      by_cases hlt : k < l.length
      · obtain ⟨c1, c2, c3, c4⟩ := (HC.out.gr g hb) k hlt
        have hb' := g.lt hb
        cases hn : nameOk (aat l k).a
        · go_wp2_with (go_at_call 88; refine (goodName_any _ _ (HF.out _ (aat_mem hlt)).a).mono ?_; rw [hn]; rintro e w' ⟨rfl, rfl⟩)
          go_ret
          exact ⟨ret_int (chkE_stop k hlt (by simp [okAt, hn])).symm, g.alloc _⟩
        · cases hv : valOk (aat l k).k (aat l k).n (aat l k).s
          · go_wp2_with (first | (go_at_call 88; refine (goodName_any _ _ (HF.out _ (aat_mem hlt)).a).mono ?_; rw [hn]; rintro e w' ⟨rfl, rfl⟩) | (go_at_call 89; refine (goodValue_any _ _ _ _).mono ?_; rw [hv]; rintro e w1 ⟨rfl, hb1⟩))
            go_ret
            exact ⟨ret_int (chkE_stop k hlt (by simp [okAt, hv])).symm, Gr.call (g.alloc _) hb1⟩
          · go_wp2_with (first | (go_at_call 88; refine (goodName_any _ _ (HF.out _ (aat_mem hlt)).a).mono ?_; rw [hn]; rintro e w' ⟨rfl, rfl⟩) | (go_at_call 89; refine (goodValue_any _ _ _ _).mono ?_; rw [hv]; rintro e w1 ⟨rfl, hb1⟩; obtain ⟨hc1, hf1⟩ := bcell hb1))
            have gz : Gr w w1 := Gr.call (g.alloc _) hb1
            have hbz := gz.lt hb
            have q1 : w1.cell? ⟨wr.heap.size, 0, none⟩ = some (.string (aat l k).a) := by rw [hc1 _ _ (by simp)]; simp [go_sem]
            clear hc1 hf1 c1 c2 c3 c4
            by_cases hk0 : k = 0
            · have hd : decide (0 < (k : Int)) = false := by simp; omega
              have HO : Hid (okAt l k = true) := by
                show _ = _
                simp only [okAt, hn, hv, show (k == 0) = true by simpa using hk0, Bool.true_or, Bool.and_self]
              go_quiet (fail)
              go_wp2
              go_roundw
              case rel => exact ⟨k + 1, by omega, by subst hk0; rfl, gz.drewN _, range_snoc k HA.out HO.out⟩
              case measure => simp [intOf]; omega
            · obtain ⟨p1, p2, p3, p4⟩ := (HC.out.gr gz hb) (k - 1) (by omega)
              have hi0 : 0 < k := by omega
              have hd : decide (0 < k) = true := by simpa using hi0
              clear hk0
              have hw1 : IntKind.i64.wrap ((k : Int) - 1) = ((k - 1 : Nat) : Int) := by rw [IntWalk.i64_in _ (by omega)]; omega
              have hi1 : (0 : Int) < (k : Int) := by omega
              have hi4 : ((k - 1 : Nat) : Int) < (l.length : Int) := by omega
              have hi5 : k - 1 < l.length := by omega
              have hi2 : (0 : Int) ≤ (k : Int) - 1 := by omega
              have hi3 : (k : Int) - 1 < (l.length : Int) := by omega
              have HO : Hid (okAt l k = Op.bytesLess (aat l (k - 1)).a.toList (aat l k).a.toList) := by
                show _ = _
                simp [okAt, hn, hv, show (k == 0) = false by simp; omega]
              go_quiet (fail)
              go_wp2
              · go_ret
                refine ⟨ret_int (chkE_stop k hlt ?_).symm, gz.drewN _⟩
                rw [HO.out]
                simpa using ‹(!Op.bytesLess _ _) = true›
              · go_roundw
                case rel =>
                  refine ⟨k + 1, by omega, by go_num, gz.drewN _, range_snoc k HA.out ?_⟩
                  rw [HO.out]
                  simpa using ‹(!Op.bytesLess _ _) = false›
                case measure => simp [intOf]; omega
      · go_wp2
        go_ret
        exact ⟨ret_int (chkE_end k hlt hk (by omega) (by omega) HA.out).symm, g⟩
  · go_ret; exact ⟨ret_int (chkE_size (Or.inl ‹_›)).symm, Gr.refl _⟩
end Go.Proofs.YtecnfgikbmcgoaaGreat
namespace Go.Proofs.YtecnfgikbmcgoaaGreat
open Go.RowKit

set_option maxHeartbeats 1000000 in
theorem answers_any (l : List Atr) (x : Wnt) (b off cap : Nat) (m : Int) (w : World) (hl : l.length ≤ maxLen) (hb : b < w.heap.size) (hat : AttrsAt w b off l) (hv : ∀ z ∈ l, valOk z.k z.n z.s = true) (hx : wOk x = true) (hM : Ml m w) :
    Calls Tryz.prog 118 #[.slice (some ⟨b, off, none⟩) l.length cap, .agg #[.string x.a, .int .i64 x.y, .int .i64 x.k, .int .i64 x.n, .string x.s]] w
      fun e w' => e = .returned (.bool (ans l x)) ∧ Gr w w' := by
  unfold maxLen at hl
  have HC : Hid (AttrsAt w b off l) := hat
  have HV : Hid (∀ z ∈ l, valOk z.k z.n z.s = true) := hv
  have HX : Hid (wayOk x.y x.k x.n x.s = true) := by
    show _ = _
    simp [wOk, wantOk] at hx; exact hx.2
  clear hat hv hx
  go_enter Tryz.func118, Tryz.ntmps118
  go_wp2
  go_loopw [9] (fun i wr => ∃ k : Nat, k ≤ l.length ∧ i = .int .i64 k ∧ Gr (w.alloc (.cells #[.string x.a, .int .i64 x.y, .int .i64 x.k, .int .i64 x.n, .string x.s] 76)) wr ∧ Hid (ans (l.drop k) x = ans l x)) (fun i _ => l.length - (intOf i).toNat)
  case atStart => exact ⟨0, Nat.zero_le _, rfl, Gr.refl _, rfl⟩
  case round =>
    obtain ⟨k, hk, rfl, g, HA⟩ := hrel
    have gw : Gr w wr := Gr.call ((Gr.refl w).alloc _) g
    by_cases hlt : k < l.length
    · obtain ⟨c1, c2, c3, c4⟩ := (HC.out.gr gw hb) k hlt
      have hb' := gw.lt hb
      have hzr : w.heap.size < wr.heap.size := g.lt (by simp)
      have x1 : wr.cell? ⟨w.heap.size, 0, none⟩ = some (.string x.a) := by rw [(bcell g).1 _ _ (by simp)]; simp [go_sem]
      have x2 : wr.cell? ⟨w.heap.size, 1, none⟩ = some (.int .i64 x.y) := by rw [(bcell g).1 _ _ (by simp)]; simp [go_sem]
      have x3 : wr.cell? ⟨w.heap.size, 1 + 1, none⟩ = some (.int .i64 x.k) := by rw [(bcell g).1 _ _ (by simp)]; simp [go_sem]
      have x4 : wr.cell? ⟨w.heap.size, 1 + 1 + 1, none⟩ = some (.int .i64 x.n) := by rw [(bcell g).1 _ _ (by simp)]; simp [go_sem]
      have x5 : wr.cell? ⟨w.heap.size, 1 + 1 + 1 + 1, none⟩ = some (.string x.s) := by rw [(bcell g).1 _ _ (by simp)]; simp [go_sem]
      cases hn : ((aat l k).a.toList == x.a.toList)
      · have HN := ans_next (x := x) k hlt hn
        have HN' : Hid (ans (l.drop (k + 1)) x = ans l x) := by
          show _ = _
          rw [← HN]; exact HA.out
        clear HN
        go_wp2_with fail
        clear c1 c2 c3 c4 x1 x2 x3 x4 x5
        go_roundw
        case rel => exact ⟨k + 1, by omega, by go_num, g.alloc _, HN'⟩
        case measure => simp [intOf]; omega
      · have HN : Hid (ans l x = lets x.y x.k x.n x.s (aat l k).k (aat l k).n (aat l k).s) := by
          show _ = _
          rw [← HA.out]; exact ans_here k hlt hn
        go_wp2_with fail
        refine (letsBy_any _ _ _ _ _ _ _ _ m _ HX.out (HV.out _ (aat_mem hlt)) ((gw.ml hM).alloc _)).mono ?_
        rintro e w1 ⟨rfl, hb1⟩
        go_wp2_with fail
        go_ret
        exact ⟨ret_bool (by rw [HN.out]), Gr.call (gw.alloc _) hb1⟩
    · go_wp2
      go_ret
      refine ⟨ret_bool ?_, gw⟩
      rw [← HA.out, ans_end k hlt]

set_option maxHeartbeats 1000000 in
theorem matches_any (f : List Wnt) (l : List Atr) (b' off' cap' b off cap : Nat) (m : Int) (w : World) (hf : f.length ≤ maxLen) (hl : l.length ≤ maxLen) (hb' : b' < w.heap.size) (hat' : WantsAt w b' off' f) (hb : b < w.heap.size) (hat : AttrsAt w b off l)
    (hv : ∀ z ∈ l, valOk z.k z.n z.s = true) (hx : ∀ x ∈ f, wOk x = true) (hM : Ml m w) :
    Calls Tryz.prog 92 #[.slice (some ⟨b', off', none⟩) f.length cap', .slice (some ⟨b, off, none⟩) l.length cap] w
      fun e w' => e = .returned (.bool (mat l f)) ∧ Gr w w' := by
  have HL : Hid (l.length ≤ maxLen) := hl
  unfold maxLen at hl hf
  have HC : Hid (AttrsAt w b off l) := hat
  have HC' : Hid (WantsAt w b' off' f) := hat'
  have HV : Hid (∀ z ∈ l, valOk z.k z.n z.s = true) := hv
  have HX : Hid (∀ x ∈ f, wOk x = true) := hx
  clear hat hv hx hat'
  go_enter Tryz.func92, Tryz.ntmps92
  go_wp2
  go_loopw [9] (fun i wr => ∃ k : Nat, k ≤ f.length ∧ i = .int .i64 k ∧ Gr w wr ∧ Hid ((f.take k).all (ans l) = true)) (fun i _ => f.length - (intOf i).toNat)
  case atStart => exact ⟨0, Nat.zero_le _, rfl, Gr.refl _, rfl⟩
  case round =>
    obtain ⟨k, hk, rfl, g, HA⟩ := hrel
    by_cases hlt : k < f.length
    · obtain ⟨c1, c2, c3, c4, c5⟩ := (HC'.out.gr g hb') k hlt
      have hbr := g.lt hb'
      go_wp2_with fail
      refine (answers_any l (wat f k) _ _ _ m _ HL.out (Gr.lt (g.alloc _) hb) (HC.out.gr (g.alloc _) hb) HV.out (HX.out _ (wat_mem hlt)) ((g.ml hM).alloc _)).mono ?_
      rintro e w1 ⟨rfl, hb1⟩
      have g1 : Gr w w1 := Gr.call (g.alloc _) hb1
      clear c1 c2 c3 c4 c5
      go_wp2
      · go_ret
        refine ⟨ret_bool (all_stop _ f k dW hlt ?_).symm, g1⟩
        simpa [wat] using ‹(!(ans l _)) = true›
      · go_roundw
        case rel =>
          refine ⟨k + 1, by omega, by go_num, g1, all_snoc _ f k dW hlt HA.out ?_⟩
          simpa [wat] using ‹(!(ans l _)) = false›
        case measure => simp [intOf]; omega
    · go_wp2
      go_ret
      exact ⟨ret_bool (all_end _ f k hlt HA.out).symm, g⟩
end Go.Proofs.YtecnfgikbmcgoaaGreat
namespace Go.Proofs.YtecnfgikbmcgoaaGreat
open Go.RowKit

set_option maxHeartbeats 1000000 in
theorem Check_nil (ad : Option Addr) (cap : Nat) (w : World) : Calls Tryz.prog 46 #[.slice ad 0 cap] w fun e w' => e = .returned (.int .i64 2) ∧ w' = w := by
  go_enter Tryz.func46, Tryz.ntmps46
  go_wp2
  go_ret
  exact ⟨rfl, rfl⟩
set_option maxHeartbeats 1000000 in
theorem CheckEvent_nil (ad : Option Addr) (cap : Nat) (w : World) : Calls Tryz.prog 53 #[.slice ad 0 cap] w fun e w' => e = .returned (.int .i64 1) ∧ w' = w := by
  go_enter Tryz.func53, Tryz.ntmps53
  go_wp2
  go_ret
  exact ⟨rfl, rfl⟩
theorem Check_ad (l : List Wnt) (ad : Option Addr) (cap : Nat) (w : World) (hl : l.length ≤ maxLen) (h : FiAt w ad l) (hwf : ∀ x ∈ l, Wnt.Wf x) :
    Calls Tryz.prog 46 #[.slice ad l.length cap] w fun e w' => e = .returned (.int .i64 (chk l)) ∧ Gr w w' := by
  rcases h with rfl | ⟨b, off, rfl, hb, hat⟩
  · exact (Check_nil ad cap w).mono fun e w' ⟨h1, h2⟩ => ⟨h1, by rw [h2]; exact Gr.refl _⟩
  · exact Check_any l b off cap w hl hb hat hwf
theorem CheckEvent_ad (l : List Atr) (ad : Option Addr) (cap : Nat) (w : World) (hl : l.length ≤ maxLen) (h : EvAt w ad l) (hwf : ∀ x ∈ l, Atr.Wf x) :
    Calls Tryz.prog 53 #[.slice ad l.length cap] w fun e w' => e = .returned (.int .i64 (chkE l)) ∧ Gr w w' := by
  rcases h with rfl | ⟨b, off, rfl, hb, hat⟩
  · exact (CheckEvent_nil ad cap w).mono fun e w' ⟨h1, h2⟩ => ⟨h1, by rw [h2]; exact Gr.refl _⟩
  · exact CheckEvent_any l b off cap w hl hb hat hwf
theorem matches_ad (f : List Wnt) (l : List Atr) (ad' ad : Option Addr) (cap' cap : Nat) (m : Int) (w : World) (hf : f.length ≤ maxLen) (hl : l.length ≤ maxLen) (h' : FiAt w ad' f) (h : EvAt w ad l) (he : evOk l = true) (hx : filterOk f = true) (hM : Ml m w) :
    Calls Tryz.prog 92 #[.slice ad' f.length cap', .slice ad l.length cap] w fun e w' => e = .returned (.bool (mat l f)) ∧ Gr w w' := by
  obtain ⟨hv, hne⟩ := ev_ok_of he
  obtain ⟨hw, hne'⟩ := fi_ok_of hx
  rcases h with h | ⟨b, off, rfl, hb, hat⟩
  · exact absurd h hne
  rcases h' with h' | ⟨b', off', rfl, hb', hat'⟩
  · exact absurd h' hne'
  exact matches_any f l b' off' cap' b off cap m w hf hl hb' hat' hb hat hv hw hM

theorem Tryz.infoInt : (Tryz.prog.info? 3).map (fun i => (i.zero, i.size, i.bytes)) = some (some (.int .i64 0), 1, 8) := by kernel_rfl

set_option maxHeartbeats 2000000 in
theorem Match_any (l : List Atr) (fs : List (List Wnt)) (ad : Option Addr) (cap : Nat) (bl offl capl : Nat) (m : Int) (w : World) (hl : l.length ≤ maxLen) (h : EvAt w ad l) (hwf : ∀ x ∈ l, Atr.Wf x)
    (hn : fs.length ≤ 8796093022208) (hbl : bl < w.heap.size) (hfs : FisAt w bl offl fs) (hlen : ∀ f ∈ fs, f.length ≤ maxLen) (hwfs : ∀ f ∈ fs, ∀ x ∈ f, Wnt.Wf x) (hM : Ml m w) :
    Calls Tryz.prog 56 #[.slice ad l.length cap, .slice (some ⟨bl, offl, none⟩) fs.length capl] w
      fun e w' => ∃ v, e = .returned (.tuple #[v, .int .i64 (mErr l fs)]) ∧ Gr w w' ∧ w'.ownsRow w.heap.size 3 1 v (mRes l fs).length (ints (mRes l fs)) := by
  have HE : Hid (EvAt w ad l) := h
  have HF : Hid (∀ x ∈ l, Atr.Wf x) := hwf
  have HL : Hid (l.length ≤ maxLen) := hl
  have HS : Hid (FisAt w bl offl fs) := hfs
  have HN : Hid (∀ f ∈ fs, f.length ≤ maxLen) := hlen
  have HW : Hid (∀ f ∈ fs, ∀ x ∈ f, Wnt.Wf x) := hwfs
  clear h hwf hl hfs hlen hwfs
  obtain ⟨i0, hi, hz0, hz1, hz2⟩ := info_parts Tryz.infoInt
  cases h1 : evOk l
  · have Hc : Hid (chkE l = 1) := by
      show _ = _
      simp [chkE, h1]
    have Hr : Hid (mErr l fs = 1) := by
      show _ = _
      simp [mErr, h1]
    go_enter Tryz.func56, Tryz.ntmps56
    go_wp2_with fail
    refine (CheckEvent_ad _ _ _ _ HL.out HE.out HF.out).mono ?_
    rw [Hc.out]
    rintro e w1 ⟨rfl, hb1⟩
    go_wp2_with fail
    go_ret2
    refine ⟨_, ret_tup Hr.out.symm, hb1, ?_⟩
    have e : mRes l fs = [] := by simp [mRes, Hr.out]
    rw [e]
    exact World.ownsRow_nil _ _ _ _
  have Hc : Hid (chkE l = 0) := by
    show _ = _
    simp [chkE, h1]
  have HE1 : Hid (evOk l = true) := h1
  have Hm : Hid (mErr l fs = if fs.all filterOk then 0 else 2) := by
    show _ = _
    simp [mErr, h1]
  clear h1
  go_enter Tryz.func56, Tryz.ntmps56
  go_wp2_with fail
  refine (CheckEvent_ad _ _ _ _ HL.out HE.out HF.out).mono ?_
  rw [Hc.out]
  rintro e w1 ⟨rfl, hb1⟩
  go_wp2_with fail
  go_loopw [7, 18] (fun v i wr => ∃ k : Nat, k ≤ fs.length ∧ i = .int .i64 k ∧ Gr w wr ∧ Hid ((fs.take k).all filterOk = true) ∧ Hid (wr.ownsRow w.heap.size 3 1 v (hits l fs k).length (ints (hits l fs k)))) (fun _ i _ => fs.length - (intOf i).toNat)
  case atStart => exact ⟨0, Nat.zero_le _, rfl, hb1, rfl, World.ownsRow_nil _ _ _ _⟩
  case round =>
    obtain ⟨k, hk, rfl, g, HA, HO⟩ := hrel
    by_cases hlt : k < fs.length
    · obtain ⟨ak, ck, ck1, ck2⟩ := (HS.out.gr g hbl) k hlt
      have HK : Hid (FiAt wr ak (fat fs k)) := ck2
      clear ck2
      have hbr := g.lt hbl
      go_wp2_with fail
      refine (Check_ad (fat fs k) ak ck _ (HN.out _ (fat_mem hlt)) HK.out (HW.out _ (fat_mem hlt))).mono ?_
      cases h2 : filterOk (fat fs k)
      · rw [show chk (fat fs k) = 2 by simp [chk, h2]]
        rintro e w2 ⟨rfl, hb2⟩
        have Hr : Hid (mErr l fs = 2) := by
          show _ = _
          rw [Hm.out, all_stop filterOk fs k [] hlt h2]; rfl
        go_wp2_with fail
        go_ret2
        refine ⟨_, ret_tup Hr.out.symm, Gr.call g hb2, ?_⟩
        have e : mRes l fs = [] := by simp [mRes, Hr.out]
        rw [e]
        exact World.ownsRow_nil _ _ _ _
      · rw [show chk (fat fs k) = 0 by simp [chk, h2]]
        rintro e w2 ⟨rfl, hb2⟩
        have g2 : Gr w w2 := Gr.call g hb2
        go_wp2_with fail
        refine (matches_ad (fat fs k) l ak ad ck cap m _ (HN.out _ (fat_mem hlt)) HL.out (HK.out.gr hb2) (HE.out.gr g2) HE1.out h2 (g2.ml hM)).mono ?_
        rintro e w3 ⟨rfl, hb3⟩
        have g3 : Gr w w3 := Gr.call g2 hb3
        have HO3 : Hid (w3.ownsRow w.heap.size 3 1 u7 (hits l fs k).length (ints (hits l fs k))) := ownsGr (ownsGr HO.out hb2) hb3
        have hkl := hits_le l fs k
        cases h3 : mat l (fat fs k)
        · have HN' : Hid (hits l fs (k + 1) = hits l fs k) := hits_no h3
          go_wp2_with fail
          go_roundw
          case rel => exact ⟨k + 1, by omega, by go_num, g3, all_snoc filterOk fs k [] hlt HA.out h2, by rw [HN'.out]; exact HO3.out⟩
          case measure => simp [intOf]; omega
        · have HN' : Hid (hits l fs (k + 1) = hits l fs k ++ [k]) := hits_yes h3
          have hsz3 := g3.size
          go_wp2_with (at_builtin; refine wpList_append_own _ rfl _ _ 27 rfl w.heap.size 3 i0 (.int .i64 0) 1 8 Tryz.underlying27 hi hz0 hz1 hz2 rfl (by decide) _ _ _ rfl (HO3.out.alloc _) ⟨w3.heap.size, 0, none⟩ 1 1 [.int .i64 k] rfl rfl (cell_one_new _ _ _) ?c2 ?c3 ?c4 ?c5 ?_)
          case c2 => intro u hu; simp at hu; subst hu; rfl
          case c3 => unfold maxLen; omega
          case c4 => omega
          case c5 => simp; omega
          intro v' w4 hown' hgrow _
          have g4 : Gr w w4 := Below.grown (g3.alloc _) hgrow (by simp; omega) (fun b hb => by
            rcases HO3.out.2 with ⟨hv, _⟩ | ⟨q, cap, cur, hv, hq, _⟩
            · rw [hv] at hb; simp [Value.ownBlock] at hb
            · rw [hv] at hb; simp [Value.ownBlock] at hb; omega)
          have HO4 : Hid (w4.ownsRow w.heap.size 3 1 v' (hits l fs (k + 1)).length (ints (hits l fs (k + 1)))) := by
            show World.ownsRow _ _ _ _ _ _ _
            rw [HN'.out, ints_snoc, List.length_append]; exact hown'
          clear hown' hgrow
          go_wp2
          go_roundw
          case rel => exact ⟨k + 1, by omega, by go_num, g4, all_snoc filterOk fs k [] hlt HA.out h2, HO4⟩
          case measure => simp [intOf]; omega
    · go_wp2
      go_ret2
      have Hr : mErr l fs = 0 := by rw [Hm.out, all_end filterOk fs k hlt HA.out]; rfl
      have e : mRes l fs = hits l fs k := by
        have : k = fs.length := by omega
        simp [mRes, Hr, this]
      refine ⟨_, ret_tup Hr.symm, g, ?_⟩
      rw [e]
      exact HO.out
end Go.Proofs.YtecnfgikbmcgoaaGreat
