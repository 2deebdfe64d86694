import Derived.Test.YtecnfgikbmcgoaaGreatG31
import Derived.Test.YtecnfgikbmcgoaaGreatG2
import Derived.Test.YtecnfgikbmcgoaaGreatG6
import Derived.Test.YtecnfgikbmcgoaaGreatG32
namespace Go.Proofs.YtecnfgikbmcgoaaGreat
open Go.RowKit

set_option maxRecDepth 100000 in
set_option maxHeartbeats 1000000 in
theorem CloneS (wz : World) (s : ByteArray) (w : World) (hs : s.size ≤ 255) (h : Gr wz w) : Calls Tryz.prog 85 #[.string s] w fun e w' => e = .returned (.string s) ∧ Gr wz w' := by
  go_enter Tryz.func85, Tryz.ntmps85
  go_wp2_with fail
  refine (Tryz.stringslite_Clone s w (by omega)).mono ?_
  rintro e w1 ⟨rfl, g1⟩
  go_wp2_with fail
  go_ret
  exact ⟨rfl, Gr.call h g1⟩
set_option maxRecDepth 100000 in
set_option maxHeartbeats 1000000 in
theorem copyOfValue_any (k n : Int) (s : ByteArray) (w : World) (hs : s.size ≤ 255) : Calls Tryz.prog 86 #[.agg #[.int .i64 k, .int .i64 n, .string s]] w fun e w' => e = .returned (.agg #[.int .i64 k, .int .i64 n, .string s]) ∧ Gr w w' := by
  go_enter Tryz.func86, Tryz.ntmps86
  have G1 : Gr w ((w.alloc (.cells #[.int .i64 k, .int .i64 n, .string s] 72)).alloc (.cells #[.int .i64 0, .int .i64 0, .string ⟨#[]⟩] 72)) := ((Gr.refl w).alloc _).alloc _
  have HA := blk_gr ((Gr.refl _).alloc (.cells #[.int .i64 0, .int .i64 0, .string ⟨#[]⟩] 72)) (heap_alloc_new w (.cells #[.int .i64 k, .int .i64 n, .string s] 72))
  have HB := heap_alloc_new (w.alloc (.cells #[.int .i64 k, .int .i64 n, .string s] 72)) (.cells #[.int .i64 0, .int .i64 0, .string ⟨#[]⟩] 72)
  rw [show (w.alloc (.cells #[.int .i64 k, .int .i64 n, .string s] 72)).heap.size = w.heap.size + 1 by simp] at HB
  have HG := Hid.mk' G1
  have HHA := Hid.mk' HA
  have HHB := Hid.mk' HB
  clear G1 HA HB
  go_wp2_with fail
  refine (CloneS _ s _ hs (Gr.refl _)).mono ?_
  rintro e w1 ⟨rfl, g1⟩
  have hA := blk_gr g1 HHA.out
  have hB := blk_gr g1 HHB.out
  have G1 := Hid.mk' (Gr.call HG.out g1)
  clear HG HHA HHB g1
  have a0 : w1.cell? ⟨w.heap.size, 0, none⟩ = some (.int .i64 k) := by rw [cell_of_row _ _ _ _ _ _ hA]; rfl
  have a1 : w1.cell? ⟨w.heap.size, 1, none⟩ = some (.int .i64 n) := by rw [cell_of_row _ _ _ _ _ _ hA]; rfl
  have a2 : w1.cell? ⟨w.heap.size, 2, none⟩ = some (.string s) := by rw [cell_of_row _ _ _ _ _ _ hA]; rfl
  have b0 : w1.cell? ⟨w.heap.size + 1, 0, none⟩ = some (.int .i64 0) := by rw [cell_of_row _ _ _ _ _ _ hB]; rfl
  have b1 : w1.cell? ⟨w.heap.size + 1, 1, none⟩ = some (.int .i64 0) := by rw [cell_of_row _ _ _ _ _ _ hB]; rfl
  have b2 : w1.cell? ⟨w.heap.size + 1, 2, none⟩ = some (.string ⟨#[]⟩) := by rw [cell_of_row _ _ _ _ _ _ hB]; rfl
  have fa : ∀ j, w1.frozen? ⟨w.heap.size, j, none⟩ = false := fun j => frozen_of_row _ _ _ _ _ hA
  have fb : ∀ j, w1.frozen? ⟨w.heap.size + 1, j, none⟩ = false := fun j => frozen_of_row _ _ _ _ _ hB
  clear hA hB
  go_wp2_with fail
  refine bodyPost_ret (v := .agg #[.int .i64 k, .int .i64 n, .string s]) (by simp [results, Tryz.results86, go_sem, b0, b1, b2]) rfl ⟨rfl, ?_⟩
  exact Below.setCell (Below.setCell (Below.setCell (Below.setCell G1.out (p := ⟨w.heap.size, 2, none⟩) (Nat.le_refl _) _) (p := ⟨w.heap.size + 1, 0, none⟩) (Nat.le_succ _) _) (p := ⟨w.heap.size + 1, 1, none⟩) (Nat.le_succ _) _) (p := ⟨w.heap.size + 1, 2, none⟩) (Nat.le_succ _) _
theorem Tryz.infoWantK : (Tryz.prog.info? 76).map (fun i => (i.zero, i.size, i.bytes)) = some (some (.agg #[.string ⟨#[]⟩, .int .i64 0, .int .i64 0, .int .i64 0, .string ⟨#[]⟩]), 5, 56) := by kernel_rfl
/-- What each place of the copying statement yields. -/
def Rcf (B g n q : Nat) (y : Wnt) (j : Nat) (x : Value) (_w : World) : Prop :=
  match j with
  | 0 => x = .slice (some ⟨g, 0, none⟩) n n
  | 1 => x = .int .i64 q
  | 2 => x = .pointer (some ⟨B, 0, none⟩)
  | 3 => x = .string y.a
  | 4 => x = .string y.a
  | 5 => x = .pointer (some ⟨B, 1, none⟩)
  | 6 => x = .int .i64 y.y
  | 7 => x = .pointer (some ⟨B, 2, none⟩)
  | 8 => x = .agg #[.int .i64 y.k, .int .i64 y.n, .string y.s]
  | 9 => x = .agg #[.int .i64 y.k, .int .i64 y.n, .string y.s]
  | 10 => x = .agg #[.string y.a, .int .i64 y.y, .int .i64 y.k, .int .i64 y.n, .string y.s]
  | 11 => x = .pointer (some ⟨g, q * 5, none⟩)
  | _ => True
theorem Rcf.st {B g n q : Nat} {y : Wnt} (j : Nat) (x : Value) (wa wb : World) (h : Rcf B g n q y j x wa) : Rcf B g n q y j x wb := by
  unfold Rcf at h ⊢; split <;> first | exact h | trivial
/-- A frame: what stands ahead of a region's places, the places, what stands behind. -/
structure Efr (pre post : List Value) (m : Nat) (a : Act) : Prop where
  df : a.defers = []
  ts : ∃ z : List Value, z.length = m ∧ a.tmps = (pre ++ z ++ post).toArray
theorem Efr.put {pre post : List Value} {m : Nat} (a : Act) (i : Nat) (x : Value) (hi : i < m) (h : Efr pre post m a) : Efr pre post m (a.put (some (pre.length + i)) x) := by
  obtain ⟨z, hz, ht⟩ := h.ts
  refine ⟨h.df, z.set i x, by simpa using hz, ?_⟩
  simp only [Act.put, ht, List.setIfInBounds_toArray]
  rw [List.append_assoc, List.set_append_right _ _ (by omega), show pre.length + i - pre.length = i by omega, List.set_append_left _ _ (by omega), List.append_assoc]
theorem Efr.sz {pre post : List Value} {m : Nat} {a : Act} (h : Efr pre post m a) : a.tmps.size = pre.length + m + post.length := by
  obtain ⟨z, hz, ht⟩ := h.ts
  rw [ht]; simp; omega
theorem Efr.at_ {pre post : List Value} {m : Nat} {a : Act} (h : Efr pre post m a) {t : Nat} (ht : t < pre.length) : a.eval (.tmp t) = pre[t]?.getD undef := by
  obtain ⟨z, hz, e⟩ := h.ts
  rw [evn, e]
  simp [List.getElem?_append, ht]
set_option maxRecDepth 100000 in
set_option maxHeartbeats 4000000 in
theorem copyOfFilter_any (f : List Wnt) (ad : Option Addr) (cap : Nat) (w : World) (h : FiM w ad f) :
    Calls Tryz.prog 49 #[.slice ad f.length cap] w fun e w' => ∃ v, e = .returned v ∧ w'.ownsRow w.heap.size 76 5 v f.length (wcells f) ∧ Gr w w' := by
  obtain ⟨i0, hi, hz0, hz1, hz2⟩ := info_parts Tryz.infoWantK
  have HF := Hid.mk' h
  have hlen := h.len
  obtain ⟨b, off, rfl, hbw, hat⟩ := h.at'
  have HAT := Hid.mk' hat
  clear h hat
  go_enter Tryz.func49, Tryz.ntmps49
  go_wp2_with (at_make; refine wpList_make_full _ rfl _ _ 48 rfl w.heap.size 76 i0 _ 5 Tryz.underlying48 hi hz0 hz1 _ _ _ _ f.length rfl rfl (by omega) (by omega) ?b2 ?b3 (Nat.le_refl _) ?_)
  case b2 => rw [hz2]; omega
  case b3 => unfold maxLen; omega
  intro w1 hown1 hgrow1
  have G1 : Hid (Gr w w1) := Below.grown (Gr.refl w) hgrow1 (Nat.le_refl _) (fun b hb => by cases hb)
  have O1 := Hid.mk' hown1
  clear hown1 hgrow1
  go_wp2_with fail
  go_loopw [11] (fun i wr => ∃ (q : Nat) (xs : List Value), q ≤ f.length ∧ i = .int .i64 q ∧ Hid (Gr w wr) ∧ Hid (xs.take (q * 5) = wcells (f.take q)) ∧ Hid (wr.ownsRow w.heap.size 76 5 (.slice (some ⟨w.heap.size, 0, none⟩) f.length f.length) f.length xs)) (fun i _ => f.length - (intOf i).toNat)
  case atStart => exact ⟨0, _, Nat.zero_le _, rfl, G1, rfl, O1⟩
  case round =>
    obtain ⟨q, xs, hq, rfl, G, HX, O⟩ := hrel
    clear G1 O1
    by_cases hlt : q < f.length
    · have hxl : xs.length = f.length * 5 := O.out.1
      obtain ⟨d1, d2, d3, d4, d5⟩ := (HAT.out.gr G.out hbw) q hlt
      have hbw2 : b < wr.heap.size := G.out.lt hbw
      have wfq := HF.out.wf _ (wat_mem hlt)
      have okq := (fi_ok_of HF.out.ok).1 _ (wat_mem hlt)
      have hsa : (wat f q).a.size ≤ 255 := by
        simp only [wOk, wantOk, nameOk, Bool.and_eq_true, decide_eq_true_eq] at okq
        omega
      have hss : (wat f q).s.size ≤ 255 := by
        have := way_size (way_of okq)
        omega
      have HSA := Hid.mk' hsa
      have HSS := Hid.mk' hss
      have WT := Hid.mk' (wcells_take f q hlt)
      clear hsa hss okq wfq
      generalize wat f q = y at *
      have HNEW := heap_alloc_new wr (.cells #[.string y.a, .int .i64 y.y, .int .i64 y.k, .int .i64 y.n, .string y.s] 76)
      have gal : Gr wr (wr.alloc (.cells #[.string y.a, .int .i64 y.y, .int .i64 y.k, .int .i64 y.n, .string y.s] 76)) := (Gr.refl wr).alloc _
      have HHN := Hid.mk' HNEW
      have GAL := Hid.mk' gal
      clear HNEW gal
      go_wp2_with fail
      have hws : w.heap.size < wr.heap.size := by
        obtain ⟨r0, rc0⟩ := row_some O.out 0 (by omega)
        exact World.block_lt_of_cell? _ _ rc0
      refine region_S (c := 16) rfl 12 (by rfl) (Rcf wr.heap.size w.heap.size f.length q y)
        (Efr [.slice (some ⟨b, off, none⟩) f.length cap, undef, .slice none 0 0, .slice (some ⟨w.heap.size, 0, none⟩) f.length f.length, .int .i64 q, .pointer (some ⟨wr.heap.size, 0, none⟩), .slice (some ⟨b, off, none⟩) f.length cap, .int .i64 f.length, .slice (some ⟨w.heap.size, 0, none⟩) f.length f.length, .slice (some ⟨b, off, none⟩) f.length cap, .int .i64 f.length, .int .i64 q, .bool true, .int .i64 q, .pointer (some ⟨b, off + q * 5, none⟩), .agg #[.string y.a, .int .i64 y.y, .int .i64 y.k, .int .i64 y.n, .string y.s]] [u28, undef] 12)
        (fun w' => Gr (wr.alloc (.cells #[.string y.a, .int .i64 y.y, .int .i64 y.k, .int .i64 y.n, .string y.s] 76)) w') (fun _ wa wb => Gr wa wb) (fun a i x hi h => Efr.put a i x hi h) (fun a h => by have := h.sz; simp at this; omega) (fun i wa wb h g => Gr.call h g) (fun i j x wa wb _ h g => Rcf.st j x wa wb h) ?front ?last ?e0 (Gr.refl _).drew
      case e0 => exact ⟨rfl, [u16, u17, u18, u19, u20, u21, u22, u23, u24, u25, u26, u27], rfl, rfl⟩
      case front =>
        intro i o a' w2 ho hi2 hE hW hd K hK
        have hA := blk_gr hW HHN.out
        have c0 : w2.cell? ⟨wr.heap.size, 0, none⟩ = some (.string y.a) := by rw [cell_of_row _ _ _ _ _ _ hA]; rfl
        have c1 : w2.cell? ⟨wr.heap.size, 1, none⟩ = some (.int .i64 y.y) := by rw [cell_of_row _ _ _ _ _ _ hA]; rfl
        have c2 : w2.cell? ⟨wr.heap.size, 2, none⟩ = some (.int .i64 y.k) := by rw [cell_of_row _ _ _ _ _ _ hA]; rfl
        have c3 : w2.cell? ⟨wr.heap.size, 3, none⟩ = some (.int .i64 y.n) := by rw [cell_of_row _ _ _ _ _ _ hA]; rfl
        have c4 : w2.cell? ⟨wr.heap.size, 4, none⟩ = some (.string y.s) := by rw [cell_of_row _ _ _ _ _ _ hA]; rfl
        have t3 : a'.tmps[3]?.getD undef = .slice (some ⟨w.heap.size, 0, none⟩) f.length f.length := (evn a' 3).symm.trans (hE.at_ (by simp))
        have t4 : a'.tmps[4]?.getD undef = .int .i64 q := (evn a' 4).symm.trans (hE.at_ (by simp))
        have t5 : a'.tmps[5]?.getD undef = .pointer (some ⟨wr.heap.size, 0, none⟩) := (evn a' 5).symm.trans (hE.at_ (by simp))
        clear hE hA
        match i, ho, hi2, hd, hK with
        | 0, ho, _, hd, hK =>
          obtain rfl := Option.some.inj ho
          unfold Oper.wp
          go_simp
          exact hK _ _ (Gr.refl _) rfl
        | 1, ho, _, hd, hK =>
          obtain rfl := Option.some.inj ho
          unfold Oper.wp
          go_simp
          exact hK _ _ (Gr.refl _) rfl
        | 2, ho, _, hd, hK =>
          obtain rfl := Option.some.inj ho
          unfold Oper.wp
          go_simp
          exact hK _ _ (Gr.refl _) rfl
        | 3, ho, _, hd, hK =>
          obtain rfl := Option.some.inj ho
          have e0 : a'.eval (.tmp 18) = .pointer (some ⟨wr.heap.size, 0, none⟩) := hd ⟨2, .data⟩ (by simp) rfl
          rw [evn] at e0
          unfold Oper.wp
          go_simp
          exact hK _ _ (Gr.refl _) rfl
        | 4, ho, _, hd, hK =>
          obtain rfl := Option.some.inj ho
          have e0 : a'.eval (.tmp 19) = .string y.a := hd ⟨3, .data⟩ (by simp) rfl
          rw [evn] at e0
          unfold Oper.wp
          go_simp
          refine (CloneS w2 y.a w2 HSA.out (Gr.refl _)).mono ?_
          rintro e w3 ⟨rfl, g3⟩
          go_simp
          exact hK _ _ g3 rfl
        | 5, ho, _, hd, hK =>
          obtain rfl := Option.some.inj ho
          unfold Oper.wp
          go_simp
          exact hK _ _ (Gr.refl _) rfl
        | 6, ho, _, hd, hK =>
          obtain rfl := Option.some.inj ho
          have e0 : a'.eval (.tmp 21) = .pointer (some ⟨wr.heap.size, 1, none⟩) := hd ⟨5, .data⟩ (by simp) rfl
          rw [evn] at e0
          unfold Oper.wp
          go_simp
          exact hK _ _ (Gr.refl _) rfl
        | 7, ho, _, hd, hK =>
          obtain rfl := Option.some.inj ho
          unfold Oper.wp
          go_simp
          exact hK _ _ (Gr.refl _) rfl
        | 8, ho, _, hd, hK =>
          obtain rfl := Option.some.inj ho
          have e0 : a'.eval (.tmp 23) = .pointer (some ⟨wr.heap.size, 2, none⟩) := hd ⟨7, .data⟩ (by simp) rfl
          rw [evn] at e0
          unfold Oper.wp
          go_simp
          exact hK _ _ (Gr.refl _) rfl
        | 9, ho, _, hd, hK =>
          obtain rfl := Option.some.inj ho
          have e0 : a'.eval (.tmp 24) = .agg #[.int .i64 y.k, .int .i64 y.n, .string y.s] := hd ⟨8, .data⟩ (by simp) rfl
          rw [evn] at e0
          unfold Oper.wp
          go_simp
          refine (copyOfValue_any y.k y.n y.s w2 HSS.out).mono ?_
          rintro e w3 ⟨rfl, g3⟩
          go_simp
          exact hK _ _ g3 rfl
        | 10, ho, _, hd, hK =>
          obtain rfl := Option.some.inj ho
          have e0 : a'.eval (.tmp 20) = .string y.a := hd ⟨4, .data⟩ (by simp) rfl
          have e1 : a'.eval (.tmp 22) = .int .i64 y.y := hd ⟨6, .data⟩ (by simp) rfl
          have e2 : a'.eval (.tmp 25) = .agg #[.int .i64 y.k, .int .i64 y.n, .string y.s] := hd ⟨9, .data⟩ (by simp) rfl
          rw [evn] at e0 e1 e2
          unfold Oper.wp
          go_simp
          exact hK _ _ (Gr.refl _) rfl
        | 11, ho, _, hd, hK =>
          obtain rfl := Option.some.inj ho
          have e0 : a'.eval (.tmp 16) = .slice (some ⟨w.heap.size, 0, none⟩) f.length f.length := hd ⟨0, .data⟩ (by simp) rfl
          have e1 : a'.eval (.tmp 17) = .int .i64 q := hd ⟨1, .data⟩ (by simp) rfl
          rw [evn] at e0 e1
          unfold Oper.wp
          go_simp
          exact hK _ _ (Gr.refl _) rfl
        | k + 12, _, hi2, _, _ => exact absurd hi2 (by omega)
      case last =>
        intro o a' w2 ho hE hW hd K hK
        obtain rfl := Option.some.inj ho
        have e0 : a'.eval (.tmp 27) = .pointer (some ⟨w.heap.size, q * 5, none⟩) := hd 11 (by omega)
        have e1 : a'.eval (.tmp 26) = .agg #[.string y.a, .int .i64 y.y, .int .i64 y.k, .int .i64 y.n, .string y.s] := hd 10 (by omega)
        rw [evn] at e0 e1
        have g5 := Gr.call GAL.out hW
        have O5 := Hid.mk' (ownsGr O.out g5)
        have G5 := Hid.mk' (Gr.call G.out g5)
        obtain ⟨r0, rc0⟩ := row_some O5.out (q * 5) (by omega)
        have rf0 := World.ownsRow.frozenAt O5.out (q * 5)
        obtain ⟨r1, rc1⟩ := row_some O5.out (q * 5 + 1) (by omega)
        have rf1 := World.ownsRow.frozenAt O5.out (q * 5 + 1)
        obtain ⟨r2, rc2⟩ := row_some O5.out (q * 5 + 1 + 1) (by omega)
        have rf2 := World.ownsRow.frozenAt O5.out (q * 5 + 1 + 1)
        obtain ⟨r3, rc3⟩ := row_some O5.out (q * 5 + 1 + 1 + 1) (by omega)
        have rf3 := World.ownsRow.frozenAt O5.out (q * 5 + 1 + 1 + 1)
        obtain ⟨r4, rc4⟩ := row_some O5.out (q * 5 + 1 + 1 + 1 + 1) (by omega)
        have rf4 := World.ownsRow.frozenAt O5.out (q * 5 + 1 + 1 + 1 + 1)
        have O6 := Hid.mk' (owns_set5 O5.out (q * 5) (.string y.a) (.int .i64 y.y) (.int .i64 y.k) (.int .i64 y.n) (.string y.s))
        have G6 := Hid.mk' (gr_set5 (Nat.le_refl _) G5.out (.string y.a) (.int .i64 y.y) (.int .i64 y.k) (.int .i64 y.n) (.string y.s) (k := q * 5))
        have X6 : Hid ((set5 xs (q * 5) (.string y.a) (.int .i64 y.y) (.int .i64 y.k) (.int .i64 y.n) (.string y.s)).take ((q + 1) * 5) = wcells (f.take (q + 1))) := by
          show _ = _
          rw [show (q + 1) * 5 = q * 5 + 5 by omega, take5 _ _ _ _ _ _ _ (by omega), HX.out, WT.out]
        obtain ⟨z, hz, ht⟩ := hE.ts
        have hdf := hE.df
        clear O5 G5 O G HX g5 hd hE hW
        match z, hz with
        | [z0, z1, z2, z3, z4, z5, z6, z7, z8, z9, z10, z11], _ =>
        obtain ⟨tm, df⟩ := a'
        simp only at ht hdf
        subst ht
        subst hdf
        obtain rfl : z11 = .pointer (some ⟨w.heap.size, q * 5, none⟩) := e0
        obtain rfl : z10 = .agg #[.string y.a, .int .i64 y.y, .int .i64 y.k, .int .i64 y.n, .string y.s] := e1
        unfold Oper.wp
        go_simp
        refine hK _ _ ?_
        go_wp2_with fail
        exact ⟨⟨q + 1, _, hlt, by simp, G6, X6, O6⟩, measM_dec _ _ hlt⟩
    · have hql : q = f.length := by omega
      have OF : Hid (wr.ownsRow w.heap.size 76 5 (.slice (some ⟨w.heap.size, 0, none⟩) f.length f.length) f.length (wcells f)) := by
        have e : xs = wcells f := by
          have h1 := HX.out
          have h2 := O.out.1
          rw [hql, List.take_of_length_le (by omega), List.take_of_length_le (Nat.le_refl _)] at h1
          exact h1
        rw [← e]; exact O.out
      clear O HX
      go_wp2_with fail
      go_ret
      exact ⟨_, rfl, OF.out, G.out⟩
end Go.Proofs.YtecnfgikbmcgoaaGreat
