import Derived.Test.YtecnfgikbmcgoaaGreatG29
import Derived.Test.YtecnfgikbmcgoaaGreatG30
import Derived.Deep.LoopGhost
namespace Go.Proofs.YtecnfgikbmcgoaaGreat
open Go.RowKit
open Go.Maps (Keyed)

abbrev Lw := Nat × Nat × Nat
def lcell (x : Lw) : List Value := [.int .i64 (x.1 : Int), .int .i64 (x.2.1 : Int), .int .i64 (x.2.2 : Int)]
def lcells (l : List Lw) : List Value := l.flatMap lcell
theorem lcells_snoc (l : List Lw) (x : Lw) : lcells (l ++ [x]) = lcells l ++ [.int .i64 (x.1 : Int), .int .i64 (x.2.1 : Int), .int .i64 (x.2.2 : Int)] := by simp [lcells, lcell]
/-- The links of one broker. -/
def lk1 (T : Tc) (s : Ts) (a : Nat) : List Lw := (nbs T.adj T.nb a T.nb).map fun b => (a, b, (s.q a b).length)
def lkTo (T : Tc) (s : Ts) (k : Nat) : List Lw := (List.range k).flatMap (lk1 T s)
theorem lkTo_succ (T : Tc) (s : Ts) (k : Nat) : lkTo T s (k + 1) = lkTo T s k ++ lk1 T s k := by simp [lkTo, List.range_succ]
theorem lk1_len (T : Tc) (s : Ts) (a : Nat) : (lk1 T s a).length ≤ T.nb := by
  unfold lk1; rw [List.length_map]; exact nbs_le _ _ _ _
theorem lkTo_len (T : Tc) (s : Ts) : ∀ k, (lkTo T s k).length ≤ k * T.nb
  | 0 => by simp [lkTo]
  | k + 1 => by
    rw [lkTo_succ, List.length_append, Nat.succ_mul]
    have := lkTo_len T s k
    have := lk1_len T s k
    omega
theorem Tryz.infoLink : (Tryz.prog.info? 54).map (fun i => (i.zero, i.size, i.bytes)) = some (some (.agg #[.int .i64 0, .int .i64 0, .int .i64 0]), 3, 24) := by kernel_rfl
theorem Tw.look {T : Tc} {r : Nat → Rl} {w : World} {cls : List Cl} {s : Ts} (h : Tw T r w cls s) {a b : Nat} (hab : T.adj a b = true) : ∃ va vc, (Instr.lookup 117 (.map (some T.LB)) (.agg #[.int .i64 a, .int .i64 b]) false).run Tryz.prog w = .ok (.slice va (s.q a b).length vc) w := by
  obtain ⟨Xs, qs, h1, h2⟩ := h
  obtain ⟨m, es, clock, hmp, _, hall, hev⟩ := h1.l.lk
  obtain ⟨v, hv⟩ := hev a b hab
  obtain ⟨a', b', e, _, hQ⟩ := hall _ v hv
  have := pk_inj e
  simp only [Prod.mk.injEq, Int.natCast_inj] at this
  rw [← this.1, ← this.2] at hQ
  obtain ⟨va, vc, rfl⟩ := hQ.shape
  have hltn := h1.b.adj a b hab
  have hnb := h1.b.nb8
  obtain ⟨lk, hlk⟩ := keyE ((a : Int), (b : Int)) ⟨by omega, by omega⟩ ⟨by omega, by omega⟩
  refine ⟨va, vc, ?_⟩
  rw [← vw_qlen h2]
  exact Mp.look_yes Tryz.keyedE Tryz.underlying117 hmp hlk hv false
theorem Tw.b {T : Tc} {r : Nat → Rl} {w : World} {cls : List Cl} {s : Ts} (h : Tw T r w cls s) : Tb T r w := by
  obtain ⟨Xs, qs, h1, h2⟩ := h; exact h1.b
theorem Tw.tlt {T : Tc} {r : Nat → Rl} {w : World} {cls : List Cl} {s : Ts} (h : Tw T r w cls s) : T.TB < w.heap.size := by
  obtain ⟨Xs, qs, h1, h2⟩ := h; exact h1.tlt
theorem tw_neighbours {T : Tc} {r : Nat → Rl} {w : World} {cls : List Cl} {s : Ts} (h : Tw T r w cls s) {b : Nat} (hb : b < T.nb) :
    Calls Tryz.prog 43 #[.pointer (some ⟨T.TB, 0, none⟩), .int .i64 b] w fun e w' => ∃ v, e = .returned v ∧ w'.ownsRow w.heap.size 3 1 v (nbs T.adj T.nb b T.nb).length (ints (nbs T.adj T.nb b T.nb)) ∧ Gr w w' := by
  obtain ⟨Xs, qs, h1, h2⟩ := h
  exact ho_neighbours (w0 := w) (base := fun x y => (qs x y).map Mm.ms) ⟨r, qs, h1, Fr.refl _ _, fun _ _ => rfl⟩ hb
set_option maxRecDepth 100000 in
set_option maxHeartbeats 4000000 in
theorem Links_any (T : Tc) (r : Nat → Rl) (w : World) (cls : List Cl) (s : Ts) (hT : Tw T r w cls s) (hm : Sm T s) :
    Calls Tryz.prog 19 #[.pointer (some ⟨T.TB, 0, none⟩)] w fun e w' => ∃ v, e = .returned v ∧ w'.ownsRow w.heap.size 54 3 v (lkTo T s T.nb).length (lcells (lkTo T s T.nb)) ∧ Gr w w' := by
  obtain ⟨i0, hi, hz0, hz1, hz2⟩ := info_parts Tryz.infoLink
  have hnb := hT.b.nb8
  have HT := Hid.mk' hT
  have HM := Hid.mk' hm
  have c0 := hT.b.c0
  have hTB := hT.tlt
  have LL := Hid.mk' (lkTo_len T s)
  have L1 := Hid.mk' (lk1_len T s)
  clear hT hm
  go_enter Tryz.func19, Tryz.ntmps19
  go_wp2_with fail
  go_loopw [3, 12] (fun v i wr => ∃ q : Nat, q ≤ T.nb ∧ i = .int .i64 q ∧ Hid (Gr w wr) ∧ Hid (wr.ownsRow w.heap.size 54 3 v (lkTo T s q).length (lcells (lkTo T s q)))) (fun _ i _ => T.nb - (intOf i).toNat)
  case atStart => exact ⟨0, Nat.zero_le _, rfl, Gr.refl _, World.ownsRow_nil _ _ _ _⟩
  case round =>
    obtain ⟨q, hq, rfl, G, O⟩ := hrel
    obtain ⟨va, vm, vk, rfl⟩ := owns_slice O.out
    clear c0
    by_cases hlt : q < T.nb
    · have NB := Hid.mk' (tw_neighbours (HT.out.gr G.out) hlt)
      have NMEM : Hid (∀ n, n ∈ nbs T.adj T.nb q T.nb → n < T.nb ∧ T.adj q n = true) := fun n hn => (nbs_mem.1 hn).2
      have NLE := nbs_le T.adj T.nb q T.nb
      have SUC := Hid.mk' (lkTo_succ T s q)
      have L1E : Hid (lk1 T s q = (nbs T.adj T.nb q T.nb).map fun b => (q, b, (s.q q b).length)) := rfl
      have LLq : (lkTo T s q).length ≤ q * T.nb := LL.out q
      have hqq : q * T.nb ≤ 64 := Nat.le_trans (Nat.mul_le_mul (Nat.le_of_lt hlt) (Nat.le_refl _)) (Nat.le_trans (Nat.mul_le_mul hnb hnb) (by omega))
      generalize nbs T.adj T.nb q T.nb = nl at *
      go_wp2_with fail
      refine NB.out.mono ?_
      rintro e w1 ⟨v1, rfl, ho, g1⟩
      obtain ⟨xa, xk, rfl, hxa⟩ := owns_shape ho
      have G1 := Hid.mk' (Gr.call G.out g1)
      have O1 := Hid.mk' (ownsGr O.out g1)
      have N1 := Hid.mk' ho
      have HXA := Hid.mk' hxa
      have SZ := G.out.size
      clear NB ho g1 G O hxa
      generalize hWR : wr = WR at *
      clear hWR
      go_wp2_with fail
      go_loopw [3, 19] (fun v i w6 => ∃ j : Nat, j ≤ nl.length ∧ i = .int .i64 j ∧ Hid (Gr w w6) ∧ Hid (w6.ownsRow WR.heap.size 3 1 (.slice xa nl.length xk) nl.length (ints nl)) ∧ Hid (w6.ownsRow w.heap.size 54 3 v (lkTo T s q ++ (nl.take j).map fun b => (q, b, (s.q q b).length)).length (lcells (lkTo T s q ++ (nl.take j).map fun b => (q, b, (s.q q b).length))))) (fun _ i _ => nl.length - (intOf i).toNat)
      case atStart => exact ⟨0, Nat.zero_le _, rfl, G1, N1, by show World.ownsRow _ _ _ _ _ _ _; simpa using O1.out⟩
      case round =>
        obtain ⟨j, hj, rfl, G2, N2, O2⟩ := hrel
        obtain ⟨ya, ym, yk, rfl⟩ := owns_slice O2.out
        clear G1 N1 O1
        by_cases hjl : j < nl.length
        · obtain ⟨xb, rfl⟩ := HXA.out (by omega)
          have cq : wr.cell? ⟨xb, j, none⟩ = some (.int .i64 (nat_ nl j)) := by rw [World.ownsRow.cellAt N2.out j (by omega)]; simp [ints, nat_, hjl]
          have hmem := NMEM.out _ (nat_mem hjl)
          have T3 := HT.out.gr G2.out
          obtain ⟨qa, qc, hlu⟩ := T3.look hmem.2
          have c2 := T3.b.c2
          have TK : Hid ((lkTo T s q ++ (nl.take (j + 1)).map fun b => (q, b, (s.q q b).length)) = (lkTo T s q ++ (nl.take j).map fun b => (q, b, (s.q q b).length)) ++ [(q, nat_ nl j, (s.q q (nat_ nl j)).length)]) := by
            show _ = _
            rw [nat_take hjl, List.map_append, List.append_assoc]; rfl
          have hlen : (lkTo T s q ++ (nl.take j).map fun b => (q, b, (s.q q b).length)).length ≤ 100 := by
            rw [List.length_append, List.length_map, List.length_take]; omega
          have hqn := HM.out.q q (nat_ nl j)
          clear T3
          generalize (lkTo T s q ++ (nl.take j).map fun b => (q, b, (s.q q b).length)) = pre at *
          generalize nat_ nl j = n at *
          generalize (s.q q n).length = ql at *
          have hne : ¬ (none : Option Addr) = none → False := fun h => h rfl
          go_wp2_with (at_builtin; refine wpList_append_own _ rfl _ _ 51 rfl w.heap.size 54 i0 (.agg #[.int .i64 0, .int .i64 0, .int .i64 0]) 3 24 Tryz.underlying51 hi hz0 hz1 hz2 rfl (by decide) _ _ _ rfl (O2.out.alloc _) ⟨wr.heap.size, 0, none⟩ 1 1 [.int .i64 q, .int .i64 n, .int .i64 ql] rfl rfl (World.news_of_block (heap_alloc_new _ _)) ?k2 ?k3 ?k4 ?k5 ?_)
          case k2 => exact ⟨rfl, rfl, rfl⟩
          case k3 => unfold maxLen; omega
          case k4 => omega
          case k5 => have := G2.out.size; simp; omega
          intro v5 w5 ho5 hg5 _
          have G5 : Hid (Gr w w5) := Below.grown (G2.out.alloc _) hg5 (Nat.le_trans G2.out.size (by simp)) (own_low O2.out)
          have N5 : Hid (w5.ownsRow WR.heap.size 3 1 (.slice (some ⟨xb, 0, none⟩) nl.length xk) nl.length (ints nl)) := owns_kept (N2.out.alloc _) hg5 (own_apart O2.out N2.out (by decide))
          have O5 : Hid (w5.ownsRow w.heap.size 54 3 v5 (lkTo T s q ++ (nl.take (j + 1)).map fun b => (q, b, (s.q q b).length)).length (lcells (lkTo T s q ++ (nl.take (j + 1)).map fun b => (q, b, (s.q q b).length)))) := by
            show World.ownsRow _ _ _ _ _ _ _
            rw [TK.out, List.length_append, lcells_snoc]; exact ho5
          obtain ⟨za, zm, zk, rfl⟩ := owns_slice ho5
          clear ho5 hg5 O2 N2 G2 hlu cq
          go_wp2_with fail
          exact ⟨⟨j + 1, hjl, by simp, G5, N5, O5⟩, measM_dec _ _ hjl⟩
        · have hje : j = nl.length := by omega
          subst hje
          have O5 : Hid (wr.ownsRow w.heap.size 54 3 (.slice ya ym yk) (lkTo T s (q + 1)).length (lcells (lkTo T s (q + 1)))) := by
            have := O2.out
            rw [List.take_length, ← L1E.out, ← SUC.out] at this
            exact this
          clear O2 N2
          go_wp2_with fail
          exact ⟨⟨q + 1, hlt, by simp, G2, O5⟩, measM_dec _ _ hlt⟩
    · have hqn : q = T.nb := by omega
      subst hqn
      go_wp2_with fail
      go_ret
      exact ⟨_, rfl, O.out, G.out⟩
def lat (l : List Lw) (i : Nat) : Lw := l.getD i (0, 0, 0)
theorem lcells_at : ∀ (L : List Lw) (j : Nat), j < L.length → (lcells L)[j * 3]? = some (.int .i64 ((lat L j).1 : Int)) ∧ (lcells L)[j * 3 + 1]? = some (.int .i64 ((lat L j).2.1 : Int)) ∧ (lcells L)[j * 3 + 1 + 1]? = some (.int .i64 ((lat L j).2.2 : Int))
  | [], j, h => by simp at h
  | x :: l, 0, _ => by simp [lcells, lcell, lat]
  | x :: l, j + 1, h => by
    have ih := lcells_at l j (by simpa using h)
    have e : ∀ k, (lcells (x :: l))[(j + 1) * 3 + k]? = (lcells l)[j * 3 + k]? := fun k => by
      have : (j + 1) * 3 + k = (j * 3 + k) + 3 := by omega
      rw [this]; simp [lcells, lcell, List.getElem?_cons_succ]
    have hh : lat (x :: l) (j + 1) = lat l j := by simp [lat]
    rw [hh]
    exact ⟨(e 0).trans ih.1, (e 1).trans ih.2.1, (e 2).trans ih.2.2⟩
/-- The first link in which something waits. -/
def fst_ (l : List Lw) : Option Lw := l.find? fun x => decide (0 < x.2.2)
theorem fst_hit {l : List Lw} {j : Nat} (hj : j < l.length) (h0 : ∀ x ∈ l.take j, x.2.2 = 0) (h1 : 0 < (lat l j).2.2) : fst_ l = some (lat l j) := by
  have e : l = l.take j ++ lat l j :: l.drop (j + 1) := by
    have : lat l j = l[j] := by simp [lat, hj]
    rw [this, ← List.drop_eq_getElem_cons hj, List.take_append_drop]
  unfold fst_
  conv => lhs; rw [e]
  rw [List.find?_append]
  have : (l.take j).find? (fun x => decide (0 < x.2.2)) = none := by
    rw [List.find?_eq_none]
    intro x hx
    rw [h0 x hx]; simp
  rw [this]
  simp [h1]
theorem fst_none {l : List Lw} (h0 : ∀ x ∈ l, x.2.2 = 0) : fst_ l = none := by
  unfold fst_
  rw [List.find?_eq_none]
  intro x hx
  rw [h0 x hx]; simp
def fstV : Option Lw → Value
  | some x => .tuple #[.agg #[.int .i64 (x.1 : Int), .int .i64 (x.2.1 : Int), .int .i64 (x.2.2 : Int)], .bool true]
  | none => .tuple #[.agg #[.int .i64 0, .int .i64 0, .int .i64 0], .bool false]
theorem lkTo_q {T : Tc} {s : Ts} {k : Nat} {x : Lw} (h : x ∈ lkTo T s k) : x.1 < k ∧ T.adj x.1 x.2.1 = true ∧ x.2.2 = (s.q x.1 x.2.1).length := by
  simp only [lkTo, List.mem_flatMap, List.mem_range, lk1, List.mem_map] at h
  obtain ⟨a, ha, b, hb, rfl⟩ := h
  exact ⟨ha, (nbs_mem.1 hb).2.2, rfl⟩
theorem lkTo_mem {T : Tc} {s : Ts} {a b k : Nat} (ha : a < k) (hb : b < T.nb) (h : T.adj a b = true) : (a, b, (s.q a b).length) ∈ lkTo T s k := by
  simp only [lkTo, List.mem_flatMap, List.mem_range, lk1, List.mem_map]
  exact ⟨a, ha, b, nbs_mem.2 ⟨hb, hb, h⟩, rfl⟩
set_option maxRecDepth 100000 in
set_option maxHeartbeats 4000000 in
theorem first_any (T : Tc) (r : Nat → Rl) (w : World) (cls : List Cl) (s : Ts) (hT : Tw T r w cls s) (hm : Sm T s) :
    Calls Tryz.prog 38 #[.pointer (some ⟨T.TB, 0, none⟩)] w fun e w' => e = .returned (fstV (fst_ (lkTo T s T.nb))) ∧ Gr w w' := by
  have ga : Gr w (w.alloc (.cells #[.int .i64 0, .int .i64 0, .int .i64 0] 54)) := (Gr.refl w).alloc _
  have HB := heap_alloc_new w (.cells #[.int .i64 0, .int .i64 0, .int .i64 0] 54)
  have LK := Hid.mk' (Links_any T r _ cls s (hT.gr ga) hm)
  have hnb := hT.b.nb8
  have LL : (lkTo T s T.nb).length ≤ 64 := Nat.le_trans (lkTo_len T s T.nb) (Nat.le_trans (Nat.mul_le_mul hnb hnb) (by omega))
  have LQ : Hid (∀ x ∈ lkTo T s T.nb, x.2.2 < 549755813888) := fun x hx => by rw [(lkTo_q hx).2.2]; exact hm.q _ _
  have GA := Hid.mk' ga
  have HHB := Hid.mk' HB
  clear hT hm ga HB
  generalize lkTo T s T.nb = L at *
  go_enter Tryz.func38, Tryz.ntmps38
  go_wp2_with fail
  refine LK.out.mono ?_
  rintro e w1 ⟨v1, rfl, ho, g1⟩
  obtain ⟨xa, xk, rfl, hxa⟩ := owns_shape ho
  have G1 := Hid.mk' (Gr.call GA.out g1)
  have B1 := Hid.mk' (blk_gr g1 HHB.out)
  have N1 := Hid.mk' ho
  have HXA := Hid.mk' hxa
  clear LK ho g1 hxa GA HHB
  go_wp2_with fail
  go_loopw [9] (fun i wr => ∃ j : Nat, j ≤ L.length ∧ i = .int .i64 j ∧ Hid (Gr w1 wr) ∧ Hid (∀ x ∈ L.take j, x.2.2 = 0)) (fun i _ => L.length - (intOf i).toNat)
  case atStart => exact ⟨0, Nat.zero_le _, rfl, Gr.refl _, fun x hx => by simp at hx⟩
  case round =>
    obtain ⟨j, hj, rfl, G2, Z⟩ := hrel
    have hB := blk_gr G2.out B1.out
    have hws := blk_lt hB
    have G3 := Hid.mk' (Gr.call G1.out G2.out)
    have v0 : wr.cell? ⟨w.heap.size, 0, none⟩ = some (.int .i64 0) := by rw [cell_of_row _ _ _ _ _ _ hB]; rfl
    have v1 : wr.cell? ⟨w.heap.size, 1, none⟩ = some (.int .i64 0) := by rw [cell_of_row _ _ _ _ _ _ hB]; rfl
    have v2 : wr.cell? ⟨w.heap.size, 2, none⟩ = some (.int .i64 0) := by rw [cell_of_row _ _ _ _ _ _ hB]; rfl
    have f0 : ∀ j, wr.frozen? ⟨w.heap.size, j, none⟩ = false := fun j => frozen_of_row _ _ _ _ _ hB
    have HBB := Hid.mk' hB
    clear hB
    by_cases hjl : j < L.length
    · obtain ⟨xb, rfl⟩ := HXA.out (by omega)
      have N2 := ownsGr N1.out G2.out
      obtain ⟨d0, d1, d2⟩ := lcells_at L j hjl
      rw [← World.ownsRow.cellAt N2 _ (by omega)] at d0 d1 d2
      have hmx : lat L j ∈ L := by unfold lat; exact getD_mem hjl _
      have hlq := LQ.out _ hmx
      have G4 := Hid.mk' (G2.out.alloc (.cells #[.int .i64 ((lat L j).1 : Int), .int .i64 ((lat L j).2.1 : Int), .int .i64 ((lat L j).2.2 : Int)] 54))
      have TK : Hid (L.take (j + 1) = L.take j ++ [lat L j]) := by
        show _ = _
        rw [List.take_succ_eq_append_getElem hjl]; simp [lat, hjl]
      have FH := Hid.mk' (fst_hit hjl Z.out)
      clear N2 hmx
      generalize lat L j = y at *
      by_cases hy : 0 < y.2.2
      · have hy' : (0 : Int) < (y.2.2 : Int) := by omega
        have FV := Hid.mk' (FH.out hy)
        have G5 := Hid.mk' (G3.out.alloc (.cells #[.int .i64 (y.1 : Int), .int .i64 (y.2.1 : Int), .int .i64 (y.2.2 : Int)] 54))
        clear Z TK
        go_wp2_with fail
        refine bodyPost_ret (v := fstV (some y)) (by simp [results, Tryz.results38, go_sem, fstV, v0, v1, v2, hws]) rfl ⟨by rw [FV.out], ?_⟩
        exact Gr.alloc (a := w) (Below.setCell (Below.setCell (Below.setCell G3.out (p := ⟨w.heap.size, 0, none⟩) (Nat.le_refl _) _) (p := ⟨w.heap.size, 1, none⟩) (Nat.le_refl _) _) (p := ⟨w.heap.size, 2, none⟩) (Nat.le_refl _) _) _
      · have hy0 : y.2.2 = 0 := by omega
        have Z2 : Hid (∀ x ∈ L.take (j + 1), x.2.2 = 0) := fun x hx => by
          rw [TK.out] at hx
          rcases List.mem_append.1 hx with hx | hx
          · exact Z.out x hx
          · rw [List.mem_singleton.1 hx]; exact hy0
        clear Z TK FH v0 v1 v2 f0
        rw [hy0] at d2 G4
        go_wp2_with fail
        exact ⟨⟨j + 1, hjl, by simp, G4, Z2⟩, measM_dec _ _ hjl⟩
    · have hje : j = L.length := by omega
      subst hje
      rw [List.take_length] at Z
      have FV := Hid.mk' (fst_none Z.out)
      go_wp2_with fail
      refine bodyPost_ret (v := fstV none) (by simp [results, Tryz.results38, go_sem, fstV, v0, v1, v2]) rfl ⟨by rw [FV.out], ?_⟩
      exact Below.setCell (Below.setCell (Below.setCell G3.out (p := ⟨w.heap.size, 0, none⟩) (Nat.le_refl _) _) (p := ⟨w.heap.size, 1, none⟩) (Nat.le_refl _) _) (p := ⟨w.heap.size, 2, none⟩) (Nat.le_refl _) _
/-! ### Drain -/
theorem Sts.snoc {cov : List Wnt → List Wnt → Bool} {adj : Nat → Nat → Bool} {mt : List Atr → List Wnt → Bool} {s s' : Ts} {n : Nat} (h : Sts cov adj mt s n s') {a b : Nat} {m : Ms (List Wnt) (List Atr)} {r : List (Ms (List Wnt) (List Atr))} (ha : adj a b = true) (hq : s'.q a b = m :: r) : Sts cov adj mt s (n + 1) (s'.nstep cov adj mt a b m) := by
  induction h with
  | refl s => exact .step ha hq (.refl _)
  | step h1 h2 _ ih => exact .step h1 h2 (ih hq)
theorem Sts.kin {cov : List Wnt → List Wnt → Bool} {adj : Nat → Nat → Bool} {mt : List Atr → List Wnt → Bool} {s s' : Ts} {n : Nat} {Ks : List Ky} (h : Sts cov adj mt s n s') : Kin Ks s → Kin Ks s' := by
  induction h with
  | refl s => exact fun K => K
  | step h1 h2 _ ih => exact fun K => ih (nstep_kin K h2)
set_option maxRecDepth 100000 in
set_option maxHeartbeats 4000000 in
theorem Drain_f (T : Tc) (r : Nat → Rl) (w : World) (cls : List Cl) (s : Ts) (nxt : Nat → Nat → Int) (rank : Nat → Nat → Nat) (home : Int → Nat) (ok : List Wnt → Prop) (Ks : List Ky)
    (hT : Tw T r w cls s) (N : Nx T.adj nxt) (R : Rk T.adj nxt rank) (I : Inv cov T.adj nxt home ok s) (K : Kin Ks s) (hsm : ∀ n s', Sts cov T.adj mat s n s' → Sm T s') (hne : ∀ n s', Sts cov T.adj mat s n s' → ∀ a b e, Ms.ev e ∉ s'.q a b)
    (hbd : todo rank T.nb (T.nb * (2 * Ks.length + 1) + 1) s < 4611686018427387904) :
    Calls Tryz.prog 14 #[.pointer (some ⟨T.TB, 0, none⟩)] w fun e w' => ∃ k s' r', e = .returned (.int .i64 (k : Nat)) ∧ Sts cov T.adj mat s k s' ∧ quiet s' ∧ Tw T r' w' cls s' ∧ Fr r r' w w' := by
  have HT := Hid.mk' hT
  have HN := Hid.mk' N
  have HR := Hid.mk' R
  have HI := Hid.mk' I
  have HK := Hid.mk' K
  have HS := Hid.mk' hsm
  have HNE := Hid.mk' hne
  have HAD := Hid.mk' hT.b.adj
  clear hT N R I K hsm hne
  go_enter Tryz.func14, Tryz.ntmps14
  go_wp2_with fail
  go_loopg [3] (todo rank T.nb (T.nb * (2 * Ks.length + 1) + 1) s) (fun k v wr => ∃ (c : Nat) (s' : Ts) (r' : Nat → Rl), v = .int .i64 c ∧ c + k ≤ todo rank T.nb (T.nb * (2 * Ks.length + 1) + 1) s ∧ Hid (todo rank T.nb (T.nb * (2 * Ks.length + 1) + 1) s' ≤ k) ∧ Hid (Sts cov T.adj mat s c s') ∧ Hid (Tw T r' wr cls s') ∧ Hid (Fr r r' w wr))
  case atStart => exact ⟨0, s, r, rfl, by omega, Nat.le_refl _, Sts.refl s, HT, Fr.refl _ _⟩
  case round =>
    obtain ⟨c, s', r', rfl, hck, TD, ST, T2, F2⟩ := hrel
    have SM2 := Hid.mk' (HS.out c s' ST.out)
    have FT := Hid.mk' (first_any T r' wr cls s' T2.out SM2.out)
    have I2 := Hid.mk' (ST.out.inv HN.out HI.out)
    have K2 := Hid.mk' (ST.out.kin HK.out)
    cases hf : fst_ (lkTo T s' T.nb) with
    | none =>
      have QT : Hid (quiet s') := by
        intro a b
        by_cases hab : T.adj a b = true
        · have hl := HAD.out a b hab
          have hm := lkTo_mem (s := s') hl.1 hl.2 hab
          have := List.find?_eq_none.1 hf _ hm
          simp only [decide_eq_true_eq] at this
          exact List.length_eq_zero_iff.1 (by omega)
        · exact I2.out.nq a b (by simpa using hab)
      rw [hf] at FT
      go_wp2_with fail
      refine FT.out.mono ?_
      rintro e w1 ⟨rfl, g1⟩
      unfold fstV
      have T3 := Hid.mk' (T2.out.gr (g1.alloc (.cells #[.int .i64 0, .int .i64 0, .int .i64 0] 54)))
      have F3 := Hid.mk' (F2.out.trans (Fr.gr (g1.alloc (.cells #[.int .i64 0, .int .i64 0, .int .i64 0] 54))))
      clear FT g1
      go_wp2_with fail
      go_ret
      exact ⟨c, s', r', rfl, ST.out, QT.out, T3.out, F3.out⟩
    | some y =>
      have hy := List.find?_some hf
      have hym := lkTo_q (List.mem_of_find?_eq_some hf)
      simp only [decide_eq_true_eq] at hy
      obtain ⟨y1, y2, y3⟩ := y
      simp only at hy hym
      have hab := hym.2.1
      have hltn := HAD.out _ _ hab
      obtain ⟨m, rs, hq⟩ : ∃ m rs, s'.q y1 y2 = m :: rs := by
        cases hq : s'.q y1 y2 with
        | nil => rw [hq] at hym; simp at hym; omega
        | cons m rs => exact ⟨m, rs, rfl⟩
      have LESS := Hid.mk' (step_less (mt := mat) HR.out HN.out HAD.out I2.out K2.out hab hq)
      have ST3 := Hid.mk' (ST.out.snoc hab hq)
      have SP : Hid (∀ w', Gr wr w' → Calls Tryz.prog 37 #[.pointer (some ⟨T.TB, 0, none⟩), .int .i64 y1, .int .i64 y2] w' fun e w2 => e = .returned (.int .i64 0) ∧ ∃ r2, Tw T r2 w2 cls (s'.nstep cov T.adj mat y1 y2 m) ∧ Fr r' r2 w' w2) := fun w' g => Step_f T r' w' cls s' nxt home ok y1 y2 m rs (T2.out.gr g) I2.out hab hq (fun e he => HNE.out c s' ST.out y1 y2 e (by rw [hq, he]; simp)) SM2.out
      rw [hf] at FT
      have TDk := TD.out
      have TDl := LESS.out
      have hk : c + 1 ≤ 4611686018427387904 := by omega
      have HTD := Hid.mk' (Nat.lt_of_lt_of_le LESS.out TD.out)
      clear hf hym hy hq TDk TDl LESS TD
      go_wp2_with fail
      refine FT.out.mono ?_
      rintro e w1 ⟨rfl, g1⟩
      unfold fstV
      have g2 := g1.alloc (.cells #[.int .i64 (y1 : Int), .int .i64 (y2 : Int), .int .i64 (y3 : Int)] 54)
      have SP2 := Hid.mk' (SP.out _ g2)
      have GG := Hid.mk' g2
      clear FT g1 g2 SP
      go_wp2_with fail
      refine SP2.out.mono ?_
      rintro e w3 ⟨rfl, r2, z1, z2⟩
      have T3 := Hid.mk' z1
      have F3 := Hid.mk' ((F2.out.trans (Fr.gr GG.out)).trans z2)
      clear SP2 z1 z2 GG
      go_wp2_with fail
      go_roundg (todo rank T.nb (T.nb * (2 * Ks.length + 1) + 1) (s'.nstep cov T.adj mat y1 y2 m))
      case measure => exact HTD.out
      case rel => exact ⟨c + 1, _, r2, by go_num, by have := HTD.out; omega, Nat.le_refl _, ST3, T3, F3⟩
end Go.Proofs.YtecnfgikbmcgoaaGreat
