import Derived.Test.YtecnfgikbmcgoaaGreatG9
import Derived.BigQuiet
import Derived.BigRegion
import Derived.Deep.QuietTactic
import Derived.Test.YtecnfgikbmcgoaaGreatG7
namespace Go.Proofs.YtecnfgikbmcgoaaGreat
open Go.RowKit
open Go.Maps (Keyed)
open Go.ChangeMaps (setBlock)

theorem mcells_shape (x : Mm) : ∃ a0 n0 c0 k1 k2 a3 n3 c3, mcells x = [.slice a0 n0 c0, .int .i64 k1, .int .i64 k2, .slice a3 n3 c3] := by
  unfold mcells
  split <;> exact ⟨_, _, _, _, _, _, _, _, rfl⟩
theorem Qr.first {w : World} {e : TypeId} {R : Nat → Prop} {v : Value} {n : Nat} {m0 m1 m2 m3 : Value} {xs : List Value} (h : Qr w e 4 R v (n + 1) ([m0, m1, m2, m3] ++ xs)) :
    ∃ g off cap cur, v = .slice (some ⟨g, off, none⟩) (n + 1) cap ∧ R g ∧ w.heap[g]? = some (.cells cur e (0, 0)) ∧ n + 1 ≤ cap ∧ cap ≤ maxLen ∧ off + cap * 4 ≤ cur.size ∧ (cur.toList.drop off).take ((n + 1) * 4) = [m0, m1, m2, m3] ++ xs ∧
      w.cell? ⟨g, off, none⟩ = some m0 ∧ w.cell? ⟨g, off + 1, none⟩ = some m1 ∧ w.cell? ⟨g, off + 1 + 1, none⟩ = some m2 ∧ w.cell? ⟨g, off + 1 + 1 + 1, none⟩ = some m3 := by
  rcases h.2 with ⟨_, h2⟩ | ⟨g, off, cap, cur, hv, hR, hg, h3, h4, h5, h6⟩
  · omega
  · have hc : ∀ j u, ([m0, m1, m2, m3] ++ xs)[j]? = some u → w.cell? ⟨g, off + j, none⟩ = some u := by
      intro j u hu
      rw [cell_of_row w g (off + j) cur e (0, 0) hg]
      rw [← h6, List.getElem?_take] at hu
      split at hu
      · rw [List.getElem?_drop] at hu; simpa using hu
      · cases hu
    exact ⟨g, off, cap, cur, hv, hR, hg, h3, h4, h5, h6, hc 0 m0 rfl, hc 1 m1 rfl, hc 2 m2 rfl, hc 3 m3 rfl⟩
set_option maxRecDepth 100000 in
set_option maxHeartbeats 4000000 in
theorem takeFirst_any (T : Tc) (r : Nat → Rl) (w : World) (Xs : Nat → List Hm) (qs : Nat → Nat → List Mm) (cls : List Cl) (a b : Nat) (x : Mm) (rest : List Mm) (a0 a3 : Option Addr) (n0 c0 n3 c3 : Nat) (k1 k2 : Int) (hx : mcells x = [.slice a0 n0 c0, .int .i64 k1, .int .i64 k2, .slice a3 n3 c3])
    (h : Tm T r w Xs qs cls) (hab : T.adj a b = true) (hq : qs a b = x :: rest) :
    Calls Tryz.prog 76 #[.pointer (some ⟨T.TB, 0, none⟩), .agg #[.int .i64 a, .int .i64 b]] w fun e w' => e = .returned (.agg #[.slice a0 n0 c0, .int .i64 k1, .int .i64 k2, .slice a3 n3 c3]) ∧ Tm T r w' Xs (popq qs a b) cls ∧ Fr r r w w' := by
  have hlt := h.b.adj a b hab
  have hnb := h.b.nb8
  have Hh := Hid.mk' h
  clear h
  go_enter Tryz.func76, Tryz.ntmps76
  go_wp2_with fail
  have G1 : Gr w ((w.alloc (.cells #[.int .i64 a, .int .i64 b] 81)).alloc (.cells #[.slice none 0 0, .int .i64 0, .int .i64 0, .slice none 0 0] 172)) := ((Gr.refl w).alloc _).alloc _
  have HA := blk_gr ((Gr.refl _).alloc (.cells #[.slice none 0 0, .int .i64 0, .int .i64 0, .slice none 0 0] 172)) (heap_alloc_new w (.cells #[.int .i64 a, .int .i64 b] 81))
  have HB := heap_alloc_new (w.alloc (.cells #[.int .i64 a, .int .i64 b] 81)) (.cells #[.slice none 0 0, .int .i64 0, .int .i64 0, .slice none 0 0] 172)
  rw [show (w.alloc (.cells #[.int .i64 a, .int .i64 b] 81)).heap.size = w.heap.size + 1 by simp] at HB
  generalize ((w.alloc (.cells #[.int .i64 a, .int .i64 b] 81)).alloc (.cells #[.slice none 0 0, .int .i64 0, .int .i64 0, .slice none 0 0] 172)) = W1 at *
  have hT := Hid.mk' (Hh.out.gr G1)
  obtain ⟨m, es, clock, hmp, _, hall, hev⟩ := hT.out.l.lk
  obtain ⟨v, hv⟩ := hev a b hab
  have hQ : Qr W1 172 4 (fun k => r k = .qu a b) v (rest.length + 1) ([.slice a0 n0 c0, .int .i64 k1, .int .i64 k2, .slice a3 n3 c3] ++ rest.flatMap mcells) := by
    obtain ⟨a', b', e, _, hQ⟩ := hall _ v hv
    have := pk_inj e
    simp only [Prod.mk.injEq, Int.natCast_inj] at this
    rw [← this.1, ← this.2, hq, List.length_cons, List.flatMap_cons, hx] at hQ
    exact hQ
  obtain ⟨g, off, cap, cur, rfl, hR, hg, h3, h4, h5, h6, d0, d1, d2, d3⟩ := hQ.first
  obtain ⟨lk, hlk⟩ := keyE ((a : Int), (b : Int)) ⟨by omega, by omega⟩ ⟨by omega, by omega⟩
  have hlu : ∀ n : Nat, (Instr.lookup 117 (.map (some T.LB)) (.agg #[.int .i64 a, .int .i64 b]) false).run Tryz.prog (W1.drewN n) = .ok (.slice (some ⟨g, off, none⟩) (rest.length + 1) cap) (W1.drewN n) := fun n => Mp.look_yes Tryz.keyedE Tryz.underlying117 (hmp.kept (by rw [World.heap_drewN])) hlk hv false
  have hc2 : W1.cell? ⟨T.TB, 2, none⟩ = some (.map (some T.LB)) := hT.out.b.c2
  have hTB : T.TB < W1.heap.size := hT.out.tlt
  have ka0 : W1.cell? ⟨w.heap.size, 0, none⟩ = some (.int .i64 a) := by rw [cell_of_row _ _ _ _ _ _ HA]; rfl
  have ka1 : W1.cell? ⟨w.heap.size, 1, none⟩ = some (.int .i64 b) := by rw [cell_of_row _ _ _ _ _ _ HA]; rfl
  have e0 : W1.cell? ⟨g, off, none⟩ = some (.slice a0 n0 c0) := d0
  have e1 : W1.cell? ⟨g, off + 1, none⟩ = some (.int .i64 k1) := d1
  have e2 : W1.cell? ⟨g, off + 1 + 1, none⟩ = some (.int .i64 k2) := d2
  have e3 : W1.cell? ⟨g, off + 1 + 1 + 1, none⟩ = some (.slice a3 n3 c3) := d3
  have hgl : g < W1.heap.size := blk_lt (w := W1) hg
  have HD := Hid.mk' hmp
  have HALL := Hid.mk' hall
  have HEV := Hid.mk' hev
  have HV := Hid.mk' hv
  have H6 := Hid.mk' h6
  have HG := Hid.mk' hg
  clear hmp hall hev hv hQ h6 hg d0 d1 d2 d3
  go_quiet (fail)
  have G2 := Hid.mk' (G1.drewN nq)
  clear hlu
  generalize hW2 : W1.drewN nq = W2 at *
  have hh2 : W2.heap = W1.heap := by rw [← hW2, World.heap_drewN]
  have cc : ∀ p : Addr, W2.cell? p = W1.cell? p := fun p => World.cell?_of_block (by rw [hh2])
  rw [← cc] at hc2 ka0 ka1 e0 e1 e2 e3
  rw [← hh2] at HA HB hTB hgl
  have HG2 : Hid (W2.heap[g]? = some (.cells cur 172 (0, 0))) := by show _ = _; rw [hh2]; exact HG.out
  have HD2 := Hid.mk' (HD.out.kept (w' := W2) (by rw [hh2]))
  have HT2 := Hid.mk' (Hh.out.gr G2.out)
  clear HG HD hT hh2 cc hW2 G1
  have f0 : W2.frozen? ⟨g, off, none⟩ = false := frozen_of_row _ _ _ _ _ HG2.out
  have f1 : W2.frozen? ⟨g, off + 1, none⟩ = false := frozen_of_row _ _ _ _ _ HG2.out
  have f2 : W2.frozen? ⟨g, off + 1 + 1, none⟩ = false := frozen_of_row _ _ _ _ _ HG2.out
  have f3 : W2.frozen? ⟨g, off + 1 + 1 + 1, none⟩ = false := frozen_of_row _ _ _ _ _ HG2.out
  go_wp2_with fail
  have SZ2 := HT2.out.tlt
  have hgw : g < w.heap.size := by
    rcases Nat.lt_or_ge g w.heap.size with h | h
    · exact h
    · have := Hh.out.b.top g h; rw [hR] at this; cases this
  have hws : w.heap.size + 2 ≤ W2.heap.size := blk_lt HB
  have nLB : T.LB ≠ g := fun e => by have := HT2.out.l.lm; rw [e, hR] at this; cases this
  have nTB : T.TB ≠ g := fun e => by have := HT2.out.b.rT; rw [e, hR] at this; cases this
  have G3 : Hid (Gr w (W2.alloc (.cells #[.slice a0 n0 c0, .int .i64 k1, .int .i64 k2, .slice a3 n3 c3] 172))) := G2.out.alloc _
  have HT3 := Hid.mk' (Hh.out.gr G3.out)
  obtain ⟨cur', hcs', hcd', hg3⟩ : ∃ cur' : Array Value, cur'.size = cur.size ∧ cur'.toList.drop (off + 4) = cur.toList.drop (off + 4) ∧ (((((W2.setCell ⟨g, off, none⟩ (.slice none 0 0)).setCell ⟨g, off + 1, none⟩ (.int .i64 0)).setCell ⟨g, off + 2, none⟩ (.int .i64 0)).setCell ⟨g, off + 3, none⟩ (.slice none 0 0)).alloc (.cells #[.slice a0 n0 c0, .int .i64 k1, .int .i64 k2, .slice a3 n3 c3] 172)).heap[g]? = some (.cells cur' 172 (0, 0)) := by
    refine ⟨(((cur.setIfInBounds off (.slice none 0 0)).setIfInBounds (off + 1) (.int .i64 0)).setIfInBounds (off + 2) (.int .i64 0)).setIfInBounds (off + 3) (.slice none 0 0), by simp, ?_, ?_⟩
    · simp only [Array.toList_setIfInBounds]
      rw [List.drop_set_of_lt (by omega), List.drop_set_of_lt (by omega), List.drop_set_of_lt (by omega), List.drop_set_of_lt (by omega)]
    · rw [heap_alloc_old _ _ (by simp only [size_set]; exact hgl)]
      exact blk_set_same (blk_set_same (blk_set_same (blk_set_same HG2.out _) _) _) _
  have hoth : ∀ k, k ≠ g → (((((W2.setCell ⟨g, off, none⟩ (.slice none 0 0)).setCell ⟨g, off + 1, none⟩ (.int .i64 0)).setCell ⟨g, off + 2, none⟩ (.int .i64 0)).setCell ⟨g, off + 3, none⟩ (.slice none 0 0)).alloc (.cells #[.slice a0 n0 c0, .int .i64 k1, .int .i64 k2, .slice a3 n3 c3] 172)).heap[k]? = (W2.alloc (.cells #[.slice a0 n0 c0, .int .i64 k1, .int .i64 k2, .slice a3 n3 c3] 172)).heap[k]? := by
    intro k hk
    show (Array.push _ _)[k]? = (Array.push _ _)[k]?
    rw [Array.getElem?_push, Array.getElem?_push]
    simp only [size_set]
    rw [Below.heap_setCell _ _ _ k hk, Below.heap_setCell _ _ _ k hk, Below.heap_setCell _ _ _ k hk, Below.heap_setCell _ _ _ k hk]
  have hsz3 : (((((W2.setCell ⟨g, off, none⟩ (.slice none 0 0)).setCell ⟨g, off + 1, none⟩ (.int .i64 0)).setCell ⟨g, off + 2, none⟩ (.int .i64 0)).setCell ⟨g, off + 3, none⟩ (.slice none 0 0)).alloc (.cells #[.slice a0 n0 c0, .int .i64 k1, .int .i64 k2, .slice a3 n3 c3] 172)).heap.size = W2.heap.size + 1 := by
    rw [size_alloc']; simp only [size_set]
  have hos3 : (((((W2.setCell ⟨g, off, none⟩ (.slice none 0 0)).setCell ⟨g, off + 1, none⟩ (.int .i64 0)).setCell ⟨g, off + 2, none⟩ (.int .i64 0)).setCell ⟨g, off + 3, none⟩ (.slice none 0 0)).alloc (.cells #[.slice a0 n0 c0, .int .i64 k1, .int .i64 k2, .slice a3 n3 c3] 172)).os = W2.os ∧ (((((W2.setCell ⟨g, off, none⟩ (.slice none 0 0)).setCell ⟨g, off + 1, none⟩ (.int .i64 0)).setCell ⟨g, off + 2, none⟩ (.int .i64 0)).setCell ⟨g, off + 3, none⟩ (.slice none 0 0)).alloc (.cells #[.slice a0 n0 c0, .int .i64 k1, .int .i64 k2, .slice a3 n3 c3] 172)).tape = W2.tape ∧ (((((W2.setCell ⟨g, off, none⟩ (.slice none 0 0)).setCell ⟨g, off + 1, none⟩ (.int .i64 0)).setCell ⟨g, off + 2, none⟩ (.int .i64 0)).setCell ⟨g, off + 3, none⟩ (.slice none 0 0)).alloc (.cells #[.slice a0 n0 c0, .int .i64 k1, .int .i64 k2, .slice a3 n3 c3] 172)).output = W2.output := ⟨rfl, rfl, rfl⟩
  generalize (((((W2.setCell ⟨g, off, none⟩ (.slice none 0 0)).setCell ⟨g, off + 1, none⟩ (.int .i64 0)).setCell ⟨g, off + 2, none⟩ (.int .i64 0)).setCell ⟨g, off + 3, none⟩ (.slice none 0 0)).alloc (.cells #[.slice a0 n0 c0, .int .i64 k1, .int .i64 k2, .slice a3 n3 c3] 172)) = W3 at *
  have ho3 : ∀ k, k < W2.heap.size → k ≠ g → W3.heap[k]? = W2.heap[k]? := fun k hk hn => (hoth k hn).trans (heap_alloc_old _ _ hk)
  have hM3 : W3.heap[W2.heap.size]? = some (.cells #[.slice a0 n0 c0, .int .i64 k1, .int .i64 k2, .slice a3 n3 c3] 172 (0, 0)) := (hoth _ (by omega)).trans (heap_alloc_new _ _)
  have hB3 : W3.heap[w.heap.size + 1]? = some (.cells #[.slice none 0 0, .int .i64 0, .int .i64 0, .slice none 0 0] 172 (0, 0)) := (ho3 _ (by omega) (by omega)).trans HB
  have hA3 : W3.heap[w.heap.size]? = some (.cells #[.int .i64 a, .int .i64 b] 81 (0, 0)) := (ho3 _ (by omega) (by omega)).trans HA
  have p2 : W3.cell? ⟨T.TB, 2, none⟩ = some (.map (some T.LB)) := (cell_blk (ho3 _ hTB nTB) 2).trans hc2
  have q0 : W3.cell? ⟨w.heap.size, 0, none⟩ = some (.int .i64 a) := by rw [cell_of_row _ _ _ _ _ _ hA3]; rfl
  have q1 : W3.cell? ⟨w.heap.size, 1, none⟩ = some (.int .i64 b) := by rw [cell_of_row _ _ _ _ _ _ hA3]; rfl
  have hmpD : Mp Tryz.prog 81 W3.drew T.LB m es clock := HD2.out.kept (ho3 _ HD2.out.lt nLB)
  have hQp := Qr.pop (w' := W3.drew) (R := fun k => r k = .qu a b) (xs := [.slice a0 n0 c0, .int .i64 k1, .int .i64 k2, .slice a3 n3 c3] ++ rest.flatMap mcells) (by rw [List.length_append, flat_mm]; simp; omega) (Nat.succ_pos _) hR h3 h4 h5 H6.out hg3 hcs' hcd'
  have hdrop : ([.slice a0 n0 c0, .int .i64 k1, .int .i64 k2, .slice a3 n3 c3] ++ rest.flatMap mcells : List Value).drop 4 = rest.flatMap mcells := rfl
  rw [hdrop, Nat.succ_sub_one] at hQp
  obtain ⟨es', m1, m2, hm12, hup, hM'⟩ := Mp.put_old Tryz.keyedE Tryz.underlying117 hmpD hlk HV.out (v := .slice (if cap = 1 then some ⟨g, off, none⟩ else some ⟨g, off + 4, none⟩) rest.length (cap - 1))
  have FIN : Hid (Tm T r (setBlock W3.drew T.LB (.map es' clock)) Xs (popq qs a b) cls ∧ Fr r r (W2.alloc (.cells #[.slice a0 n0 c0, .int .i64 k1, .int .i64 k2, .slice a3 n3 c3] 172)) (setBlock W3.drew T.LB (.map es' clock))) := by
    obtain ⟨mm, ess, ck, z1, z2, z3, z4⟩ := HT3.out.l.lk
    refine Tm.pop (w2 := W3.drew) HT3.out hq (by rw [← hm12]; exact HD2.out.kept (heap_alloc_old _ _ HD2.out.lt)) ?_ (by rw [← hm12]; exact HEV.out) hab hR (fun k hk => hoth k hk) (by rw [size_alloc']; exact hsz3) hos3.1 hos3.2.1 hos3.2.2 hQp hM'
    rw [← hm12]
    have hmm : mm = m := by
      have e1 := z1.blk
      have e2 := (HD2.out.kept (w' := W2.alloc (.cells #[.slice a0 n0 c0, .int .i64 k1, .int .i64 k2, .slice a3 n3 c3] 172)) (heap_alloc_old _ _ HD2.out.lt)).blk
      rw [e1] at e2
      injection e2 with e2
      injection e2 with e2 e3
      rw [← z1.ent, ← HD2.out.ent, e2]
    rw [← hmm]; exact z3
  unfold pk at hup
  have GX := Hid.mk' (And.intro hM3 hB3)
  clear hM' hm12 hmpD hQp hdrop HALL HEV HV H6 HD2 HT2 HT3 hcd' hg3 hoth hsz3 hos3 ho3 hA3 hM3 hB3 e0 e1 e2 e3 f0 f1 f2 f3 hc2 ka0 ka1 HA HB HG2
  have hle : (1 : Int) ≤ (rest.length : Int) + 1 := by omega
  have END : Hid (∀ W4 : World, W4 = setBlock W3.drew T.LB (.map es' clock) → W4.heap[W2.heap.size]? = some (.cells #[.slice a0 n0 c0, .int .i64 k1, .int .i64 k2, .slice a3 n3 c3] 172 (0, 0)) ∧ W4.heap[w.heap.size + 1]? = some (.cells #[.slice none 0 0, .int .i64 0, .int .i64 0, .slice none 0 0] 172 (0, 0)) ∧ Tm T r W4 Xs (popq qs a b) cls ∧ Fr r r w W4) := by
    intro W4 e
    subst e
    have hr1 : r (w.heap.size + 1) = .no := Hh.out.b.top _ (Nat.le_succ _)
    have hr2 : r W2.heap.size = .no := Hh.out.b.top _ (by omega)
    have n1 : w.heap.size + 1 ≠ T.LB := fun e => by have := FIN.out.1.l.lm; rw [← e, hr1] at this; cases this
    have n2 : W2.heap.size ≠ T.LB := fun e => by have := FIN.out.1.l.lm; rw [← e, hr2] at this; cases this
    exact ⟨(setBlock_other n2).trans GX.out.1, (setBlock_other n1).trans GX.out.2, FIN.out.1, (Fr.gr G3.out).trans FIN.out.2⟩
  have LAST : Hid (∀ W4 : World, Tm T r W4 Xs (popq qs a b) cls → Fr r r w W4 → ∀ u0 u1 u2 u3 : Value, Tm T r ((((W4.setCell ⟨w.heap.size + 1, 0, none⟩ u0).setCell ⟨w.heap.size + 1, 1, none⟩ u1).setCell ⟨w.heap.size + 1, 2, none⟩ u2).setCell ⟨w.heap.size + 1, 3, none⟩ u3) Xs (popq qs a b) cls ∧ Fr r r w ((((W4.setCell ⟨w.heap.size + 1, 0, none⟩ u0).setCell ⟨w.heap.size + 1, 1, none⟩ u1).setCell ⟨w.heap.size + 1, 2, none⟩ u2).setCell ⟨w.heap.size + 1, 3, none⟩ u3)) := by
    intro W4 h1 h2 u0 u1 u2 u3
    have hr1 : r (w.heap.size + 1) = .no := Hh.out.b.top _ (Nat.le_succ _)
    exact ⟨(((h1.set hr1 (by omega) _).set hr1 (by omega) _).set hr1 (by omega) _).set hr1 (by omega) _, (((h2.set (Nat.le_succ _) _).set (Nat.le_succ _) _).set (Nat.le_succ _) _).set (Nat.le_succ _) _⟩
  clear FIN GX
  by_cases hc : cap = 1
  · subst hc
    have hr0 : rest.length = 0 := by omega
    rw [if_pos rfl, hr0, Nat.sub_self] at hup
    go_region
    have E4 := END.out _ rfl
    clear END hup hle
    generalize setBlock W3.drew T.LB (.map es' clock) = W4 at *
    obtain ⟨hm4, hb4, hT4, hF4⟩ := E4
    have u0 : W4.cell? ⟨W2.heap.size, 0, none⟩ = some (.slice a0 n0 c0) := by rw [cell_of_row _ _ _ _ _ _ hm4]; rfl
    have u1 : W4.cell? ⟨W2.heap.size, 1, none⟩ = some (.int .i64 k1) := by rw [cell_of_row _ _ _ _ _ _ hm4]; rfl
    have u2 : W4.cell? ⟨W2.heap.size, 2, none⟩ = some (.int .i64 k2) := by rw [cell_of_row _ _ _ _ _ _ hm4]; rfl
    have u3 : W4.cell? ⟨W2.heap.size, 3, none⟩ = some (.slice a3 n3 c3) := by rw [cell_of_row _ _ _ _ _ _ hm4]; rfl
    have v0 : W4.cell? ⟨w.heap.size + 1, 0, none⟩ = some (.slice none 0 0) := by rw [cell_of_row _ _ _ _ _ _ hb4]; rfl
    have v1 : W4.cell? ⟨w.heap.size + 1, 1, none⟩ = some (.int .i64 0) := by rw [cell_of_row _ _ _ _ _ _ hb4]; rfl
    have v2 : W4.cell? ⟨w.heap.size + 1, 2, none⟩ = some (.int .i64 0) := by rw [cell_of_row _ _ _ _ _ _ hb4]; rfl
    have v3 : W4.cell? ⟨w.heap.size + 1, 3, none⟩ = some (.slice none 0 0) := by rw [cell_of_row _ _ _ _ _ _ hb4]; rfl
    have f0 : ∀ j, W4.frozen? ⟨w.heap.size + 1, j, none⟩ = false := fun j => frozen_of_row _ _ _ _ _ hb4
    have L4 := Hid.mk' (LAST.out W4 hT4 hF4 (.slice a0 n0 c0) (.int .i64 k1) (.int .i64 k2) (.slice a3 n3 c3))
    clear hT4 hF4 hm4 hb4 LAST
    go_wp2_with fail
    exact bodyPost_ret (v := .agg #[.slice a0 n0 c0, .int .i64 k1, .int .i64 k2, .slice a3 n3 c3]) (by simp [results, Tryz.results76, go_sem, v0, v1, v2, v3]) rfl ⟨rfl, L4.out⟩
  · rw [if_neg hc] at hup
    go_region
    have E4 := END.out _ rfl
    clear END hup hle
    generalize setBlock W3.drew T.LB (.map es' clock) = W4 at *
    obtain ⟨hm4, hb4, hT4, hF4⟩ := E4
    have u0 : W4.cell? ⟨W2.heap.size, 0, none⟩ = some (.slice a0 n0 c0) := by rw [cell_of_row _ _ _ _ _ _ hm4]; rfl
    have u1 : W4.cell? ⟨W2.heap.size, 1, none⟩ = some (.int .i64 k1) := by rw [cell_of_row _ _ _ _ _ _ hm4]; rfl
    have u2 : W4.cell? ⟨W2.heap.size, 2, none⟩ = some (.int .i64 k2) := by rw [cell_of_row _ _ _ _ _ _ hm4]; rfl
    have u3 : W4.cell? ⟨W2.heap.size, 3, none⟩ = some (.slice a3 n3 c3) := by rw [cell_of_row _ _ _ _ _ _ hm4]; rfl
    have v0 : W4.cell? ⟨w.heap.size + 1, 0, none⟩ = some (.slice none 0 0) := by rw [cell_of_row _ _ _ _ _ _ hb4]; rfl
    have v1 : W4.cell? ⟨w.heap.size + 1, 1, none⟩ = some (.int .i64 0) := by rw [cell_of_row _ _ _ _ _ _ hb4]; rfl
    have v2 : W4.cell? ⟨w.heap.size + 1, 2, none⟩ = some (.int .i64 0) := by rw [cell_of_row _ _ _ _ _ _ hb4]; rfl
    have v3 : W4.cell? ⟨w.heap.size + 1, 3, none⟩ = some (.slice none 0 0) := by rw [cell_of_row _ _ _ _ _ _ hb4]; rfl
    have f0 : ∀ j, W4.frozen? ⟨w.heap.size + 1, j, none⟩ = false := fun j => frozen_of_row _ _ _ _ _ hb4
    have L4 := Hid.mk' (LAST.out W4 hT4 hF4 (.slice a0 n0 c0) (.int .i64 k1) (.int .i64 k2) (.slice a3 n3 c3))
    clear hT4 hF4 hm4 hb4 LAST
    go_wp2_with fail
    exact bodyPost_ret (v := .agg #[.slice a0 n0 c0, .int .i64 k1, .int .i64 k2, .slice a3 n3 c3]) (by simp [results, Tryz.results76, go_sem, v0, v1, v2, v3]) rfl ⟨rfl, L4.out⟩
end Go.Proofs.YtecnfgikbmcgoaaGreat
namespace Go.Proofs.YtecnfgikbmcgoaaGreat

/-! ### Trees out of edges that each join two parts -/
theorem sm_lt {f g : Nat → Nat} {j : Nat} : ∀ n, (∀ i, i < n → f i ≤ g i) → j < n → f j < g j → sm n f < sm n g
  | 0, _, hj, _ => by omega
  | n + 1, h, hj, hl => by
    simp only [sm]
    by_cases e : j = n
    · subst e
      have := sm_le j (fun i hi => h i (by omega))
      omega
    · have := sm_lt n (fun i hi => h i (by omega)) (by omega) hl
      have := h n (by omega)
      omega
/-- So many brokers lie behind b, as seen from n. -/
def behind (nb : Nat) (nxt : Nat → Nat → Int) (b n : Nat) : Nat := sm nb fun t => if nxt n t = (b : Int) then 1 else 0
/-- Neighbours, and where they lead. -/
structure Fo (nb : Nat) (part : Nat → Nat) (adj : Nat → Nat → Bool) (nxt : Nat → Nat → Int) : Prop where
  sym : ∀ a b, adj a b = true → adj b a = true
  irr : ∀ a, adj a a = false
  inn : ∀ a b, adj a b = true → a < nb ∧ b < nb
  same : ∀ a b, adj a b = true → part a = part b
  self : ∀ t, nxt t t = -1
  back : ∀ b n t, adj b n = true → part t = part b → nxt b t ≠ (n : Int) → nxt n t = (b : Int)
  nb' : ∀ b t, nxt b t = -1 ∨ ∃ m : Nat, nxt b t = (m : Int) ∧ adj m b = true
  one : ∀ b t, part b = part t → nxt b t = -1 → b = t
  excl : ∀ b n t, adj b n = true → part t = part b → nxt b t = (n : Int) → nxt n t ≠ (b : Int)
theorem Fo.init (nb : Nat) : Fo nb (fun b => b) (fun _ _ => false) (fun _ _ => -1) :=
  ⟨fun _ _ h => (by cases h), fun _ => rfl, fun _ _ h => (by cases h), fun _ _ h => (by cases h), fun _ => rfl, fun _ _ _ h => (by cases h), fun _ _ => Or.inl rfl, fun _ _ h _ => h, fun _ _ _ h => (by cases h)⟩
def joinP (part : Nat → Nat) (u v : Nat) : Nat → Nat := fun x => if part x = part v then part u else part x
def joinA (adj : Nat → Nat → Bool) (u v : Nat) : Nat → Nat → Bool := fun a b => adj a b || (a == u && b == v) || (a == v && b == u)
def joinN (part : Nat → Nat) (nxt : Nat → Nat → Int) (u v : Nat) : Nat → Nat → Int := fun b t =>
  if part b = part u ∧ part t = part v then (if b = u then (v : Int) else nxt b u)
  else if part b = part v ∧ part t = part u then (if b = v then (u : Int) else nxt b v)
  else nxt b t
theorem joinA_iff {adj : Nat → Nat → Bool} {u v a b : Nat} : joinA adj u v a b = true ↔ adj a b = true ∨ (a = u ∧ b = v) ∨ (a = v ∧ b = u) := by
  simp [joinA, or_assoc]
theorem Fo.join {nb : Nat} {part : Nat → Nat} {adj : Nat → Nat → Bool} {nxt : Nat → Nat → Int} (h : Fo nb part adj nxt) {u v : Nat} (hu : u < nb) (hv : v < nb) (hp : part u ≠ part v) :
    Fo nb (joinP part u v) (joinA adj u v) (joinN part nxt u v) := by
  have huv : u ≠ v := fun e => hp (by rw [e])
  have far : ∀ {n b c : Nat}, adj b n = true → b ≠ c → nxt b c ≠ (n : Int) → part c = part b → n ≠ c ∧ nxt n c = (b : Int) := by
    intro n b c hbn hbc hne hpc
    have h1 := h.back b n c hbn hpc hne
    refine ⟨fun e => ?_, h1⟩
    subst e
    rw [h.self] at h1
    omega
  have near : ∀ {n b : Nat}, adj b n = true → n ≠ b ∧ nxt n b = (b : Int) := by
    intro n b hbn
    refine ⟨fun e => ?_, h.back b n b hbn rfl (by rw [h.self]; omega)⟩
    subst e
    rw [h.irr] at hbn; cases hbn
  have adjp : ∀ {b t m : Nat}, nxt b t = (m : Int) → part m = part b := by
    intro b t m e
    rcases h.nb' b t with e' | ⟨m', e', hm⟩
    · omega
    · have : m = m' := by omega
      subst this
      exact h.same m b hm
  refine ⟨fun a b hab => ?_, fun a => ?_, fun a b hab => ?_, fun a b hab => ?_, fun t => ?_, fun b n t hbn hpt hne => ?_, fun b t => ?_, fun b t hpt he => ?_, fun b n t hbn hpt he => ?_⟩
  · rw [joinA_iff] at *
    rcases hab with hab | ⟨rfl, rfl⟩ | ⟨rfl, rfl⟩
    · exact Or.inl (h.sym a b hab)
    · exact Or.inr (Or.inr ⟨rfl, rfl⟩)
    · exact Or.inr (Or.inl ⟨rfl, rfl⟩)
  · cases hj : joinA adj u v a a with
    | false => rfl
    | true =>
      rcases joinA_iff.1 hj with hab | ⟨rfl, e⟩ | ⟨rfl, e⟩
      · rw [h.irr] at hab; cases hab
      · exact absurd e huv
      · exact absurd e.symm huv
  · rcases joinA_iff.1 hab with hab | ⟨rfl, rfl⟩ | ⟨rfl, rfl⟩
    · exact h.inn a b hab
    · exact ⟨hu, hv⟩
    · exact ⟨hv, hu⟩
  · simp only [joinP]
    rcases joinA_iff.1 hab with hab | ⟨rfl, rfl⟩ | ⟨rfl, rfl⟩
    · rw [h.same a b hab]
    · rw [if_neg hp, if_pos rfl]
    · rw [if_pos rfl, if_neg hp]
  · simp only [joinN]
    rw [if_neg (fun e => hp (e.1.symm.trans e.2)), if_neg (fun e => hp (e.2.symm.trans e.1))]
    exact h.self t
  · simp only [joinP] at hpt
    simp only [joinN] at hne ⊢
    rcases joinA_iff.1 hbn with h0 | ⟨rfl, rfl⟩ | ⟨rfl, rfl⟩
    · have hs := h.same b n h0
      rw [← hs]
      by_cases c1 : part b = part u ∧ part t = part v
      · rw [if_pos c1] at hne ⊢
        by_cases hbu : b = u
        · subst hbu
          obtain ⟨k1, k2⟩ := near h0
          rw [if_neg k1]; exact k2
        · rw [if_neg hbu] at hne
          obtain ⟨k1, k2⟩ := far h0 hbu hne c1.1.symm
          rw [if_neg k1]; exact k2
      · rw [if_neg c1] at hne ⊢
        by_cases c2 : part b = part v ∧ part t = part u
        · rw [if_pos c2] at hne ⊢
          by_cases hbv : b = v
          · subst hbv
            obtain ⟨k1, k2⟩ := near h0
            rw [if_neg k1]; exact k2
          · rw [if_neg hbv] at hne
            obtain ⟨k1, k2⟩ := far h0 hbv hne c2.1.symm
            rw [if_neg k1]; exact k2
        · rw [if_neg c2] at hne ⊢
          refine h.back b n t h0 ?_ hne
          by_cases e1 : part t = part v
          · by_cases e2 : part b = part v
            · rw [e1, e2]
            · rw [if_pos e1, if_neg e2] at hpt
              exact absurd ⟨hpt.symm, e1⟩ c1
          · by_cases e2 : part b = part v
            · rw [if_neg e1, if_pos e2] at hpt
              exact absurd ⟨e2, hpt⟩ c2
            · rw [if_neg e1, if_neg e2] at hpt
              exact hpt
    · rw [if_neg hp] at hpt
      by_cases e1 : part t = part n
      · rw [if_pos ⟨rfl, e1⟩, if_pos rfl] at hne; exact absurd rfl hne
      · rw [if_neg e1] at hpt
        rw [if_neg (fun c => hp c.1.symm), if_pos ⟨rfl, hpt⟩, if_pos rfl]
    · rw [if_pos rfl] at hpt
      by_cases e1 : part t = part b
      · rw [if_pos ⟨rfl, e1⟩, if_pos rfl]
      · rw [if_neg e1] at hpt
        rw [if_neg (fun c => hp c.1.symm), if_pos ⟨rfl, hpt⟩, if_pos rfl] at hne
        exact absurd rfl hne
  · simp only [joinN]
    have lift : ∀ x y : Nat, nxt x y = -1 ∨ ∃ m : Nat, nxt x y = (m : Int) ∧ joinA adj u v m x = true := fun x y => by
      rcases h.nb' x y with e | ⟨m, e, hm⟩
      · exact Or.inl e
      · exact Or.inr ⟨m, e, joinA_iff.2 (Or.inl hm)⟩
    split
    · split
      · rename_i _ e; subst e
        exact Or.inr ⟨v, rfl, joinA_iff.2 (Or.inr (Or.inr ⟨rfl, rfl⟩))⟩
      · exact lift b u
    · split
      · split
        · rename_i _ _ e; subst e
          exact Or.inr ⟨u, rfl, joinA_iff.2 (Or.inr (Or.inl ⟨rfl, rfl⟩))⟩
        · exact lift b v
      · exact lift b t
  · simp only [joinN] at he
    simp only [joinP] at hpt
    by_cases c1 : part b = part u ∧ part t = part v
    · rw [if_pos c1] at he
      by_cases hbu : b = u
      · rw [if_pos hbu] at he; omega
      · rw [if_neg hbu] at he
        exact absurd (h.one b u c1.1 he) hbu
    · rw [if_neg c1] at he
      by_cases c2 : part b = part v ∧ part t = part u
      · rw [if_pos c2] at he
        by_cases hbv : b = v
        · rw [if_pos hbv] at he; omega
        · rw [if_neg hbv] at he
          exact absurd (h.one b v c2.1 he) hbv
      · rw [if_neg c2] at he
        refine h.one b t ?_ he
        by_cases e1 : part t = part v
        · by_cases e2 : part b = part v
          · rw [e1, e2]
          · rw [if_pos e1, if_neg e2] at hpt
            exact absurd ⟨hpt, e1⟩ c1
        · by_cases e2 : part b = part v
          · rw [if_neg e1, if_pos e2] at hpt
            exact absurd ⟨e2, hpt.symm⟩ c2
          · rw [if_neg e1, if_neg e2] at hpt
            exact hpt
  · simp only [joinP] at hpt
    simp only [joinN] at he ⊢
    rcases joinA_iff.1 hbn with h0 | ⟨rfl, rfl⟩ | ⟨rfl, rfl⟩
    · have hs := h.same b n h0
      rw [← hs]
      by_cases c1 : part b = part u ∧ part t = part v
      · rw [if_pos c1] at he ⊢
        by_cases hbu : b = u
        · rw [if_pos hbu] at he
          have : v = n := by omega
          rw [this, ← hs, hbu] at hp; exact absurd rfl hp
        · rw [if_neg hbu] at he
          by_cases hnu : n = u
          · rw [if_pos hnu]; intro e
            have : v = b := by omega
            rw [this, c1.1] at hp; exact hp rfl
          · rw [if_neg hnu]; exact h.excl b n u h0 c1.1.symm he
      · rw [if_neg c1] at he ⊢
        by_cases c2 : part b = part v ∧ part t = part u
        · rw [if_pos c2] at he ⊢
          by_cases hbv : b = v
          · rw [if_pos hbv] at he
            have : u = n := by omega
            rw [this, ← hs, hbv] at hp; exact absurd rfl hp
          · rw [if_neg hbv] at he
            by_cases hnv : n = v
            · rw [if_pos hnv]; intro e
              have : u = b := by omega
              rw [this, c2.1] at hp; exact hp rfl
            · rw [if_neg hnv]; exact h.excl b n v h0 c2.1.symm he
        · rw [if_neg c2] at he ⊢
          refine h.excl b n t h0 ?_ he
          by_cases e1 : part t = part v
          · by_cases e2 : part b = part v
            · rw [e1, e2]
            · rw [if_pos e1, if_neg e2] at hpt
              exact absurd ⟨hpt.symm, e1⟩ c1
          · by_cases e2 : part b = part v
            · rw [if_neg e1, if_pos e2] at hpt
              exact absurd ⟨e2, hpt⟩ c2
            · rw [if_neg e1, if_neg e2] at hpt
              exact hpt
    · rw [if_neg (fun c => hp c.1.symm)]
      by_cases e1 : part t = part n
      · rw [if_neg (fun c => hp (by rw [← e1, c.2]))]
        intro e
        exact hp (adjp e)
      · rw [if_neg (fun c => e1 c.2), if_neg (fun c => hp c.1)] at he
        exact absurd (adjp he).symm hp
    · by_cases e1 : part t = part b
      · rw [if_neg (fun c => hp c.1.symm), if_neg (fun c => hp (by rw [← e1, c.2]))] at he
        exact absurd (adjp he) hp
      · rw [if_neg (fun c => e1 c.2), if_neg (fun c => hp c.1)]
        intro e
        exact hp (adjp e).symm
/-- Where all is one part, it is a tree (of the brokers below nb). -/
def dom (nb : Nat) (nxt : Nat → Nat → Int) : Nat → Nat → Int := fun b t => if b = t ∨ ¬ b < nb then -1 else nxt b (if t < nb then t else 0)
theorem Fo.nx {nb : Nat} {part : Nat → Nat} {adj : Nat → Nat → Bool} {nxt : Nat → Nat → Int} (h : Fo nb part adj nxt) (h1 : ∀ a b, a < nb → b < nb → part a = part b) : Nx adj (dom nb nxt) := by
  refine ⟨h.sym, h.irr, fun t => by simp [dom], fun b n t hbn hne => ?_⟩
  obtain ⟨hb, hn⟩ := h.inn b n hbn
  have hbn' : b ≠ n := fun e => by subst e; rw [h.irr] at hbn; cases hbn
  have ht : (if t < nb then t else 0) < nb := by split <;> omega
  have hback := h.back b n (if t < nb then t else 0) hbn (h1 _ _ ht hb)
  simp only [dom] at hne ⊢
  by_cases hbt : b = t
  · subst hbt
    rw [if_pos hb] at hback
    rw [if_neg (by intro e; rcases e with e | e <;> omega), if_pos hb]
    exact hback (by rw [h.self]; omega)
  · rw [if_neg (by intro e; rcases e with e | e; exact hbt e; exact e hb)] at hne
    have := hback hne
    by_cases hnt : n = t
    · subst hnt
      rw [if_pos hn, h.self] at this
      omega
    · rw [if_neg (by intro e; rcases e with e | e; exact hnt e; exact e hn)]
      exact this
theorem Fo.rk {nb : Nat} {part : Nat → Nat} {adj : Nat → Nat → Bool} {nxt : Nat → Nat → Int} (h : Fo nb part adj nxt) (h1 : ∀ a b, a < nb → b < nb → part a = part b) : Rk adj (dom nb nxt) (behind nb (dom nb nxt)) := by
  have N := h.nx h1
  refine ⟨fun b n m hbn hmb hmn => ?_, fun b t => ?_⟩
  · obtain ⟨hb, hn⟩ := h.inn b n hbn
    unfold behind
    refine sm_lt (j := b) nb (fun t _ => ?_) hb ?_
    · by_cases e : dom nb nxt b t = (m : Int)
      · rw [if_pos e, if_pos (N.back b n t hbn (by rw [e]; omega))]
        exact Nat.le_refl _
      · rw [if_neg e]; omega
    · rw [N.self, if_neg (by omega), if_pos (N.back b n b hbn (by rw [N.self]; omega))]
      decide
  · simp only [dom]
    split
    · exact Or.inl rfl
    · exact h.nb' b _
/-- Where it leads, to the end. -/
structure Nz (nb : Nat) (adj : Nat → Nat → Bool) (nxt : Nat → Nat → Int) : Prop where
  inn : ∀ a b, adj a b = true → a < nb ∧ b < nb
  one : ∀ b t, b < nb → t < nb → nxt b t = -1 → b = t
  excl : ∀ b n t, t < nb → adj b n = true → nxt b t = (n : Int) → nxt n t ≠ (b : Int)
theorem Fo.nz {nb : Nat} {part : Nat → Nat} {adj : Nat → Nat → Bool} {nxt : Nat → Nat → Int} (h : Fo nb part adj nxt) (h1 : ∀ a b, a < nb → b < nb → part a = part b) : Nz nb adj (dom nb nxt) := by
  refine ⟨h.inn, fun b t hb ht he => ?_, fun b n t ht hbn he => ?_⟩
  · simp only [dom] at he
    by_cases hbt : b = t
    · exact hbt
    · rw [if_neg (by intro e; rcases e with e | e; exact hbt e; exact e hb), if_pos ht] at he
      exact h.one b t (h1 b t hb ht) he
  · obtain ⟨hb, hn⟩ := h.inn b n hbn
    simp only [dom] at he ⊢
    by_cases hbt : b = t
    · rw [if_pos (Or.inl hbt)] at he; omega
    · rw [if_neg (by intro e; rcases e with e | e; exact hbt e; exact e hb), if_pos ht] at he
      by_cases hnt : n = t
      · rw [if_pos (Or.inl hnt)]; omega
      · rw [if_neg (by intro e; rcases e with e | e; exact hnt e; exact e hn), if_pos ht]
        exact h.excl b n t hbn (h1 t b ht hb) he
/-- How many parts there are still. -/
def reps (nb : Nat) (part : Nat → Nat) : Nat := sm nb fun b => if part b = b then 1 else 0
theorem sm_congr {f g : Nat → Nat} : ∀ n, (∀ i, i < n → f i = g i) → sm n f = sm n g
  | 0, _ => rfl
  | n + 1, h => by simp only [sm]; rw [sm_congr n (fun i hi => h i (by omega)), h n (by omega)]
theorem joinP_pos {part : Nat → Nat} {u v x : Nat} (h : part x = part v) : joinP part u v x = part u := if_pos h
theorem joinP_neg {part : Nat → Nat} {u v x : Nat} (h : ¬ part x = part v) : joinP part u v x = part x := if_neg h
theorem joinP_rep {part : Nat → Nat} (hi : ∀ b, part (part b) = part b) (u v : Nat) (b : Nat) : joinP part u v (joinP part u v b) = joinP part u v b := by
  by_cases h : part b = part v
  · rw [joinP_pos h]
    by_cases h2 : part (part u) = part v
    · rw [joinP_pos h2]
    · rw [joinP_neg h2, hi]
  · rw [joinP_neg h, joinP_neg (by rw [hi]; exact h), hi]
theorem reps_join {nb : Nat} {part : Nat → Nat} (hi : ∀ b, part (part b) = part b) (hl : ∀ b, b < nb → part b < nb) {u v : Nat} (hv : v < nb) (hp : part u ≠ part v) : reps nb (joinP part u v) + 1 = reps nb part := by
  have e : reps nb part = sm nb fun b => (if joinP part u v b = b then 1 else 0) + (if b = part v then 1 else 0) := by
    refine sm_congr nb (fun b _ => ?_)
    by_cases h : part b = part v
    · rw [joinP_pos h]
      by_cases hb : b = part v
      · subst hb
        rw [hi, if_pos rfl, if_neg hp]
      · rw [if_neg (fun e => hb (by rw [← h, e])), if_neg hb, if_neg ?_]
        intro e
        have h2 : part (part u) = part v := by rw [e]; exact h
        rw [hi] at h2; exact hp h2
    · rw [joinP_neg h, if_neg (c := b = part v) (fun e => h (by rw [e, hi])), Nat.add_zero]
  rw [e, sm_add, sm_one, if_pos (hl v hv)]; rfl
theorem one_part {nb : Nat} {part : Nat → Nat} (hi : ∀ b, part (part b) = part b) (hl : ∀ b, b < nb → part b < nb) (h : reps nb part ≤ 1) : ∀ a b, a < nb → b < nb → part a = part b := by
  intro a b ha hb
  refine Classical.byContradiction fun hne => ?_
  have : sm nb (fun x => (if x = part a then 1 else 0) + (if x = part b then 1 else 0)) ≤ reps nb part := sm_le nb (fun x _ => by
    by_cases h1 : x = part a
    · rw [if_pos h1, if_neg (by rw [h1]; exact hne), if_pos (by rw [h1, hi])]; decide
    · by_cases h2 : x = part b
      · rw [if_neg h1, if_pos h2, if_pos (by rw [h2, hi])]; decide
      · rw [if_neg h1, if_neg h2]; omega)
  rw [sm_add, sm_one, sm_one, if_pos (hl a ha), if_pos (hl b hb)] at this
  omega
theorem reps_init (nb : Nat) : reps nb (fun b => b) = nb := by
  unfold reps
  simp only [if_true]
  rw [sm_const]; omega
end Go.Proofs.YtecnfgikbmcgoaaGreat
