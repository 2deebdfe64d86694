import Derived.Test.YtecnfgikbmcgoaaGreatG3
import Derived.Test.YtecnfgikbmcgoaaGreatG8
import Derived.Test.YtecnfgikbmcgoaaGreatG22
namespace Go.Proofs.YtecnfgikbmcgoaaGreat
open Go.Maps (Keyed)
open Go.ChangeMaps (setBlock)

/-- A region whose order is open, its places in whatever slots. -/
theorem region_D {P : Program} {ops : Array Oper} {Q : Exit → Act → World → Prop} {id : Nat} {a0 : Act} {w0 : World} (hm : P.follows .mixedOrders = true) (last : Nat) (hs : shapeB ops last = true) (dst : Nat → Nat) (hinj : ∀ i, i < last → ∀ j, j < last → dst i = dst j → i = j)
    (R : Nat → Value → World → Prop) (E : Act → Prop) (W : World → Prop) (Good : Nat → World → World → Prop)
    (hE : ∀ a i x, i < last → E a → E (a.put (some (dst i)) x)) (hsize : ∀ a, E a → ∀ i, i < last → dst i < a.tmps.size)
    (hW : ∀ i w w', W w → Good i w w' → W w') (hR : ∀ i j x w w', i ≠ j → R j x w → Good i w w' → R j x w')
    (hfront : ∀ (i : Nat) (o : Oper) (a : Act) (w : World), ops[i]? = some o → i < last → E a → W w → (∀ e ∈ o.after, Region.binds .any e = true → R e.on (a.eval (.tmp (dst e.on))) w) → ∀ K : Act → World → Prop, (∀ x w', Good i w w' → R i x w' → K (a.put (some (dst i)) x) w') → o.wp P a w K Q)
    (hlast : ∀ (o : Oper) (a : Act) (w : World), ops[last]? = some o → E a → W w → (∀ j, j < last → R j (a.eval (.tmp (dst j))) w) → ∀ K : Act → World → Prop, (∀ a' w', Q .normal a' w' → K a' w') → o.wp P a w K Q)
    (h0 : E a0) (hw0 : W w0.drew) : (Code.region id ops true).wp P Q a0 w0 :=
  region_R hm last (shape_size hs) dst (fun i j hi hj h => hinj i hi j hj h) (fun _ _ ho => (shape_at hs ho).1) (fun _ _ ho => (shape_at hs ho).2) (shape_all hs) R E W Good hE hsize hW hR hfront hlast h0 hw0
theorem setBlock_self {w : World} {B : Nat} {o : Obj} (h : w.heap[B]? = some o) : setBlock w B o = w := by
  have hl := (Array.getElem?_eq_some_iff.1 h).1
  have : w.heap.setIfInBounds B o = w.heap := by
    apply Array.ext_getElem?
    intro i
    by_cases hi : B = i
    · subst hi; rw [Array.getElem?_setIfInBounds_self, if_pos hl, h]
    · rw [Array.getElem?_setIfInBounds_ne hi]
  unfold setBlock
  rw [this]
section
variable {P : Program} {kt et mt : TypeId} {w : World} {B : Nat} {m : List (Value × Value)} {es : Array MapEntry} {clock : Nat}
theorem Mp.spl (h : Mp P kt w B m es clock) {k v : Value} (hv : (k, v) ∈ m) : ∃ (l1 : List MapEntry) (e : MapEntry) (l2 : List MapEntry), es.toList = l1 ++ e :: l2 ∧ e.key = k ∧ e.val = v := by
  rw [← h.ent] at hv
  obtain ⟨e, he, hee⟩ := List.mem_map.1 hv
  injection hee with h1 h2
  obtain ⟨l1, l2, hl⟩ := List.append_of_mem he
  exact ⟨l1, e, l2, hl, h1, h2⟩
theorem Mp.ent_of (h : Mp P kt w B m es clock) {l1 l2 : List MapEntry} {e : MapEntry} (hl : es.toList = l1 ++ e :: l2) : m = l1.map (fun e => (e.key, e.val)) ++ (e.key, e.val) :: l2.map (fun e => (e.key, e.val)) := by
  rw [← h.ent, hl]; simp
/-- An entry that is there, for an assignment that reads it too. -/
theorem Mp.entry (K : Keyed P kt) (ht : P.underlying mt = some (.map kt et)) (h : Mp P kt w B m es clock) {l1 l2 : List MapEntry} {e : MapEntry} (hl : es.toList = l1 ++ e :: l2) {l : Lit} (hk : keyOf P kt e.key = some l) :
    (Instr.mapEntry mt (.map (some B)) e.key).run P w = .ok (.tuple #[e.val, goInt e.born]) w := by
  have hu : (underlying mt).run P w = .ok (.map kt et) w := by simp [underlying, ht]
  have hg : (getObj B).run P w = .ok (.map es clock) w := by simp [getObj, Sem.run, h.blk]
  have hc := K.check w false hk
  have hem : e ∈ es.toList := by rw [hl]; simp
  rcases K.find w hk es.toList h.key with ⟨_, hno⟩ | ⟨j, e', hf, hj, hek⟩
  · exact absurd rfl (hno e hem)
  · have he' : e' = e := by
      have hd := h.nod
      rw [← h.ent, List.map_map] at hd
      exact nod_inj hd (List.mem_of_getElem? hj) hem hek
    subst he'
    have hj' : es[j]? = some e' := by rw [← Array.getElem?_toList]; exact hj
    have hmod : (es.modify j fun x => { x with key := e'.key }) = es := by
      apply Array.ext_getElem?
      intro i
      rw [Array.getElem?_modify]
      split
      · rename_i hji; subst hji; rw [hj']; rfl
      · rfl
    unfold Instr.mapEntry
    simp only [Sem.run_bind, hu, Result.andThen_ok, hg, hc, hf, hj', Option.map_some, Option.getD_some, K.stays w hk, hmod, run_setMap h.blk, setBlock_self h.blk, Sem.run_pure]
/-- It gets another value. -/
theorem Mp.entry_put (h : Mp P kt w B m es clock) {l1 l2 : List MapEntry} {e : MapEntry} (hl : es.toList = l1 ++ e :: l2) (v : Value) :
    ∃ es', (Instr.entryStore mt (.map (some B)) (goInt e.born) v).run P w = .ok () (setBlock w B (.map es' clock)) ∧ Mp P kt (setBlock w B (.map es' clock)) B (l1.map (fun e => (e.key, e.val)) ++ (e.key, v) :: l2.map (fun e => (e.key, e.val))) es' clock := by
  have hg : (getObj B).run P w = .ok (.map es clock) w := by simp [getObj, Sem.run, h.blk]
  have hm := h.ent_of hl
  have hbn := h.bnd
  rw [hl] at hbn
  have hne : ∀ x ∈ l1, ¬ x.born = e.born := by
    intro x hx ee
    simp only [List.map_append, List.map_cons] at hbn
    exact (List.nodup_append.1 hbn).2.2 _ (List.mem_map.2 ⟨x, hx, rfl⟩) _ (by simp) ee
  have hfi : es.findIdx? (fun x => (x.born : Int) == (e.born : Int)) = some l1.length := by
    have : es = (l1 ++ e :: l2).toArray := by rw [← hl]
    rw [this, List.findIdx?_toArray, List.findIdx?_append]
    have h1 : l1.findIdx? (fun x => (x.born : Int) == (e.born : Int)) = none := by
      rw [List.findIdx?_eq_none_iff]
      intro x hx
      have := hne x hx
      simp; omega
    rw [h1, List.findIdx?_cons]
    simp
  have hl' : (es.modify l1.length fun x => { x with val := v }).toList = l1 ++ { e with val := v } :: l2 := by
    rw [Array.toList_modify, hl, modify_at]
  refine ⟨es.modify l1.length fun x => { x with val := v }, ?_, ?_⟩
  · unfold Instr.entryStore
    simp only [Sem.run_bind, hg, Result.andThen_ok, goInt, asInt, asIntOf, Sem.run_pure, hfi, run_setMap h.blk]
  · refine ⟨setBlock_get h.blk, by rw [hl']; simp, fun x hx => ?_, ?_, fun x hx => ?_, ?_⟩
    · rw [hl'] at hx
      rcases List.mem_append.1 hx with hx | hx
      · exact h.key x (by rw [hl]; simp [hx])
      · rcases List.mem_cons.1 hx with rfl | hx
        · exact h.key e (by rw [hl]; simp)
        · exact h.key x (by rw [hl]; simp [hx])
    · have := h.nod
      rw [hm] at this
      simpa using this
    · rw [hl'] at hx
      rcases List.mem_append.1 hx with hx | hx
      · exact h.brn x (by rw [hl]; simp [hx])
      · rcases List.mem_cons.1 hx with rfl | hx
        · exact h.brn e (by rw [hl]; simp)
        · exact h.brn x (by rw [hl]; simp [hx])
    · rw [hl']
      simpa using hbn
end
end Go.Proofs.YtecnfgikbmcgoaaGreat
namespace Go.Proofs.YtecnfgikbmcgoaaGreat
open Go.RowKit
open Go.Maps (Keyed)
open Go.ChangeMaps (setBlock)

theorem Tryz.infoMsg : (Tryz.prog.info? 172).map (fun i => (i.zero, i.size, i.bytes)) = some (some (.agg #[.slice none 0 0, .int .i64 0, .int .i64 0, .slice none 0 0]), 4, 64) := by kernel_rfl
/-! ### The places of send's drawn region -/
structure SnC where
  TB : Nat
  LB : Nat
  Bm : Nat
  Bl : Nat
  a : Int
  b : Int
  m0 : Value
  m1 : Value
  m2 : Value
  m3 : Value
  v : Value
  e : MapEntry
  n : Nat
  xs : List Value
  Rv : Nat → Prop
  w1 : World
def SnC.news (c : SnC) : List Value := [c.m0, c.m1, c.m2, c.m3]
def Rsn (c : SnC) (j : Nat) (x : Value) (w : World) : Prop :=
  match j with
  | 0 => x = .pointer (some ⟨c.TB, 0, none⟩)
  | 1 => x = .pointer (some ⟨c.TB, 0, none⟩)
  | 2 => x = .pointer (some ⟨c.TB, 2, none⟩)
  | 3 => x = .map (some c.LB)
  | 4 => x = .agg #[.int .i64 c.a, .int .i64 c.b]
  | 5 => x = .agg #[c.m0, c.m1, c.m2, c.m3]
  | 6 => ∃ g, x = .slice (some ⟨g, 0, none⟩) 1 1 ∧ c.w1.heap.size ≤ g ∧ w.heap[g]? = some (.cells #[c.m0, c.m1, c.m2, c.m3] 172 (0, 0))
  | 7 => x = .tuple #[c.v, goInt c.e.born]
  | 8 => x = c.v ∧ Qr w 172 4 c.Rv c.v c.n c.xs
  | 9 => (∃ a m cap, x = .slice a m cap) ∧ Qr w 172 4 (fun k => x.ownBlock = some k) x (c.n + 1) (c.xs ++ c.news) ∧ (x.ownBlock = c.v.ownBlock ∨ ∃ k, c.w1.heap.size ≤ k ∧ x.ownBlock = some k)
  | 10 => x = goInt c.e.born
  | _ => True
structure Gsn (c : SnC) (i : Nat) (wa wb : World) : Prop where
  g : wa.grownBy wb c.v.ownBlock
  q : Qr wa 172 4 c.Rv c.v c.n c.xs → Qr wb 172 4 c.Rv c.v c.n c.xs
  r : i ≠ 9 → Gr wa wb
theorem Gsn.gr {c : SnC} {i : Nat} {wa wb : World} (g : Gr wa wb) : Gsn c i wa wb :=
  ⟨⟨g.os, g.tape, g.output, g.size, fun k hk _ => g.block k hk⟩, fun h => h.kept fun k hk hR => ⟨g.block k hk, hR⟩, fun _ => g⟩
def Wsn (c : SnC) (w : World) : Prop := c.w1.grownBy w c.v.ownBlock ∧ Qr w 172 4 c.Rv c.v c.n c.xs
theorem Rsn.keep {c : SnC} (hv : ∀ k, c.v.ownBlock = some k → k < c.w1.heap.size) (i j : Nat) (x : Value) (wa wb : World) (hij : i ≠ j) (h : Rsn c j x wa) (g : Gsn c i wa wb) : Rsn c j x wb := by
  match j, h, hij with
  | 0, h, _ => exact h
  | 1, h, _ => exact h
  | 2, h, _ => exact h
  | 3, h, _ => exact h
  | 4, h, _ => exact h
  | 5, h, _ => exact h
  | 6, h, _ =>
    obtain ⟨q, h1, h2, h3⟩ := h
    exact ⟨q, h1, h2, (g.g.block q (blk_lt h3) (fun e => by have := hv q e.symm; omega)).trans h3⟩
  | 7, h, _ => exact h
  | 8, h, _ => exact ⟨h.1, g.q h.2⟩
  | 9, h, hij => exact ⟨h.1, h.2.1.kept fun k hk hR => ⟨(g.r hij).block k hk, hR⟩, h.2.2⟩
  | 10, h, _ => exact h
  | _ + 11, _, _ => trivial
def dsn (i : Nat) : Nat := [12, 13, 14, 15, 16, 18, 19, 20, 17, 21, 22].getD i 0
theorem dsn_inj : ∀ i, i < 11 → ∀ j, j < 11 → dsn i = dsn j → i = j := by decide
structure Esn (c : SnC) (a : Act) : Prop where
  sz : 23 ≤ a.tmps.size
  df : a.defers = []
  t0 : a.eval (.tmp 0) = .pointer (some ⟨c.TB, 0, none⟩)
  t7 : a.eval (.tmp 7) = .pointer (some ⟨c.Bm, 0, none⟩)
  t8 : a.eval (.tmp 8) = .pointer (some ⟨c.Bl, 0, none⟩)
theorem dsn_ge : ∀ i, i < 11 → 12 ≤ dsn i ∧ dsn i < 23 := by decide
theorem Esn.put {c : SnC} (a : Act) (i : Nat) (x : Value) (hi : i < 11) (h : Esn c a) : Esn c (a.put (some (dsn i)) x) := by
  have hd := dsn_ge i hi
  refine ⟨by simpa [Act.put] using h.sz, h.df, ?_, ?_, ?_⟩ <;> rw [eval_put_other (by omega)]
  · exact h.t0
  · exact h.t7
  · exact h.t8
set_option maxRecDepth 100000 in
set_option maxHeartbeats 4000000 in
theorem send_any (T : Tc) (r : Nat → Rl) (w : World) (Xs : Nat → List Hm) (qs : Nat → Nat → List Mm) (cls : List Cl) (a b : Nat) (x : Mm) (m0 m1 m2 m3 : Value) (hx : mcells x = [m0, m1, m2, m3])
    (h : Tm T r w Xs qs cls) (hab : T.adj a b = true) (hok : MmOk r w x) (hn : (qs a b).length < 1099511627776) :
    Calls Tryz.prog 80 #[.pointer (some ⟨T.TB, 0, none⟩), .int .i64 a, .int .i64 b, .agg #[m0, m1, m2, m3]] w fun e w' => e = .returned (.tuple #[]) ∧ ∃ r', Tm T r' w' Xs (pushq qs a b [x]) cls ∧ Fr r r' w w' := by
  obtain ⟨i0, hi, hz0, hz1, hz2⟩ := info_parts Tryz.infoMsg
  have hone : ∀ u ∈ [m0, m1, m2, m3], u.oneCell' = true := by
    rw [← hx]
    intro u hu
    unfold mcells at hu
    split at hu <;> simp at hu <;> rcases hu with rfl | rfl | rfl | rfl <;> rfl
  have o0 := hone m0 (by simp)
  have o1 := hone m1 (by simp)
  have o2 := hone m2 (by simp)
  have o3 := hone m3 (by simp)
  have hlt := h.b.adj a b hab
  have hnb := h.b.nb8
  have Hh := Hid.mk' h
  have HX := Hid.mk' hx
  have HO := Hid.mk' hok
  have HONE := Hid.mk' hone
  clear h hx hok hone
  go_enter Tryz.func80, Tryz.ntmps80
  go_wp2_with fail
  have G1 : Gr w ((w.alloc (.cells #[m0, m1, m2, m3] 172)).alloc (.cells #[.int .i64 a, .int .i64 b] 81)) := ((Gr.refl w).alloc _).alloc _
  have HA2 := blk_gr ((Gr.refl _).alloc (.cells #[.int .i64 a, .int .i64 b] 81)) (heap_alloc_new w (.cells #[m0, m1, m2, m3] 172))
  have HB2 := heap_alloc_new (w.alloc (.cells #[m0, m1, m2, m3] 172)) (.cells #[.int .i64 a, .int .i64 b] 81)
  have hsz : (w.alloc (.cells #[m0, m1, m2, m3] 172)).heap.size = w.heap.size + 1 := by simp
  rw [hsz] at HB2
  clear hsz
  generalize ((w.alloc (.cells #[m0, m1, m2, m3] 172)).alloc (.cells #[.int .i64 a, .int .i64 b] 81)) = W1 at *
  have hT := Hh.out.gr G1
  obtain ⟨m, es, clock, hmp, _, hall, hev⟩ := hT.l.lk
  obtain ⟨v, hv⟩ := hev a b hab
  have hQ : Qr W1 172 4 (fun k => r k = .qu a b) v (qs a b).length ((qs a b).flatMap mcells) := by
    obtain ⟨a', b', e, _, hQ⟩ := hall _ v hv
    have := pk_inj e
    simp only [Prod.mk.injEq, Int.natCast_inj] at this
    rw [this.1, this.2]; exact hQ
  obtain ⟨l1, e, l2, hl, hek, hev'⟩ := hmp.spl hv
  subst hev'
  obtain ⟨lk, hlk⟩ := keyE ((a : Int), (b : Int)) ⟨by omega, by omega⟩ ⟨by omega, by omega⟩
  have hlk' : keyOf Tryz.prog 81 e.key = some lk := by rw [hek]; exact hlk
  have hown : ∀ k, e.val.ownBlock = some k → r k = .qu a b ∧ k < W1.heap.size := fun k hk => hQ.own k hk
  have hTB : T.TB < W1.heap.size := hT.tlt
  have nTB : some T.TB ≠ e.val.ownBlock := fun ee => by have := (hown _ ee.symm).1; rw [hT.b.rT] at this; cases this
  have nLB : some T.LB ≠ e.val.ownBlock := fun ee => by have := (hown _ ee.symm).1; rw [hT.l.lm] at this; cases this
  have nBm : some w.heap.size ≠ e.val.ownBlock := fun ee => by have := (hown _ ee.symm).1; rw [Hh.out.b.top _ (Nat.le_refl _)] at this; cases this
  have nBl : some (w.heap.size + 1) ≠ e.val.ownBlock := fun ee => by have := (hown _ ee.symm).1; rw [Hh.out.b.top _ (Nat.le_succ _)] at this; cases this
  have hc2 := hT.b.c2
  refine region_D rfl 11 (by rfl) dsn dsn_inj
    (Rsn ⟨T.TB, T.LB, w.heap.size, w.heap.size + 1, a, b, m0, m1, m2, m3, e.val, e, (qs a b).length, (qs a b).flatMap mcells, fun k => r k = .qu a b, W1⟩)
    (Esn ⟨T.TB, T.LB, w.heap.size, w.heap.size + 1, a, b, m0, m1, m2, m3, e.val, e, (qs a b).length, (qs a b).flatMap mcells, fun k => r k = .qu a b, W1⟩)
    (Wsn ⟨T.TB, T.LB, w.heap.size, w.heap.size + 1, a, b, m0, m1, m2, m3, e.val, e, (qs a b).length, (qs a b).flatMap mcells, fun k => r k = .qu a b, W1⟩)
    (Gsn ⟨T.TB, T.LB, w.heap.size, w.heap.size + 1, a, b, m0, m1, m2, m3, e.val, e, (qs a b).length, (qs a b).flatMap mcells, fun k => r k = .qu a b, W1⟩)
    (fun a i x hi h => Esn.put a i x hi h) (fun a h i hi => by have := h.sz; have := dsn_ge i hi; omega) (fun i wa wb h g => ⟨h.1.trans g.g, g.q h.2⟩) (fun i j x wa wb hij h g => Rsn.keep (fun k hk => (hown k hk).2) i j x wa wb hij h g) ?front ?last ?e0 ⟨⟨rfl, rfl, rfl, Nat.le_refl _, fun _ _ _ => rfl⟩, hQ⟩
  case e0 => exact ⟨by simp, rfl, rfl, rfl, rfl⟩
  case front =>
    intro i o a' wr ho hi' hE hW hd K hK
    have gW := hW.1
    have c2 : wr.cell? ⟨T.TB, 2, none⟩ = some (.map (some T.LB)) := (gW.cell_far ⟨T.TB, 2, none⟩ hTB nTB).trans hc2
    have hA : wr.heap[w.heap.size]? = some (.cells #[m0, m1, m2, m3] 172 (0, 0)) := (gW.block _ (blk_lt HA2) nBm).trans HA2
    have hB : wr.heap[w.heap.size + 1]? = some (.cells #[.int .i64 a, .int .i64 b] 81 (0, 0)) := (gW.block _ (blk_lt HB2) nBl).trans HB2
    have hM : Mp Tryz.prog 81 wr T.LB m es clock := hmp.kept (gW.block _ hmp.lt nLB)
    match i, ho, hi', hd, hK with
    | 0, ho, _, hd, hK =>
      obtain rfl := Option.some.inj ho
      have e0 := (evn a' 0).symm.trans hE.t0
      unfold Oper.wp
      go_simp
      exact hK _ _ (Gsn.gr (Gr.refl _)) rfl
    | 1, ho, _, hd, hK =>
      obtain rfl := Option.some.inj ho
      have e0 : a'.eval (.tmp 12) = .pointer (some ⟨T.TB, 0, none⟩) := hd ⟨0, .data⟩ (by simp) rfl
      rw [evn] at e0
      unfold Oper.wp
      go_simp
      exact hK _ _ (Gsn.gr (Gr.refl _)) rfl
    | 2, ho, _, hd, hK =>
      obtain rfl := Option.some.inj ho
      have e0 : a'.eval (.tmp 13) = .pointer (some ⟨T.TB, 0, none⟩) := hd ⟨1, .data⟩ (by simp) rfl
      rw [evn] at e0
      unfold Oper.wp
      go_simp
      exact hK _ _ (Gsn.gr (Gr.refl _)) rfl
    | 3, ho, _, hd, hK =>
      obtain rfl := Option.some.inj ho
      have e0 : a'.eval (.tmp 14) = .pointer (some ⟨T.TB, 2, none⟩) := hd ⟨2, .data⟩ (by simp) rfl
      rw [evn] at e0
      unfold Oper.wp
      go_simp
      exact hK _ _ (Gsn.gr (Gr.refl _)) rfl
    | 4, ho, _, hd, hK =>
      obtain rfl := Option.some.inj ho
      have e0 := (evn a' 8).symm.trans hE.t8
      have d0 : wr.cell? ⟨w.heap.size + 1, 0, none⟩ = some (.int .i64 a) := by rw [cell_of_row _ _ _ _ _ _ hB]; rfl
      have d1 : wr.cell? ⟨w.heap.size + 1, 1, none⟩ = some (.int .i64 b) := by rw [cell_of_row _ _ _ _ _ _ hB]; rfl
      unfold Oper.wp
      go_simp
      exact hK _ _ (Gsn.gr (Gr.refl _)) rfl
    | 5, ho, _, hd, hK =>
      obtain rfl := Option.some.inj ho
      have e0 := (evn a' 7).symm.trans hE.t7
      have d0 : wr.cell? ⟨w.heap.size, 0, none⟩ = some m0 := by rw [cell_of_row _ _ _ _ _ _ hA]; rfl
      have d1 : wr.cell? ⟨w.heap.size, 1, none⟩ = some m1 := by rw [cell_of_row _ _ _ _ _ _ hA]; rfl
      have d2 : wr.cell? ⟨w.heap.size, 2, none⟩ = some m2 := by rw [cell_of_row _ _ _ _ _ _ hA]; rfl
      have d3 : wr.cell? ⟨w.heap.size, 3, none⟩ = some m3 := by rw [cell_of_row _ _ _ _ _ _ hA]; rfl
      unfold Oper.wp
      go_simp
      exact hK _ _ (Gsn.gr (Gr.refl _)) rfl
    | 6, ho, _, hd, hK =>
      obtain rfl := Option.some.inj ho
      have e0 : a'.eval (.tmp 18) = .agg #[m0, m1, m2, m3] := hd ⟨5, .data⟩ (by simp) rfl
      rw [evn] at e0
      unfold Oper.wp
      go_simp
      exact hK _ _ (Gsn.gr ((Gr.refl _).alloc _)) ⟨_, rfl, gW.size, heap_alloc_new _ _⟩
    | 7, ho, _, hd, hK =>
      obtain rfl := Option.some.inj ho
      have e0 : a'.eval (.tmp 15) = .map (some T.LB) := hd ⟨3, .data⟩ (by simp) rfl
      have e1 : a'.eval (.tmp 16) = .agg #[.int .i64 a, .int .i64 b] := hd ⟨4, .data⟩ (by simp) rfl
      rw [evn] at e0 e1
      have hme := Mp.entry Tryz.keyedE Tryz.underlying117 hM hl hlk'
      rw [hek] at hme
      unfold pk at hme
      unfold Oper.wp
      go_simp
      exact hK _ _ (Gsn.gr (Gr.refl _)) rfl
    | 8, ho, _, hd, hK =>
      obtain rfl := Option.some.inj ho
      have e0 : a'.eval (.tmp 20) = .tuple #[e.val, goInt e.born] := hd ⟨7, .data⟩ (by simp) rfl
      rw [evn] at e0
      unfold Oper.wp
      go_simp
      exact hK _ _ (Gsn.gr (Gr.refl _)) ⟨rfl, hW.2⟩
    | 9, ho, _, hd, hK =>
      obtain rfl := Option.some.inj ho
      obtain ⟨e0, hq0⟩ : Rsn _ 8 (a'.eval (.tmp 17)) wr := hd ⟨8, .data⟩ (by simp) rfl
      obtain ⟨g, e1, hg1, hg2⟩ : Rsn _ 6 (a'.eval (.tmp 19)) wr := hd ⟨6, .data⟩ (by simp) rfl
      refine wp_append_q wr (.tmp 17) (.tmp 19) 129 rfl 172 i0 _ 4 64 Tryz.underlying129 hi hz0 hz1 hz2 rfl (fun k => r k = .qu a b) e.val (qs a b).length ((qs a b).flatMap mcells) e0 hW.2 ⟨g, 0, none⟩ 1 1 [m0, m1, m2, m3] e1 (by omega) rfl (World.news_of_block hg2) HONE.out (by unfold maxLen; omega) (by omega) ?_
      intro v' w' k1 k2 k3 k4
      obtain ⟨sa, sc, hsv⟩ := k1.shape
      refine hK _ _ ⟨k2, fun _ => k4, fun h => absurd rfl h⟩ ⟨⟨sa, _, sc, hsv⟩, k1, ?_⟩
      rcases k3 with k3 | k3
      · exact Or.inl k3
      · exact Or.inr ⟨_, gW.size, k3⟩
    | 10, ho, _, hd, hK =>
      obtain rfl := Option.some.inj ho
      have e0 : a'.eval (.tmp 20) = .tuple #[e.val, goInt e.born] := hd ⟨7, .data⟩ (by simp) rfl
      rw [evn] at e0
      unfold Oper.wp
      go_simp
      exact hK _ _ (Gsn.gr (Gr.refl _)) rfl
    | k + 11, _, hi', _, _ => exact absurd hi' (by omega)
  case last =>
    intro o a' wr ho hE hW hd K hK
    obtain rfl := Option.some.inj ho
    have gW := hW.1
    have e0 : a'.eval (.tmp 15) = .map (some T.LB) := hd 3 (by omega)
    have e1 : a'.eval (.tmp 22) = goInt e.born := hd 10 (by omega)
    obtain ⟨⟨sa, sn, sc, hsv⟩, k1, k3⟩ : Rsn _ 9 (a'.eval (.tmp 21)) wr := hd 9 (by omega)
    have hM : Mp Tryz.prog 81 wr T.LB m es clock := hmp.kept (gW.block _ hmp.lt nLB)
    obtain ⟨es', hes, hM'⟩ := Mp.entry_put (mt := 117) hM hl (a'.eval (.tmp 21))
    rw [hek] at hM'
    have hmm := hmp.ent_of hl
    rw [hek] at hmm
    have hxx : [m0, m1, m2, m3] = mcells x := HX.out.symm
    have k1' : Qr wr 172 4 (fun k => (a'.eval (.tmp 21)).ownBlock = some k) (a'.eval (.tmp 21)) ((qs a b).length + 1) ((qs a b).flatMap mcells ++ mcells x) := by rw [← hxx]; exact k1
    have FIN := Tm.send hT x (HO.out.keep G1.size (fun k hk _ => G1.block k hk) (fun _ _ => rfl)) (by rw [← hmm]; exact hmp) (by rw [← hmm]; exact hall) (by rw [← hmm]; exact hev) hQ hab gW k1' k3 hM'
    rw [evn] at e0 e1
    rw [hsv] at hes
    unfold goInt at hes
    rw [evn] at hsv
    have hdf := hE.df
    clear hd k1 k3 k1' hM'
    unfold Oper.wp
    go_simp
    refine hK _ _ ?_
    go_wp2_with fail
    obtain ⟨r', h1, h2⟩ := FIN
    exact bodyPost_end (v := .tuple #[]) (by simp [results, Tryz.results80, go_sem]) hdf ⟨rfl, r', h1, (Fr.gr G1).trans h2⟩
end Go.Proofs.YtecnfgikbmcgoaaGreat
