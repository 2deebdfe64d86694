import Derived.Test.YtecnfgikbmcgoaaGreatG17
import Derived.Test.YtecnfgikbmcgoaaGreatG18
namespace Go.Proofs.YtecnfgikbmcgoaaGreat
open Go.RowKit
open Go.Maps (Keyed)
open Go.ChangeMaps (setBlock)

/-- What a block is to a tree. -/
inductive Rl where
  | no
  | fx
  | hm (b : Nat)
  | cm
  | lm
  | qu (a b : Nat)
  | cl (c : Int)
  | ch (c : Int)
/-- What stays of a tree: where its parts lie. -/
structure Tc where
  nb : Nat
  adj : Nat → Nat → Bool
  TB : Nat
  HB : Nat
  hcap : Nat
  MB : Nat → Nat
  CB : Nat
  LB : Nat
  ml : Int
/-- What a call on a tree leaves alone: all but the tree's own blocks that turn. -/
structure Fr (role role' : Nat → Rl) (w w' : World) : Prop where
  os : w'.os = w.os
  tape : w'.tape = w.tape
  output : w'.output = w.output
  size : w.heap.size ≤ w'.heap.size
  keep : ∀ k, k < w.heap.size → (role k = .no ∨ role k = .fx) → w'.heap[k]? = w.heap[k]?
  same : ∀ k, k < w.heap.size → role' k = role k
theorem Fr.refl (role : Nat → Rl) (w : World) : Fr role role w w := ⟨rfl, rfl, rfl, Nat.le_refl _, fun _ _ _ => rfl, fun _ _ => rfl⟩
theorem Fr.trans {r r1 r2 : Nat → Rl} {w w1 w2 : World} (h : Fr r r1 w w1) (k : Fr r1 r2 w1 w2) : Fr r r2 w w2 :=
  ⟨k.os.trans h.os, k.tape.trans h.tape, k.output.trans h.output, Nat.le_trans h.size k.size, fun i hi hr => (k.keep i (Nat.lt_of_lt_of_le hi h.size) (by rw [h.same i hi]; exact hr)).trans (h.keep i hi hr), fun i hi => (k.same i (Nat.lt_of_lt_of_le hi h.size)).trans (h.same i hi)⟩
theorem Fr.gr {r : Nat → Rl} {w w' : World} (g : Gr w w') : Fr r r w w' := ⟨g.os, g.tape, g.output, g.size, fun k hk _ => g.block k hk, fun _ _ => rfl⟩
theorem Fr.cell {r r' : Nat → Rl} {w w' : World} (h : Fr r r' w w') {p : Addr} (hp : p.block < w.heap.size) (hr : r p.block = .no ∨ r p.block = .fx) : w'.cell? p = w.cell? p := World.cell?_of_block (h.keep _ hp hr)
theorem cell_blk {w w' : World} {b : Nat} (h : w'.heap[b]? = w.heap[b]?) (o : Nat) : w'.cell? ⟨b, o, none⟩ = w.cell? ⟨b, o, none⟩ := World.cell?_of_block (a := ⟨b, o, none⟩) h
theorem WantsAt.blk {w w' : World} {b off : Nat} {l : List Wnt} (h : WantsAt w b off l) (hb : w'.heap[b]? = w.heap[b]?) : WantsAt w' b off l := fun i hi => by
  obtain ⟨h1, h2, h3, h4, h5⟩ := h i hi
  simp only [cell_blk hb]
  exact ⟨h1, h2, h3, h4, h5⟩
theorem AttrsAt.blk {w w' : World} {b off : Nat} {l : List Atr} (h : AttrsAt w b off l) (hb : w'.heap[b]? = w.heap[b]?) : AttrsAt w' b off l := fun i hi => by
  obtain ⟨h1, h2, h3, h4⟩ := h i hi
  simp only [cell_blk hb]
  exact ⟨h1, h2, h3, h4⟩
/-- A filter of the tree's own. -/
structure FiR (role : Nat → Rl) (w : World) (ad : Option Addr) (l : List Wnt) : Prop where
  m : FiM w ad l
  r : ∃ b off, ad = some ⟨b, off, none⟩ ∧ role b = .fx
theorem FiR.keep {r r' : Nat → Rl} {w w' : World} {ad : Option Addr} {l : List Wnt} (h : FiR r w ad l) (hs : w.heap.size ≤ w'.heap.size) (hk : ∀ k, k < w.heap.size → r k = .fx → w'.heap[k]? = w.heap[k]?) (hr : ∀ k, k < w.heap.size → r' k = r k) : FiR r' w' ad l := by
  obtain ⟨⟨⟨b, off, h1, h2, h3⟩, hwf, hok⟩, b', off', h4, h5⟩ := h
  have e := h1.symm.trans h4
  injection e with e
  injection e with e1 e2
  subst e1
  refine ⟨⟨⟨b, off, h1, Nat.lt_of_lt_of_le h2 hs, h3.blk (hk b h2 h5)⟩, hwf, hok⟩, b, off, h1, (hr b h2).trans h5⟩
/-- An event in memory, and it is one. -/
structure EvM (w : World) (ad : Option Addr) (l : List Atr) : Prop where
  at' : ∃ b off, ad = some ⟨b, off, none⟩ ∧ b < w.heap.size ∧ AttrsAt w b off l
  wf : ∀ x ∈ l, Atr.Wf x
  ok : evOk l = true
theorem EvM.gr {w w' : World} {ad : Option Addr} {l : List Atr} (h : EvM w ad l) (g : Gr w w') : EvM w' ad l := by
  obtain ⟨b, off, h1, h2, h3⟩ := h.at'
  exact ⟨⟨b, off, h1, g.lt h2, h3.gr g h2⟩, h.wf, h.ok⟩
structure EvR (role : Nat → Rl) (w : World) (ad : Option Addr) (l : List Atr) : Prop where
  m : EvM w ad l
  r : ∃ b off, ad = some ⟨b, off, none⟩ ∧ role b = .fx
theorem EvR.keep {r r' : Nat → Rl} {w w' : World} {ad : Option Addr} {l : List Atr} (h : EvR r w ad l) (hs : w.heap.size ≤ w'.heap.size) (hk : ∀ k, k < w.heap.size → r k = .fx → w'.heap[k]? = w.heap[k]?) (hr : ∀ k, k < w.heap.size → r' k = r k) : EvR r' w' ad l := by
  obtain ⟨⟨⟨b, off, h1, h2, h3⟩, hwf, hok⟩, b', off', h4, h5⟩ := h
  have e := h1.symm.trans h4
  injection e with e
  injection e with e1 e2
  subst e1
  refine ⟨⟨⟨b, off, h1, Nat.lt_of_lt_of_le h2 hs, h3.blk (hk b h2 h5)⟩, hwf, hok⟩, b, off, h1, (hr b h2).trans h5⟩
/-- A message, and where its filter or event lies. -/
structure Mm where
  ms : Ms (List Wnt) (List Atr)
  ad : Option Addr
  cap : Nat
def mcells (x : Mm) : List Value :=
  match x.ms with
  | .sub k f => [.slice none 0 0, .int .i64 k.1, .int .i64 k.2, .slice x.ad f.length x.cap]
  | .uns k => [.slice none 0 0, .int .i64 k.1, .int .i64 k.2, .slice none 0 0]
  | .ev e => [.slice x.ad e.length x.cap, .int .i64 0, .int .i64 0, .slice none 0 0]
theorem mcells_len (x : Mm) : (mcells x).length = 4 := by
  unfold mcells; split <;> rfl
theorem flat_mm : ∀ l : List Mm, (l.flatMap mcells).length = l.length * 4
  | [] => rfl
  | x :: l => by rw [List.flatMap_cons, List.length_append, flat_mm l, mcells_len, List.length_cons]; omega
def MmOk (role : Nat → Rl) (w : World) (x : Mm) : Prop :=
  match x.ms with
  | .sub k f => (I64 k.1 ∧ I64 k.2) ∧ FiR role w x.ad f
  | .uns k => I64 k.1 ∧ I64 k.2
  | .ev e => EvR role w x.ad e
theorem MmOk.keep {r r' : Nat → Rl} {w w' : World} {x : Mm} (h : MmOk r w x) (hs : w.heap.size ≤ w'.heap.size) (hk : ∀ k, k < w.heap.size → r k = .fx → w'.heap[k]? = w.heap[k]?) (hr : ∀ k, k < w.heap.size → r' k = r k) : MmOk r' w' x := by
  unfold MmOk at h ⊢
  split
  · rename_i k f e; rw [e] at h; exact ⟨h.1, h.2.keep hs hk hr⟩
  · rename_i k e; rw [e] at h; exact h
  · rename_i v e; rw [e] at h; exact EvR.keep h hs hk hr
structure Tb (T : Tc) (role : Nat → Rl) (w : World) : Prop where
  nb8 : T.nb ≤ 8
  pos : 0 < T.nb
  adj : ∀ a b, T.adj a b = true → a < T.nb ∧ b < T.nb
  c0 : w.cell? ⟨T.TB, 0, none⟩ = some (.slice (some ⟨T.HB, 0, none⟩) T.nb T.hcap)
  c1 : w.cell? ⟨T.TB, 1, none⟩ = some (.map (some T.CB))
  c2 : w.cell? ⟨T.TB, 2, none⟩ = some (.map (some T.LB))
  rT : role T.TB = .fx
  rH : role T.HB = .fx
  hb : ∀ b, b < T.nb → w.cell? ⟨T.HB, b, none⟩ = some (.map (some (T.MB b)))
  top : ∀ k, w.heap.size ≤ k → role k = .no
  r0 : role 0 = .no
  ml : Ml T.ml w
structure Th (T : Tc) (role : Nat → Rl) (w : World) (Xs : Nat → List Hm) : Prop where
  at' : ∀ b, b < T.nb → role (T.MB b) = .hm b ∧ ∃ es clock, Mp Tryz.prog 112 w (T.MB b) ((Xs b).map mv) es clock
  fi : ∀ b, b < T.nb → ∀ x ∈ Xs b, FiR role w x.2.1 x.1.f ∧ I64 x.1.key.1 ∧ I64 x.1.key.2
structure Tl (T : Tc) (role : Nat → Rl) (w : World) (qs : Nat → Nat → List Mm) : Prop where
  lm : role T.LB = .lm
  mp : ∃ m es clock, Mp Tryz.prog 81 w T.LB m es clock ∧ (∀ k v, (k, v) ∈ m → ∃ a b : Nat, k = pk ((a : Int), (b : Int)) ∧ T.adj a b = true ∧ Qr w 172 4 (fun k => role k = .qu a b) v (qs a b).length ((qs a b).flatMap mcells)) ∧ (∀ a b : Nat, T.adj a b = true → ∃ v, (pk ((a : Int), (b : Int)), v) ∈ m)
  ms : ∀ a b, ∀ x ∈ qs a b, MmOk role w x
  nq : ∀ a b, T.adj a b = false → qs a b = []
/-- A client: number, broker, its blocks, what was lost, what its inbox holds. -/
structure Cl where
  num : Int
  at' : Nat
  blk : Nat
  chn : Nat
  lost : Int
  box : List (List Atr × Option Addr × Nat)
def cv (c : Cl) : Value × Value := (.int .i64 c.num, .pointer (some ⟨c.blk, 0, none⟩))
def bv (x : List Atr × Option Addr × Nat) : Value := .slice x.2.1 x.1.length x.2.2
structure Tk (T : Tc) (role : Nat → Rl) (w : World) (cls : List Cl) : Prop where
  cm : role T.CB = .cm
  mp : ∃ es clock, Mp Tryz.prog 3 w T.CB (cls.map cv) es clock
  num : ∀ c ∈ cls, I64 c.num ∧ c.at' < T.nb
  blk : ∀ c ∈ cls, role c.blk = .cl c.num ∧ w.heap[c.blk]? = some (.cells #[.int .i64 c.at', .chan (some c.chn), .int .i64 c.lost] 126 (0, 0))
  chn : ∀ c ∈ cls, role c.chn = .ch c.num ∧ ∃ s r tm, w.heap[c.chn]? = some (.chan 16 (c.box.map bv).toArray false s r tm)
  box : ∀ c ∈ cls, ∀ x ∈ c.box, EvR role w x.2.1 x.1
/-- A tree in memory. -/
structure Tm (T : Tc) (role : Nat → Rl) (w : World) (Xs : Nat → List Hm) (qs : Nat → Nat → List Mm) (cls : List Cl) : Prop where
  b : Tb T role w
  h : Th T role w Xs
  l : Tl T role w qs
  k : Tk T role w cls
theorem Tb.lt {T : Tc} {role : Nat → Rl} {w : World} (h : Tb T role w) {k : Nat} (hk : role k ≠ .no) : k < w.heap.size := by
  rcases Nat.lt_or_ge k w.heap.size with h1 | h1
  · exact h1
  · exact absurd (h.top k h1) hk
theorem Tb.keep {T : Tc} {r r' : Nat → Rl} {w w' : World} (h : Tb T r w) (hs : w.heap.size ≤ w'.heap.size) (hk : ∀ k, k < w.heap.size → (r k = .no ∨ r k = .fx) → w'.heap[k]? = w.heap[k]?) (hr : ∀ k, k < w.heap.size → r' k = r k) (ht : ∀ k, w'.heap.size ≤ k → r' k = .no) : Tb T r' w' := by
  have lT := h.lt (k := T.TB) (by rw [h.rT]; exact fun e => by cases e)
  have lH := h.lt (k := T.HB) (by rw [h.rH]; exact fun e => by cases e)
  have eT := hk _ lT (Or.inr h.rT)
  have eH := hk _ lH (Or.inr h.rH)
  refine ⟨h.nb8, h.pos, h.adj, by rw [cell_blk eT]; exact h.c0, by rw [cell_blk eT]; exact h.c1, by rw [cell_blk eT]; exact h.c2, (hr _ lT).trans h.rT, (hr _ lH).trans h.rH, fun b hb => by rw [cell_blk eH]; exact h.hb b hb, ht, (hr 0 h.ml.pos).trans h.r0, ?_⟩
  exact ⟨by rw [cell_blk (hk 0 h.ml.pos (Or.inl h.r0))]; exact h.ml.cell, Nat.lt_of_lt_of_le h.ml.pos hs⟩
theorem Th.keep {T : Tc} {r r' : Nat → Rl} {w w' : World} {Xs : Nat → List Hm} (h : Th T r w Xs) (hs : w.heap.size ≤ w'.heap.size) (hk : ∀ k, k < w.heap.size → (r k = .fx ∨ ∃ b, r k = .hm b) → w'.heap[k]? = w.heap[k]?) (hr : ∀ k, k < w.heap.size → r' k = r k) : Th T r' w' Xs := by
  refine ⟨fun b hbn => ?_, fun b hbn x hx => ?_⟩
  · obtain ⟨h1, es, clock, h2⟩ := h.at' b hbn
    exact ⟨(hr _ h2.lt).trans h1, es, clock, h2.kept (hk _ h2.lt (Or.inr ⟨b, h1⟩))⟩
  · obtain ⟨h1, h2⟩ := h.fi b hbn x hx
    exact ⟨h1.keep hs (fun k hk' hf => hk k hk' (Or.inl hf)) hr, h2⟩
theorem Tl.keep {T : Tc} {r r' : Nat → Rl} {w w' : World} {qs : Nat → Nat → List Mm} (h : Tl T r w qs) (hs : w.heap.size ≤ w'.heap.size) (hk : ∀ k, k < w.heap.size → (r k = .fx ∨ r k = .lm ∨ ∃ a b, r k = .qu a b) → w'.heap[k]? = w.heap[k]?) (hr : ∀ k, k < w.heap.size → r' k = r k) : Tl T r' w' qs := by
  obtain ⟨m, es, clock, h1, h2, h3⟩ := h.mp
  refine ⟨(hr _ h1.lt).trans h.lm, ⟨m, es, clock, h1.kept (hk _ h1.lt (Or.inr (Or.inl h.lm))), fun k v hv => ?_, h3⟩, fun a b x hx => (h.ms a b x hx).keep hs (fun k hk' hf => hk k hk' (Or.inl hf)) hr, h.nq⟩
  obtain ⟨a, b, e, ha, hq⟩ := h2 k v hv
  exact ⟨a, b, e, ha, hq.kept fun g hg hR => ⟨hk g hg (Or.inr (Or.inr ⟨a, b, hR⟩)), (hr g hg).trans hR⟩⟩
theorem Tk.keep {T : Tc} {r r' : Nat → Rl} {w w' : World} {cls : List Cl} (h : Tk T r w cls) (hs : w.heap.size ≤ w'.heap.size) (hk : ∀ k, k < w.heap.size → (r k = .fx ∨ r k = .cm ∨ (∃ c, r k = .cl c) ∨ ∃ c, r k = .ch c) → w'.heap[k]? = w.heap[k]?) (hr : ∀ k, k < w.heap.size → r' k = r k) : Tk T r' w' cls := by
  obtain ⟨es, clock, h1⟩ := h.mp
  refine ⟨(hr _ h1.lt).trans h.cm, ⟨es, clock, h1.kept (hk _ h1.lt (Or.inr (Or.inl h.cm)))⟩, h.num, fun c hc => ?_, fun c hc => ?_, fun c hc x hx => (h.box c hc x hx).keep hs (fun k hk' hf => hk k hk' (Or.inl hf)) hr⟩
  · obtain ⟨h2, h3⟩ := h.blk c hc
    have hl := blk_lt h3
    exact ⟨(hr _ hl).trans h2, (hk _ hl (Or.inr (Or.inr (Or.inl ⟨_, h2⟩)))).trans h3⟩
  · obtain ⟨h2, s, r1, tm, h3⟩ := h.chn c hc
    have hl := blk_lt h3
    exact ⟨(hr _ hl).trans h2, s, r1, tm, (hk _ hl (Or.inr (Or.inr (Or.inr ⟨_, h2⟩)))).trans h3⟩
theorem Tm.gr {T : Tc} {r : Nat → Rl} {w w' : World} {Xs : Nat → List Hm} {qs : Nat → Nat → List Mm} {cls : List Cl} (h : Tm T r w Xs qs cls) (g : Gr w w') : Tm T r w' Xs qs cls :=
  ⟨h.b.keep g.size (fun k hk _ => g.block k hk) (fun _ _ => rfl) (fun k hk => h.b.top k (Nat.le_trans g.size hk)), h.h.keep g.size (fun k hk _ => g.block k hk) (fun _ _ => rfl), h.l.keep g.size (fun k hk _ => g.block k hk) (fun _ _ => rfl), h.k.keep g.size (fun k hk _ => g.block k hk) (fun _ _ => rfl)⟩
/-- Another call, on something else, leaves a tree. -/
theorem Tm.apart {T : Tc} {r r1 r1' : Nat → Rl} {w w' : World} {Xs : Nat → List Hm} {qs : Nat → Nat → List Mm} {cls : List Cl} (h : Tm T r w Xs qs cls) (g : Fr r1 r1' w w') (ha : ∀ k, r k = .no ∨ r1 k = .no) (h0 : r1 0 = .no) : Tm T r w' Xs qs cls := by
  have e : ∀ k, k < w.heap.size → r k ≠ .no → w'.heap[k]? = w.heap[k]? := fun k hk hr => g.keep k hk (Or.inl ((ha k).resolve_left hr))
  have nofx : ∀ {k : Nat}, r k = .fx → r k ≠ .no := fun h e => by rw [h] at e; cases e
  refine ⟨?_, h.h.keep g.size (fun k hk hr => e k hk ?_) (fun _ _ => rfl), h.l.keep g.size (fun k hk hr => e k hk ?_) (fun _ _ => rfl), h.k.keep g.size (fun k hk hr => e k hk ?_) (fun _ _ => rfl)⟩
  · have hb := h.b
    have lT := hb.lt (k := T.TB) (by rw [hb.rT]; exact fun e => by cases e)
    have lH := hb.lt (k := T.HB) (by rw [hb.rH]; exact fun e => by cases e)
    have eT := e _ lT (nofx hb.rT)
    have eH := e _ lH (nofx hb.rH)
    refine ⟨hb.nb8, hb.pos, hb.adj, by rw [cell_blk eT]; exact hb.c0, by rw [cell_blk eT]; exact hb.c1, by rw [cell_blk eT]; exact hb.c2, hb.rT, hb.rH, fun b hbn => by rw [cell_blk eH]; exact hb.hb b hbn, fun k hk => hb.top k (Nat.le_trans g.size hk), hb.r0, ?_⟩
    exact ⟨by rw [cell_blk (g.keep 0 hb.ml.pos (Or.inl h0))]; exact hb.ml.cell, Nat.lt_of_lt_of_le hb.ml.pos g.size⟩
  · rcases hr with hr | ⟨b, hr⟩ <;> rw [hr] <;> exact fun e => by cases e
  · rcases hr with hr | hr | ⟨a, b, hr⟩ <;> rw [hr] <;> exact fun e => by cases e
  · rcases hr with hr | hr | ⟨c, hr⟩ | ⟨c, hr⟩ <;> rw [hr] <;> exact fun e => by cases e
/-- A new block becomes the tree's own. -/
theorem Tm.own {T : Tc} {r : Nat → Rl} {w : World} {Xs : Nat → List Hm} {qs : Nat → Nat → List Mm} {cls : List Cl} (h : Tm T r w Xs qs cls) (r' : Nat → Rl) (hr : ∀ k, r k ≠ .no → r' k = r k) (h0 : r' 0 = .no) (ht : ∀ k, w.heap.size ≤ k → r' k = .no) : Tm T r' w Xs qs cls := by
  have ne : ∀ {k : Nat} {x : Rl}, r k = x → x ≠ .no → r' k = x := fun e hx => (hr _ (by rw [e]; exact hx)).trans e
  have fiR : ∀ {ad : Option Addr} {l : List Wnt}, FiR r w ad l → FiR r' w ad l := fun ⟨a, b, off, c, d⟩ => ⟨a, b, off, c, ne d (fun e => by cases e)⟩
  have evR : ∀ {ad : Option Addr} {l : List Atr}, EvR r w ad l → EvR r' w ad l := fun ⟨a, b, off, c, d⟩ => ⟨a, b, off, c, ne d (fun e => by cases e)⟩
  refine ⟨⟨h.b.nb8, h.b.pos, h.b.adj, h.b.c0, h.b.c1, h.b.c2, ne h.b.rT (fun e => by cases e), ne h.b.rH (fun e => by cases e), h.b.hb, ht, h0, h.b.ml⟩, ⟨fun b hb => ⟨ne (h.h.at' b hb).1 (fun e => by cases e), (h.h.at' b hb).2⟩, fun b hb x hx => ⟨fiR (h.h.fi b hb x hx).1, (h.h.fi b hb x hx).2⟩⟩, ?_, ?_⟩
  · obtain ⟨m, es, clock, h1, h2, h3⟩ := h.l.mp
    refine ⟨ne h.l.lm (fun e => by cases e), ⟨m, es, clock, h1, fun k v hv => ?_, h3⟩, fun a b x hx => ?_, h.l.nq⟩
    · obtain ⟨a, b, e, ha, hq⟩ := h2 k v hv
      exact ⟨a, b, e, ha, hq.kept fun g hg hR => ⟨rfl, ne hR (fun e => by cases e)⟩⟩
    · have hm := h.l.ms a b x hx
      unfold MmOk at hm ⊢
      split
      · rename_i k f e; rw [e] at hm; exact ⟨hm.1, fiR hm.2⟩
      · rename_i k e; rw [e] at hm; exact hm
      · rename_i v e; rw [e] at hm; exact evR hm
  · exact ⟨ne h.k.cm (fun e => by cases e), h.k.mp, h.k.num, fun c hc => ⟨ne (h.k.blk c hc).1 (fun e => by cases e), (h.k.blk c hc).2⟩, fun c hc => ⟨ne (h.k.chn c hc).1 (fun e => by cases e), (h.k.chn c hc).2⟩, fun c hc x hx => evR (h.k.box c hc x hx)⟩
/-- What a broker holds, as the calls that only look want it. -/
theorem Tm.hp {T : Tc} {r : Nat → Rl} {w : World} {Xs : Nat → List Hm} {qs : Nat → Nat → List Mm} {cls : List Cl} (h : Tm T r w Xs qs cls) {b : Nat} (hb : b < T.nb) : ∃ es clock, Hp w (T.MB b) (Xs b) es clock := by
  obtain ⟨_, es, clock, h2⟩ := h.h.at' b hb
  exact ⟨es, clock, h2, fun x hx => (h.h.fi b hb x hx).1.m⟩
theorem Tm.tlt {T : Tc} {r : Nat → Rl} {w : World} {Xs : Nat → List Hm} {qs : Nat → Nat → List Mm} {cls : List Cl} (h : Tm T r w Xs qs cls) : T.TB < w.heap.size := h.b.lt (by rw [h.b.rT]; exact fun e => by cases e)
theorem Tm.hlt {T : Tc} {r : Nat → Rl} {w : World} {Xs : Nat → List Hm} {qs : Nat → Nat → List Mm} {cls : List Cl} (h : Tm T r w Xs qs cls) : T.HB < w.heap.size := h.b.lt (by rw [h.b.rH]; exact fun e => by cases e)
theorem Tm.hs {T : Tc} {r : Nat → Rl} {w : World} {Xs : Nat → List Hm} {qs : Nat → Nat → List Mm} {cls : List Cl} (h : Tm T r w Xs qs cls) : Hs w T.TB T.HB 0 T.nb T.hcap Xs :=
  ⟨h.b.c0, h.tlt, h.hlt, fun b hb => by
    obtain ⟨es, clock, h1⟩ := h.hp hb
    exact ⟨T.MB b, es, clock, by rw [Nat.zero_add]; exact h.b.hb b hb, h1⟩⟩
theorem Tl.lk {T : Tc} {r : Nat → Rl} {w : World} {qs : Nat → Nat → List Mm} (h : Tl T r w qs) : ∃ m es clock, Mp Tryz.prog 81 w T.LB m es clock ∧ Lk T.adj T.nb m ∧ (∀ k v, (k, v) ∈ m → ∃ a b : Nat, k = pk ((a : Int), (b : Int)) ∧ T.adj a b = true ∧ Qr w 172 4 (fun k => r k = .qu a b) v (qs a b).length ((qs a b).flatMap mcells)) ∧ (∀ a b : Nat, T.adj a b = true → ∃ v, (pk ((a : Int), (b : Int)), v) ∈ m) := by
  obtain ⟨m, es, clock, h1, h2, h3⟩ := h.mp
  refine ⟨m, es, clock, h1, ⟨fun a b _ _ => ⟨h3 a b, fun ⟨v, hv⟩ => ?_⟩⟩, h2, h3⟩
  obtain ⟨a', b', e, ha, _⟩ := h2 _ v hv
  have := pk_inj e
  simp only [Prod.mk.injEq, Int.natCast_inj] at this
  rw [this.1, this.2]; exact ha
end Go.Proofs.YtecnfgikbmcgoaaGreat
