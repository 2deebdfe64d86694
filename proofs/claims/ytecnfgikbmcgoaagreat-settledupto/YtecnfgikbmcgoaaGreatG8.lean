import Derived.Test.YtecnfgikbmcgoaaGreatG7
namespace Go.Proofs.YtecnfgikbmcgoaaGreat
open Go.RowKit
open Go.Maps (Keyed)
open Go.ChangeMaps (setBlock)

/-- What a block is to a tree. -/
inductive Rl where
  | no
  | fx
  | hm (b : Nat)
  | cm
  | lm
  | qu (a b : Nat)
  | cl (c : Int)
  | ch (c : Int)
/-- What stays of a tree: where its parts lie. -/
structure Tc where
  nb : Nat
  adj : Nat → Nat → Bool
  TB : Nat
  HB : Nat
  hcap : Nat
  MB : Nat → Nat
  CB : Nat
  LB : Nat
  ml : Int
/-- What a call on a tree leaves alone: all but the tree's own blocks that turn. -/
structure Fr (role role' : Nat → Rl) (w w' : World) : Prop where
  os : w'.os = w.os
  tape : w'.tape = w.tape
  output : w'.output = w.output
  size : w.heap.size ≤ w'.heap.size
  keep : ∀ k, k < w.heap.size → (role k = .no ∨ role k = .fx) → w'.heap[k]? = w.heap[k]?
  same : ∀ k, k < w.heap.size → role' k = role k
theorem Fr.refl (role : Nat → Rl) (w : World) : Fr role role w w := ⟨rfl, rfl, rfl, Nat.le_refl _, fun _ _ _ => rfl, fun _ _ => rfl⟩
theorem Fr.trans {r r1 r2 : Nat → Rl} {w w1 w2 : World} (h : Fr r r1 w w1) (k : Fr r1 r2 w1 w2) : Fr r r2 w w2 :=
  ⟨k.os.trans h.os, k.tape.trans h.tape, k.output.trans h.output, Nat.le_trans h.size k.size, fun i hi hr => (k.keep i (Nat.lt_of_lt_of_le hi h.size) (by rw [h.same i hi]; exact hr)).trans (h.keep i hi hr), fun i hi => (k.same i (Nat.lt_of_lt_of_le hi h.size)).trans (h.same i hi)⟩
theorem Fr.gr {r : Nat → Rl} {w w' : World} (g : Gr w w') : Fr r r w w' := ⟨g.os, g.tape, g.output, g.size, fun k hk _ => g.block k hk, fun _ _ => rfl⟩
theorem Fr.cell {r r' : Nat → Rl} {w w' : World} (h : Fr r r' w w') {p : Addr} (hp : p.block < w.heap.size) (hr : r p.block = .no ∨ r p.block = .fx) : w'.cell? p = w.cell? p := World.cell?_of_block (h.keep _ hp hr)
theorem cell_blk {w w' : World} {b : Nat} (h : w'.heap[b]? = w.heap[b]?) (o : Nat) : w'.cell? ⟨b, o, none⟩ = w.cell? ⟨b, o, none⟩ := World.cell?_of_block (a := ⟨b, o, none⟩) h
theorem WantsAt.blk {w w' : World} {b off : Nat} {l : List Wnt} (h : WantsAt w b off l) (hb : w'.heap[b]? = w.heap[b]?) : WantsAt w' b off l := fun i hi => by
  obtain ⟨h1, h2, h3, h4, h5⟩ := h i hi
  simp only [cell_blk hb]
  exact ⟨h1, h2, h3, h4, h5⟩
theorem AttrsAt.blk {w w' : World} {b off : Nat} {l : List Atr} (h : AttrsAt w b off l) (hb : w'.heap[b]? = w.heap[b]?) : AttrsAt w' b off l := fun i hi => by
  obtain ⟨h1, h2, h3, h4⟩ := h i hi
  simp only [cell_blk hb]
  exact ⟨h1, h2, h3, h4⟩
/-- A filter of the tree's own. -/
structure FiR (role : Nat → Rl) (w : World) (ad : Option Addr) (l : List Wnt) : Prop where
  m : FiM w ad l
  r : ∃ b off, ad = some ⟨b, off, none⟩ ∧ role b = .fx
theorem FiR.keep {r r' : Nat → Rl} {w w' : World} {ad : Option Addr} {l : List Wnt} (h : FiR r w ad l) (hs : w.heap.size ≤ w'.heap.size) (hk : ∀ k, k < w.heap.size → r k = .fx → w'.heap[k]? = w.heap[k]?) (hr : ∀ k, k < w.heap.size → r' k = r k) : FiR r' w' ad l := by
  obtain ⟨⟨⟨b, off, h1, h2, h3⟩, hwf, hok⟩, b', off', h4, h5⟩ := h
  have e := h1.symm.trans h4
  injection e with e
  injection e with e1 e2
  subst e1
  refine ⟨⟨⟨b, off, h1, Nat.lt_of_lt_of_le h2 hs, h3.blk (hk b h2 h5)⟩, hwf, hok⟩, b, off, h1, (hr b h2).trans h5⟩
/-- An event in memory, and it is one. -/
structure EvM (w : World) (ad : Option Addr) (l : List Atr) : Prop where
  at' : ∃ b off, ad = some ⟨b, off, none⟩ ∧ b < w.heap.size ∧ AttrsAt w b off l
  wf : ∀ x ∈ l, Atr.Wf x
  ok : evOk l = true
theorem EvM.gr {w w' : World} {ad : Option Addr} {l : List Atr} (h : EvM w ad l) (g : Gr w w') : EvM w' ad l := by
  obtain ⟨b, off, h1, h2, h3⟩ := h.at'
  exact ⟨⟨b, off, h1, g.lt h2, h3.gr g h2⟩, h.wf, h.ok⟩
structure EvR (role : Nat → Rl) (w : World) (ad : Option Addr) (l : List Atr) : Prop where
  m : EvM w ad l
  r : ∃ b off, ad = some ⟨b, off, none⟩ ∧ role b = .fx
theorem EvR.keep {r r' : Nat → Rl} {w w' : World} {ad : Option Addr} {l : List Atr} (h : EvR r w ad l) (hs : w.heap.size ≤ w'.heap.size) (hk : ∀ k, k < w.heap.size → r k = .fx → w'.heap[k]? = w.heap[k]?) (hr : ∀ k, k < w.heap.size → r' k = r k) : EvR r' w' ad l := by
  obtain ⟨⟨⟨b, off, h1, h2, h3⟩, hwf, hok⟩, b', off', h4, h5⟩ := h
  have e := h1.symm.trans h4
  injection e with e
  injection e with e1 e2
  subst e1
  refine ⟨⟨⟨b, off, h1, Nat.lt_of_lt_of_le h2 hs, h3.blk (hk b h2 h5)⟩, hwf, hok⟩, b, off, h1, (hr b h2).trans h5⟩
/-- A message, and where its filter or event lies. -/
structure Mm where
  ms : Ms (List Wnt) (List Atr)
  ad : Option Addr
  cap : Nat
def mcells (x : Mm) : List Value :=
  match x.ms with
  | .sub k f => [.slice none 0 0, .int .i64 k.1, .int .i64 k.2, .slice x.ad f.length x.cap]
  | .uns k => [.slice none 0 0, .int .i64 k.1, .int .i64 k.2, .slice none 0 0]
  | .ev e => [.slice x.ad e.length x.cap, .int .i64 0, .int .i64 0, .slice none 0 0]
theorem mcells_len (x : Mm) : (mcells x).length = 4 := by
  unfold mcells; split <;> rfl
theorem flat_mm : ∀ l : List Mm, (l.flatMap mcells).length = l.length * 4
  | [] => rfl
  | x :: l => by rw [List.flatMap_cons, List.length_append, flat_mm l, mcells_len, List.length_cons]; omega
def MmOk (role : Nat → Rl) (w : World) (x : Mm) : Prop :=
  match x.ms with
  | .sub k f => (I64 k.1 ∧ I64 k.2) ∧ FiR role w x.ad f
  | .uns k => I64 k.1 ∧ I64 k.2
  | .ev e => EvR role w x.ad e
theorem MmOk.keep {r r' : Nat → Rl} {w w' : World} {x : Mm} (h : MmOk r w x) (hs : w.heap.size ≤ w'.heap.size) (hk : ∀ k, k < w.heap.size → r k = .fx → w'.heap[k]? = w.heap[k]?) (hr : ∀ k, k < w.heap.size → r' k = r k) : MmOk r' w' x := by
  unfold MmOk at h ⊢
  split
  · rename_i k f e; rw [e] at h; exact ⟨h.1, h.2.keep hs hk hr⟩
  · rename_i k e; rw [e] at h; exact h
  · rename_i v e; rw [e] at h; exact EvR.keep h hs hk hr
structure Tb (T : Tc) (role : Nat → Rl) (w : World) : Prop where
  nb8 : T.nb ≤ 8
  pos : 0 < T.nb
  adj : ∀ a b, T.adj a b = true → a < T.nb ∧ b < T.nb
  c0 : w.cell? ⟨T.TB, 0, none⟩ = some (.slice (some ⟨T.HB, 0, none⟩) T.nb T.hcap)
  c1 : w.cell? ⟨T.TB, 1, none⟩ = some (.map (some T.CB))
  c2 : w.cell? ⟨T.TB, 2, none⟩ = some (.map (some T.LB))
  rT : role T.TB = .fx
  rH : role T.HB = .fx
  hb : ∀ b, b < T.nb → w.cell? ⟨T.HB, b, none⟩ = some (.map (some (T.MB b)))
  top : ∀ k, w.heap.size ≤ k → role k = .no
  r0 : role 0 = .no
  ml : Ml T.ml w
structure Th (T : Tc) (role : Nat → Rl) (w : World) (Xs : Nat → List Hm) : Prop where
  at' : ∀ b, b < T.nb → role (T.MB b) = .hm b ∧ ∃ es clock, Mp Tryz.prog 112 w (T.MB b) ((Xs b).map mv) es clock
  fi : ∀ b, b < T.nb → ∀ x ∈ Xs b, FiR role w x.2.1 x.1.f ∧ I64 x.1.key.1 ∧ I64 x.1.key.2
structure Tl (T : Tc) (role : Nat → Rl) (w : World) (qs : Nat → Nat → List Mm) : Prop where
  lm : role T.LB = .lm
  mp : ∃ m es clock, Mp Tryz.prog 81 w T.LB m es clock ∧ (∀ k v, (k, v) ∈ m → ∃ a b : Nat, k = pk ((a : Int), (b : Int)) ∧ T.adj a b = true ∧ Qr w 172 4 (fun k => role k = .qu a b) v (qs a b).length ((qs a b).flatMap mcells)) ∧ (∀ a b : Nat, T.adj a b = true → ∃ v, (pk ((a : Int), (b : Int)), v) ∈ m)
  ms : ∀ a b, ∀ x ∈ qs a b, MmOk role w x
  nq : ∀ a b, T.adj a b = false → qs a b = []
/-- A client: number, broker, its blocks, what was lost, what its inbox holds. -/
structure Cl where
  num : Int
  at' : Nat
  blk : Nat
  chn : Nat
  lost : Int
  box : List (List Atr × Option Addr × Nat)
def cv (c : Cl) : Value × Value := (.int .i64 c.num, .pointer (some ⟨c.blk, 0, none⟩))
def bv (x : List Atr × Option Addr × Nat) : Value := .slice x.2.1 x.1.length x.2.2
structure Tk (T : Tc) (role : Nat → Rl) (w : World) (cls : List Cl) : Prop where
  cm : role T.CB = .cm
  mp : ∃ es clock, Mp Tryz.prog 3 w T.CB (cls.map cv) es clock
  num : ∀ c ∈ cls, I64 c.num ∧ c.at' < T.nb
  blk : ∀ c ∈ cls, role c.blk = .cl c.num ∧ w.heap[c.blk]? = some (.cells #[.int .i64 c.at', .chan (some c.chn), .int .i64 c.lost] 126 (0, 0))
  chn : ∀ c ∈ cls, role c.chn = .ch c.num ∧ ∃ s r tm, w.heap[c.chn]? = some (.chan 16 (c.box.map bv).toArray false s r tm)
  box : ∀ c ∈ cls, ∀ x ∈ c.box, EvR role w x.2.1 x.1
/-- A tree in memory. -/
structure Tm (T : Tc) (role : Nat → Rl) (w : World) (Xs : Nat → List Hm) (qs : Nat → Nat → List Mm) (cls : List Cl) : Prop where
  b : Tb T role w
  h : Th T role w Xs
  l : Tl T role w qs
  k : Tk T role w cls
theorem Tb.lt {T : Tc} {role : Nat → Rl} {w : World} (h : Tb T role w) {k : Nat} (hk : role k ≠ .no) : k < w.heap.size := by
  rcases Nat.lt_or_ge k w.heap.size with h1 | h1
  · exact h1
  · exact absurd (h.top k h1) hk
theorem Tb.keep {T : Tc} {r r' : Nat → Rl} {w w' : World} (h : Tb T r w) (hs : w.heap.size ≤ w'.heap.size) (hk : ∀ k, k < w.heap.size → (r k = .no ∨ r k = .fx) → w'.heap[k]? = w.heap[k]?) (hr : ∀ k, k < w.heap.size → r' k = r k) (ht : ∀ k, w'.heap.size ≤ k → r' k = .no) : Tb T r' w' := by
  have lT := h.lt (k := T.TB) (by rw [h.rT]; exact fun e => by cases e)
  have lH := h.lt (k := T.HB) (by rw [h.rH]; exact fun e => by cases e)
  have eT := hk _ lT (Or.inr h.rT)
  have eH := hk _ lH (Or.inr h.rH)
  refine ⟨h.nb8, h.pos, h.adj, by rw [cell_blk eT]; exact h.c0, by rw [cell_blk eT]; exact h.c1, by rw [cell_blk eT]; exact h.c2, (hr _ lT).trans h.rT, (hr _ lH).trans h.rH, fun b hb => by rw [cell_blk eH]; exact h.hb b hb, ht, (hr 0 h.ml.pos).trans h.r0, ?_⟩
  exact ⟨by rw [cell_blk (hk 0 h.ml.pos (Or.inl h.r0))]; exact h.ml.cell, Nat.lt_of_lt_of_le h.ml.pos hs⟩
theorem Th.keep {T : Tc} {r r' : Nat → Rl} {w w' : World} {Xs : Nat → List Hm} (h : Th T r w Xs) (hs : w.heap.size ≤ w'.heap.size) (hk : ∀ k, k < w.heap.size → (r k = .fx ∨ ∃ b, r k = .hm b) → w'.heap[k]? = w.heap[k]?) (hr : ∀ k, k < w.heap.size → r' k = r k) : Th T r' w' Xs := by
  refine ⟨fun b hbn => ?_, fun b hbn x hx => ?_⟩
  · obtain ⟨h1, es, clock, h2⟩ := h.at' b hbn
    exact ⟨(hr _ h2.lt).trans h1, es, clock, h2.kept (hk _ h2.lt (Or.inr ⟨b, h1⟩))⟩
  · obtain ⟨h1, h2⟩ := h.fi b hbn x hx
    exact ⟨h1.keep hs (fun k hk' hf => hk k hk' (Or.inl hf)) hr, h2⟩
theorem Tl.keep {T : Tc} {r r' : Nat → Rl} {w w' : World} {qs : Nat → Nat → List Mm} (h : Tl T r w qs) (hs : w.heap.size ≤ w'.heap.size) (hk : ∀ k, k < w.heap.size → (r k = .fx ∨ r k = .lm ∨ ∃ a b, r k = .qu a b) → w'.heap[k]? = w.heap[k]?) (hr : ∀ k, k < w.heap.size → r' k = r k) : Tl T r' w' qs := by
  obtain ⟨m, es, clock, h1, h2, h3⟩ := h.mp
  refine ⟨(hr _ h1.lt).trans h.lm, ⟨m, es, clock, h1.kept (hk _ h1.lt (Or.inr (Or.inl h.lm))), fun k v hv => ?_, h3⟩, fun a b x hx => (h.ms a b x hx).keep hs (fun k hk' hf => hk k hk' (Or.inl hf)) hr, h.nq⟩
  obtain ⟨a, b, e, ha, hq⟩ := h2 k v hv
  exact ⟨a, b, e, ha, hq.kept fun g hg hR => ⟨hk g hg (Or.inr (Or.inr ⟨a, b, hR⟩)), (hr g hg).trans hR⟩⟩
theorem Tk.keep {T : Tc} {r r' : Nat → Rl} {w w' : World} {cls : List Cl} (h : Tk T r w cls) (hs : w.heap.size ≤ w'.heap.size) (hk : ∀ k, k < w.heap.size → (r k = .fx ∨ r k = .cm ∨ (∃ c, r k = .cl c) ∨ ∃ c, r k = .ch c) → w'.heap[k]? = w.heap[k]?) (hr : ∀ k, k < w.heap.size → r' k = r k) : Tk T r' w' cls := by
  obtain ⟨es, clock, h1⟩ := h.mp
  refine ⟨(hr _ h1.lt).trans h.cm, ⟨es, clock, h1.kept (hk _ h1.lt (Or.inr (Or.inl h.cm)))⟩, h.num, fun c hc => ?_, fun c hc => ?_, fun c hc x hx => (h.box c hc x hx).keep hs (fun k hk' hf => hk k hk' (Or.inl hf)) hr⟩
  · obtain ⟨h2, h3⟩ := h.blk c hc
    have hl := blk_lt h3
    exact ⟨(hr _ hl).trans h2, (hk _ hl (Or.inr (Or.inr (Or.inl ⟨_, h2⟩)))).trans h3⟩
  · obtain ⟨h2, s, r1, tm, h3⟩ := h.chn c hc
    have hl := blk_lt h3
    exact ⟨(hr _ hl).trans h2, s, r1, tm, (hk _ hl (Or.inr (Or.inr (Or.inr ⟨_, h2⟩)))).trans h3⟩
theorem Tm.gr {T : Tc} {r : Nat → Rl} {w w' : World} {Xs : Nat → List Hm} {qs : Nat → Nat → List Mm} {cls : List Cl} (h : Tm T r w Xs qs cls) (g : Gr w w') : Tm T r w' Xs qs cls :=
  ⟨h.b.keep g.size (fun k hk _ => g.block k hk) (fun _ _ => rfl) (fun k hk => h.b.top k (Nat.le_trans g.size hk)), h.h.keep g.size (fun k hk _ => g.block k hk) (fun _ _ => rfl), h.l.keep g.size (fun k hk _ => g.block k hk) (fun _ _ => rfl), h.k.keep g.size (fun k hk _ => g.block k hk) (fun _ _ => rfl)⟩
/-- Another call, on something else, leaves a tree. -/
theorem Tm.apart {T : Tc} {r r1 r1' : Nat → Rl} {w w' : World} {Xs : Nat → List Hm} {qs : Nat → Nat → List Mm} {cls : List Cl} (h : Tm T r w Xs qs cls) (g : Fr r1 r1' w w') (ha : ∀ k, r k = .no ∨ r1 k = .no) (h0 : r1 0 = .no) : Tm T r w' Xs qs cls := by
  have e : ∀ k, k < w.heap.size → r k ≠ .no → w'.heap[k]? = w.heap[k]? := fun k hk hr => g.keep k hk (Or.inl ((ha k).resolve_left hr))
  have nofx : ∀ {k : Nat}, r k = .fx → r k ≠ .no := fun h e => by rw [h] at e; cases e
  refine ⟨?_, h.h.keep g.size (fun k hk hr => e k hk ?_) (fun _ _ => rfl), h.l.keep g.size (fun k hk hr => e k hk ?_) (fun _ _ => rfl), h.k.keep g.size (fun k hk hr => e k hk ?_) (fun _ _ => rfl)⟩
  · have hb := h.b
    have lT := hb.lt (k := T.TB) (by rw [hb.rT]; exact fun e => by cases e)
    have lH := hb.lt (k := T.HB) (by rw [hb.rH]; exact fun e => by cases e)
    have eT := e _ lT (nofx hb.rT)
    have eH := e _ lH (nofx hb.rH)
    refine ⟨hb.nb8, hb.pos, hb.adj, by rw [cell_blk eT]; exact hb.c0, by rw [cell_blk eT]; exact hb.c1, by rw [cell_blk eT]; exact hb.c2, hb.rT, hb.rH, fun b hbn => by rw [cell_blk eH]; exact hb.hb b hbn, fun k hk => hb.top k (Nat.le_trans g.size hk), hb.r0, ?_⟩
    exact ⟨by rw [cell_blk (g.keep 0 hb.ml.pos (Or.inl h0))]; exact hb.ml.cell, Nat.lt_of_lt_of_le hb.ml.pos g.size⟩
  · rcases hr with hr | ⟨b, hr⟩ <;> rw [hr] <;> exact fun e => by cases e
  · rcases hr with hr | hr | ⟨a, b, hr⟩ <;> rw [hr] <;> exact fun e => by cases e
  · rcases hr with hr | hr | ⟨c, hr⟩ | ⟨c, hr⟩ <;> rw [hr] <;> exact fun e => by cases e
/-- A new block becomes the tree's own. -/
theorem Tm.own {T : Tc} {r : Nat → Rl} {w : World} {Xs : Nat → List Hm} {qs : Nat → Nat → List Mm} {cls : List Cl} (h : Tm T r w Xs qs cls) (r' : Nat → Rl) (hr : ∀ k, r k ≠ .no → r' k = r k) (h0 : r' 0 = .no) (ht : ∀ k, w.heap.size ≤ k → r' k = .no) : Tm T r' w Xs qs cls := by
  have ne : ∀ {k : Nat} {x : Rl}, r k = x → x ≠ .no → r' k = x := fun e hx => (hr _ (by rw [e]; exact hx)).trans e
  have fiR : ∀ {ad : Option Addr} {l : List Wnt}, FiR r w ad l → FiR r' w ad l := fun ⟨a, b, off, c, d⟩ => ⟨a, b, off, c, ne d (fun e => by cases e)⟩
  have evR : ∀ {ad : Option Addr} {l : List Atr}, EvR r w ad l → EvR r' w ad l := fun ⟨a, b, off, c, d⟩ => ⟨a, b, off, c, ne d (fun e => by cases e)⟩
  refine ⟨⟨h.b.nb8, h.b.pos, h.b.adj, h.b.c0, h.b.c1, h.b.c2, ne h.b.rT (fun e => by cases e), ne h.b.rH (fun e => by cases e), h.b.hb, ht, h0, h.b.ml⟩, ⟨fun b hb => ⟨ne (h.h.at' b hb).1 (fun e => by cases e), (h.h.at' b hb).2⟩, fun b hb x hx => ⟨fiR (h.h.fi b hb x hx).1, (h.h.fi b hb x hx).2⟩⟩, ?_, ?_⟩
  · obtain ⟨m, es, clock, h1, h2, h3⟩ := h.l.mp
    refine ⟨ne h.l.lm (fun e => by cases e), ⟨m, es, clock, h1, fun k v hv => ?_, h3⟩, fun a b x hx => ?_, h.l.nq⟩
    · obtain ⟨a, b, e, ha, hq⟩ := h2 k v hv
      exact ⟨a, b, e, ha, hq.kept fun g hg hR => ⟨rfl, ne hR (fun e => by cases e)⟩⟩
    · have hm := h.l.ms a b x hx
      unfold MmOk at hm ⊢
      split
      · rename_i k f e; rw [e] at hm; exact ⟨hm.1, fiR hm.2⟩
      · rename_i k e; rw [e] at hm; exact hm
      · rename_i v e; rw [e] at hm; exact evR hm
  · exact ⟨ne h.k.cm (fun e => by cases e), h.k.mp, h.k.num, fun c hc => ⟨ne (h.k.blk c hc).1 (fun e => by cases e), (h.k.blk c hc).2⟩, fun c hc => ⟨ne (h.k.chn c hc).1 (fun e => by cases e), (h.k.chn c hc).2⟩, fun c hc x hx => evR (h.k.box c hc x hx)⟩
/-- What a broker holds, as the calls that only look want it. -/
theorem Tm.hp {T : Tc} {r : Nat → Rl} {w : World} {Xs : Nat → List Hm} {qs : Nat → Nat → List Mm} {cls : List Cl} (h : Tm T r w Xs qs cls) {b : Nat} (hb : b < T.nb) : ∃ es clock, Hp w (T.MB b) (Xs b) es clock := by
  obtain ⟨_, es, clock, h2⟩ := h.h.at' b hb
  exact ⟨es, clock, h2, fun x hx => (h.h.fi b hb x hx).1.m⟩
theorem Tm.tlt {T : Tc} {r : Nat → Rl} {w : World} {Xs : Nat → List Hm} {qs : Nat → Nat → List Mm} {cls : List Cl} (h : Tm T r w Xs qs cls) : T.TB < w.heap.size := h.b.lt (by rw [h.b.rT]; exact fun e => by cases e)
theorem Tm.hlt {T : Tc} {r : Nat → Rl} {w : World} {Xs : Nat → List Hm} {qs : Nat → Nat → List Mm} {cls : List Cl} (h : Tm T r w Xs qs cls) : T.HB < w.heap.size := h.b.lt (by rw [h.b.rH]; exact fun e => by cases e)
theorem Tm.hs {T : Tc} {r : Nat → Rl} {w : World} {Xs : Nat → List Hm} {qs : Nat → Nat → List Mm} {cls : List Cl} (h : Tm T r w Xs qs cls) : Hs w T.TB T.HB 0 T.nb T.hcap Xs :=
  ⟨h.b.c0, h.tlt, h.hlt, fun b hb => by
    obtain ⟨es, clock, h1⟩ := h.hp hb
    exact ⟨T.MB b, es, clock, by rw [Nat.zero_add]; exact h.b.hb b hb, h1⟩⟩
theorem Tl.lk {T : Tc} {r : Nat → Rl} {w : World} {qs : Nat → Nat → List Mm} (h : Tl T r w qs) : ∃ m es clock, Mp Tryz.prog 81 w T.LB m es clock ∧ Lk T.adj T.nb m ∧ (∀ k v, (k, v) ∈ m → ∃ a b : Nat, k = pk ((a : Int), (b : Int)) ∧ T.adj a b = true ∧ Qr w 172 4 (fun k => r k = .qu a b) v (qs a b).length ((qs a b).flatMap mcells)) ∧ (∀ a b : Nat, T.adj a b = true → ∃ v, (pk ((a : Int), (b : Int)), v) ∈ m) := by
  obtain ⟨m, es, clock, h1, h2, h3⟩ := h.mp
  refine ⟨m, es, clock, h1, ⟨fun a b _ _ => ⟨h3 a b, fun ⟨v, hv⟩ => ?_⟩⟩, h2, h3⟩
  obtain ⟨a', b', e, ha, _⟩ := h2 _ v hv
  have := pk_inj e
  simp only [Prod.mk.injEq, Int.natCast_inj] at this
  rw [this.1, this.2]; exact ha
end Go.Proofs.YtecnfgikbmcgoaaGreat
namespace Go.Proofs.YtecnfgikbmcgoaaGreat
open Go.RowKit Go.Sort Go.Shelf Go.Lib
open Go.Maps (Keyed)
open Go.ChangeMaps (setBlock)

instance : Inhabited Hw := ⟨⟨(0, 0), [], 0⟩⟩
def hcell (x : Hm) : List Value := [.int .i64 x.1.key.1, .int .i64 x.1.key.2, .slice x.2.1 x.1.f.length x.2.2, .int .i64 x.1.fr]
def hcells (l : List Hm) : List Value := l.flatMap hcell
theorem hcells_snoc (l : List Hm) (x : Hm) : hcells (l ++ [x]) = hcells l ++ [.int .i64 x.1.key.1, .int .i64 x.1.key.2, .slice x.2.1 x.1.f.length x.2.2, .int .i64 x.1.fr] := by simp [hcells, hcell]
theorem Tryz.infoHold : (Tryz.prog.info? 121).map (fun i => (i.zero, i.size, i.bytes)) = some (some (.agg #[.int .i64 0, .int .i64 0, .slice none 0 0, .int .i64 0]), 4, 48) := by kernel_rfl
set_option maxRecDepth 100000 in
set_option maxHeartbeats 1000000 in
theorem byKey_x (x y : Hm) (w : World) : Calls Tryz.prog 114 #[.agg #[.int .i64 x.1.key.1, .int .i64 x.1.key.2, .slice x.2.1 x.1.f.length x.2.2, .int .i64 x.1.fr], .agg #[.int .i64 y.1.key.1, .int .i64 y.1.key.2, .slice y.2.1 y.1.f.length y.2.2, .int .i64 y.1.fr]] w fun e w' => e = .returned (.int .i64 (cK x.1.key y.1.key)) ∧ Gx w w' := by
  go_enter Tryz.func114, Tryz.ntmps114
  go_wp2_with fail
  refine (compareKeys_x x.1.key y.1.key _).mono ?_
  rintro e w1 ⟨rfl, g1⟩
  have G1 := Hid.mk' ((((Gx.refl w).alloc _).alloc _).trans g1)
  clear g1
  go_wp2_with fail
  go_ret
  exact ⟨rfl, G1.out⟩
def cH (x y : Hm) : Int := cK x.1.key y.1.key
theorem ltH (x y : Hm) : ltOf cH x y = klt x.1.key y.1.key := by unfold ltOf; exact cK_lt _ _
theorem swoH : SWO (ltOf cH) where
  irrefl x := by rw [ltH]; exact klt_irr _
  trans x y z h1 h2 := by rw [ltH] at *; exact klt_trans h1 h2
  ntrans x y z h1 h2 := by
    have := swoK.ntrans x.1.key y.1.key z.1.key
    simp only [ltK] at this
    rw [ltH] at *
    exact this h1 h2
theorem cmpH (blk off size : Nat) (w : World) : CmpLays Tryz.prog 114 #[] hcell 4 cH blk off size w :=
  fun _ _ _ _ x y => byKey_x x y _
set_option maxHeartbeats 1000000 in
theorem sortHolds_some (L : List Hm) (g cap : Nat) (w0 w : World) (hn : L.length < 4611686018427387904) (hg : Gr w0 w) (h : w.ownsRow w0.heap.size 121 4 (.slice (some ⟨g, 0, none⟩) L.length cap) L.length (hcells L)) :
    Calls Tryz.prog 113 #[.slice (some ⟨g, 0, none⟩) L.length cap, .func (.func 114) #[] #[]] w fun e w' => e = .returned (.tuple #[]) ∧ ∃ L', L'.Perm L ∧ L'.Pairwise (fun x y => klt y.1.key x.1.key = false) ∧ w'.ownsRow w0.heap.size 121 4 (.slice (some ⟨g, 0, none⟩) L'.length cap) L'.length (hcells L') ∧ Gr w0 w' := by
  have eg : ∀ args w, (callFunc 114 args).run Tryz.prog w = .ok (.enter 114 args) w := enters_of Tryz.func114 (by kernel_rfl) rfl
  have hlt : g < w.heap.size := by
    rcases h.2 with ⟨hv, _⟩ | ⟨b, cap', cur, hv, hb, hh, _⟩
    · cases hv
    · simp only [Value.slice.injEq, Option.some.injEq, Addr.mk.injEq, and_true, true_and] at hv
      rw [hv.1]; exact blk_lt hh
  have hcon := AnyQ.slices_SortFunc Tryz.sortH 4 Tryz.isAgg121 Tryz.sizeOf121 hcell (fun _ => rfl) (fun x v hv => by simp [hcell] at hv; rcases hv with rfl | rfl | rfl | rfl <;> rfl) cH swoH 114 #[] g 0 cap L.toArray w eg (cmpH g 0 L.toArray.size w) (holds_of (enc := hcell) (k := 4) (fun _ => rfl) (by decide) h) hlt (by simpa using hn)
  simp only [List.size_toArray] at hcon
  refine hcon.mono ?_
  rintro e w' ⟨rfl, d', m, os, hp, hs, rfl⟩
  have hsz : d'.size = L.length := by have := hp.1; simpa using this
  have hd : d' = d'.toList.toArray := by simp
  have hperm : d'.toList.Perm L := by
    have h2 := hp.2.2
    rw [← hsz] at h2
    have e1 : d'.extract 0 d'.size = d' := Array.extract_size
    have e2 : L.toArray.extract 0 d'.size = L.toArray := by rw [hsz]; simp
    rw [e1, e2] at h2
    simpa using h2
  refine ⟨rfl, d'.toList, hperm, ?_, ?_⟩
  · rw [List.pairwise_iff_getElem]
    intro i j hi hj hij
    have := hs i j (Nat.zero_le _) hij (by simpa [hsz] using hj)
    rw [ltH, getElem!_pos d' j (by simpa using hj), getElem!_pos d' i (by simpa using hi)] at this
    simpa using this
  · have := sorted_row (enc := hcell) (k := 4) (fun _ => rfl) (by decide) (m := m) (os := os) (d := L) (d' := d'.toList) (by simpa using hsz) hg h
    rw [← hd] at this
    exact this
set_option maxRecDepth 100000 in
set_option maxHeartbeats 1000000 in
theorem insH0 (ad : Option Addr) (cap : Nat) (w : World) :
    Calls Tryz.prog 148 #[.slice ad 0 cap, .int .i64 0, .int .i64 0, .func (.func 114) #[] #[]] w fun e w' => e = .returned (.tuple #[]) ∧ Gr w w' := by
  go_enter Tryz.func148, Tryz.ntmps148
  go_wp2_with fail
  refine wp_loop_rounds 1 ?_
  rw [rounds_succ]
  go_wp2_with fail
  go_end0
  exact ⟨rfl, Gr.refl _⟩
set_option maxRecDepth 100000 in
set_option maxHeartbeats 1000000 in
theorem pdqH0 (ad : Option Addr) (cap : Nat) (l : Int) (w : World) :
    Calls Tryz.prog 138 #[.slice ad 0 cap, .int .i64 0, .int .i64 0, .int .i64 l, .func (.func 114) #[] #[]] w fun e w' => e = .returned (.tuple #[]) ∧ Gr w w' := by
  go_enter Tryz.func138, Tryz.ntmps138
  go_wp2_with fail
  refine wp_loop_rounds 1 ?_
  rw [rounds_succ]
  go_wp2_with fail
  refine (insH0 ad cap w).mono ?_
  rintro e w1 ⟨rfl, g1⟩
  go_wp2_with fail
  exact bodyPost_ret (v := .tuple #[]) (by simp [results, Tryz.results138, go_sem]) rfl ⟨rfl, g1⟩
set_option maxRecDepth 100000 in
set_option maxHeartbeats 1000000 in
theorem sortHolds_none (ad : Option Addr) (cap : Nat) (w : World) :
    Calls Tryz.prog 113 #[.slice ad 0 cap, .func (.func 114) #[] #[]] w fun e w' => e = .returned (.tuple #[]) ∧ Gr w w' := by
  go_enter Tryz.func113, Tryz.ntmps113
  go_wp2_with fail
  refine (Tryz.bits_Len 0 w (by decide) (by decide)).mono ?_
  rintro e w1 ⟨rfl, hw⟩
  have hw' := hw.symm
  clear hw
  subst hw'
  go_wp2_with fail
  refine (pdqH0 ad cap _ w).mono ?_
  rintro e w1 ⟨rfl, g1⟩
  go_wp2_with fail
  go_end0
  exact ⟨rfl, g1⟩
end Go.Proofs.YtecnfgikbmcgoaaGreat
namespace Go.Proofs.YtecnfgikbmcgoaaGreat
open Go.RowKit
open Go.Maps (Keyed)
open Go.ChangeMaps (setBlock)

/-- What was collected so far. -/
structure Hl (X : List Hm) (es : Array MapEntry) (p : Hm → Bool) (seen : Array Nat) (L : List Hm) : Prop where
  mem : ∀ x, x ∈ L ↔ ∃ e ∈ es.toList, seen.contains e.born = true ∧ x ∈ X ∧ e.key = pk x.1.key ∧ p x = true
  nd : L.Pairwise fun x y => x.1.key ≠ y.1.key
theorem Hl.len {X : List Hm} {es : Array MapEntry} {p : Hm → Bool} {seen : Array Nat} {L : List Hm} (h : Hl X es p seen L) : L.length ≤ X.length := by
  have := keys_le (L.map fun x => x.1.key) (X.map fun x => x.1.key) (by rw [List.pairwise_map]; exact h.nd) (fun k hk => by
    obtain ⟨x, hx, rfl⟩ := List.mem_map.1 hk
    obtain ⟨_, _, _, hx', _⟩ := (h.mem x).1 hx
    exact List.mem_map.2 ⟨x, hx', rfl⟩)
  simpa using this
theorem Hl.init (X : List Hm) (es : Array MapEntry) (p : Hm → Bool) : Hl X es p #[] [] := ⟨fun x => by simp, List.Pairwise.nil⟩
theorem Hl.skip {w : World} {MB clock : Nat} {X : List Hm} {es : Array MapEntry} {p : Hm → Bool} {seen : Array Nat} {L : List Hm} (h : Hl X es p seen L) (hp : Hp w MB X es clock) {e : MapEntry} (he : e ∈ es.toList) {x : Hm} (hx : x ∈ X) (hk : e.key = pk x.1.key) (hf : p x = false) : Hl X es p (seen.push e.born) L := by
  refine ⟨fun y => ?_, h.nd⟩
  rw [h.mem y]
  constructor
  · rintro ⟨e', h1, h2, h3⟩
    exact ⟨e', h1, by rw [contains_push, h2]; rfl, h3⟩
  · rintro ⟨e', h1, h2, hy, h4, h5⟩
    rw [contains_push] at h2
    rcases Bool.or_eq_true _ _ ▸ h2 with h2 | h2
    · exact ⟨e', h1, h2, hy, h4, h5⟩
    · have hee : e' = e := born_inj hp.mp.bnd h1 he (beq_iff_eq.1 h2)
      subst hee
      have : y = x := hp.inj hy hx (h4.symm.trans hk)
      subst this
      rw [h5] at hf; cases hf
theorem Hl.take {w : World} {MB clock : Nat} {X : List Hm} {es : Array MapEntry} {p : Hm → Bool} {seen : Array Nat} {L : List Hm} (h : Hl X es p seen L) (hp : Hp w MB X es clock) {e : MapEntry} (he : e ∈ es.toList) (hns : seen.contains e.born = false) {x : Hm} (hx : x ∈ X) (hk : e.key = pk x.1.key) (hf : p x = true) : Hl X es p (seen.push e.born) (L ++ [x]) := by
  refine ⟨fun y => ?_, ?_⟩
  · rw [List.mem_append, h.mem y, List.mem_singleton]
    constructor
    · rintro (⟨e', h1, h2, h3⟩ | rfl)
      · exact ⟨e', h1, by rw [contains_push, h2]; rfl, h3⟩
      · exact ⟨e, he, by rw [contains_push]; simp, hx, hk, hf⟩
    · rintro ⟨e', h1, h2, hy, h4, h5⟩
      rw [contains_push] at h2
      rcases Bool.or_eq_true _ _ ▸ h2 with h2 | h2
      · exact Or.inl ⟨e', h1, h2, hy, h4, h5⟩
      · have hee : e' = e := born_inj hp.mp.bnd h1 he (beq_iff_eq.1 h2)
        subst hee
        exact Or.inr (hp.inj hy hx (h4.symm.trans hk))
  · rw [List.pairwise_append]
    refine ⟨h.nd, List.pairwise_singleton _ _, fun a ha b hb => ?_⟩
    simp only [List.mem_singleton] at hb
    subst hb
    intro hab
    obtain ⟨e', h1, h2, hy, h4, h5⟩ := (h.mem a).1 ha
    have : a = b := hp.inj hy hx (by rw [hab])
    subst this
    have hee : e' = e := by
      have hd := hp.mp.nod
      rw [← hp.mp.ent, List.map_map] at hd
      exact inj_map hd h1 he (h4.trans hk.symm)
    subst hee
    rw [h2] at hns; cases hns
theorem Hl.all {X : List Hm} {w : World} {MB clock : Nat} {es : Array MapEntry} {p : Hm → Bool} {seen : Array Nat} {L : List Hm} (h : Hl X es p seen L) (hp : Hp w MB X es clock) (h0 : (leftOf es seen).size = 0) (x : Hm) : x ∈ L ↔ x ∈ X ∧ p x = true := by
  rw [h.mem x]
  constructor
  · rintro ⟨_, _, _, hx, _, h5⟩; exact ⟨hx, h5⟩
  · rintro ⟨hx, h5⟩
    obtain ⟨e, he, h1, _⟩ := hp.all hx
    exact ⟨e, he, all_seen es seen h0 e he, hx, h1, h5⟩
def woP (X : List Hm) (n : Int) (h : Hw) (x : Hm) : Bool := !(x.1.fr == n) && hides cov h x.1 && isT cov (X.map (·.1)) n x.1
set_option maxRecDepth 100000 in
set_option maxHeartbeats 4000000 in
theorem toldWithout_any (TB HB hoff nb hcap b MB : Nat) (n : Int) (h : Hw) (a' : Option Addr) (c' : Nat) (X : List Hm) (es : Array MapEntry) (clock : Nat) (m : Int) (w : World)
    (c0 : w.cell? ⟨TB, 0, none⟩ = some (.slice (some ⟨HB, hoff, none⟩) nb hcap)) (cb : w.cell? ⟨HB, hoff + b, none⟩ = some (.map (some MB))) (hb : b < nb) (hTB : TB < w.heap.size) (hHB : HB < w.heap.size) (hX : X.length ≤ 100000)
    (hp : Hp w MB X es clock) (hh : FiM w a' h.f) (hM : Ml m w) :
    Calls Tryz.prog 79 #[.pointer (some ⟨TB, 0, none⟩), .int .i64 b, .int .i64 n, .agg (hv h a' c')] w fun e w' => ∃ v L, e = .returned v ∧ w'.ownsRow w.heap.size 121 4 v L.length (hcells L) ∧ L.Pairwise (fun x y => klt x.1.key y.1.key = true) ∧ (∀ x, x ∈ L ↔ x ∈ X ∧ woP X n h x = true) ∧ Gr w w' := by
  obtain ⟨i0, hi, hz0, hz1, hz2⟩ := info_parts Tryz.infoHold
  have HP := Hid.mk' hp
  have HH := Hid.mk' hh
  have HM := Hid.mk' hM
  have HC0 := Hid.mk' c0
  have HCB := Hid.mk' cb
  clear hp hh hM
  unfold hv
  have ga : Gr w (w.alloc (.cells #[.int .i64 h.key.1, .int .i64 h.key.2, .slice a' h.f.length c', .int .i64 h.fr] 121)) := (Gr.refl w).alloc _
  have hrg := run_range_map (P := Tryz.prog) (w.alloc (.cells #[.int .i64 h.key.1, .int .i64 h.key.2, .slice a' h.f.length c', .int .i64 h.fr] 121)) 123 112 121 MB es clock Tryz.underlying123 (HP.out.gr ga).mp.blk
  have hsz : (w.alloc (.cells #[.int .i64 h.key.1, .int .i64 h.key.2, .slice a' h.f.length c', .int .i64 h.fr] 121)).heap.size = w.heap.size + 1 := by simp
  rw [hsz] at hrg
  have GA := Hid.mk' ga
  clear ga hsz
  go_enter Tryz.func79, Tryz.ntmps79
  go_wp2_with fail
  have H0 := Hid.mk' (blk_gr ((Gr.refl _).alloc (.mapIter (some MB) clock #[] clock)) (heap_alloc_new w (.cells #[.int .i64 h.key.1, .int .i64 h.key.2, .slice a' h.f.length c', .int .i64 h.fr] 121)))
  have I0 : Hid (((w.alloc (.cells #[.int .i64 h.key.1, .int .i64 h.key.2, .slice a' h.f.length c', .int .i64 h.fr] 121)).alloc (.mapIter (some MB) clock #[] clock)).heap[w.heap.size + 1]? = some (.mapIter (some MB) clock #[] clock)) := by
    have := heap_alloc_new (w.alloc (.cells #[.int .i64 h.key.1, .int .i64 h.key.2, .slice a' h.f.length c', .int .i64 h.fr] 121)) (.mapIter (some MB) clock #[] clock)
    rw [show (w.alloc (.cells #[.int .i64 h.key.1, .int .i64 h.key.2, .slice a' h.f.length c', .int .i64 h.fr] 121)).heap.size = w.heap.size + 1 by simp] at this
    exact this
  have G0 := Hid.mk' (GA.out.alloc (.mapIter (some MB) clock #[] clock))
  clear hrg GA c0 cb
  go_loopw [9] (fun v wr => ∃ (seen : Array Nat) (L : List Hm), Hid (wr.heap[w.heap.size + 1]? = some (.mapIter (some MB) clock seen clock)) ∧ Hid (Gr w wr) ∧ Hid (wr.heap[w.heap.size]? = some (.cells #[.int .i64 h.key.1, .int .i64 h.key.2, .slice a' h.f.length c', .int .i64 h.fr] 121 (0, 0))) ∧
    Hid (wr.ownsRow (w.heap.size + 1) 121 4 v L.length (hcells L)) ∧ Hid (Hl X es (woP X n h) seen L)) (fun _ wr => (leftOf es (wr.iterSeen (w.heap.size + 1))).size)
  case atStart => exact ⟨#[], [], I0, G0, H0, World.ownsRow_nil _ _ _ _, Hl.init X es _⟩
  case round =>
    clear I0 G0 H0
    obtain ⟨seen, L, IT, G, HB1, O, KL⟩ := hrel
    obtain ⟨va, vm, vk, rfl⟩ := owns_slice O.out
    have HMS : Hid (leftOf es (wr.iterSeen (w.heap.size + 1)) = leftOf es seen) := by show _ = _; unfold World.iterSeen; rw [IT.out]
    have HLN := Hid.mk' KL.out.len
    rcases next_law (HP.out.gr G.out) IT.out (Nat.le_succ _) G.out with ⟨h0, hnx⟩ | ⟨e, he, W2, hnx, hen, hit2, g2, hoth, hsz2⟩
    · have HA := Hid.mk' (KL.out.all HP.out h0)
      have HND := Hid.mk' KL.out.nd
      have O1 := Hid.mk' (show wr.ownsRow w.heap.size 121 4 (.slice va vm vk) L.length (hcells L) from ⟨O.out.1, by
        rcases O.out.2 with h1 | ⟨b1, c1, u1, q1, q2, q3⟩
        · exact Or.inl h1
        · exact Or.inr ⟨b1, c1, u1, q1, by omega, q3⟩⟩)
      clear h0 O KL HMS HB1 IT
      obtain ⟨va', vk', he', hsh⟩ := owns_shape O1.out
      obtain ⟨rfl, rfl, rfl⟩ : va = va' ∧ vm = L.length ∧ vk = vk' := by injection he' with h1 h2 h3; exact ⟨h1, h2, h3⟩
      clear he'
      by_cases hL : L = []
      · subst hL
        have HS := Hid.mk' (sortHolds_none va vk wr)
        go_wp2_with fail
        refine HS.out.mono ?_
        rintro e w3 ⟨rfl, g3⟩
        have G3 := Hid.mk' (Gr.call G.out g3)
        have O3 := Hid.mk' (ownsGr O1.out g3)
        go_wp2_with fail
        go_ret
        exact ⟨_, [], rfl, O3.out, List.Pairwise.nil, HA.out, G3.out⟩
      · obtain ⟨g, rfl⟩ := hsh (by cases L with | nil => exact absurd rfl hL | cons a t => simp)
        have HS := Hid.mk' (sortHolds_some L g vk w wr (by have := HLN.out; omega) G.out O1.out)
        clear hL hsh
        go_wp2_with fail
        refine HS.out.mono ?_
        rintro e w3 ⟨rfl, L', hp, hs, ho, g3⟩
        have hlen := hp.length_eq
        have G3 := Hid.mk' g3
        have O3 := Hid.mk' ho
        rw [hlen] at O3
        have SR : Hid (L'.Pairwise fun x y => klt x.1.key y.1.key = true) := by
          have hnd : L'.Pairwise fun x y => x.1.key ≠ y.1.key := hp.symm.pairwise HND.out (fun {a b} h => h.symm)
          refine List.Pairwise.imp ?_ (List.Pairwise.and hs hnd)
          rintro a b ⟨h1, h2⟩
          rcases klt_tri a.1.key b.1.key with h3 | h3 | h3
          · exact h3
          · exact absurd h3 h2
          · rw [h3] at h1; cases h1
        have MB' : Hid (∀ x, x ∈ L' ↔ x ∈ X ∧ woP X n h x = true) := fun x => (hp.mem_iff).trans (HA.out x)
        have HLE := Hid.mk' hlen
        clear hp hs ho g3 hlen
        go_wp2_with fail
        go_ret
        exact ⟨_, L', rfl, by rw [HLE.out]; exact O3.out, SR.out, MB'.out, G3.out⟩
    · obtain ⟨x, hx, hk, hv'⟩ := HP.out.ent (mem_left he).1
      rw [hv'] at hnx hen
      rw [hk] at hnx hen
      unfold hv pk at hnx hen
      have IT2 := Hid.mk' hit2
      have G2 := Hid.mk' g2
      have B2 : Hid (W2.heap[w.heap.size]? = some (.cells #[.int .i64 h.key.1, .int .i64 h.key.2, .slice a' h.f.length c', .int .i64 h.fr] 121 (0, 0))) := (hoth _ (by omega)).trans HB1.out
      have F2 := Hid.mk' ((HP.out.fi x hx).gr g2)
      have HH2 := Hid.mk' (HH.out.gr g2)
      have hW2 : w.heap.size + 2 ≤ W2.heap.size := blk_lt IT2.out
      have HNE : Hid (Value.ownBlock (.slice va vm vk) ≠ some (w.heap.size + 1)) := by
        intro h5
        rcases O.out.2 with ⟨h6, _⟩ | ⟨b', cap', cur, h6, _, h7, _⟩
        · rw [h6] at h5; simp [Value.ownBlock] at h5
        · rw [h6] at h5
          have : b' = w.heap.size + 1 := by simpa [Value.ownBlock] using h5
          subst this
          rw [IT.out] at h7; cases h7
      have O2 : Hid (W2.ownsRow (w.heap.size + 1) 121 4 (.slice va vm vk) L.length (hcells L)) := by
        obtain ⟨q1, q2⟩ := O.out
        refine ⟨q1, ?_⟩
        rcases q2 with q2 | ⟨b', cap', cur, h6, h8, h7, q3⟩
        · exact Or.inl q2
        · refine Or.inr ⟨b', cap', cur, h6, h8, ?_, q3⟩
          rw [hoth b' (fun h9 => HNE.out (by rw [h6, h9]; rfl))]; exact h7
      have NXT : Hid (∀ (L' : List Hm), Hl X es (woP X n h) (seen.push e.born) L' → ∀ (v' : Value) (w' : World), w'.heap[w.heap.size + 1]? = some (.mapIter (some MB) clock (seen.push e.born) clock) → Gr w w' → w'.heap[w.heap.size]? = some (.cells #[.int .i64 h.key.1, .int .i64 h.key.2, .slice a' h.f.length c', .int .i64 h.fr] 121 (0, 0)) → w'.ownsRow (w.heap.size + 1) 121 4 v' L'.length (hcells L') →
          (∃ (seen : Array Nat) (L : List Hm), Hid (w'.heap[w.heap.size + 1]? = some (.mapIter (some MB) clock seen clock)) ∧ Hid (Gr w w') ∧ Hid (w'.heap[w.heap.size]? = some (.cells #[.int .i64 h.key.1, .int .i64 h.key.2, .slice a' h.f.length c', .int .i64 h.fr] 121 (0, 0))) ∧ Hid (w'.ownsRow (w.heap.size + 1) 121 4 v' L.length (hcells L)) ∧ Hid (Hl X es (woP X n h) seen L)) ∧
          (leftOf es (w'.iterSeen (w.heap.size + 1))).size < (leftOf es (wr.iterSeen (w.heap.size + 1))).size) := by
        intro L' hL' v' w' h1 h2 h3 h4
        refine ⟨⟨_, L', h1, h2, h3, h4, hL'⟩, ?_⟩
        rw [HMS.out]
        unfold World.iterSeen
        rw [h1]
        exact left_shrinks es seen e he
      have SKIP := Hid.mk' (fun hf => KL.out.skip HP.out (mem_left he).1 hx hk hf)
      have TAKE := Hid.mk' (fun hf => KL.out.take HP.out (mem_left he).1 (mem_left he).2 hx hk hf)
      have GX := Hid.mk' ((Gr.refl W2).alloc (.cells #[.int .i64 x.1.key.1, .int .i64 x.1.key.2, .slice x.2.1 x.1.f.length x.2.2, .int .i64 x.1.fr] 121))
      clear he hk hx hit2 g2 hoth hsz2 hv' G IT O KL HMS HB1
      have hlt2 : w.heap.size < W2.heap.size := by omega
      have b0 : W2.cell? ⟨w.heap.size, 0, none⟩ = some (.int .i64 h.key.1) := by rw [cell_of_row _ _ _ _ _ _ B2.out]; rfl
      have b1 : W2.cell? ⟨w.heap.size, 1, none⟩ = some (.int .i64 h.key.2) := by rw [cell_of_row _ _ _ _ _ _ B2.out]; rfl
      have b2 : W2.cell? ⟨w.heap.size, 2, none⟩ = some (.slice a' h.f.length c') := by rw [cell_of_row _ _ _ _ _ _ B2.out]; rfl
      have b3 : W2.cell? ⟨w.heap.size, 3, none⟩ = some (.int .i64 h.fr) := by rw [cell_of_row _ _ _ _ _ _ B2.out]; rfl
      by_cases hn : x.1.fr = n
      · subst hn
        have N1 := Hid.mk' (NXT.out L (SKIP.out (by simp [woP])) (.slice va vm vk) _ ((GX.out.block _ (by omega)).trans IT2.out) (Gr.call G2.out GX.out) (blk_gr GX.out B2.out) (ownsGr O2.out GX.out))
        clear NXT SKIP TAKE
        go_wp2_with fail
        exact N1.out
      · have hn' : (x.1.fr == n) = false := by simpa using hn
        go_wp2_with fail
        refine (hides_any h x.1 a' x.2.1 c' x.2.2 m _ (HH2.out.gr GX.out) (F2.out.gr GX.out) ((Gr.call G2.out GX.out).ml HM.out)).mono ?_
        cases hhd : hides cov h x.1 with
        | false =>
          rintro e' w3 ⟨rfl, g3⟩
          have GY := Hid.mk' (Gr.call GX.out g3)
          have N1 := Hid.mk' (NXT.out L (SKIP.out (by simp [woP, hhd])) (.slice va vm vk) w3 ((GY.out.block _ (by omega)).trans IT2.out) (Gr.call G2.out GY.out) (blk_gr GY.out B2.out) (ownsGr O2.out GY.out))
          clear NXT SKIP TAKE g3
          go_wp2_with fail
          exact N1.out
        | true =>
          rintro e' w3 ⟨rfl, g3⟩
          have GY := Hid.mk' (Gr.call GX.out g3)
          have GW := Hid.mk' (Gr.call G2.out GY.out)
          have XB := Hid.mk' (blk_gr g3 (heap_alloc_new W2 (.cells #[.int .i64 x.1.key.1, .int .i64 x.1.key.2, .slice x.2.1 x.1.f.length x.2.2, .int .i64 x.1.fr] 121)))
          clear g3
          have g0 : w3.cell? ⟨W2.heap.size, 0, none⟩ = some (.int .i64 x.1.key.1) := by rw [cell_of_row _ _ _ _ _ _ XB.out]; rfl
          have g1 : w3.cell? ⟨W2.heap.size, 1, none⟩ = some (.int .i64 x.1.key.2) := by rw [cell_of_row _ _ _ _ _ _ XB.out]; rfl
          have g2 : w3.cell? ⟨W2.heap.size, 2, none⟩ = some (.slice x.2.1 x.1.f.length x.2.2) := by rw [cell_of_row _ _ _ _ _ _ XB.out]; rfl
          have g3 : w3.cell? ⟨W2.heap.size, 3, none⟩ = some (.int .i64 x.1.fr) := by rw [cell_of_row _ _ _ _ _ _ XB.out]; rfl
          have HT := Hid.mk' (isTold_any TB HB hoff nb hcap b MB n x.1 x.2.1 x.2.2 X es clock m w3 ((GW.out.cell (p := ⟨TB, 0, none⟩) hTB).trans HC0.out) ((GW.out.cell (p := ⟨HB, hoff + b, none⟩) hHB).trans HCB.out) hb (GW.out.lt hTB) (GW.out.lt hHB) (HP.out.gr GW.out) (F2.out.gr GY.out) (GW.out.ml HM.out))
          unfold hv at HT
          go_wp2_with fail
          refine HT.out.mono ?_
          cases hit : isT cov (X.map (·.1)) n x.1 with
          | false =>
            rintro e' w4 ⟨rfl, g4⟩
            have GZ := Hid.mk' (Gr.call GY.out g4)
            have N1 := Hid.mk' (NXT.out L (SKIP.out (by simp [woP, hit])) (.slice va vm vk) w4 ((GZ.out.block _ (by omega)).trans IT2.out) (Gr.call G2.out GZ.out) (blk_gr GZ.out B2.out) (ownsGr O2.out GZ.out))
            clear NXT SKIP TAKE g4 HT
            go_wp2_with fail
            exact N1.out
          | true =>
            rintro e' w4 ⟨rfl, g4⟩
            have GZ := Hid.mk' (Gr.call GY.out g4)
            have XC := Hid.mk' (blk_gr g4 XB.out)
            have KL2 := Hid.mk' (TAKE.out (by simp [woP, hn', hhd, hit]))
            have O4 := Hid.mk' (ownsGr O2.out GZ.out)
            have G4 := Hid.mk' (Gr.call G2.out GZ.out)
            have hs4 : w.heap.size + 1 < w4.heap.size := Nat.lt_of_lt_of_le (by omega) GZ.out.size
            clear SKIP TAKE g4 HT g0 g1 g2 g3
            have g0 : w4.cell? ⟨W2.heap.size, 0, none⟩ = some (.int .i64 x.1.key.1) := by rw [cell_of_row _ _ _ _ _ _ XC.out]; rfl
            have g1 : w4.cell? ⟨W2.heap.size, 1, none⟩ = some (.int .i64 x.1.key.2) := by rw [cell_of_row _ _ _ _ _ _ XC.out]; rfl
            have g2 : w4.cell? ⟨W2.heap.size, 2, none⟩ = some (.slice x.2.1 x.1.f.length x.2.2) := by rw [cell_of_row _ _ _ _ _ _ XC.out]; rfl
            have g3 : w4.cell? ⟨W2.heap.size, 3, none⟩ = some (.int .i64 x.1.fr) := by rw [cell_of_row _ _ _ _ _ _ XC.out]; rfl
            go_wp2_with (at_builtin; refine wpList_append_own _ rfl _ _ 177 rfl (w.heap.size + 1) 121 i0 _ 4 48 Tryz.underlying177 hi hz0 hz1 hz2 rfl (by decide) _ _ _ rfl (O4.out.alloc _) ⟨w4.heap.size, 0, none⟩ 1 1 [.int .i64 x.1.key.1, .int .i64 x.1.key.2, .slice x.2.1 x.1.f.length x.2.2, .int .i64 x.1.fr] rfl rfl (World.news_of_block (new_atK rfl)) ?k2 ?k3 ?k4 ?k5 ?_)
            case k2 => intro t ht; simp at ht; rcases ht with rfl | rfl | rfl | rfl <;> rfl
            case k3 => have := HLN.out; unfold maxLen; omega
            case k4 => have := HLN.out; omega
            case k5 => simp; omega
            intro v5 w5 ho5 hg5 _
            have low : ∀ q, Value.ownBlock (.slice va vm vk) = some q → w.heap.size + 1 ≤ q := own_low O4.out
            have G5 : Hid (Gr w w5) := Below.grown (G4.out.alloc _) hg5 (Nat.le_trans G4.out.size (by simp)) (fun q hq => by have := low q hq; omega)
            have I5 : Hid (w5.heap[w.heap.size + 1]? = some (.mapIter (some MB) clock (seen.push e.born) clock)) := by
              show _ = _
              rw [hg5.block _ (by simp; omega) (fun h5 => HNE.out h5.symm), Below.heap_alloc _ _ _ (by omega), GZ.out.block _ (by omega)]
              exact IT2.out
            have B5 : Hid (w5.heap[w.heap.size]? = some (.cells #[.int .i64 h.key.1, .int .i64 h.key.2, .slice a' h.f.length c', .int .i64 h.fr] 121 (0, 0))) := by
              show _ = _
              rw [hg5.block _ (by simp; omega) (fun h5 => by have := low _ h5.symm; omega), Below.heap_alloc _ _ _ (by omega), GZ.out.block _ (by omega)]
              exact B2.out
            have O5 : w5.ownsRow (w.heap.size + 1) 121 4 v5 (L ++ [x]).length (hcells (L ++ [x])) := by
              rw [hcells_snoc, List.length_append]; exact ho5
            have N1 := Hid.mk' (NXT.out (L ++ [x]) KL2.out v5 w5 I5.out G5.out B5.out O5)
            obtain ⟨ya, ym, yk, rfl⟩ := owns_slice ho5
            clear ho5 hg5 O4 O2 NXT O5 low
            go_wp2_with fail
            exact N1.out
end Go.Proofs.YtecnfgikbmcgoaaGreat
