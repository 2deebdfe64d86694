import Derived.Test.YtecnfgikbmcgoaaGreatG19
import Derived.Test.YtecnfgikbmcgoaaGreatG21
namespace Go.Proofs.YtecnfgikbmcgoaaGreat
open Go.RowKit
open Go.Maps (Keyed)
open Go.ChangeMaps (setBlock)

def pushq (qs : Nat → Nat → List Mm) (a b : Nat) (l : List Mm) : Nat → Nat → List Mm := fun x y => if x = a ∧ y = b then qs x y ++ l else qs x y
def popq (qs : Nat → Nat → List Mm) (a b : Nat) : Nat → Nat → List Mm := fun x y => if x = a ∧ y = b then (qs x y).tail else qs x y
theorem pk_ne {a b a' b' : Nat} (h : ¬ (a' = a ∧ b' = b)) : pk ((a' : Int), (b' : Int)) ≠ pk ((a : Int), (b : Int)) := fun e => by
  have := pk_inj e
  simp only [Prod.mk.injEq, Int.natCast_inj] at this
  exact h this
theorem nod_side {m1 m2 : List (Value × Value)} {k v : Value} (h : ((m1 ++ (k, v) :: m2).map Prod.fst).Nodup) {x : Value × Value} (hx : x ∈ m1 ∨ x ∈ m2) : x.1 ≠ k := by
  simp only [List.map_append, List.map_cons] at h
  rw [List.nodup_append] at h
  obtain ⟨_, h2, h3⟩ := h
  rcases hx with hx | hx
  · exact h3 _ (List.mem_map.2 ⟨x, hx, rfl⟩) k (by simp)
  · intro e
    have := (List.nodup_cons.1 h2).1
    exact this (List.mem_map.2 ⟨x, hx, e⟩)
section
variable {T : Tc} {r : Nat → Rl} {w : World} {Xs : Nat → List Hm} {qs : Nat → Nat → List Mm} {cls : List Cl}
theorem Tm.send (h : Tm T r w Xs qs cls) {a b : Nat} (x : Mm) (hx : MmOk r w x) {m1 m2 : List (Value × Value)} {es : Array MapEntry} {clock : Nat} {v v' : Value}
    (hm : Mp Tryz.prog 81 w T.LB (m1 ++ (pk ((a : Int), (b : Int)), v) :: m2) es clock)
    (hall : ∀ k u, (k, u) ∈ m1 ++ (pk ((a : Int), (b : Int)), v) :: m2 → ∃ a b : Nat, k = pk ((a : Int), (b : Int)) ∧ T.adj a b = true ∧ Qr w 172 4 (fun k => r k = .qu a b) u (qs a b).length ((qs a b).flatMap mcells))
    (hev : ∀ a' b' : Nat, T.adj a' b' = true → ∃ u, (pk ((a' : Int), (b' : Int)), u) ∈ m1 ++ (pk ((a : Int), (b : Int)), v) :: m2)
    (hv : Qr w 172 4 (fun k => r k = .qu a b) v (qs a b).length ((qs a b).flatMap mcells)) (hab : T.adj a b = true)
    {w2 : World} (g : w.grownBy w2 v.ownBlock) (hq : Qr w2 172 4 (fun k => v'.ownBlock = some k) v' ((qs a b).length + 1) ((qs a b).flatMap mcells ++ mcells x)) (hat : v'.ownBlock = v.ownBlock ∨ ∃ k, w.heap.size ≤ k ∧ v'.ownBlock = some k)
    {es' : Array MapEntry} {clock' : Nat} (hm' : Mp Tryz.prog 81 (setBlock w2 T.LB (.map es' clock')) T.LB (m1 ++ (pk ((a : Int), (b : Int)), v') :: m2) es' clock') :
    ∃ r', Tm T r' (setBlock w2 T.LB (.map es' clock')) Xs (pushq qs a b [x]) cls ∧ Fr r r' w (setBlock w2 T.LB (.map es' clock')) := by
  have hlt := hm.lt
  have hown : ∀ k, v.ownBlock = some k → r k = .qu a b ∧ k < w.heap.size := fun k hk => hv.own k hk
  have hown' : ∀ k, k < w.heap.size → v'.ownBlock = some k → r k = .qu a b := fun k hk e => by
    rcases hat with h1 | ⟨q, h1, h2⟩
    · rw [h1] at e; exact (hown k e).1
    · rw [h2] at e; injection e with e; omega
  have hs : w.heap.size ≤ (setBlock w2 T.LB (.map es' clock')).heap.size := by simp only [setBlock]; simpa using g.size
  have hsame : ∀ k, k < w.heap.size → (if v'.ownBlock = some k then Rl.qu a b else r k) = r k := by
    intro k hk
    split
    · rename_i e; exact (hown' k hk e).symm
    · rfl
  have hkeep : ∀ k, k < w.heap.size → r k ≠ .lm → r k ≠ .qu a b → (setBlock w2 T.LB (.map es' clock')).heap[k]? = w.heap[k]? := by
    intro k hk h1 h2
    rw [setBlock_other (fun e => h1 (by rw [e]; exact h.l.lm))]
    exact g.block k hk (fun e => h2 (hown k e.symm).1)
  have htop : ∀ k, (setBlock w2 T.LB (.map es' clock')).heap.size ≤ k → (if v'.ownBlock = some k then Rl.qu a b else r k) = .no := by
    intro k hk
    have hk2 : w2.heap.size ≤ k := by simp only [setBlock] at hk; simpa using hk
    rw [if_neg (fun e => by have := (hq.own k e).2; omega)]
    exact h.b.top k (Nat.le_trans g.size hk2)
  have nl : ∀ {k : Nat}, r k = .fx → r k ≠ .lm ∧ r k ≠ .qu a b := fun e => ⟨by rw [e]; exact fun e => (by cases e), by rw [e]; exact fun e => (by cases e)⟩
  refine ⟨fun k => if v'.ownBlock = some k then .qu a b else r k, ⟨h.b.keep hs (fun k hk hr => ?_) hsame htop, h.h.keep hs (fun k hk hr => ?_) hsame, ⟨?_, ⟨_, es', clock', hm', fun k u hu => ?_, fun a' b' hab' => ?_⟩, fun a' b' y hy => ?_, fun a' b' hf => ?_⟩, h.k.keep hs (fun k hk hr => ?_) hsame⟩, ⟨g.os, g.tape, g.output, hs, fun k hk hr => ?_, hsame⟩⟩
  · rcases hr with hr | hr
    · exact hkeep k hk (by rw [hr]; exact fun e => by cases e) (by rw [hr]; exact fun e => by cases e)
    · exact hkeep k hk (nl hr).1 (nl hr).2
  · rcases hr with hr | ⟨c, hr⟩
    · exact hkeep k hk (nl hr).1 (nl hr).2
    · exact hkeep k hk (by rw [hr]; exact fun e => by cases e) (by rw [hr]; exact fun e => by cases e)
  · exact (hsame _ hlt).trans h.l.lm
  · have hside : ∀ y : Value × Value, y ∈ m1 ∨ y ∈ m2 → ∃ a' b' : Nat, y.1 = pk ((a' : Int), (b' : Int)) ∧ T.adj a' b' = true ∧ Qr (setBlock w2 T.LB (.map es' clock')) 172 4 (fun k => (if v'.ownBlock = some k then Rl.qu a b else r k) = .qu a' b') y.2 (pushq qs a b [x] a' b').length ((pushq qs a b [x] a' b').flatMap mcells) := by
      intro y hy
      have hmem : (y.1, y.2) ∈ m1 ++ (pk ((a : Int), (b : Int)), v) :: m2 := by
        rcases hy with hy | hy
        · exact List.mem_append.2 (Or.inl hy)
        · exact List.mem_append.2 (Or.inr (List.mem_cons.2 (Or.inr hy)))
      obtain ⟨a', b', e, ha, hQ⟩ := hall _ _ hmem
      have hne := nod_side hm.nod hy
      have hnn : ¬ (a' = a ∧ b' = b) := fun ee => hne (by rw [e, ee.1, ee.2])
      refine ⟨a', b', e, ha, ?_⟩
      rw [show pushq qs a b [x] a' b' = qs a' b' from if_neg hnn]
      refine hQ.kept fun gg hg hR => ⟨hkeep gg hg (by rw [hR]; exact fun e => by cases e) (by rw [hR]; intro e; injection e with e1 e2; exact hnn ⟨e1, e2⟩), (hsame gg hg).trans hR⟩
    rcases List.mem_append.1 hu with hu | hu
    · exact hside (k, u) (Or.inl hu)
    · rcases List.mem_cons.1 hu with hu | hu
      · injection hu with e1 e2
        subst e2
        refine ⟨a, b, e1, hab, ?_⟩
        rw [show pushq qs a b [x] a b = qs a b ++ [x] from if_pos ⟨rfl, rfl⟩, List.length_append, List.flatMap_append]
        have hx1 : [x].flatMap mcells = mcells x := by simp
        rw [hx1]
        refine hq.kept fun gg hg hR => ⟨setBlock_other (fun e => ?_), if_pos hR⟩
        subst e
        have := hown' _ hlt hR
        rw [h.l.lm] at this; cases this
      · exact hside (k, u) (Or.inr hu)
  · obtain ⟨u, hu⟩ := hev a' b' hab'
    rcases List.mem_append.1 hu with hu | hu
    · exact ⟨u, List.mem_append.2 (Or.inl hu)⟩
    · rcases List.mem_cons.1 hu with hu | hu
      · injection hu with e1 e2
        exact ⟨v', List.mem_append.2 (Or.inr (List.mem_cons.2 (Or.inl (by rw [e1]))))⟩
      · exact ⟨u, List.mem_append.2 (Or.inr (List.mem_cons.2 (Or.inr hu)))⟩
  · have hk2 : ∀ y : Mm, MmOk r w y → MmOk (fun k => if v'.ownBlock = some k then .qu a b else r k) (setBlock w2 T.LB (.map es' clock')) y := fun y hy => hy.keep hs (fun k hk hr => hkeep k hk (nl hr).1 (nl hr).2) hsame
    unfold pushq at hy
    split at hy
    · rcases List.mem_append.1 hy with hy | hy
      · exact hk2 y (h.l.ms a' b' y hy)
      · rw [List.mem_singleton.1 hy]; exact hk2 x hx
    · exact hk2 y (h.l.ms a' b' y hy)
  · have hnn : ¬ (a' = a ∧ b' = b) := fun ee => by rw [ee.1, ee.2, hab] at hf; cases hf
    rw [show pushq qs a b [x] a' b' = qs a' b' from if_neg hnn]
    exact h.l.nq a' b' hf
  · rcases hr with hr | hr | ⟨c, hr⟩ | ⟨c, hr⟩
    · exact hkeep k hk (nl hr).1 (nl hr).2
    all_goals exact hkeep k hk (by rw [hr]; exact fun e => by cases e) (by rw [hr]; exact fun e => by cases e)
  · rcases hr with hr | hr
    · exact hkeep k hk (by rw [hr]; exact fun e => by cases e) (by rw [hr]; exact fun e => by cases e)
    · exact hkeep k hk (nl hr).1 (nl hr).2
/-- The first of a link is taken. -/
theorem Tm.pop (h : Tm T r w Xs qs cls) {a b : Nat} {x : Mm} {rest : List Mm} (hqs : qs a b = x :: rest) {m1 m2 : List (Value × Value)} {es : Array MapEntry} {clock : Nat} {v v' : Value}
    (hm : Mp Tryz.prog 81 w T.LB (m1 ++ (pk ((a : Int), (b : Int)), v) :: m2) es clock)
    (hall : ∀ k u, (k, u) ∈ m1 ++ (pk ((a : Int), (b : Int)), v) :: m2 → ∃ a b : Nat, k = pk ((a : Int), (b : Int)) ∧ T.adj a b = true ∧ Qr w 172 4 (fun k => r k = .qu a b) u (qs a b).length ((qs a b).flatMap mcells))
    (hev : ∀ a' b' : Nat, T.adj a' b' = true → ∃ u, (pk ((a' : Int), (b' : Int)), u) ∈ m1 ++ (pk ((a : Int), (b : Int)), v) :: m2) (hab : T.adj a b = true)
    {w2 : World} {g : Nat} (hg : r g = .qu a b) (ho : ∀ k, k ≠ g → w2.heap[k]? = w.heap[k]?) (hsz : w2.heap.size = w.heap.size) (h1 : w2.os = w.os) (h2 : w2.tape = w.tape) (h3 : w2.output = w.output)
    (hq : Qr w2 172 4 (fun k => r k = .qu a b) v' rest.length (rest.flatMap mcells))
    {es' : Array MapEntry} {clock' : Nat} (hm' : Mp Tryz.prog 81 (setBlock w2 T.LB (.map es' clock')) T.LB (m1 ++ (pk ((a : Int), (b : Int)), v') :: m2) es' clock') :
    Tm T r (setBlock w2 T.LB (.map es' clock')) Xs (popq qs a b) cls ∧ Fr r r w (setBlock w2 T.LB (.map es' clock')) := by
  have hpop : popq qs a b a b = rest := by unfold popq; rw [if_pos ⟨rfl, rfl⟩, hqs]; rfl
  have hs : w.heap.size ≤ (setBlock w2 T.LB (.map es' clock')).heap.size := by simp only [setBlock]; simpa using Nat.le_of_eq hsz.symm
  have hkeep : ∀ k, r k ≠ .lm → r k ≠ .qu a b → (setBlock w2 T.LB (.map es' clock')).heap[k]? = w.heap[k]? := by
    intro k h1 h2
    rw [setBlock_other (fun e => h1 (by rw [e]; exact h.l.lm))]
    exact ho k (fun e => h2 (by rw [e]; exact hg))
  have htop : ∀ k, (setBlock w2 T.LB (.map es' clock')).heap.size ≤ k → r k = .no := fun k hk => h.b.top k (Nat.le_trans hs hk)
  have nl : ∀ {k : Nat}, r k = .fx → r k ≠ .lm ∧ r k ≠ .qu a b := fun e => ⟨by rw [e]; exact fun e => (by cases e), by rw [e]; exact fun e => (by cases e)⟩
  have hsame : ∀ k, k < w.heap.size → r k = r k := fun _ _ => rfl
  refine ⟨⟨h.b.keep hs (fun k hk hr => ?_) hsame htop, h.h.keep hs (fun k hk hr => ?_) hsame, ⟨h.l.lm, ⟨_, es', clock', hm', fun k u hu => ?_, fun a' b' hab' => ?_⟩, fun a' b' y hy => ?_, fun a' b' hf => ?_⟩, h.k.keep hs (fun k hk hr => ?_) hsame⟩, ⟨h1, h2, h3, hs, fun k hk hr => ?_, hsame⟩⟩
  · rcases hr with hr | hr
    · exact hkeep k (by rw [hr]; exact fun e => by cases e) (by rw [hr]; exact fun e => by cases e)
    · exact hkeep k (nl hr).1 (nl hr).2
  · rcases hr with hr | ⟨c, hr⟩
    · exact hkeep k (nl hr).1 (nl hr).2
    · exact hkeep k (by rw [hr]; exact fun e => by cases e) (by rw [hr]; exact fun e => by cases e)
  · have hside : ∀ y : Value × Value, y ∈ m1 ∨ y ∈ m2 → ∃ a' b' : Nat, y.1 = pk ((a' : Int), (b' : Int)) ∧ T.adj a' b' = true ∧ Qr (setBlock w2 T.LB (.map es' clock')) 172 4 (fun k => r k = .qu a' b') y.2 (popq qs a b a' b').length ((popq qs a b a' b').flatMap mcells) := by
      intro y hy
      have hmem : (y.1, y.2) ∈ m1 ++ (pk ((a : Int), (b : Int)), v) :: m2 := by
        rcases hy with hy | hy
        · exact List.mem_append.2 (Or.inl hy)
        · exact List.mem_append.2 (Or.inr (List.mem_cons.2 (Or.inr hy)))
      obtain ⟨a', b', e, ha, hQ⟩ := hall _ _ hmem
      have hne := nod_side hm.nod hy
      have hnn : ¬ (a' = a ∧ b' = b) := fun ee => hne (by rw [e, ee.1, ee.2])
      refine ⟨a', b', e, ha, ?_⟩
      rw [show popq qs a b a' b' = qs a' b' from if_neg hnn]
      refine hQ.kept fun gg _ hR => ⟨hkeep gg (by rw [hR]; exact fun e => by cases e) (by rw [hR]; intro e; injection e with e1 e2; exact hnn ⟨e1, e2⟩), hR⟩
    rcases List.mem_append.1 hu with hu | hu
    · exact hside (k, u) (Or.inl hu)
    · rcases List.mem_cons.1 hu with hu | hu
      · injection hu with e1 e2
        subst e2
        refine ⟨a, b, e1, hab, ?_⟩
        rw [hpop]
        refine hq.kept fun gg _ hR => ⟨setBlock_other (fun e => ?_), hR⟩
        subst e
        rw [h.l.lm] at hR; cases hR
      · exact hside (k, u) (Or.inr hu)
  · obtain ⟨u, hu⟩ := hev a' b' hab'
    rcases List.mem_append.1 hu with hu | hu
    · exact ⟨u, List.mem_append.2 (Or.inl hu)⟩
    · rcases List.mem_cons.1 hu with hu | hu
      · injection hu with e1 e2
        exact ⟨v', List.mem_append.2 (Or.inr (List.mem_cons.2 (Or.inl (by rw [e1]))))⟩
      · exact ⟨u, List.mem_append.2 (Or.inr (List.mem_cons.2 (Or.inr hu)))⟩
  · have hk2 : ∀ y : Mm, MmOk r w y → MmOk r (setBlock w2 T.LB (.map es' clock')) y := fun y hy => hy.keep hs (fun k hk hr => hkeep k (nl hr).1 (nl hr).2) hsame
    unfold popq at hy
    split at hy
    · exact hk2 y (h.l.ms a' b' y (List.mem_of_mem_tail hy))
    · exact hk2 y (h.l.ms a' b' y hy)
  · have hnn : ¬ (a' = a ∧ b' = b) := fun ee => by rw [ee.1, ee.2, hab] at hf; cases hf
    rw [show popq qs a b a' b' = qs a' b' from if_neg hnn]
    exact h.l.nq a' b' hf
  · rcases hr with hr | hr | ⟨c, hr⟩ | ⟨c, hr⟩
    · exact hkeep k (nl hr).1 (nl hr).2
    all_goals exact hkeep k (by rw [hr]; exact fun e => by cases e) (by rw [hr]; exact fun e => by cases e)
  · rcases hr with hr | hr
    · exact hkeep k (by rw [hr]; exact fun e => by cases e) (by rw [hr]; exact fun e => by cases e)
    · exact hkeep k (nl hr).1 (nl hr).2
/-- A broker's map turns. -/
theorem Tm.turn (h : Tm T r w Xs qs cls) {b : Nat} (hb : b < T.nb) (X' : List Hm) {es' : Array MapEntry} {clock' : Nat} (hm' : Mp Tryz.prog 112 (setBlock w (T.MB b) (.map es' clock')) (T.MB b) (X'.map mv) es' clock')
    (hfi : ∀ x ∈ X', FiR r w x.2.1 x.1.f ∧ I64 x.1.key.1 ∧ I64 x.1.key.2) :
    Tm T r (setBlock w (T.MB b) (.map es' clock')) (fun c => if c = b then X' else Xs c) qs cls ∧ Fr r r w (setBlock w (T.MB b) (.map es' clock')) := by
  have hs : w.heap.size ≤ (setBlock w (T.MB b) (.map es' clock')).heap.size := by simp [setBlock]
  have hrb := (h.h.at' b hb).1
  have hkeep : ∀ k, r k ≠ .hm b → (setBlock w (T.MB b) (.map es' clock')).heap[k]? = w.heap[k]? := fun k h1 => setBlock_other (fun e => h1 (by rw [e]; exact hrb))
  have htop : ∀ k, (setBlock w (T.MB b) (.map es' clock')).heap.size ≤ k → r k = .no := fun k hk => h.b.top k (Nat.le_trans hs hk)
  have hsame : ∀ k, k < w.heap.size → r k = r k := fun _ _ => rfl
  have fi2 : ∀ {ad : Option Addr} {f : List Wnt}, FiR r w ad f → FiR r (setBlock w (T.MB b) (.map es' clock')) ad f := fun hf => hf.keep hs (fun k _ hr => hkeep k (by rw [hr]; exact fun e => by cases e)) hsame
  refine ⟨⟨h.b.keep hs (fun k _ hr => hkeep k ?_) hsame htop, ⟨fun c hc => ?_, fun c hc x hx => ?_⟩, h.l.keep hs (fun k _ hr => hkeep k ?_) hsame, h.k.keep hs (fun k _ hr => hkeep k ?_) hsame⟩, ⟨rfl, rfl, rfl, hs, fun k _ hr => hkeep k ?_, hsame⟩⟩
  · rcases hr with hr | hr <;> (rw [hr]; exact fun e => by cases e)
  · by_cases hcb : c = b
    · subst hcb
      simp only [if_true]
      exact ⟨hrb, es', clock', hm'⟩
    · simp only [if_neg hcb]
      obtain ⟨h1, es, clock, h2⟩ := h.h.at' c hc
      exact ⟨h1, es, clock, h2.kept (hkeep _ (by rw [h1]; intro e; injection e with e; exact hcb e))⟩
  · by_cases hcb : c = b
    · subst hcb
      simp only [if_true] at hx
      exact ⟨fi2 (hfi x hx).1, (hfi x hx).2⟩
    · simp only [if_neg hcb] at hx
      exact ⟨fi2 (h.h.fi c hc x hx).1, (h.h.fi c hc x hx).2⟩
  · rcases hr with hr | hr | ⟨a, c, hr⟩ <;> (rw [hr]; exact fun e => by cases e)
  · rcases hr with hr | hr | ⟨c, hr⟩ | ⟨c, hr⟩ <;> (rw [hr]; exact fun e => by cases e)
  · rcases hr with hr | hr <;> (rw [hr]; exact fun e => by cases e)
end
/-- A cell of another's is set. -/
theorem Tm.set {T : Tc} {r : Nat → Rl} {w : World} {Xs : Nat → List Hm} {qs : Nat → Nat → List Mm} {cls : List Cl} (h : Tm T r w Xs qs cls) {B j : Nat} (hB : r B = .no) (h0 : B ≠ 0) (u : Value) : Tm T r (w.setCell ⟨B, j, none⟩ u) Xs qs cls := by
  refine Tm.apart (r1 := fun k => if k = B then .lm else .no) (r1' := fun k => if k = B then .lm else .no) h ⟨rfl, rfl, rfl, by rw [size_set]; exact Nat.le_refl _, fun k _ hr => Below.heap_setCell w _ u k ?_, fun _ _ => rfl⟩ (fun k => ?_) (if_neg (fun e => h0 e.symm))
  · intro e
    have e : k = B := e
    simp only [e, if_true] at hr
    rcases hr with hr | hr <;> cases hr
  · by_cases hk : k = B
    · exact Or.inl (by rw [hk]; exact hB)
    · exact Or.inr (if_neg hk)
theorem Fr.set {r r' : Nat → Rl} {w w' : World} (h : Fr r r' w w') {B j : Nat} (hB : w.heap.size ≤ B) (u : Value) : Fr r r' w (w'.setCell ⟨B, j, none⟩ u) :=
  ⟨h.os, h.tape, h.output, by rw [size_set]; exact h.size, fun k hk hr => (Below.heap_setCell w' _ u k (by show k ≠ B; omega)).trans (h.keep k hk hr), h.same⟩
/-- The plain tree that lies in memory. -/
structure Vw (T : Tc) (Xs : Nat → List Hm) (qs : Nat → Nat → List Mm) (s : TS (List Wnt) (List Atr)) : Prop where
  held : ∀ b, b < T.nb → ∀ h, h ∈ s.held b ↔ ∃ x ∈ Xs b, x.1 = h
  q : ∀ a b, s.q a b = (qs a b).map Mm.ms
theorem isT_cong {l l' : List Hw} (h : ∀ g, g ∈ l ↔ g ∈ l') (n : Int) (x : Hw) : isT cov l n x = isT cov l' n x := by
  rw [Bool.eq_iff_iff, isT_iff, isT_iff]
  exact ⟨fun k g hg => k g ((h g).2 hg), fun k g hg => k g ((h g).1 hg)⟩
theorem woT_of {X L : List Hm} {l : List Hw} {n : Int} {h : Hw} (hs : Srt l) (hl : ∀ g, g ∈ l ↔ ∃ x ∈ X, x.1 = g) (hL : L.Pairwise fun x y => klt x.1.key y.1.key = true) (hm : ∀ x, x ∈ L ↔ x ∈ X ∧ woP X n h x = true) : L.map (·.1) = woT cov l n h := by
  have hc : ∀ g, g ∈ X.map (·.1) ↔ g ∈ l := fun g => by rw [hl g, List.mem_map]
  refine Srt.ext (List.pairwise_map.2 hL) (hs.filter _) (fun g => ?_)
  rw [List.mem_map]
  constructor
  · rintro ⟨x, hx, rfl⟩
    obtain ⟨h1, h2⟩ := (hm x).1 hx
    refine List.mem_filter.2 ⟨(hl _).2 ⟨x, h1, rfl⟩, ?_⟩
    unfold woP at h2
    rw [isT_cong hc] at h2
    exact h2
  · intro hg
    obtain ⟨h1, h2⟩ := List.mem_filter.1 hg
    obtain ⟨x, hx, rfl⟩ := (hl g).1 h1
    refine ⟨x, (hm x).2 ⟨hx, ?_⟩, rfl⟩
    unfold woP
    rw [isT_cong hc]
    exact h2
end Go.Proofs.YtecnfgikbmcgoaaGreat
