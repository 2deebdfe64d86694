import Derived.Test.YtecnfgikbmcgoaaDoorG19
import Derived.Test.YtecnfgikbmcgoaaDoorG6
namespace Go.Proofs.YtecnfgikbmcgoaaDoor
open Go.RowKit

/-- Nothing below base has turned, and no block of another type than these but one. -/
structure Kv (ts : List TypeId) (own : Option Nat) (base : Nat) (w w' : World) : Prop where
  be : Below base w w'
  kp : ∀ (k : Nat) (cs : Array Value) (t : TypeId) (fr : Nat × Nat), w.heap[k]? = some (.cells cs t fr) → ¬ t ∈ ts → own ≠ some k → w'.heap[k]? = some (.cells cs t fr)
theorem Kv.refl (ts : List TypeId) (own : Option Nat) (base : Nat) (w : World) : Kv ts own base w w := ⟨Below.refl _ _, fun _ _ _ _ h _ _ => h⟩
theorem Kv.trans {ts : List TypeId} {own : Option Nat} {base : Nat} {a b c : World} (h : Kv ts own base a b) (k : Kv ts own base b c) : Kv ts own base a c :=
  ⟨Below.trans h.be k.be, fun i cs t fr hi ht ho => k.kp i cs t fr (h.kp i cs t fr hi ht ho) ht ho⟩
theorem Kv.gr {ts : List TypeId} {own : Option Nat} {base : Nat} {a b : World} (g : Gr a b) (hb : base ≤ a.heap.size) : Kv ts own base a b :=
  ⟨Below.mono g hb, fun _ _ _ _ hi _ _ => blk_gr g hi⟩
theorem Kv.wide {ts us : List TypeId} {own : Option Nat} {base : Nat} {a b : World} (h : Kv ts own base a b) (hs : ∀ t ∈ ts, t ∈ us) : Kv us own base a b :=
  ⟨h.be, fun i cs t fr hi ht ho => h.kp i cs t fr hi (fun hm => ht (hs t hm)) ho⟩
theorem Kv.size {ts : List TypeId} {own : Option Nat} {base : Nat} {a b : World} (h : Kv ts own base a b) : a.heap.size ≤ b.heap.size := h.be.size
theorem Kv.owns {ts : List TypeId} {own : Option Nat} {base b2 : Nat} {w w' : World} {e : TypeId} {size : Nat} {v : Value} {n : Nat} {xs : List Value} (k : Kv ts own base w w') (h : w.ownsRow b2 e size v n xs) (he : ¬ e ∈ ts) (ho : ∀ q, v.ownBlock = some q → own ≠ some q) : w'.ownsRow b2 e size v n xs := by
  obtain ⟨h1, h2⟩ := h
  refine ⟨h1, ?_⟩
  rcases h2 with h2 | ⟨b, cap, cur, hv, hb, hh, r⟩
  · exact Or.inl h2
  · exact Or.inr ⟨b, cap, cur, hv, hb, k.kp _ _ _ _ hh he (ho b (by rw [hv]; rfl)), r⟩

/-- The state of 'keep': l is written full, and so are its longer ones. -/
structure KI (T TS : TypeId) (own : Option Nat) (base : Nat) (w wr : World) (mk : List Value) (n : Nat) (v vi : Value) (ls : List Value) (us : List (Value × Nat)) : Prop where
  fr : Kv [TS] own base w wr
  le : base ≤ wr.heap.size
  v0 : wr.ownsRow base T mk.length v n (rep n mk)
  vi : wr.ownsRow base TS 1 vi ls.length ls
  us : ∀ p ∈ us, wr.ownsRow base T mk.length p.1 p.2 (rep p.2 mk)
theorem KI.gr {T TS : TypeId} {own : Option Nat} {base : Nat} {w wr wn : World} {mk : List Value} {n : Nat} {v vi : Value} {ls : List Value} {us : List (Value × Nat)} (h : KI T TS own base w wr mk n v vi ls us) (g : Gr wr wn) : KI T TS own base w wn mk n v vi ls us :=
  ⟨h.fr.trans (Kv.gr g h.le), Nat.le_trans h.le g.size, ownsGr h.v0 g, ownsGr h.vi g, fun p hp => ownsGr (h.us p hp) g⟩
theorem KI.alloc {T TS : TypeId} {own : Option Nat} {base : Nat} {w wr : World} {mk : List Value} {n : Nat} {v vi : Value} {ls : List Value} {us : List (Value × Nat)} (h : KI T TS own base w wr mk n v vi ls us) (o : Obj) : KI T TS own base w (wr.alloc o) mk n v vi ls us := h.gr ((Gr.refl _).alloc o)
theorem KI.drew {T TS : TypeId} {own : Option Nat} {base : Nat} {w wr : World} {mk : List Value} {n : Nat} {v vi : Value} {ls : List Value} {us : List (Value × Nat)} (h : KI T TS own base w wr mk n v vi ls us) : KI T TS own base w wr.drew mk n v vi ls us := h.gr (Gr.refl _).drew
theorem KI.app {T TS : TypeId} {own : Option Nat} {base : Nat} {w wr wn : World} {mk : List Value} {n m : Nat} {v vi v' : Value} {ls : List Value} {us : List (Value × Nat)} (h : KI T TS own base w wr mk n v vi ls us) (hts : TS ≠ T) (hv : v.ownBlock = own)
    (h2 : wn.ownsRow base T mk.length v' (n + m) (rep (n + m) mk)) (h3 : wr.grownBy wn v.ownBlock) (h4 : ∀ u k, k ≤ n + m → wr.ownsRow base T mk.length u k (rep k mk) → wn.ownsRow base T mk.length u k (rep k mk)) (hus : ∀ p ∈ us, p.2 ≤ n + m) :
    KI T TS own base w wn mk n v vi ls (us ++ [(v', n + m)]) := by
  have hk : Kv [TS] own base wr wn := ⟨Below.grown (Below.refl _ _) h3 h.le (own_low h.v0), fun k cs t fr hk _ ho => grown_block h3 hk (by rw [hv]; exact ho)⟩
  refine ⟨h.fr.trans hk, Nat.le_trans h.le h3.size, h4 _ _ (by omega) h.v0, owns_kept h.vi h3 (own_apart h.v0 h.vi hts), fun p hp => ?_⟩
  rcases List.mem_append.mp hp with hp | hp
  · exact h4 _ _ (hus p hp) (h.us p hp)
  · simp only [List.mem_singleton] at hp; subst hp; exact h2
theorem grown_pers {wr wn : World} {v : Value} (h3 : wr.grownBy wn v.ownBlock) {k : Nat} {o : Obj} (hk : wr.heap[k]? = some o) (hlt : ∀ q, v.ownBlock = some q → q < k) : wn.heap[k]? = some o := by
  refine grown_block h3 hk (fun he => ?_)
  have := hlt k he
  omega
theorem blk_ne' {w : World} {i k : Nat} {cs cs' : Array Value} {t t' : TypeId} {fr fr' : Nat × Nat} (h : w.heap[i]? = some (.cells cs t fr)) (h' : w.heap[k]? = some (.cells cs' t' fr')) (hn : t ≠ t') : i ≠ k := by
  intro he; subst he; rw [h] at h'; injection h' with h'; injection h' with _ h'; exact hn h'
theorem alloc_new' {W : World} {o : Obj} {B : Nat} (h : W.heap.size = B) : (W.alloc o).heap[B]? = some o := by subst h; exact heap_alloc_new W o
theorem alloc_keep {W : World} {o o' : Obj} {B : Nat} (h : W.heap[B]? = some o) : (W.alloc o').heap[B]? = some o := by rw [heap_alloc_old _ _ (blk_lt h)]; exact h
theorem drew_keep {W : World} {o : Obj} {B : Nat} (h : W.heap[B]? = some o) : W.drew.heap[B]? = some o := h

theorem news1 {w : World} {B : Nat} {M : Value} {t : TypeId} {fr : Nat × Nat} (hb : w.heap[B]? = some (.cells #[M] t fr)) : ∀ j u, (rep 1 [M])[j]? = some u → w.cell? ((⟨B, 0, none⟩ : Addr).add j) = some u := World.news_of_block hb
theorem news2 {w : World} {B : Nat} {M : Value} {t : TypeId} {fr : Nat × Nat} (hb : w.heap[B]? = some (.cells #[M, M] t fr)) : ∀ j u, (rep 2 [M])[j]? = some u → w.cell? ((⟨B, 0, none⟩ : Addr).add j) = some u := World.news_of_block hb
theorem news3 {w : World} {B : Nat} {M : Value} {t : TypeId} {fr : Nat × Nat} (hb : w.heap[B]? = some (.cells #[M, M, M] t fr)) : ∀ j u, (rep 3 [M])[j]? = some u → w.cell? ((⟨B, 0, none⟩ : Addr).add j) = some u := World.news_of_block hb

/-- What 'keep' leaves behind. -/
structure Kept (T TS : TypeId) (own : Option Nat) (base : Nat) (w w' : World) (mk : List Value) (n : Nat) (v vi' : Value) (ls us : List Value) : Prop where
  fr : Kv [TS, 64] own base w w'
  vi : w'.ownsRow base TS 1 vi' us.length us
  ex : ∃ v1 v2 v3, us = ls ++ [v, v1, v2, v3] ∧ w'.ownsRow base T mk.length v n (rep n mk) ∧ w'.ownsRow base T mk.length v1 (n + 1) (rep (n + 1) mk) ∧ w'.ownsRow base T mk.length v2 (n + 2) (rep (n + 2) mk) ∧ w'.ownsRow base T mk.length v3 (n + 3) (rep (n + 3) mk)
theorem KI.box {T TS : TypeId} {own : Option Nat} {base : Nat} {w wr : World} {mk : List Value} {n : Nat} {v vi : Value} {ls : List Value} {us : List (Value × Nat)} {BB : Nat} {bx : Array Value} (h : KI T TS own base w wr mk n v vi ls us) (hbx : w.heap[BB]? = some (.cells bx 64 (0, 0))) (h1 : TS ≠ 64) (h2 : own ≠ some BB) : wr.heap[BB]? = some (.cells bx 64 (0, 0)) :=
  h.fr.kp _ _ _ _ hbx (by simp; exact fun e => h1 e.symm) h2
end Go.Proofs.YtecnfgikbmcgoaaDoor
namespace Go.Proofs.YtecnfgikbmcgoaaDoor
open Go.RowKit

section
variable {P : Program} {ops : Array Oper} {Q : Exit → Act → World → Prop}

theorem eval_put_same {a : Act} {d : Nat} {x : Value} (h : d < a.tmps.size) : (a.put (some d) x).eval (.tmp d) = x := by
  simp [Act.put, Act.eval, Array.getD, h]
theorem eval_put_other {a : Act} {d t : Nat} {x : Value} (h : d ≠ t) : (a.put (some d) x).eval (.tmp t) = a.eval (.tmp t) :=
  Act.eval_put (fun d' hd he => by injection hd with hd; injection he with he; exact h (hd.trans he.symm))
theorem getD_set_self {l : Array Bool} {i : Nat} (h : i < l.size) (b : Bool) : (l.setIfInBounds i true).getD i b = true := by
  simp [Array.getD, h]
theorem getD_set_ne {l : Array Bool} {i j : Nat} (h : i ≠ j) (b : Bool) : (l.setIfInBounds i true).getD j b = l.getD j b := by
  simp only [Array.getD_eq_getD_getElem?]
  rw [Array.getElem?_setIfInBounds_ne h]
theorem getD_lt {l : Array Bool} {i : Nat} (h : i < l.size) (b c : Bool) : l.getD i b = l.getD i c := by simp [Array.getD, h]
theorem getD_false {l : Array Bool} {i : Nat} (h : l.getD i true = false) : i < l.size := by
  rcases Nat.lt_or_ge i l.size with h' | h'
  · exact h'
  · simp [Array.getD, Nat.not_lt.mpr h'] at h

/-- A region whose order is open, by what each operation yields. -/
theorem region_R {id : Nat} {a0 : Act} {w0 : World} (hm : P.follows .mixedOrders = true) (last : Nat) (hsz : ops.size = last + 1) (dst : Nat → Nat)
    (hinj : ∀ i j, i < last → j < last → dst i = dst j → i = j) (hguard : ∀ (i : Nat) (o : Oper), ops[i]? = some o → o.guard = none)
    (hdag : ∀ (i : Nat) (o : Oper), ops[i]? = some o → ∀ e ∈ o.after, e.on < i) (hall : ∀ j, j < last → ∃ (k : Nat) (o : Oper), j < k ∧ k ≤ last ∧ ops[k]? = some o ∧ ∃ e ∈ o.after, Region.binds .any e = true ∧ e.on = j)
    (R : Nat → Value → World → Prop) (E : Act → Prop) (W : World → Prop) (Good : Nat → World → World → Prop)
    (hE : ∀ a i x, i < last → E a → E (a.put (some (dst i)) x)) (hsize : ∀ a, E a → ∀ i, i < last → dst i < a.tmps.size)
    (hW : ∀ i w w', W w → Good i w w' → W w') (hR : ∀ i j x w w', i ≠ j → R j x w → Good i w w' → R j x w')
    (hfront : ∀ (i : Nat) (o : Oper) (a : Act) (w : World), ops[i]? = some o → i < last → E a → W w → (∀ e ∈ o.after, Region.binds .any e = true → R e.on (a.eval (.tmp (dst e.on))) w) → ∀ K : Act → World → Prop, (∀ x w', Good i w w' → R i x w' → K (a.put (some (dst i)) x) w') → o.wp P a w K Q)
    (hlast : ∀ (o : Oper) (a : Act) (w : World), ops[last]? = some o → E a → W w → (∀ j, j < last → R j (a.eval (.tmp (dst j))) w) → ∀ K : Act → World → Prop, (∀ a' w', Q .normal a' w' → K a' w') → o.wp P a w K Q)
    (h0 : E a0) (hw0 : W w0.drew) : (Code.region id ops true).wp P Q a0 w0 := by
  refine wp_region_any hm ?_
  have main : ∀ (fuel : Nat) (listed : Array Bool) (a : Act) (w : World), listed.size = ops.size → listed.toList.count false ≤ fuel →
      ((listed.getD last true = false ∧ E a ∧ W w ∧ (∀ (j : Nat) (o : Oper), ops[j]? = some o → listed.getD j false = true → ∀ e ∈ o.after, Region.binds .any e = true → listed.getD e.on false = true) ∧ ∀ j, j < last → listed.getD j false = true → R j (a.eval (.tmp (dst j))) w) ∨ ((∀ i, i < ops.size → listed.getD i true = true) ∧ Q .normal a w)) →
      wpAny P .any ops Q fuel listed a w := by
    intro fuel
    induction fuel with
    | zero =>
      intro listed a w hs hc hI
      have hz : ∀ i, i < ops.size → listed.getD i true = true := by
        intro i hi
        have h1 : ¬ false ∈ listed.toList := List.count_eq_zero.mp (by omega)
        have h2 : listed.getD i true = listed[i]'(by omega) := by simp [Array.getD, show i < listed.size by omega]
        rw [h2]
        cases h3 : listed[i]'(by omega)
        · exact absurd (by rw [← h3]; simp) h1
        · rfl
      rcases hI with ⟨h1, _⟩ | ⟨_, h2⟩
      · rw [hz last (by omega)] at h1; cases h1
      · refine ⟨?_, h2⟩
        rw [List.eq_nil_iff_forall_not_mem]
        intro i hi
        obtain ⟨h3, o, ho, _⟩ := mem_ready.1 hi
        rw [hz i (Array.getElem?_eq_some_iff.1 ho).1] at h3
        cases h3
    | succ fuel ih =>
      intro listed a w hs hc hI
      constructor
      · intro hr
        rcases hI with ⟨h1, _⟩ | ⟨_, h2⟩
        · exfalso
          have hleast : ∀ n, ∀ i, i < n → listed.getD i true = true := by
            intro n
            induction n with
            | zero => intro i hi; omega
            | succ n ihn =>
              intro i hi
              by_cases hin : i < n
              · exact ihn i hin
              · have hin : i = n := by omega
                subst hin
                cases hf : listed.getD i true
                · have hlt := getD_false hf
                  have hm : i ∈ Region.ready .any ops listed := mem_ready.2 ⟨hf, ops[i]'(by omega), Array.getElem?_eq_getElem (by omega), fun e he _ => by
                    have hlt' := hdag i _ (Array.getElem?_eq_getElem (by omega)) e he
                    rw [getD_lt (by omega) false true]; exact ihn _ hlt'⟩
                  rw [hr] at hm; cases hm
                · rfl
          rw [hleast (last + 1) last (by omega)] at h1; cases h1
        · exact h2
      · intro i hi
        obtain ⟨h3, o, ho, hdep⟩ := mem_ready.1 hi
        have hil : i < ops.size := (Array.getElem?_eq_some_iff.1 ho).1
        rcases hI with ⟨h1, hEa, hWw, hcl, hRs⟩ | ⟨h2, _⟩
        · unfold wpOp
          simp only [ho, Region.wanted, hguard i o ho, if_true]
          refine Or.inl ?_
          have hcnt : (listed.setIfInBounds i true).toList.count false ≤ fuel := by
            have hl : i < listed.toList.length := by simp; omega
            rw [Array.toList_setIfInBounds, List.count_set hl]
            have h4 : listed.toList[i] = false := by
              have h2 : listed.getD i true = listed[i]'(by omega) := by simp [Array.getD, show i < listed.size by omega]
              rw [← h3, h2]; simp
            rw [h4, if_pos (by rfl), if_neg (by decide)]; omega
          by_cases hil' : i = last
          · subst hil'
            have every : ∀ (d j : Nat), j + d = i → 0 < d → listed.getD j false = true := by
              intro d
              induction d using Nat.strongRecOn with
              | ind d ihd =>
                intro j hj hd
                obtain ⟨k, ok, hjk, hki, hok, e, he, hb, hon⟩ := hall j (by omega)
                by_cases hkl : k = i
                · subst hkl
                  rw [ho] at hok; injection hok with hok; subst hok
                  have := hdep e he hb
                  rw [hon] at this; exact this
                · have := hcl k ok hok (ihd (i - k) (by omega) k (by omega) (by omega)) e he hb
                  rw [hon] at this; exact this
            refine hlast o a w ho hEa hWw (fun j hj => hRs j hj (every (i - j) j (by omega) (by omega))) _ (fun a' w' hq => ih _ _ _ (by simpa using hs) hcnt (Or.inr ⟨fun k hk => ?_, hq⟩))
            by_cases hki : i = k
            · subst hki; exact getD_set_self (by omega) _
            · rw [getD_set_ne hki, getD_lt (by omega) true false]
              exact every (i - k) k (by omega) (by omega)
          · have hil2 : i < last := by omega
            refine hfront i o a w ho hil2 hEa hWw (fun e he hb => hRs _ ?_ (hdep e he hb)) _ (fun x w' hg hr => ?_)
            · have := hdag i o ho e he; omega
            · refine ih _ _ _ (by simpa using hs) hcnt (Or.inl ⟨by rw [getD_set_ne hil']; exact h1, hE _ _ _ hil2 hEa, hW _ _ _ hWw hg, ?_, fun j hj hl => ?_⟩)
              · intro j oj hoj hl e he hb
                by_cases hij : i = j
                · subst hij
                  rw [ho] at hoj; injection hoj with hoj; subst hoj
                  have := hdag i o ho e he
                  rw [getD_set_ne (by omega)]; exact hdep e he hb
                · rw [getD_set_ne hij] at hl
                  have := hcl j oj hoj hl e he hb
                  by_cases hie : i = e.on
                  · rw [← hie] at this; rw [getD_lt (by omega) true false, this] at h3; cases h3
                  · rw [getD_set_ne hie]; exact this
              by_cases hij : i = j
              · subst hij; rw [eval_put_same (hsize _ hEa _ hil2)]; exact hr
              · rw [getD_set_ne hij] at hl
                rw [eval_put_other (fun he => hij (hinj _ _ hil2 hj he))]
                exact hR _ _ _ _ _ hij (hRs j hj hl) hg
        · rw [h2 i hil] at h3; cases h3
  refine main _ _ _ _ (by simp) ?_ (Or.inl ⟨?_, h0, hw0, fun j o _ hl => ?_, fun j hj hl => ?_⟩)
  · simp
  · simp [Array.getD, hsz]
  · simp [Array.getD] at hl
  · simp [Array.getD] at hl
/-- What is asked of the region's shape, reckoned. -/
def shapeB (ops : Array Oper) (last : Nat) : Bool :=
  ops.toList.length == last + 1 && ((List.range (last + 1)).all fun i => match ops.toList[i]? with
    | none => false
    | some o => o.guard.isNone && o.after.toList.all (fun e => Nat.blt e.on i)) &&
  (List.range last).all fun j => (List.range (last + 1)).any fun k => match ops.toList[k]? with
    | none => false
    | some o => Nat.blt j k && o.after.toList.any fun e => Region.binds .any e && Nat.beq e.on j
theorem shape_size {last : Nat} (h : shapeB ops last = true) : ops.size = last + 1 := by
  simp only [shapeB, Bool.and_eq_true, beq_iff_eq, Array.length_toList] at h
  exact h.1.1
theorem shape_at {last : Nat} (h : shapeB ops last = true) {i : Nat} {o : Oper} (ho : ops[i]? = some o) : o.guard = none ∧ (∀ e ∈ o.after, e.on < i) := by
  have hsz := shape_size h
  simp only [shapeB, Bool.and_eq_true, List.all_eq_true, List.mem_range] at h
  have h2 := h.1.2 i (by have := (Array.getElem?_eq_some_iff.1 ho).1; omega)
  rw [Array.getElem?_toList, ho] at h2
  simp only [Bool.and_eq_true, List.all_eq_true] at h2
  exact ⟨by simpa using h2.1, fun e he => Nat.blt_eq.mp (h2.2 e (by simpa using he))⟩
theorem shape_all {last : Nat} (h : shapeB ops last = true) : ∀ j, j < last → ∃ (k : Nat) (o : Oper), j < k ∧ k ≤ last ∧ ops[k]? = some o ∧ ∃ e ∈ o.after, Region.binds .any e = true ∧ e.on = j := by
  intro j hj
  simp only [shapeB, Bool.and_eq_true, List.all_eq_true, List.mem_range] at h
  have h2 := h.2 j hj
  rw [List.any_eq_true] at h2
  obtain ⟨k, hk, h3⟩ := h2
  rw [Array.getElem?_toList] at h3
  cases ho : ops[k]? with
  | none => rw [ho] at h3; cases h3
  | some o =>
    rw [ho] at h3
    simp only [Bool.and_eq_true, List.any_eq_true] at h3
    obtain ⟨h4, e, he, hb, hon⟩ := h3
    exact ⟨k, o, Nat.blt_eq.mp h4, by have := List.mem_range.1 hk; omega, ho, e, by simpa using he, hb, Nat.eq_of_beq_eq_true hon⟩
theorem region_S {id c : Nat} {a0 : Act} {w0 : World} (hm : P.follows .mixedOrders = true) (last : Nat) (hs : shapeB ops last = true)
    (R : Nat → Value → World → Prop) (E : Act → Prop) (W : World → Prop) (Good : Nat → World → World → Prop)
    (hE : ∀ a i x, i < last → E a → E (a.put (some (c + i)) x)) (hsize : ∀ a, E a → c + last ≤ a.tmps.size)
    (hW : ∀ i w w', W w → Good i w w' → W w') (hR : ∀ i j x w w', i ≠ j → R j x w → Good i w w' → R j x w')
    (hfront : ∀ (i : Nat) (o : Oper) (a : Act) (w : World), ops[i]? = some o → i < last → E a → W w → (∀ e ∈ o.after, Region.binds .any e = true → R e.on (a.eval (.tmp (c + e.on))) w) → ∀ K : Act → World → Prop, (∀ x w', Good i w w' → R i x w' → K (a.put (some (c + i)) x) w') → o.wp P a w K Q)
    (hlast : ∀ (o : Oper) (a : Act) (w : World), ops[last]? = some o → E a → W w → (∀ j, j < last → R j (a.eval (.tmp (c + j))) w) → ∀ K : Act → World → Prop, (∀ a' w', Q .normal a' w' → K a' w') → o.wp P a w K Q)
    (h0 : E a0) (hw0 : W w0.drew) : (Code.region id ops true).wp P Q a0 w0 := by
  have hsz := shape_size hs
  exact region_R hm last hsz (fun i => c + i) (fun i j _ _ h => by omega) (fun i o ho => (shape_at hs ho).1) (fun i o ho => (shape_at hs ho).2) (shape_all hs) R E W Good hE (fun a ha i hi => by have := hsize a ha; omega) hW hR hfront hlast h0 hw0
end
end Go.Proofs.YtecnfgikbmcgoaaDoor
