import Derived.Test.YtecnfgikbmcgoaaGreatG7
namespace Go.Proofs.YtecnfgikbmcgoaaGreat
open Go.RowKit

section
variable {P : Program} {ops : Array Oper} {Q : Exit → Act → World → Prop}

theorem eval_put_same {a : Act} {d : Nat} {x : Value} (h : d < a.tmps.size) : (a.put (some d) x).eval (.tmp d) = x := by
  simp [Act.put, Act.eval, Array.getD, h]
theorem eval_put_other {a : Act} {d t : Nat} {x : Value} (h : d ≠ t) : (a.put (some d) x).eval (.tmp t) = a.eval (.tmp t) :=
  Act.eval_put (fun d' hd he => by injection hd with hd; injection he with he; exact h (hd.trans he.symm))
theorem getD_set_self {l : Array Bool} {i : Nat} (h : i < l.size) (b : Bool) : (l.setIfInBounds i true).getD i b = true := by
  simp [Array.getD, h]
theorem getD_set_ne {l : Array Bool} {i j : Nat} (h : i ≠ j) (b : Bool) : (l.setIfInBounds i true).getD j b = l.getD j b := by
  simp only [Array.getD_eq_getD_getElem?]
  rw [Array.getElem?_setIfInBounds_ne h]
theorem getD_lt {l : Array Bool} {i : Nat} (h : i < l.size) (b c : Bool) : l.getD i b = l.getD i c := by simp [Array.getD, h]
theorem getD_false {l : Array Bool} {i : Nat} (h : l.getD i true = false) : i < l.size := by
  rcases Nat.lt_or_ge i l.size with h' | h'
  · exact h'
  · simp [Array.getD, Nat.not_lt.mpr h'] at h

/-- A region whose order is open, by what each operation yields. -/
theorem region_R {id : Nat} {a0 : Act} {w0 : World} (hm : P.follows .mixedOrders = true) (last : Nat) (hsz : ops.size = last + 1) (dst : Nat → Nat)
    (hinj : ∀ i j, i < last → j < last → dst i = dst j → i = j) (hguard : ∀ (i : Nat) (o : Oper), ops[i]? = some o → o.guard = none)
    (hdag : ∀ (i : Nat) (o : Oper), ops[i]? = some o → ∀ e ∈ o.after, e.on < i) (hall : ∀ j, j < last → ∃ (k : Nat) (o : Oper), j < k ∧ k ≤ last ∧ ops[k]? = some o ∧ ∃ e ∈ o.after, Region.binds .any e = true ∧ e.on = j)
    (R : Nat → Value → World → Prop) (E : Act → Prop) (W : World → Prop) (Good : Nat → World → World → Prop)
    (hE : ∀ a i x, i < last → E a → E (a.put (some (dst i)) x)) (hsize : ∀ a, E a → ∀ i, i < last → dst i < a.tmps.size)
    (hW : ∀ i w w', W w → Good i w w' → W w') (hR : ∀ i j x w w', i ≠ j → R j x w → Good i w w' → R j x w')
    (hfront : ∀ (i : Nat) (o : Oper) (a : Act) (w : World), ops[i]? = some o → i < last → E a → W w → (∀ e ∈ o.after, Region.binds .any e = true → R e.on (a.eval (.tmp (dst e.on))) w) → ∀ K : Act → World → Prop, (∀ x w', Good i w w' → R i x w' → K (a.put (some (dst i)) x) w') → o.wp P a w K Q)
    (hlast : ∀ (o : Oper) (a : Act) (w : World), ops[last]? = some o → E a → W w → (∀ j, j < last → R j (a.eval (.tmp (dst j))) w) → ∀ K : Act → World → Prop, (∀ a' w', Q .normal a' w' → K a' w') → o.wp P a w K Q)
    (h0 : E a0) (hw0 : W w0.drew) : (Code.region id ops true).wp P Q a0 w0 := by
  refine wp_region_any hm ?_
  have main : ∀ (fuel : Nat) (listed : Array Bool) (a : Act) (w : World), listed.size = ops.size → listed.toList.count false ≤ fuel →
      ((listed.getD last true = false ∧ E a ∧ W w ∧ (∀ (j : Nat) (o : Oper), ops[j]? = some o → listed.getD j false = true → ∀ e ∈ o.after, Region.binds .any e = true → listed.getD e.on false = true) ∧ ∀ j, j < last → listed.getD j false = true → R j (a.eval (.tmp (dst j))) w) ∨ ((∀ i, i < ops.size → listed.getD i true = true) ∧ Q .normal a w)) →
      wpAny P .any ops Q fuel listed a w := by
    intro fuel
    induction fuel with
    | zero =>
      intro listed a w hs hc hI
      have hz : ∀ i, i < ops.size → listed.getD i true = true := by
        intro i hi
        have h1 : ¬ false ∈ listed.toList := List.count_eq_zero.mp (by omega)
        have h2 : listed.getD i true = listed[i]'(by omega) := by simp [Array.getD, show i < listed.size by omega]
        rw [h2]
        cases h3 : listed[i]'(by omega)
        · exact absurd (by rw [← h3]; simp) h1
        · rfl
      rcases hI with ⟨h1, _⟩ | ⟨_, h2⟩
      · rw [hz last (by omega)] at h1; cases h1
      · refine ⟨?_, h2⟩
        rw [List.eq_nil_iff_forall_not_mem]
        intro i hi
        obtain ⟨h3, o, ho, _⟩ := mem_ready.1 hi
        rw [hz i (Array.getElem?_eq_some_iff.1 ho).1] at h3
        cases h3
    | succ fuel ih =>
      intro listed a w hs hc hI
      constructor
      · intro hr
        rcases hI with ⟨h1, _⟩ | ⟨_, h2⟩
        · exfalso
          have hleast : ∀ n, ∀ i, i < n → listed.getD i true = true := by
            intro n
            induction n with
            | zero => intro i hi; omega
            | succ n ihn =>
              intro i hi
              by_cases hin : i < n
              · exact ihn i hin
              · have hin : i = n := by omega
                subst hin
                cases hf : listed.getD i true
                · have hlt := getD_false hf
                  have hm : i ∈ Region.ready .any ops listed := mem_ready.2 ⟨hf, ops[i]'(by omega), Array.getElem?_eq_getElem (by omega), fun e he _ => by
                    have hlt' := hdag i _ (Array.getElem?_eq_getElem (by omega)) e he
                    rw [getD_lt (by omega) false true]; exact ihn _ hlt'⟩
                  rw [hr] at hm; cases hm
                · rfl
          rw [hleast (last + 1) last (by omega)] at h1; cases h1
        · exact h2
      · intro i hi
        obtain ⟨h3, o, ho, hdep⟩ := mem_ready.1 hi
        have hil : i < ops.size := (Array.getElem?_eq_some_iff.1 ho).1
        rcases hI with ⟨h1, hEa, hWw, hcl, hRs⟩ | ⟨h2, _⟩
        · unfold wpOp
          simp only [ho, Region.wanted, hguard i o ho, if_true]
          refine Or.inl ?_
          have hcnt : (listed.setIfInBounds i true).toList.count false ≤ fuel := by
            have hl : i < listed.toList.length := by simp; omega
            rw [Array.toList_setIfInBounds, List.count_set hl]
            have h4 : listed.toList[i] = false := by
              have h2 : listed.getD i true = listed[i]'(by omega) := by simp [Array.getD, show i < listed.size by omega]
              rw [← h3, h2]; simp
            rw [h4, if_pos (by rfl), if_neg (by decide)]; omega
          by_cases hil' : i = last
          · subst hil'
            have every : ∀ (d j : Nat), j + d = i → 0 < d → listed.getD j false = true := by
              intro d
              induction d using Nat.strongRecOn with
              | ind d ihd =>
                intro j hj hd
                obtain ⟨k, ok, hjk, hki, hok, e, he, hb, hon⟩ := hall j (by omega)
                by_cases hkl : k = i
                · subst hkl
                  rw [ho] at hok; injection hok with hok; subst hok
                  have := hdep e he hb
                  rw [hon] at this; exact this
                · have := hcl k ok hok (ihd (i - k) (by omega) k (by omega) (by omega)) e he hb
                  rw [hon] at this; exact this
            refine hlast o a w ho hEa hWw (fun j hj => hRs j hj (every (i - j) j (by omega) (by omega))) _ (fun a' w' hq => ih _ _ _ (by simpa using hs) hcnt (Or.inr ⟨fun k hk => ?_, hq⟩))
            by_cases hki : i = k
            · subst hki; exact getD_set_self (by omega) _
            · rw [getD_set_ne hki, getD_lt (by omega) true false]
              exact every (i - k) k (by omega) (by omega)
          · have hil2 : i < last := by omega
            refine hfront i o a w ho hil2 hEa hWw (fun e he hb => hRs _ ?_ (hdep e he hb)) _ (fun x w' hg hr => ?_)
            · have := hdag i o ho e he; omega
            · refine ih _ _ _ (by simpa using hs) hcnt (Or.inl ⟨by rw [getD_set_ne hil']; exact h1, hE _ _ _ hil2 hEa, hW _ _ _ hWw hg, ?_, fun j hj hl => ?_⟩)
              · intro j oj hoj hl e he hb
                by_cases hij : i = j
                · subst hij
                  rw [ho] at hoj; injection hoj with hoj; subst hoj
                  have := hdag i o ho e he
                  rw [getD_set_ne (by omega)]; exact hdep e he hb
                · rw [getD_set_ne hij] at hl
                  have := hcl j oj hoj hl e he hb
                  by_cases hie : i = e.on
                  · rw [← hie] at this; rw [getD_lt (by omega) true false, this] at h3; cases h3
                  · rw [getD_set_ne hie]; exact this
              by_cases hij : i = j
              · subst hij; rw [eval_put_same (hsize _ hEa _ hil2)]; exact hr
              · rw [getD_set_ne hij] at hl
                rw [eval_put_other (fun he => hij (hinj _ _ hil2 hj he))]
                exact hR _ _ _ _ _ hij (hRs j hj hl) hg
        · rw [h2 i hil] at h3; cases h3
  refine main _ _ _ _ (by simp) ?_ (Or.inl ⟨?_, h0, hw0, fun j o _ hl => ?_, fun j hj hl => ?_⟩)
  · simp
  · simp [Array.getD, hsz]
  · simp [Array.getD] at hl
  · simp [Array.getD] at hl
/-- What is asked of the region's shape, reckoned. -/
def shapeB (ops : Array Oper) (last : Nat) : Bool :=
  ops.toList.length == last + 1 && ((List.range (last + 1)).all fun i => match ops.toList[i]? with
    | none => false
    | some o => o.guard.isNone && o.after.toList.all (fun e => Nat.blt e.on i)) &&
  (List.range last).all fun j => (List.range (last + 1)).any fun k => match ops.toList[k]? with
    | none => false
    | some o => Nat.blt j k && o.after.toList.any fun e => Region.binds .any e && Nat.beq e.on j
theorem shape_size {last : Nat} (h : shapeB ops last = true) : ops.size = last + 1 := by
  simp only [shapeB, Bool.and_eq_true, beq_iff_eq, Array.length_toList] at h
  exact h.1.1
theorem shape_at {last : Nat} (h : shapeB ops last = true) {i : Nat} {o : Oper} (ho : ops[i]? = some o) : o.guard = none ∧ (∀ e ∈ o.after, e.on < i) := by
  have hsz := shape_size h
  simp only [shapeB, Bool.and_eq_true, List.all_eq_true, List.mem_range] at h
  have h2 := h.1.2 i (by have := (Array.getElem?_eq_some_iff.1 ho).1; omega)
  rw [Array.getElem?_toList, ho] at h2
  simp only [Bool.and_eq_true, List.all_eq_true] at h2
  exact ⟨by simpa using h2.1, fun e he => Nat.blt_eq.mp (h2.2 e (by simpa using he))⟩
theorem shape_all {last : Nat} (h : shapeB ops last = true) : ∀ j, j < last → ∃ (k : Nat) (o : Oper), j < k ∧ k ≤ last ∧ ops[k]? = some o ∧ ∃ e ∈ o.after, Region.binds .any e = true ∧ e.on = j := by
  intro j hj
  simp only [shapeB, Bool.and_eq_true, List.all_eq_true, List.mem_range] at h
  have h2 := h.2 j hj
  rw [List.any_eq_true] at h2
  obtain ⟨k, hk, h3⟩ := h2
  rw [Array.getElem?_toList] at h3
  cases ho : ops[k]? with
  | none => rw [ho] at h3; cases h3
  | some o =>
    rw [ho] at h3
    simp only [Bool.and_eq_true, List.any_eq_true] at h3
    obtain ⟨h4, e, he, hb, hon⟩ := h3
    exact ⟨k, o, Nat.blt_eq.mp h4, by have := List.mem_range.1 hk; omega, ho, e, by simpa using he, hb, Nat.eq_of_beq_eq_true hon⟩
theorem region_S {id c : Nat} {a0 : Act} {w0 : World} (hm : P.follows .mixedOrders = true) (last : Nat) (hs : shapeB ops last = true)
    (R : Nat → Value → World → Prop) (E : Act → Prop) (W : World → Prop) (Good : Nat → World → World → Prop)
    (hE : ∀ a i x, i < last → E a → E (a.put (some (c + i)) x)) (hsize : ∀ a, E a → c + last ≤ a.tmps.size)
    (hW : ∀ i w w', W w → Good i w w' → W w') (hR : ∀ i j x w w', i ≠ j → R j x w → Good i w w' → R j x w')
    (hfront : ∀ (i : Nat) (o : Oper) (a : Act) (w : World), ops[i]? = some o → i < last → E a → W w → (∀ e ∈ o.after, Region.binds .any e = true → R e.on (a.eval (.tmp (c + e.on))) w) → ∀ K : Act → World → Prop, (∀ x w', Good i w w' → R i x w' → K (a.put (some (c + i)) x) w') → o.wp P a w K Q)
    (hlast : ∀ (o : Oper) (a : Act) (w : World), ops[last]? = some o → E a → W w → (∀ j, j < last → R j (a.eval (.tmp (c + j))) w) → ∀ K : Act → World → Prop, (∀ a' w', Q .normal a' w' → K a' w') → o.wp P a w K Q)
    (h0 : E a0) (hw0 : W w0.drew) : (Code.region id ops true).wp P Q a0 w0 := by
  have hsz := shape_size hs
  exact region_R hm last hsz (fun i => c + i) (fun i j _ _ h => by omega) (fun i o ho => (shape_at hs ho).1) (fun i o ho => (shape_at hs ho).2) (shape_all hs) R E W Good hE (fun a ha i hi => by have := hsize a ha; omega) hW hR hfront hlast h0 hw0
end
end Go.Proofs.YtecnfgikbmcgoaaGreat
