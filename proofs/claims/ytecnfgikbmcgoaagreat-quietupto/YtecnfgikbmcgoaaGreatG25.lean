import Derived.Test.YtecnfgikbmcgoaaGreatG16
namespace Go.Proofs.YtecnfgikbmcgoaaGreat

/-! ### Trees out of edges that each join two parts -/
theorem sm_lt {f g : Nat → Nat} {j : Nat} : ∀ n, (∀ i, i < n → f i ≤ g i) → j < n → f j < g j → sm n f < sm n g
  | 0, _, hj, _ => by omega
  | n + 1, h, hj, hl => by
    simp only [sm]
    by_cases e : j = n
    · subst e
      have := sm_le j (fun i hi => h i (by omega))
      omega
    · have := sm_lt n (fun i hi => h i (by omega)) (by omega) hl
      have := h n (by omega)
      omega
/-- So many brokers lie behind b, as seen from n. -/
def behind (nb : Nat) (nxt : Nat → Nat → Int) (b n : Nat) : Nat := sm nb fun t => if nxt n t = (b : Int) then 1 else 0
/-- Neighbours, and where they lead. -/
structure Fo (nb : Nat) (part : Nat → Nat) (adj : Nat → Nat → Bool) (nxt : Nat → Nat → Int) : Prop where
  sym : ∀ a b, adj a b = true → adj b a = true
  irr : ∀ a, adj a a = false
  inn : ∀ a b, adj a b = true → a < nb ∧ b < nb
  same : ∀ a b, adj a b = true → part a = part b
  self : ∀ t, nxt t t = -1
  back : ∀ b n t, adj b n = true → part t = part b → nxt b t ≠ (n : Int) → nxt n t = (b : Int)
  nb' : ∀ b t, nxt b t = -1 ∨ ∃ m : Nat, nxt b t = (m : Int) ∧ adj m b = true
  one : ∀ b t, part b = part t → nxt b t = -1 → b = t
  excl : ∀ b n t, adj b n = true → part t = part b → nxt b t = (n : Int) → nxt n t ≠ (b : Int)
theorem Fo.init (nb : Nat) : Fo nb (fun b => b) (fun _ _ => false) (fun _ _ => -1) :=
  ⟨fun _ _ h => (by cases h), fun _ => rfl, fun _ _ h => (by cases h), fun _ _ h => (by cases h), fun _ => rfl, fun _ _ _ h => (by cases h), fun _ _ => Or.inl rfl, fun _ _ h _ => h, fun _ _ _ h => (by cases h)⟩
def joinP (part : Nat → Nat) (u v : Nat) : Nat → Nat := fun x => if part x = part v then part u else part x
def joinA (adj : Nat → Nat → Bool) (u v : Nat) : Nat → Nat → Bool := fun a b => adj a b || (a == u && b == v) || (a == v && b == u)
def joinN (part : Nat → Nat) (nxt : Nat → Nat → Int) (u v : Nat) : Nat → Nat → Int := fun b t =>
  if part b = part u ∧ part t = part v then (if b = u then (v : Int) else nxt b u)
  else if part b = part v ∧ part t = part u then (if b = v then (u : Int) else nxt b v)
  else nxt b t
theorem joinA_iff {adj : Nat → Nat → Bool} {u v a b : Nat} : joinA adj u v a b = true ↔ adj a b = true ∨ (a = u ∧ b = v) ∨ (a = v ∧ b = u) := by
  simp [joinA, or_assoc]
theorem Fo.join {nb : Nat} {part : Nat → Nat} {adj : Nat → Nat → Bool} {nxt : Nat → Nat → Int} (h : Fo nb part adj nxt) {u v : Nat} (hu : u < nb) (hv : v < nb) (hp : part u ≠ part v) :
    Fo nb (joinP part u v) (joinA adj u v) (joinN part nxt u v) := by
  have huv : u ≠ v := fun e => hp (by rw [e])
  have far : ∀ {n b c : Nat}, adj b n = true → b ≠ c → nxt b c ≠ (n : Int) → part c = part b → n ≠ c ∧ nxt n c = (b : Int) := by
    intro n b c hbn hbc hne hpc
    have h1 := h.back b n c hbn hpc hne
    refine ⟨fun e => ?_, h1⟩
    subst e
    rw [h.self] at h1
    omega
  have near : ∀ {n b : Nat}, adj b n = true → n ≠ b ∧ nxt n b = (b : Int) := by
    intro n b hbn
    refine ⟨fun e => ?_, h.back b n b hbn rfl (by rw [h.self]; omega)⟩
    subst e
    rw [h.irr] at hbn; cases hbn
  have adjp : ∀ {b t m : Nat}, nxt b t = (m : Int) → part m = part b := by
    intro b t m e
    rcases h.nb' b t with e' | ⟨m', e', hm⟩
    · omega
    · have : m = m' := by omega
      subst this
      exact h.same m b hm
  refine ⟨fun a b hab => ?_, fun a => ?_, fun a b hab => ?_, fun a b hab => ?_, fun t => ?_, fun b n t hbn hpt hne => ?_, fun b t => ?_, fun b t hpt he => ?_, fun b n t hbn hpt he => ?_⟩
  · rw [joinA_iff] at *
    rcases hab with hab | ⟨rfl, rfl⟩ | ⟨rfl, rfl⟩
    · exact Or.inl (h.sym a b hab)
    · exact Or.inr (Or.inr ⟨rfl, rfl⟩)
    · exact Or.inr (Or.inl ⟨rfl, rfl⟩)
  · cases hj : joinA adj u v a a with
    | false => rfl
    | true =>
      rcases joinA_iff.1 hj with hab | ⟨rfl, e⟩ | ⟨rfl, e⟩
      · rw [h.irr] at hab; cases hab
      · exact absurd e huv
      · exact absurd e.symm huv
  · rcases joinA_iff.1 hab with hab | ⟨rfl, rfl⟩ | ⟨rfl, rfl⟩
    · exact h.inn a b hab
    · exact ⟨hu, hv⟩
    · exact ⟨hv, hu⟩
  · simp only [joinP]
    rcases joinA_iff.1 hab with hab | ⟨rfl, rfl⟩ | ⟨rfl, rfl⟩
    · rw [h.same a b hab]
    · rw [if_neg hp, if_pos rfl]
    · rw [if_pos rfl, if_neg hp]
  · simp only [joinN]
    rw [if_neg (fun e => hp (e.1.symm.trans e.2)), if_neg (fun e => hp (e.2.symm.trans e.1))]
    exact h.self t
  · simp only [joinP] at hpt
    simp only [joinN] at hne ⊢
    rcases joinA_iff.1 hbn with h0 | ⟨rfl, rfl⟩ | ⟨rfl, rfl⟩
    · have hs := h.same b n h0
      rw [← hs]
      by_cases c1 : part b = part u ∧ part t = part v
      · rw [if_pos c1] at hne ⊢
        by_cases hbu : b = u
        · subst hbu
          obtain ⟨k1, k2⟩ := near h0
          rw [if_neg k1]; exact k2
        · rw [if_neg hbu] at hne
          obtain ⟨k1, k2⟩ := far h0 hbu hne c1.1.symm
          rw [if_neg k1]; exact k2
      · rw [if_neg c1] at hne ⊢
        by_cases c2 : part b = part v ∧ part t = part u
        · rw [if_pos c2] at hne ⊢
          by_cases hbv : b = v
          · subst hbv
            obtain ⟨k1, k2⟩ := near h0
            rw [if_neg k1]; exact k2
          · rw [if_neg hbv] at hne
            obtain ⟨k1, k2⟩ := far h0 hbv hne c2.1.symm
            rw [if_neg k1]; exact k2
        · rw [if_neg c2] at hne ⊢
          refine h.back b n t h0 ?_ hne
          by_cases e1 : part t = part v
          · by_cases e2 : part b = part v
            · rw [e1, e2]
            · rw [if_pos e1, if_neg e2] at hpt
              exact absurd ⟨hpt.symm, e1⟩ c1
          · by_cases e2 : part b = part v
            · rw [if_neg e1, if_pos e2] at hpt
              exact absurd ⟨e2, hpt⟩ c2
            · rw [if_neg e1, if_neg e2] at hpt
              exact hpt
    · rw [if_neg hp] at hpt
      by_cases e1 : part t = part n
      · rw [if_pos ⟨rfl, e1⟩, if_pos rfl] at hne; exact absurd rfl hne
      · rw [if_neg e1] at hpt
        rw [if_neg (fun c => hp c.1.symm), if_pos ⟨rfl, hpt⟩, if_pos rfl]
    · rw [if_pos rfl] at hpt
      by_cases e1 : part t = part b
      · rw [if_pos ⟨rfl, e1⟩, if_pos rfl]
      · rw [if_neg e1] at hpt
        rw [if_neg (fun c => hp c.1.symm), if_pos ⟨rfl, hpt⟩, if_pos rfl] at hne
        exact absurd rfl hne
  · simp only [joinN]
    have lift : ∀ x y : Nat, nxt x y = -1 ∨ ∃ m : Nat, nxt x y = (m : Int) ∧ joinA adj u v m x = true := fun x y => by
      rcases h.nb' x y with e | ⟨m, e, hm⟩
      · exact Or.inl e
      · exact Or.inr ⟨m, e, joinA_iff.2 (Or.inl hm)⟩
    split
    · split
      · rename_i _ e; subst e
        exact Or.inr ⟨v, rfl, joinA_iff.2 (Or.inr (Or.inr ⟨rfl, rfl⟩))⟩
      · exact lift b u
    · split
      · split
        · rename_i _ _ e; subst e
          exact Or.inr ⟨u, rfl, joinA_iff.2 (Or.inr (Or.inl ⟨rfl, rfl⟩))⟩
        · exact lift b v
      · exact lift b t
  · simp only [joinN] at he
    simp only [joinP] at hpt
    by_cases c1 : part b = part u ∧ part t = part v
    · rw [if_pos c1] at he
      by_cases hbu : b = u
      · rw [if_pos hbu] at he; omega
      · rw [if_neg hbu] at he
        exact absurd (h.one b u c1.1 he) hbu
    · rw [if_neg c1] at he
      by_cases c2 : part b = part v ∧ part t = part u
      · rw [if_pos c2] at he
        by_cases hbv : b = v
        · rw [if_pos hbv] at he; omega
        · rw [if_neg hbv] at he
          exact absurd (h.one b v c2.1 he) hbv
      · rw [if_neg c2] at he
        refine h.one b t ?_ he
        by_cases e1 : part t = part v
        · by_cases e2 : part b = part v
          · rw [e1, e2]
          · rw [if_pos e1, if_neg e2] at hpt
            exact absurd ⟨hpt, e1⟩ c1
        · by_cases e2 : part b = part v
          · rw [if_neg e1, if_pos e2] at hpt
            exact absurd ⟨e2, hpt.symm⟩ c2
          · rw [if_neg e1, if_neg e2] at hpt
            exact hpt
  · simp only [joinP] at hpt
    simp only [joinN] at he ⊢
    rcases joinA_iff.1 hbn with h0 | ⟨rfl, rfl⟩ | ⟨rfl, rfl⟩
    · have hs := h.same b n h0
      rw [← hs]
      by_cases c1 : part b = part u ∧ part t = part v
      · rw [if_pos c1] at he ⊢
        by_cases hbu : b = u
        · rw [if_pos hbu] at he
          have : v = n := by omega
          rw [this, ← hs, hbu] at hp; exact absurd rfl hp
        · rw [if_neg hbu] at he
          by_cases hnu : n = u
          · rw [if_pos hnu]; intro e
            have : v = b := by omega
            rw [this, c1.1] at hp; exact hp rfl
          · rw [if_neg hnu]; exact h.excl b n u h0 c1.1.symm he
      · rw [if_neg c1] at he ⊢
        by_cases c2 : part b = part v ∧ part t = part u
        · rw [if_pos c2] at he ⊢
          by_cases hbv : b = v
          · rw [if_pos hbv] at he
            have : u = n := by omega
            rw [this, ← hs, hbv] at hp; exact absurd rfl hp
          · rw [if_neg hbv] at he
            by_cases hnv : n = v
            · rw [if_pos hnv]; intro e
              have : u = b := by omega
              rw [this, c2.1] at hp; exact hp rfl
            · rw [if_neg hnv]; exact h.excl b n v h0 c2.1.symm he
        · rw [if_neg c2] at he ⊢
          refine h.excl b n t h0 ?_ he
          by_cases e1 : part t = part v
          · by_cases e2 : part b = part v
            · rw [e1, e2]
            · rw [if_pos e1, if_neg e2] at hpt
              exact absurd ⟨hpt.symm, e1⟩ c1
          · by_cases e2 : part b = part v
            · rw [if_neg e1, if_pos e2] at hpt
              exact absurd ⟨e2, hpt⟩ c2
            · rw [if_neg e1, if_neg e2] at hpt
              exact hpt
    · rw [if_neg (fun c => hp c.1.symm)]
      by_cases e1 : part t = part n
      · rw [if_neg (fun c => hp (by rw [← e1, c.2]))]
        intro e
        exact hp (adjp e)
      · rw [if_neg (fun c => e1 c.2), if_neg (fun c => hp c.1)] at he
        exact absurd (adjp he).symm hp
    · by_cases e1 : part t = part b
      · rw [if_neg (fun c => hp c.1.symm), if_neg (fun c => hp (by rw [← e1, c.2]))] at he
        exact absurd (adjp he) hp
      · rw [if_neg (fun c => e1 c.2), if_neg (fun c => hp c.1)]
        intro e
        exact hp (adjp e).symm
/-- Where all is one part, it is a tree (of the brokers below nb). -/
def dom (nb : Nat) (nxt : Nat → Nat → Int) : Nat → Nat → Int := fun b t => if b = t ∨ ¬ b < nb then -1 else nxt b (if t < nb then t else 0)
theorem Fo.nx {nb : Nat} {part : Nat → Nat} {adj : Nat → Nat → Bool} {nxt : Nat → Nat → Int} (h : Fo nb part adj nxt) (h1 : ∀ a b, a < nb → b < nb → part a = part b) : Nx adj (dom nb nxt) := by
  refine ⟨h.sym, h.irr, fun t => by simp [dom], fun b n t hbn hne => ?_⟩
  obtain ⟨hb, hn⟩ := h.inn b n hbn
  have hbn' : b ≠ n := fun e => by subst e; rw [h.irr] at hbn; cases hbn
  have ht : (if t < nb then t else 0) < nb := by split <;> omega
  have hback := h.back b n (if t < nb then t else 0) hbn (h1 _ _ ht hb)
  simp only [dom] at hne ⊢
  by_cases hbt : b = t
  · subst hbt
    rw [if_pos hb] at hback
    rw [if_neg (by intro e; rcases e with e | e <;> omega), if_pos hb]
    exact hback (by rw [h.self]; omega)
  · rw [if_neg (by intro e; rcases e with e | e; exact hbt e; exact e hb)] at hne
    have := hback hne
    by_cases hnt : n = t
    · subst hnt
      rw [if_pos hn, h.self] at this
      omega
    · rw [if_neg (by intro e; rcases e with e | e; exact hnt e; exact e hn)]
      exact this
theorem Fo.rk {nb : Nat} {part : Nat → Nat} {adj : Nat → Nat → Bool} {nxt : Nat → Nat → Int} (h : Fo nb part adj nxt) (h1 : ∀ a b, a < nb → b < nb → part a = part b) : Rk adj (dom nb nxt) (behind nb (dom nb nxt)) := by
  have N := h.nx h1
  refine ⟨fun b n m hbn hmb hmn => ?_, fun b t => ?_⟩
  · obtain ⟨hb, hn⟩ := h.inn b n hbn
    unfold behind
    refine sm_lt (j := b) nb (fun t _ => ?_) hb ?_
    · by_cases e : dom nb nxt b t = (m : Int)
      · rw [if_pos e, if_pos (N.back b n t hbn (by rw [e]; omega))]
        exact Nat.le_refl _
      · rw [if_neg e]; omega
    · rw [N.self, if_neg (by omega), if_pos (N.back b n b hbn (by rw [N.self]; omega))]
      decide
  · simp only [dom]
    split
    · exact Or.inl rfl
    · exact h.nb' b _
/-- Where it leads, to the end. -/
structure Nz (nb : Nat) (adj : Nat → Nat → Bool) (nxt : Nat → Nat → Int) : Prop where
  inn : ∀ a b, adj a b = true → a < nb ∧ b < nb
  one : ∀ b t, b < nb → t < nb → nxt b t = -1 → b = t
  excl : ∀ b n t, t < nb → adj b n = true → nxt b t = (n : Int) → nxt n t ≠ (b : Int)
theorem Fo.nz {nb : Nat} {part : Nat → Nat} {adj : Nat → Nat → Bool} {nxt : Nat → Nat → Int} (h : Fo nb part adj nxt) (h1 : ∀ a b, a < nb → b < nb → part a = part b) : Nz nb adj (dom nb nxt) := by
  refine ⟨h.inn, fun b t hb ht he => ?_, fun b n t ht hbn he => ?_⟩
  · simp only [dom] at he
    by_cases hbt : b = t
    · exact hbt
    · rw [if_neg (by intro e; rcases e with e | e; exact hbt e; exact e hb), if_pos ht] at he
      exact h.one b t (h1 b t hb ht) he
  · obtain ⟨hb, hn⟩ := h.inn b n hbn
    simp only [dom] at he ⊢
    by_cases hbt : b = t
    · rw [if_pos (Or.inl hbt)] at he; omega
    · rw [if_neg (by intro e; rcases e with e | e; exact hbt e; exact e hb), if_pos ht] at he
      by_cases hnt : n = t
      · rw [if_pos (Or.inl hnt)]; omega
      · rw [if_neg (by intro e; rcases e with e | e; exact hnt e; exact e hn), if_pos ht]
        exact h.excl b n t hbn (h1 t b ht hb) he
/-- How many parts there are still. -/
def reps (nb : Nat) (part : Nat → Nat) : Nat := sm nb fun b => if part b = b then 1 else 0
theorem sm_congr {f g : Nat → Nat} : ∀ n, (∀ i, i < n → f i = g i) → sm n f = sm n g
  | 0, _ => rfl
  | n + 1, h => by simp only [sm]; rw [sm_congr n (fun i hi => h i (by omega)), h n (by omega)]
theorem joinP_pos {part : Nat → Nat} {u v x : Nat} (h : part x = part v) : joinP part u v x = part u := if_pos h
theorem joinP_neg {part : Nat → Nat} {u v x : Nat} (h : ¬ part x = part v) : joinP part u v x = part x := if_neg h
theorem joinP_rep {part : Nat → Nat} (hi : ∀ b, part (part b) = part b) (u v : Nat) (b : Nat) : joinP part u v (joinP part u v b) = joinP part u v b := by
  by_cases h : part b = part v
  · rw [joinP_pos h]
    by_cases h2 : part (part u) = part v
    · rw [joinP_pos h2]
    · rw [joinP_neg h2, hi]
  · rw [joinP_neg h, joinP_neg (by rw [hi]; exact h), hi]
theorem reps_join {nb : Nat} {part : Nat → Nat} (hi : ∀ b, part (part b) = part b) (hl : ∀ b, b < nb → part b < nb) {u v : Nat} (hv : v < nb) (hp : part u ≠ part v) : reps nb (joinP part u v) + 1 = reps nb part := by
  have e : reps nb part = sm nb fun b => (if joinP part u v b = b then 1 else 0) + (if b = part v then 1 else 0) := by
    refine sm_congr nb (fun b _ => ?_)
    by_cases h : part b = part v
    · rw [joinP_pos h]
      by_cases hb : b = part v
      · subst hb
        rw [hi, if_pos rfl, if_neg hp]
      · rw [if_neg (fun e => hb (by rw [← h, e])), if_neg hb, if_neg ?_]
        intro e
        have h2 : part (part u) = part v := by rw [e]; exact h
        rw [hi] at h2; exact hp h2
    · rw [joinP_neg h, if_neg (c := b = part v) (fun e => h (by rw [e, hi])), Nat.add_zero]
  rw [e, sm_add, sm_one, if_pos (hl v hv)]; rfl
theorem one_part {nb : Nat} {part : Nat → Nat} (hi : ∀ b, part (part b) = part b) (hl : ∀ b, b < nb → part b < nb) (h : reps nb part ≤ 1) : ∀ a b, a < nb → b < nb → part a = part b := by
  intro a b ha hb
  refine Classical.byContradiction fun hne => ?_
  have : sm nb (fun x => (if x = part a then 1 else 0) + (if x = part b then 1 else 0)) ≤ reps nb part := sm_le nb (fun x _ => by
    by_cases h1 : x = part a
    · rw [if_pos h1, if_neg (by rw [h1]; exact hne), if_pos (by rw [h1, hi])]; decide
    · by_cases h2 : x = part b
      · rw [if_neg h1, if_pos h2, if_pos (by rw [h2, hi])]; decide
      · rw [if_neg h1, if_neg h2]; omega)
  rw [sm_add, sm_one, sm_one, if_pos (hl a ha), if_pos (hl b hb)] at this
  omega
theorem reps_init (nb : Nat) : reps nb (fun b => b) = nb := by
  unfold reps
  simp only [if_true]
  rw [sm_const]; omega
end Go.Proofs.YtecnfgikbmcgoaaGreat
