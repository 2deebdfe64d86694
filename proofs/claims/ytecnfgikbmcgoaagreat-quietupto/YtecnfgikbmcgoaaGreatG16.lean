import Derived.Test.YtecnfgikbmcgoaaGreatG13
namespace Go.Proofs.YtecnfgikbmcgoaaGreat

def sm : Nat → (Nat → Nat) → Nat
  | 0, _ => 0
  | n + 1, f => sm n f + f n
theorem sm_le {f g : Nat → Nat} : ∀ n, (∀ i, i < n → f i ≤ g i) → sm n f ≤ sm n g
  | 0, _ => Nat.le_refl _
  | n + 1, h => by
    have := sm_le n (fun i hi => h i (by omega))
    have := h n (by omega)
    simp only [sm]; omega
theorem sm_add (f g : Nat → Nat) : ∀ n, sm n (fun i => f i + g i) = sm n f + sm n g
  | 0 => rfl
  | n + 1 => by simp only [sm, sm_add f g n]; omega
theorem sm_zero : ∀ n, sm n (fun _ => 0) = 0
  | 0 => rfl
  | n + 1 => by simp only [sm, sm_zero n]
theorem sm_one (i c : Nat) : ∀ n, sm n (fun j => if j = i then c else 0) = if i < n then c else 0
  | 0 => by simp [sm]
  | n + 1 => by
    simp only [sm, sm_one i c n]
    by_cases h : i < n
    · rw [if_pos h, if_neg (by omega), if_pos (by omega)]; omega
    · by_cases h2 : n = i
      · rw [if_neg h, if_pos h2, if_pos (by omega)]; omega
      · rw [if_neg h, if_neg h2, if_neg (by omega)]
theorem sm_const (c : Nat) : ∀ n, sm n (fun _ => c) = n * c
  | 0 => by simp [sm]
  | n + 1 => by simp only [sm, sm_const c n, Nat.succ_mul]
/-- Keys that differ, all out of a list: no more than it has. -/
theorem keys_le : ∀ (l Ks : List Ky), l.Pairwise (fun x y => x ≠ y) → (∀ k ∈ l, k ∈ Ks) → l.length ≤ Ks.length
  | [], _, _, _ => by simp
  | a :: t, Ks, hp, hs => by
    have hp' := List.pairwise_cons.1 hp
    have ha := hs a (by simp)
    have := keys_le t (Ks.erase a) hp'.2 (fun k hk => (List.mem_erase_of_ne (fun e => hp'.1 k hk e.symm)).2 (hs k (by simp [hk])))
    rw [List.length_erase_of_mem ha] at this
    have : 0 < Ks.length := List.length_pos_of_mem ha
    simp only [List.length_cons]; omega

section
variable {F E : Type}
variable {cov : F → F → Bool} {adj : Nat → Nat → Bool} {nxt : Nat → Nat → Int} {home : Int → Nat} {ok : F → Prop} {rank : Nat → Nat → Nat}
theorem Srt.len {l : List (Hd F)} (hs : Srt l) {Ks : List Ky} (h : ∀ x ∈ l, x.key ∈ Ks) : l.length ≤ Ks.length := by
  rw [← List.length_map (f := fun x : Hd F => x.key)]
  refine keys_le _ _ ?_ (fun k hk => ?_)
  · rw [List.pairwise_map]
    exact List.Pairwise.imp (fun h => klt_ne h) hs
  · obtain ⟨x, hx, rfl⟩ := List.mem_map.1 hk
    exact h x hx
/-- An event goes on from a broker, not back. -/
def TS.come (adj : Nat → Nat → Bool) (mt : E → F → Bool) (s : TS F E) (b : Nat) (fr : Int) (e : E) : TS F E where
  held := s.held
  q := fun x y => if x = b ∧ adj b y = true ∧ (y : Int) ≠ fr ∧ ((s.held b).any fun h => h.fr == (y : Int) && mt e h.f) = true then s.q x y ++ [.ev e] else s.q x y
theorem come_inv {mt : E → F → Bool} {s : TS F E} (I : Inv cov adj nxt home ok s) (b : Nat) (fr : Int) (e : E) : Inv cov adj nxt home ok (s.come adj mt b fr e) := by
  have hq : ∀ x y, (s.come adj mt b fr e).q x y = s.q x y ∨ (adj x y = true ∧ (s.come adj mt b fr e).q x y = s.q x y ++ [.ev e]) := by
    intro x y
    simp only [TS.come]
    split
    · rename_i h
      obtain ⟨rfl, h1, _⟩ := h
      exact Or.inr ⟨h1, rfl⟩
    · exact Or.inl rfl
  refine ⟨I.srt, I.rt, I.hok, fun x y k f hm => ?_, fun x y k hm => ?_, fun x y hxy => ?_, fun x y hxy => ?_, fun x y hxy => ?_⟩
  · rcases hq x y with h | ⟨_, h⟩
    · rw [h] at hm; exact I.qs x y k f hm
    · rw [h] at hm; exact I.qs x y k f (by simpa using hm)
  · rcases hq x y with h | ⟨_, h⟩
    · rw [h] at hm; exact I.qu x y k hm
    · rw [h] at hm; exact I.qu x y k (by simpa using hm)
  · rcases hq x y with h | ⟨h1, _⟩
    · rw [h]; exact I.nq x y hxy
    · rw [hxy] at h1; cases h1
  · show ap _ (hfr (s.held y) x) = rl (told cov (s.held x) y)
    rcases hq x y with h | ⟨_, h⟩
    · rw [h]; exact I.ag x y hxy
    · rw [h, ap_append, I.ag x y hxy]; rfl
  · show wf _ (hfr (s.held y) x)
    rcases hq x y with h | ⟨_, h⟩
    · rw [h]; exact I.al x y hxy
    · rw [h, wf_append]; exact ⟨I.al x y hxy, trivial⟩
/-- The first message of a link comes. -/
def TS.nstep (cov : F → F → Bool) (adj : Nat → Nat → Bool) (mt : E → F → Bool) (s : TS F E) (a b : Nat) : Ms F E → TS F E
  | .ev e => (s.pop a b).come adj mt b a e
  | .sub k f => s.arr cov adj a b (.sub k f)
  | .uns k => s.arr cov adj a b (.uns k)
theorem nstep_inv (N : Nx adj nxt) {mt : E → F → Bool} {s : TS F E} (I : Inv cov adj nxt home ok s) {a b : Nat} (ha : adj a b = true) {m : Ms F E} {r : List (Ms F E)} (hq : s.q a b = m :: r) : Inv cov adj nxt home ok (s.nstep cov adj mt a b m) := by
  cases m with
  | sub k f => exact arr_inv N I ha hq
  | uns k => exact arr_inv N I ha hq
  | ev e => exact come_inv (show Inv cov adj nxt home ok (s.arr cov adj a b (.ev e)) from arr_inv N I ha hq) b a e
/-- All keys that are about. -/
structure Kin (Ks : List Ky) (s : TS F E) : Prop where
  held : ∀ b, ∀ h ∈ s.held b, h.key ∈ Ks
  q : ∀ a b k f, Ms.sub k f ∈ s.q a b → k ∈ Ks
theorem turn_kin {Ks : List Ky} {s : TS F E} (K : Kin Ks s) {b : Nat} {l' : List (Hd F)} (h : ∀ x ∈ l', x.key ∈ Ks) : Kin Ks (s.turn cov adj b l') := by
  refine ⟨fun x g hg => ?_, fun x y k f hm => ?_⟩
  · simp only [TS.turn] at hg
    split at hg
    · exact h g hg
    · exact K.held x g hg
  · simp only [TS.turn] at hm
    split at hm
    · rcases List.mem_append.1 hm with hm | hm
      · exact K.q x y k f hm
      · obtain ⟨g, hg, _, rfl, _⟩ := mem_chg_sub hm
        exact h g hg
    · exact K.q x y k f hm
theorem nstep_kin {Ks : List Ky} {mt : E → F → Bool} {s : TS F E} (K : Kin Ks s) {a b : Nat} {m : Ms F E} {r : List (Ms F E)} (hq : s.q a b = m :: r) : Kin Ks (s.nstep cov adj mt a b m) := by
  have KP : Kin Ks (s.pop a b) := ⟨K.held, fun x y k f hm => K.q x y k f (pop_q hm)⟩
  cases m with
  | sub k f =>
    refine turn_kin KP (fun x hx => ?_)
    rcases mem_ins.1 hx with rfl | ⟨hx, _⟩
    · exact K.q a b k f (by rw [hq]; simp)
    · exact K.held b x hx
  | uns k => exact turn_kin KP (fun x hx => K.held b x (mem_del.1 hx).1)
  | ev e =>
    refine ⟨K.held, fun x y k f hm => KP.q x y k f ?_⟩
    simp only [TS.nstep, TS.come] at hm
    split at hm
    · simpa using hm
    · exact hm
/-- What a step adds to a link. -/
theorem nstep_q {mt : E → F → Bool} {s : TS F E} {Ks : List Ky} (I : Inv cov adj nxt home ok s) (K : Kin Ks s) {a b : Nat} (ha : adj a b = true) {m : Ms F E} {r : List (Ms F E)} (hq : s.q a b = m :: r) (x y : Nat) :
    ((s.nstep cov adj mt a b m).q x y).length ≤ ((s.pop a b).q x y).length + (if x = b ∧ adj b y = true ∧ y ≠ a then 2 * Ks.length + 1 else 0) := by
  have clen : ∀ (l l' : List (Hd F)) (n : Int), l.length ≤ Ks.length → l'.length ≤ Ks.length → (chg cov l l' n : List (Ms F E)).length ≤ 2 * Ks.length + 1 := by
    intro l l' n h1 h2
    have e1 : (newT cov l l' n).length ≤ l'.length := Nat.le_trans (List.length_filter_le _ _) (List.length_filter_le _ _)
    have e2 : (goneT cov l l' n).length ≤ l.length := Nat.le_trans (List.length_filter_le _ _) (List.length_filter_le _ _)
    simp only [chg, subs, unss, List.length_append, List.length_map]
    omega
  have hlen : (s.held b).length ≤ Ks.length := (I.srt b).len (K.held b)
  cases m with
  | sub k f =>
    have hno := head_sub I ha hq
    have hl' : (ins (⟨k, f, a⟩ : Hd F) (s.held b)).length ≤ Ks.length := by
      refine ((I.srt b).ins _).len (fun g hg => ?_)
      rcases mem_ins.1 hg with rfl | ⟨hg, _⟩
      · exact K.q a b k f (by rw [hq]; simp)
      · exact K.held b g hg
    show (if x = b ∧ adj b y = true then (s.pop a b).q x y ++ chg cov (s.held b) (ins ⟨k, f, a⟩ (s.held b)) y else (s.pop a b).q x y).length ≤ _
    by_cases h : x = b ∧ adj b y = true
    · rw [if_pos h, List.length_append]
      by_cases hya : y = a
      · have e : (chg cov (s.held b) (ins ⟨k, f, a⟩ (s.held b)) y : List (Ms F E)) = [] := by
          rw [hya]; exact chg_ins_same (h := (⟨k, f, a⟩ : Hd F)) (I.srt b) hno
        rw [e]; simp
      · rw [if_pos ⟨h.1, h.2, hya⟩]
        have := clen (s.held b) _ y hlen hl'
        omega
    · rw [if_neg h]; omega
  | uns k =>
    obtain ⟨g, hg, rfl⟩ := head_uns I ha hq
    have hl' : (del g.key (s.held b)).length ≤ Ks.length := Nat.le_trans (List.length_filter_le _ _) hlen
    show (if x = b ∧ adj b y = true then (s.pop a b).q x y ++ chg cov (s.held b) (del g.key (s.held b)) y else (s.pop a b).q x y).length ≤ _
    by_cases h : x = b ∧ adj b y = true
    · rw [if_pos h, List.length_append]
      by_cases hya : y = a
      · have hside : g.fr = (a : Int) := by rw [I.rt b g hg]; exact I.qu a b g.key (by rw [hq]; simp)
        have e : (chg cov (s.held b) (del g.key (s.held b)) y : List (Ms F E)) = [] := by
          rw [hya, ← hside]; exact chg_del_same (I.srt b) hg
        rw [e]; simp
      · rw [if_pos ⟨h.1, h.2, hya⟩]
        have := clen (s.held b) _ y hlen hl'
        omega
    · rw [if_neg h]; omega
  | ev e =>
    show (if x = b ∧ adj b y = true ∧ (y : Int) ≠ (a : Int) ∧ _ then (s.pop a b).q x y ++ [.ev e] else (s.pop a b).q x y).length ≤ _
    split
    · rename_i h
      rw [if_pos ⟨h.1, h.2.1, by omega⟩, List.length_append]
      simp only [List.length_singleton]; omega
    · omega
/-- How much is still to do. -/
def todo (rank : Nat → Nat → Nat) (nb C : Nat) (s : TS F E) : Nat := sm nb fun a => sm nb fun b => (s.q a b).length * C ^ rank b a
theorem step_less (R : Rk adj nxt rank) (N : Nx adj nxt) {mt : E → F → Bool} {nb : Nat} (hb : ∀ a b, adj a b = true → a < nb ∧ b < nb) {Ks : List Ky} {s : TS F E} (I : Inv cov adj nxt home ok s) (K : Kin Ks s) {a b : Nat} (ha : adj a b = true) {m : Ms F E} {r : List (Ms F E)} (hq : s.q a b = m :: r) :
    todo rank nb (nb * (2 * Ks.length + 1) + 1) (s.nstep cov adj mt a b m) < todo rank nb (nb * (2 * Ks.length + 1) + 1) s := by
  have hab := hb a b ha
  generalize hD : 2 * Ks.length + 1 = D
  generalize hC : nb * D + 1 = C
  have hCpos : 0 < C := by omega
  have point : ∀ x y, ((s.nstep cov adj mt a b m).q x y).length * C ^ rank y x + (if x = a then (if y = b then C ^ rank b a else 0) else 0) ≤ (s.q x y).length * C ^ rank y x + (if x = b then (if adj b y = true ∧ y ≠ a then D * C ^ rank y b else 0) else 0) := by
    intro x y
    have h1 := nstep_q (mt := mt) I K ha hq x y
    rw [hD] at h1
    have h2 : ((s.pop a b).q x y).length + (if x = a then (if y = b then 1 else 0) else 0) = (s.q x y).length := by
      show (if x = a ∧ y = b then (s.q x y).tail else s.q x y).length + _ = _
      by_cases hx : x = a
      · by_cases hy : y = b
        · subst hx hy
          rw [if_pos ⟨rfl, rfl⟩, if_pos rfl, if_pos rfl, hq]; rfl
        · rw [if_neg (fun h => hy h.2), if_pos hx, if_neg hy]; omega
      · rw [if_neg (fun h => hx h.1), if_neg hx]; omega
    have h3 := Nat.mul_le_mul_right (C ^ rank y x) h1
    rw [Nat.add_mul] at h3
    have h4 : (if x = a then (if y = b then C ^ rank b a else 0) else 0) = (if x = a then (if y = b then 1 else 0) else 0) * C ^ rank y x := by
      by_cases hx : x = a
      · by_cases hy : y = b
        · subst hx hy; simp
        · simp [hy]
      · simp [hx]
    have h5 : (if x = b ∧ adj b y = true ∧ y ≠ a then D else 0) * C ^ rank y x = (if x = b then (if adj b y = true ∧ y ≠ a then D * C ^ rank y b else 0) else 0) := by
      by_cases hx : x = b
      · subst hx
        by_cases hy : adj x y = true ∧ y ≠ a
        · rw [if_pos ⟨rfl, hy.1, hy.2⟩, if_pos rfl, if_pos hy]
        · rw [if_neg (fun h => hy ⟨h.2.1, h.2.2⟩), if_pos rfl, if_neg hy]; simp
      · rw [if_neg (fun h => hx h.1), if_neg hx]; simp
    rw [h4, ← h2, Nat.add_mul, ← h5]
    omega
  have row : ∀ x, sm nb (fun y => ((s.nstep cov adj mt a b m).q x y).length * C ^ rank y x) + (if x = a then C ^ rank b a else 0) ≤ sm nb (fun y => (s.q x y).length * C ^ rank y x) + (if x = b then sm nb (fun y => if adj b y = true ∧ y ≠ a then D * C ^ rank y b else 0) else 0) := by
    intro x
    have h := sm_le nb (fun y _ => point x y)
    rw [sm_add, sm_add] at h
    have e1 : sm nb (fun y => if x = a then (if y = b then C ^ rank b a else 0) else 0) = if x = a then C ^ rank b a else 0 := by
      by_cases hx : x = a
      · simp only [hx, if_true]; rw [sm_one, if_pos hab.2]
      · simp only [hx, if_false]; exact sm_zero nb
    have e2 : sm nb (fun y => if x = b then (if adj b y = true ∧ y ≠ a then D * C ^ rank y b else 0) else 0) = if x = b then sm nb (fun y => if adj b y = true ∧ y ≠ a then D * C ^ rank y b else 0) else 0 := by
      by_cases hx : x = b
      · simp only [hx, if_true]
      · simp only [hx, if_false]; exact sm_zero nb
    rw [e1, e2] at h
    exact h
  have all := sm_le nb (fun x _ => row x)
  rw [sm_add, sm_add, sm_one, sm_one, if_pos hab.1, if_pos hab.2] at all
  have small : sm nb (fun y => if adj b y = true ∧ y ≠ a then D * C ^ rank y b else 0) < C ^ rank b a := by
    cases hr : rank b a with
    | zero =>
      have : sm nb (fun y => if adj b y = true ∧ y ≠ a then D * C ^ rank y b else 0) ≤ sm nb (fun _ => 0) := sm_le nb (fun y _ => by
        split
        · rename_i h
          have := R.lt b a y (N.sym _ _ ha) (N.sym _ _ h.1) h.2
          omega
        · exact Nat.le_refl _)
      rw [sm_zero] at this
      rw [Nat.pow_zero]; omega
    | succ q =>
      have : sm nb (fun y => if adj b y = true ∧ y ≠ a then D * C ^ rank y b else 0) ≤ sm nb (fun _ => D * C ^ q) := sm_le nb (fun y _ => by
        split
        · rename_i h
          have := R.lt b a y (N.sym _ _ ha) (N.sym _ _ h.1) h.2
          exact Nat.mul_le_mul_left _ (Nat.pow_le_pow_right hCpos (by omega))
        · exact Nat.zero_le _)
      rw [sm_const, ← Nat.mul_assoc] at this
      have hp : 0 < C ^ q := Nat.pow_pos hCpos
      have : C ^ (q + 1) = nb * D * C ^ q + C ^ q := by rw [Nat.pow_succ, Nat.mul_comm, ← hC, Nat.add_mul, Nat.one_mul]
      omega
  unfold todo
  omega
end
end Go.Proofs.YtecnfgikbmcgoaaGreat
