import Derived.Test.YtecnfgikbmcgoaaGreatG25
namespace Go.Proofs.YtecnfgikbmcgoaaGreat

section
variable {F E : Type}
variable {cov : F → F → Bool} {adj : Nat → Nat → Bool} {nxt : Nat → Nat → Int} {home : Int → Nat} {ok : F → Prop} {rank : Nat → Nat → Nat}
/-- So many steps, whichever link has its turn. -/
inductive Sts (cov : F → F → Bool) (adj : Nat → Nat → Bool) (mt : E → F → Bool) : TS F E → Nat → TS F E → Prop
  | refl (s : TS F E) : Sts cov adj mt s 0 s
  | step {s s' : TS F E} {a b n : Nat} {m : Ms F E} {r : List (Ms F E)} : adj a b = true → s.q a b = m :: r → Sts cov adj mt (s.nstep cov adj mt a b m) n s' → Sts cov adj mt s (n + 1) s'
theorem Sts.inv (N : Nx adj nxt) {mt : E → F → Bool} {s s' : TS F E} {n : Nat} (h : Sts cov adj mt s n s') : Inv cov adj nxt home ok s → Inv cov adj nxt home ok s' := by
  induction h with
  | refl => exact fun I => I
  | step ha hq _ ih => exact fun I => ih (nstep_inv N I ha hq)
/-- One filter spreads over the whole tree. -/
structure Fl (k : Ky) (b0 : Nat) (s : TS F E) : Prop where
  key : ∀ b, ∀ h ∈ s.held b, h.key = k
  ms : ∀ a b m, m ∈ s.q a b → ∃ f, m = .sub k f
  at0 : s.held b0 ≠ []
def holders (nb : Nat) (s : TS F E) : Nat := sm nb fun b => if (s.held b).isEmpty then 0 else 1
theorem told_nil (n : Int) : told cov ([] : List (Hd F)) n = [] := rfl
theorem fl_step {mt : E → F → Bool} {nb : Nat} (Z : Nz nb adj nxt) {k : Ky} {b0 : Nat} {s : TS F E} (I : Inv cov adj nxt home ok s) (L : Fl k b0 s) {a b : Nat} (ha : adj a b = true) {m : Ms F E} {r : List (Ms F E)} (hq : s.q a b = m :: r) :
    Fl k b0 (s.nstep cov adj mt a b m) ∧ holders nb (s.nstep cov adj mt a b m) = holders nb s + 1 := by
  obtain ⟨f, rfl⟩ := L.ms a b m (by rw [hq]; simp)
  have hno := head_sub I ha hq
  have hb : s.held b = [] := by
    cases hl : s.held b with
    | nil => rfl
    | cons x t =>
      have hx : x ∈ s.held b := by rw [hl]; simp
      exact absurd (L.key b x hx) (hno x hx)
  have hh : ∀ x, (s.nstep cov adj mt a b (.sub k f)).held x = if x = b then [⟨k, f, a⟩] else s.held x := by
    intro x
    show (if x = b then ins ⟨k, f, a⟩ (s.held b) else s.held x) = _
    rw [hb]; rfl
  refine ⟨⟨fun x h hm => ?_, fun x y m hm => ?_, ?_⟩, ?_⟩
  · rw [hh] at hm
    split at hm
    · simp only [List.mem_singleton] at hm; subst hm; rfl
    · exact L.key x h hm
  · have hm : m ∈ (if x = b ∧ adj b y = true then (s.pop a b).q x y ++ chg cov (s.held b) (ins ⟨k, f, a⟩ (s.held b)) y else (s.pop a b).q x y) := hm
    split at hm
    · rcases List.mem_append.1 hm with hm | hm
      · exact L.ms x y m (pop_q hm)
      · cases m with
        | sub k' f' =>
          obtain ⟨g, hg, _, e, _⟩ := mem_chg_sub hm
          rcases mem_ins.1 hg with rfl | ⟨hg, _⟩
          · exact ⟨f', by rw [← e]⟩
          · exact ⟨f', by rw [← e, L.key b g hg]⟩
        | uns k' =>
          obtain ⟨g, hg, _⟩ := mem_chg_uns hm
          rw [hb] at hg; cases hg
        | ev e =>
          simp only [chg, subs, unss, List.mem_append, List.mem_map] at hm
          rcases hm with ⟨_, _, h⟩ | ⟨_, _, h⟩ <;> cases h
    · exact L.ms x y m (pop_q hm)
  · rw [hh]
    split
    · simp
    · exact L.at0
  · unfold holders
    have : (sm nb fun x => if ((s.nstep cov adj mt a b (.sub k f)).held x).isEmpty then 0 else 1) = sm nb fun x => (if (s.held x).isEmpty then 0 else 1) + (if x = b then 1 else 0) := by
      refine sm_congr nb (fun x _ => ?_)
      rw [hh]
      by_cases hx : x = b
      · subst hx; rw [if_pos rfl, hb]; simp
      · rw [if_neg hx, if_neg (c := x = b) hx, Nat.add_zero]
    rw [this, sm_add, sm_one, if_pos (Z.inn a b ha).2]
theorem Sts.fl (N : Nx adj nxt) {mt : E → F → Bool} {nb : Nat} (Z : Nz nb adj nxt) {k : Ky} {b0 : Nat} {s s' : TS F E} {n : Nat} (h : Sts cov adj mt s n s') : Inv cov adj nxt home ok s → Fl k b0 s → Fl k b0 s' ∧ holders nb s' = holders nb s + n := by
  induction h with
  | refl => exact fun _ L => ⟨L, rfl⟩
  | step ha hq _ ih =>
    intro I L
    obtain ⟨L', hc⟩ := fl_step (mt := mt) Z I L ha hq
    obtain ⟨L'', hc'⟩ := ih (nstep_inv N I ha hq) L'
    exact ⟨L'', by omega⟩
/-- Where something from not that side is held, and nothing waits, the next one holds something. -/
theorem on_next (P : Pre cov ok) {s : TS F E} (I : Inv cov adj nxt home ok s) {m b : Nat} (ha : adj m b = true) (hq : s.q m b = []) (h : ∃ h ∈ s.held m, h.fr ≠ (b : Int)) : s.held b ≠ [] := by
  obtain ⟨h, hm, hn⟩ := h
  obtain ⟨x, hx, _⟩ := (match_back P (mt := fun _ => true) (fun _ _ _ _ _ _ => rfl) I ha hq).2 ⟨h, hm, hn, rfl⟩
  intro e
  rw [e] at hx; cases hx
theorem fl_all (P : Pre cov ok) (R : Rk adj nxt rank) (N : Nx adj nxt) {nb : Nat} (Z : Nz nb adj nxt) {k : Ky} {s : TS F E} (I : Inv cov adj nxt home ok s) (h0 : home k.1 < nb) (L : Fl k (home k.1) s) (hs : quiet s) :
    ∀ (r b m : Nat), b < nb → nxt b (home k.1) = (m : Int) → adj m b = true → rank m b ≤ r → s.held b ≠ [] := by
  intro r
  induction r using Nat.strongRecOn with
  | ind r ih =>
    intro b m hb hm hmb hr
    refine on_next P I hmb (hs m b) ?_
    have hex := Z.excl b m (home k.1) h0 (N.sym _ _ hmb) hm
    have hne : s.held m ≠ [] := by
      rcases R.nb m (home k.1) with e | ⟨m', e, hm'⟩
      · have := Z.one m _ (Z.inn m b hmb).1 h0 e
        rw [this]; exact L.at0
      · have hm'b : m' ≠ b := fun e' => hex (by rw [e, e'])
        have hlt := R.lt m b m' hmb hm' hm'b
        exact ih (rank m' m) (by omega) m m' (Z.inn m b hmb).1 e hm' (Nat.le_refl _)
    obtain ⟨x, t, hx⟩ := List.exists_cons_of_ne_nil hne
    refine ⟨x, by rw [hx]; simp, ?_⟩
    have hx' : x ∈ s.held m := by rw [hx]; simp
    rw [I.rt m x hx', L.key m x hx']
    exact hex
theorem fl_count (P : Pre cov ok) (R : Rk adj nxt rank) (N : Nx adj nxt) {nb : Nat} (Z : Nz nb adj nxt) {mt : E → F → Bool} {k : Ky} {f : F} (hf : ok f) (h0 : home k.1 < nb) {s' : TS F E} {n : Nat}
    (h : Sts cov adj mt ((TS.none F E).turn cov adj (home k.1) [⟨k, f, -1⟩]) n s') (hs : quiet s') : n + 1 = nb ∧ Inv cov adj nxt home ok s' ∧ Fl k (home k.1) s' := by
  have I0 : Inv cov adj nxt home ok ((TS.none F E).turn cov adj (home k.1) [⟨k, f, -1⟩]) := sub_inv N none_inv k f hf (fun g hg => by cases hg)
  have L0 : Fl k (home k.1) ((TS.none F E).turn cov adj (home k.1) [⟨k, f, -1⟩]) := by
    refine ⟨fun b h hm => ?_, fun a b m hm => ?_, ?_⟩
    · have hm : h ∈ (if b = home k.1 then [(⟨k, f, -1⟩ : Hd F)] else []) := hm
      split at hm
      · simp only [List.mem_singleton] at hm; subst hm; rfl
      · cases hm
    · have hm : m ∈ (if a = home k.1 ∧ adj (home k.1) b = true then [] ++ chg cov [] [(⟨k, f, -1⟩ : Hd F)] b else []) := hm
      split at hm
      · rw [List.nil_append] at hm
        cases m with
        | sub k' f' =>
          obtain ⟨g, hg, _, e, _⟩ := mem_chg_sub hm
          simp only [List.mem_singleton] at hg
          subst hg
          exact ⟨f', by rw [← e]⟩
        | uns k' =>
          obtain ⟨g, hg, _⟩ := mem_chg_uns hm
          cases hg
        | ev e =>
          simp only [chg, subs, unss, List.mem_append, List.mem_map] at hm
          rcases hm with ⟨_, _, h⟩ | ⟨_, _, h⟩ <;> cases h
      · cases hm
    · show (if home k.1 = home k.1 then [(⟨k, f, -1⟩ : Hd F)] else []) ≠ []
      rw [if_pos rfl]; simp
  obtain ⟨L, hc⟩ := h.fl N Z I0 L0
  have I := h.inv N I0
  have hfull : holders nb s' = nb := by
    have : holders nb s' = sm nb fun _ => 1 := sm_congr nb (fun b hb => by
      have hne : s'.held b ≠ [] := by
        rcases R.nb b (home k.1) with e | ⟨m, e, hm⟩
        · rw [Z.one b _ hb h0 e]; exact L.at0
        · exact fl_all P R N Z I h0 L hs _ b m hb e hm (Nat.le_refl _)
      cases hl : s'.held b with
      | nil => exact absurd hl hne
      | cons x t => rfl)
    rw [this, sm_const]; omega
  have hone : holders nb ((TS.none F E).turn cov adj (home k.1) [⟨k, f, -1⟩]) = 1 := by
    have : holders nb ((TS.none F E).turn cov adj (home k.1) [⟨k, f, -1⟩]) = sm nb fun b => if b = home k.1 then 1 else 0 := sm_congr nb (fun b _ => by
      show (if ((if b = home k.1 then [(⟨k, f, -1⟩ : Hd F)] else []) : List (Hd F)).isEmpty then 0 else 1) = _
      by_cases hb : b = home k.1
      · rw [if_pos hb, if_pos hb]; rfl
      · rw [if_neg hb, if_neg hb]; rfl)
    rw [this, sm_one, if_pos h0]
  exact ⟨by omega, I, L⟩

/-! ### An event reaches just those who asked for it, once -/
def goes (mt : E → F → Bool) (s : TS F E) (e : E) (a b : Nat) : Bool := (s.held a).any fun h => h.fr == (b : Int) && mt e h.f
/-- While an event is under way: where it has been. -/
structure Ew (adj : Nat → Nat → Bool) (nxt : Nat → Nat → Int) (mt : E → F → Bool) (H : Nat → List (Hd F)) (b0 : Nat) (e : E) (V : Nat → Prop) (s : TS F E) : Prop where
  held : s.held = H
  at0 : V b0
  q1 : ∀ a b, s.q a b ≠ [] → adj a b = true ∧ V a ∧ ¬ V b ∧ goes mt s e a b = true ∧ s.q a b = [.ev e]
  q2 : ∀ a b, adj a b = true → V a → ¬ V b → goes mt s e a b = true → s.q a b = [.ev e]
  cl : ∀ b, V b → b = b0 ∨ ∃ m : Nat, nxt b b0 = (m : Int) ∧ V m
theorem Ew.pred (N : Nx adj nxt) {mt : E → F → Bool} {H : Nat → List (Hd F)} {b0 : Nat} {e : E} {V : Nat → Prop} {s : TS F E} (W : Ew adj nxt mt H b0 e V s) {x b : Nat} (hx : adj x b = true) (hv : V x) (hb : ¬ V b) : nxt b b0 = (x : Int) := by
  refine Classical.byContradiction fun hne => ?_
  have h1 := N.back b x b0 (N.sym _ _ hx) hne
  rcases W.cl x hv with rfl | ⟨m, hm, hvm⟩
  · rw [N.self] at h1; omega
  · have : m = b := by omega
    subst this; exact hb hvm
theorem ew_step (N : Nx adj nxt) {mt : E → F → Bool} {H : Nat → List (Hd F)} {b0 : Nat} {e : E} {V : Nat → Prop} {s : TS F E} (W : Ew adj nxt mt H b0 e V s) {a b : Nat} (ha : adj a b = true) {m : Ms F E} {r : List (Ms F E)} (hq : s.q a b = m :: r) :
    m = .ev e ∧ V a ∧ ¬ V b ∧ Ew adj nxt mt H b0 e (fun x => V x ∨ x = b) (s.nstep cov adj mt a b m) := by
  obtain ⟨_, hva, hvb, hg, hqe⟩ := W.q1 a b (by rw [hq]; simp)
  rw [hq] at hqe
  injection hqe with hm hr
  subst hm hr
  refine ⟨rfl, hva, hvb, ?_⟩
  have hpa := W.pred N ha hva hvb
  have hab : a ≠ b := fun h => hvb (h ▸ hva)
  have hgo : ∀ x y, goes mt (s.nstep cov adj mt a b (.ev e)) e x y = goes mt s e x y := fun _ _ => rfl
  have hq' : ∀ x y, (s.nstep cov adj mt a b (.ev e)).q x y = if x = b ∧ adj b y = true ∧ (y : Int) ≠ (a : Int) ∧ goes mt s e b y = true then (if x = a ∧ y = b then (s.q x y).tail else s.q x y) ++ [.ev e] else (if x = a ∧ y = b then (s.q x y).tail else s.q x y) := fun _ _ => rfl
  have qb : ∀ y, s.q b y = [] := by
    intro y
    refine Classical.byContradiction fun h => hvb (W.q1 b y h).2.1
  have qx : ∀ x, x ≠ a → s.q x b = [] := by
    intro x hx
    refine Classical.byContradiction fun h => ?_
    obtain ⟨h1, h2, h3, _⟩ := W.q1 x b h
    have := W.pred N h1 h2 h3
    omega
  refine ⟨W.held, Or.inl W.at0, fun x y hne => ?_, fun x y hxy hvx hvy hg' => ?_, fun x hx => ?_⟩
  · rw [hq'] at hne ⊢
    by_cases hxb : x = b
    · subst hxb
      rw [if_neg (c := x = a ∧ y = x) (fun h => hab h.1.symm), qb] at hne ⊢
      by_cases hc : adj x y = true ∧ (y : Int) ≠ (a : Int) ∧ goes mt s e x y = true
      · rw [if_pos ⟨rfl, hc⟩] at hne ⊢
        refine ⟨hc.1, Or.inr rfl, fun hv => ?_, hc.2.2, rfl⟩
        rcases hv with hv | hv
        · have := W.pred N (N.sym _ _ hc.1) hv hvb
          exact hc.2.1 (by rw [← this, hpa])
        · subst hv; rw [N.irr] at hc; cases hc.1
      · rw [if_neg (fun h => hc h.2)] at hne
        exact absurd rfl hne
    · rw [if_neg (fun h => hxb h.1)] at hne ⊢
      by_cases hxy : x = a ∧ y = b
      · obtain ⟨rfl, rfl⟩ := hxy
        rw [if_pos ⟨rfl, rfl⟩, hq] at hne
        exact absurd rfl hne
      · rw [if_neg hxy] at hne ⊢
        obtain ⟨h1, h2, h3, h4, h5⟩ := W.q1 x y hne
        refine ⟨h1, Or.inl h2, fun hv => ?_, h4, h5⟩
        rcases hv with hv | rfl
        · exact h3 hv
        · by_cases hxa : x = a
          · exact hxy ⟨hxa, rfl⟩
          · exact hne (qx x hxa)
  · rw [hgo] at hg'
    have hyb : y ≠ b := fun h => hvy (Or.inr h)
    have hvy' : ¬ V y := fun h => hvy (Or.inl h)
    rw [hq', if_neg (c := x = a ∧ y = b) (fun h => hyb h.2)]
    by_cases hxb : x = b
    · subst hxb
      have hya : (y : Int) ≠ (a : Int) := fun h => by
        have e1 : y = a := by omega
        rw [e1] at hvy'
        exact hvy' hva
      rw [if_pos ⟨rfl, hxy, hya, hg'⟩, qb]; rfl
    · rw [if_neg (fun h => hxb h.1)]
      rcases hvx with hvx | hvx
      · exact W.q2 x y hxy hvx hvy' hg'
      · exact absurd hvx hxb
  · rcases hx with hx | rfl
    · rcases W.cl x hx with h | ⟨m, h1, h2⟩
      · exact Or.inl h
      · exact Or.inr ⟨m, h1, Or.inl h2⟩
    · exact Or.inr ⟨a, hpa, Or.inl hva⟩
/-- When nothing waits any more, it has been wherever somebody asked for it. -/
theorem ew_all (P : Pre cov ok) (R : Rk adj nxt rank) (N : Nx adj nxt) {nb : Nat} (Z : Nz nb adj nxt) {mt : E → F → Bool} (hm : ∀ e f g, ok f → ok g → cov f g = true → mt e g = true → mt e f = true)
    {H : Nat → List (Hd F)} {b0 : Nat} {e : E} {V : Nat → Prop} {s : TS F E} (h0 : b0 < nb) (I : Inv cov adj nxt home ok s) (W : Ew adj nxt mt H b0 e V s) (hs : quiet s) :
    ∀ (r b m : Nat), b < nb → nxt b b0 = (m : Int) → adj m b = true → rank m b ≤ r → (∃ h ∈ s.held b, h.fr ≠ (m : Int) ∧ mt e h.f = true) → V b := by
  intro r
  induction r using Nat.strongRecOn with
  | ind r ih =>
    intro b m hb hbm hmb hr hx
    have hback := (match_back P (hm e) I (N.sym _ _ hmb) (hs b m)).2 hx
    obtain ⟨h', h1, h2, h3⟩ := hback
    have hex := Z.excl b m b0 h0 (N.sym _ _ hmb) hbm
    have hvm : V m := by
      rcases R.nb m b0 with e' | ⟨m', e', hm'⟩
      · rw [Z.one m b0 (Z.inn m b hmb).1 h0 e']; exact W.at0
      · have hm'b : m' ≠ b := fun e'' => hex (by rw [e', e''])
        have hlt := R.lt m b m' hmb hm' hm'b
        exact ih (rank m' m) (by omega) m m' (Z.inn m b hmb).1 e' hm' (Nat.le_refl _) ⟨h', h1, by rw [h2]; omega, h3⟩
    refine Classical.byContradiction fun hvb => ?_
    have := W.q2 m b hmb hvm hvb (by
      simp only [goes, List.any_eq_true, Bool.and_eq_true, beq_iff_eq]
      exact ⟨h', h1, h2, h3⟩)
    rw [hs] at this; cases this
end
end Go.Proofs.YtecnfgikbmcgoaaGreat
