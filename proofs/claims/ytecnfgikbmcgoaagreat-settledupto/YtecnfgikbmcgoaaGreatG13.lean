import Derived.Test.YtecnfgikbmcgoaaGreatG10
import Derived.Test.YtecnfgikbmcgoaaGreatG12
import Derived.Deep.LoopGhost
import Derived.Test.YtecnfgikbmcgoaaGreatG2
import Derived.Test.YtecnfgikbmcgoaaGreatG4
import Derived.Test.YtecnfgikbmcgoaaGreatG1
namespace Go.Proofs.YtecnfgikbmcgoaaGreat

section
variable {F E : Type}
variable {cov : F → F → Bool} {adj : Nat → Nat → Bool} {nxt : Nat → Nat → Int} {home : Int → Nat} {ok : F → Prop} {rank : Nat → Nat → Nat}
/-- So many steps, whichever link has its turn. -/
inductive Sts (cov : F → F → Bool) (adj : Nat → Nat → Bool) (mt : E → F → Bool) : TS F E → Nat → TS F E → Prop
  | refl (s : TS F E) : Sts cov adj mt s 0 s
  | step {s s' : TS F E} {a b n : Nat} {m : Ms F E} {r : List (Ms F E)} : adj a b = true → s.q a b = m :: r → Sts cov adj mt (s.nstep cov adj mt a b m) n s' → Sts cov adj mt s (n + 1) s'
theorem Sts.inv (N : Nx adj nxt) {mt : E → F → Bool} {s s' : TS F E} {n : Nat} (h : Sts cov adj mt s n s') : Inv cov adj nxt home ok s → Inv cov adj nxt home ok s' := by
  induction h with
  | refl => exact fun I => I
  | step ha hq _ ih => exact fun I => ih (nstep_inv N I ha hq)
/-- One filter spreads over the whole tree. -/
structure Fl (k : Ky) (b0 : Nat) (s : TS F E) : Prop where
  key : ∀ b, ∀ h ∈ s.held b, h.key = k
  ms : ∀ a b m, m ∈ s.q a b → ∃ f, m = .sub k f
  at0 : s.held b0 ≠ []
def holders (nb : Nat) (s : TS F E) : Nat := sm nb fun b => if (s.held b).isEmpty then 0 else 1
theorem told_nil (n : Int) : told cov ([] : List (Hd F)) n = [] := rfl
theorem fl_step {mt : E → F → Bool} {nb : Nat} (Z : Nz nb adj nxt) {k : Ky} {b0 : Nat} {s : TS F E} (I : Inv cov adj nxt home ok s) (L : Fl k b0 s) {a b : Nat} (ha : adj a b = true) {m : Ms F E} {r : List (Ms F E)} (hq : s.q a b = m :: r) :
    Fl k b0 (s.nstep cov adj mt a b m) ∧ holders nb (s.nstep cov adj mt a b m) = holders nb s + 1 := by
  obtain ⟨f, rfl⟩ := L.ms a b m (by rw [hq]; simp)
  have hno := head_sub I ha hq
  have hb : s.held b = [] := by
    cases hl : s.held b with
    | nil => rfl
    | cons x t =>
      have hx : x ∈ s.held b := by rw [hl]; simp
      exact absurd (L.key b x hx) (hno x hx)
  have hh : ∀ x, (s.nstep cov adj mt a b (.sub k f)).held x = if x = b then [⟨k, f, a⟩] else s.held x := by
    intro x
    show (if x = b then ins ⟨k, f, a⟩ (s.held b) else s.held x) = _
    rw [hb]; rfl
  refine ⟨⟨fun x h hm => ?_, fun x y m hm => ?_, ?_⟩, ?_⟩
  · rw [hh] at hm
    split at hm
    · simp only [List.mem_singleton] at hm; subst hm; rfl
    · exact L.key x h hm
  · have hm : m ∈ (if x = b ∧ adj b y = true then (s.pop a b).q x y ++ chg cov (s.held b) (ins ⟨k, f, a⟩ (s.held b)) y else (s.pop a b).q x y) := hm
    split at hm
    · rcases List.mem_append.1 hm with hm | hm
      · exact L.ms x y m (pop_q hm)
      · cases m with
        | sub k' f' =>
          obtain ⟨g, hg, _, e, _⟩ := mem_chg_sub hm
          rcases mem_ins.1 hg with rfl | ⟨hg, _⟩
          · exact ⟨f', by rw [← e]⟩
          · exact ⟨f', by rw [← e, L.key b g hg]⟩
        | uns k' =>
          obtain ⟨g, hg, _⟩ := mem_chg_uns hm
          rw [hb] at hg; cases hg
        | ev e =>
          simp only [chg, subs, unss, List.mem_append, List.mem_map] at hm
          rcases hm with ⟨_, _, h⟩ | ⟨_, _, h⟩ <;> cases h
    · exact L.ms x y m (pop_q hm)
  · rw [hh]
    split
    · simp
    · exact L.at0
  · unfold holders
    have : (sm nb fun x => if ((s.nstep cov adj mt a b (.sub k f)).held x).isEmpty then 0 else 1) = sm nb fun x => (if (s.held x).isEmpty then 0 else 1) + (if x = b then 1 else 0) := by
      refine sm_congr nb (fun x _ => ?_)
      rw [hh]
      by_cases hx : x = b
      · subst hx; rw [if_pos rfl, hb]; simp
      · rw [if_neg hx, if_neg (c := x = b) hx, Nat.add_zero]
    rw [this, sm_add, sm_one, if_pos (Z.inn a b ha).2]
theorem Sts.fl (N : Nx adj nxt) {mt : E → F → Bool} {nb : Nat} (Z : Nz nb adj nxt) {k : Ky} {b0 : Nat} {s s' : TS F E} {n : Nat} (h : Sts cov adj mt s n s') : Inv cov adj nxt home ok s → Fl k b0 s → Fl k b0 s' ∧ holders nb s' = holders nb s + n := by
  induction h with
  | refl => exact fun _ L => ⟨L, rfl⟩
  | step ha hq _ ih =>
    intro I L
    obtain ⟨L', hc⟩ := fl_step (mt := mt) Z I L ha hq
    obtain ⟨L'', hc'⟩ := ih (nstep_inv N I ha hq) L'
    exact ⟨L'', by omega⟩
/-- Where something from not that side is held, and nothing waits, the next one holds something. -/
theorem on_next (P : Pre cov ok) {s : TS F E} (I : Inv cov adj nxt home ok s) {m b : Nat} (ha : adj m b = true) (hq : s.q m b = []) (h : ∃ h ∈ s.held m, h.fr ≠ (b : Int)) : s.held b ≠ [] := by
  obtain ⟨h, hm, hn⟩ := h
  obtain ⟨x, hx, _⟩ := (match_back P (mt := fun _ => true) (fun _ _ _ _ _ _ => rfl) I ha hq).2 ⟨h, hm, hn, rfl⟩
  intro e
  rw [e] at hx; cases hx
theorem fl_all (P : Pre cov ok) (R : Rk adj nxt rank) (N : Nx adj nxt) {nb : Nat} (Z : Nz nb adj nxt) {k : Ky} {s : TS F E} (I : Inv cov adj nxt home ok s) (h0 : home k.1 < nb) (L : Fl k (home k.1) s) (hs : quiet s) :
    ∀ (r b m : Nat), b < nb → nxt b (home k.1) = (m : Int) → adj m b = true → rank m b ≤ r → s.held b ≠ [] := by
  intro r
  induction r using Nat.strongRecOn with
  | ind r ih =>
    intro b m hb hm hmb hr
    refine on_next P I hmb (hs m b) ?_
    have hex := Z.excl b m (home k.1) h0 (N.sym _ _ hmb) hm
    have hne : s.held m ≠ [] := by
      rcases R.nb m (home k.1) with e | ⟨m', e, hm'⟩
      · have := Z.one m _ (Z.inn m b hmb).1 h0 e
        rw [this]; exact L.at0
      · have hm'b : m' ≠ b := fun e' => hex (by rw [e, e'])
        have hlt := R.lt m b m' hmb hm' hm'b
        exact ih (rank m' m) (by omega) m m' (Z.inn m b hmb).1 e hm' (Nat.le_refl _)
    obtain ⟨x, t, hx⟩ := List.exists_cons_of_ne_nil hne
    refine ⟨x, by rw [hx]; simp, ?_⟩
    have hx' : x ∈ s.held m := by rw [hx]; simp
    rw [I.rt m x hx', L.key m x hx']
    exact hex
theorem fl_count (P : Pre cov ok) (R : Rk adj nxt rank) (N : Nx adj nxt) {nb : Nat} (Z : Nz nb adj nxt) {mt : E → F → Bool} {k : Ky} {f : F} (hf : ok f) (h0 : home k.1 < nb) {s' : TS F E} {n : Nat}
    (h : Sts cov adj mt ((TS.none F E).turn cov adj (home k.1) [⟨k, f, -1⟩]) n s') (hs : quiet s') : n + 1 = nb ∧ Inv cov adj nxt home ok s' ∧ Fl k (home k.1) s' := by
  have I0 : Inv cov adj nxt home ok ((TS.none F E).turn cov adj (home k.1) [⟨k, f, -1⟩]) := sub_inv N none_inv k f hf (fun g hg => by cases hg)
  have L0 : Fl k (home k.1) ((TS.none F E).turn cov adj (home k.1) [⟨k, f, -1⟩]) := by
    refine ⟨fun b h hm => ?_, fun a b m hm => ?_, ?_⟩
    · have hm : h ∈ (if b = home k.1 then [(⟨k, f, -1⟩ : Hd F)] else []) := hm
      split at hm
      · simp only [List.mem_singleton] at hm; subst hm; rfl
      · cases hm
    · have hm : m ∈ (if a = home k.1 ∧ adj (home k.1) b = true then [] ++ chg cov [] [(⟨k, f, -1⟩ : Hd F)] b else []) := hm
      split at hm
      · rw [List.nil_append] at hm
        cases m with
        | sub k' f' =>
          obtain ⟨g, hg, _, e, _⟩ := mem_chg_sub hm
          simp only [List.mem_singleton] at hg
          subst hg
          exact ⟨f', by rw [← e]⟩
        | uns k' =>
          obtain ⟨g, hg, _⟩ := mem_chg_uns hm
          cases hg
        | ev e =>
          simp only [chg, subs, unss, List.mem_append, List.mem_map] at hm
          rcases hm with ⟨_, _, h⟩ | ⟨_, _, h⟩ <;> cases h
      · cases hm
    · show (if home k.1 = home k.1 then [(⟨k, f, -1⟩ : Hd F)] else []) ≠ []
      rw [if_pos rfl]; simp
  obtain ⟨L, hc⟩ := h.fl N Z I0 L0
  have I := h.inv N I0
  have hfull : holders nb s' = nb := by
    have : holders nb s' = sm nb fun _ => 1 := sm_congr nb (fun b hb => by
      have hne : s'.held b ≠ [] := by
        rcases R.nb b (home k.1) with e | ⟨m, e, hm⟩
        · rw [Z.one b _ hb h0 e]; exact L.at0
        · exact fl_all P R N Z I h0 L hs _ b m hb e hm (Nat.le_refl _)
      cases hl : s'.held b with
      | nil => exact absurd hl hne
      | cons x t => rfl)
    rw [this, sm_const]; omega
  have hone : holders nb ((TS.none F E).turn cov adj (home k.1) [⟨k, f, -1⟩]) = 1 := by
    have : holders nb ((TS.none F E).turn cov adj (home k.1) [⟨k, f, -1⟩]) = sm nb fun b => if b = home k.1 then 1 else 0 := sm_congr nb (fun b _ => by
      show (if ((if b = home k.1 then [(⟨k, f, -1⟩ : Hd F)] else []) : List (Hd F)).isEmpty then 0 else 1) = _
      by_cases hb : b = home k.1
      · rw [if_pos hb, if_pos hb]; rfl
      · rw [if_neg hb, if_neg hb]; rfl)
    rw [this, sm_one, if_pos h0]
  exact ⟨by omega, I, L⟩

/-! ### An event reaches just those who asked for it, once -/
def goes (mt : E → F → Bool) (s : TS F E) (e : E) (a b : Nat) : Bool := (s.held a).any fun h => h.fr == (b : Int) && mt e h.f
/-- While an event is under way: where it has been. -/
structure Ew (adj : Nat → Nat → Bool) (nxt : Nat → Nat → Int) (mt : E → F → Bool) (H : Nat → List (Hd F)) (b0 : Nat) (e : E) (V : Nat → Prop) (s : TS F E) : Prop where
  held : s.held = H
  at0 : V b0
  q1 : ∀ a b, s.q a b ≠ [] → adj a b = true ∧ V a ∧ ¬ V b ∧ goes mt s e a b = true ∧ s.q a b = [.ev e]
  q2 : ∀ a b, adj a b = true → V a → ¬ V b → goes mt s e a b = true → s.q a b = [.ev e]
  cl : ∀ b, V b → b = b0 ∨ ∃ m : Nat, nxt b b0 = (m : Int) ∧ V m
theorem Ew.pred (N : Nx adj nxt) {mt : E → F → Bool} {H : Nat → List (Hd F)} {b0 : Nat} {e : E} {V : Nat → Prop} {s : TS F E} (W : Ew adj nxt mt H b0 e V s) {x b : Nat} (hx : adj x b = true) (hv : V x) (hb : ¬ V b) : nxt b b0 = (x : Int) := by
  refine Classical.byContradiction fun hne => ?_
  have h1 := N.back b x b0 (N.sym _ _ hx) hne
  rcases W.cl x hv with rfl | ⟨m, hm, hvm⟩
  · rw [N.self] at h1; omega
  · have : m = b := by omega
    subst this; exact hb hvm
theorem ew_step (N : Nx adj nxt) {mt : E → F → Bool} {H : Nat → List (Hd F)} {b0 : Nat} {e : E} {V : Nat → Prop} {s : TS F E} (W : Ew adj nxt mt H b0 e V s) {a b : Nat} (ha : adj a b = true) {m : Ms F E} {r : List (Ms F E)} (hq : s.q a b = m :: r) :
    m = .ev e ∧ V a ∧ ¬ V b ∧ Ew adj nxt mt H b0 e (fun x => V x ∨ x = b) (s.nstep cov adj mt a b m) := by
  obtain ⟨_, hva, hvb, hg, hqe⟩ := W.q1 a b (by rw [hq]; simp)
  rw [hq] at hqe
  injection hqe with hm hr
  subst hm hr
  refine ⟨rfl, hva, hvb, ?_⟩
  have hpa := W.pred N ha hva hvb
  have hab : a ≠ b := fun h => hvb (h ▸ hva)
  have hgo : ∀ x y, goes mt (s.nstep cov adj mt a b (.ev e)) e x y = goes mt s e x y := fun _ _ => rfl
  have hq' : ∀ x y, (s.nstep cov adj mt a b (.ev e)).q x y = if x = b ∧ adj b y = true ∧ (y : Int) ≠ (a : Int) ∧ goes mt s e b y = true then (if x = a ∧ y = b then (s.q x y).tail else s.q x y) ++ [.ev e] else (if x = a ∧ y = b then (s.q x y).tail else s.q x y) := fun _ _ => rfl
  have qb : ∀ y, s.q b y = [] := by
    intro y
    refine Classical.byContradiction fun h => hvb (W.q1 b y h).2.1
  have qx : ∀ x, x ≠ a → s.q x b = [] := by
    intro x hx
    refine Classical.byContradiction fun h => ?_
    obtain ⟨h1, h2, h3, _⟩ := W.q1 x b h
    have := W.pred N h1 h2 h3
    omega
  refine ⟨W.held, Or.inl W.at0, fun x y hne => ?_, fun x y hxy hvx hvy hg' => ?_, fun x hx => ?_⟩
  · rw [hq'] at hne ⊢
    by_cases hxb : x = b
    · subst hxb
      rw [if_neg (c := x = a ∧ y = x) (fun h => hab h.1.symm), qb] at hne ⊢
      by_cases hc : adj x y = true ∧ (y : Int) ≠ (a : Int) ∧ goes mt s e x y = true
      · rw [if_pos ⟨rfl, hc⟩] at hne ⊢
        refine ⟨hc.1, Or.inr rfl, fun hv => ?_, hc.2.2, rfl⟩
        rcases hv with hv | hv
        · have := W.pred N (N.sym _ _ hc.1) hv hvb
          exact hc.2.1 (by rw [← this, hpa])
        · subst hv; rw [N.irr] at hc; cases hc.1
      · rw [if_neg (fun h => hc h.2)] at hne
        exact absurd rfl hne
    · rw [if_neg (fun h => hxb h.1)] at hne ⊢
      by_cases hxy : x = a ∧ y = b
      · obtain ⟨rfl, rfl⟩ := hxy
        rw [if_pos ⟨rfl, rfl⟩, hq] at hne
        exact absurd rfl hne
      · rw [if_neg hxy] at hne ⊢
        obtain ⟨h1, h2, h3, h4, h5⟩ := W.q1 x y hne
        refine ⟨h1, Or.inl h2, fun hv => ?_, h4, h5⟩
        rcases hv with hv | rfl
        · exact h3 hv
        · by_cases hxa : x = a
          · exact hxy ⟨hxa, rfl⟩
          · exact hne (qx x hxa)
  · rw [hgo] at hg'
    have hyb : y ≠ b := fun h => hvy (Or.inr h)
    have hvy' : ¬ V y := fun h => hvy (Or.inl h)
    rw [hq', if_neg (c := x = a ∧ y = b) (fun h => hyb h.2)]
    by_cases hxb : x = b
    · subst hxb
      have hya : (y : Int) ≠ (a : Int) := fun h => by
        have e1 : y = a := by omega
        rw [e1] at hvy'
        exact hvy' hva
      rw [if_pos ⟨rfl, hxy, hya, hg'⟩, qb]; rfl
    · rw [if_neg (fun h => hxb h.1)]
      rcases hvx with hvx | hvx
      · exact W.q2 x y hxy hvx hvy' hg'
      · exact absurd hvx hxb
  · rcases hx with hx | rfl
    · rcases W.cl x hx with h | ⟨m, h1, h2⟩
      · exact Or.inl h
      · exact Or.inr ⟨m, h1, Or.inl h2⟩
    · exact Or.inr ⟨a, hpa, Or.inl hva⟩
/-- When nothing waits any more, it has been wherever somebody asked for it. -/
theorem ew_all (P : Pre cov ok) (R : Rk adj nxt rank) (N : Nx adj nxt) {nb : Nat} (Z : Nz nb adj nxt) {mt : E → F → Bool} (hm : ∀ e f g, ok f → ok g → cov f g = true → mt e g = true → mt e f = true)
    {H : Nat → List (Hd F)} {b0 : Nat} {e : E} {V : Nat → Prop} {s : TS F E} (h0 : b0 < nb) (I : Inv cov adj nxt home ok s) (W : Ew adj nxt mt H b0 e V s) (hs : quiet s) :
    ∀ (r b m : Nat), b < nb → nxt b b0 = (m : Int) → adj m b = true → rank m b ≤ r → (∃ h ∈ s.held b, h.fr ≠ (m : Int) ∧ mt e h.f = true) → V b := by
  intro r
  induction r using Nat.strongRecOn with
  | ind r ih =>
    intro b m hb hbm hmb hr hx
    have hback := (match_back P (hm e) I (N.sym _ _ hmb) (hs b m)).2 hx
    obtain ⟨h', h1, h2, h3⟩ := hback
    have hex := Z.excl b m b0 h0 (N.sym _ _ hmb) hbm
    have hvm : V m := by
      rcases R.nb m b0 with e' | ⟨m', e', hm'⟩
      · rw [Z.one m b0 (Z.inn m b hmb).1 h0 e']; exact W.at0
      · have hm'b : m' ≠ b := fun e'' => hex (by rw [e', e''])
        have hlt := R.lt m b m' hmb hm' hm'b
        exact ih (rank m' m) (by omega) m m' (Z.inn m b hmb).1 e' hm' (Nat.le_refl _) ⟨h', h1, by rw [h2]; omega, h3⟩
    refine Classical.byContradiction fun hvb => ?_
    have := W.q2 m b hmb hvm hvb (by
      simp only [goes, List.any_eq_true, Bool.and_eq_true, beq_iff_eq]
      exact ⟨h', h1, h2, h3⟩)
    rw [hs] at this; cases this
end
end Go.Proofs.YtecnfgikbmcgoaaGreat
namespace Go.Proofs.YtecnfgikbmcgoaaGreat
open Go.RowKit
open Go.Maps (Keyed)

abbrev Lw := Nat × Nat × Nat
def lcell (x : Lw) : List Value := [.int .i64 (x.1 : Int), .int .i64 (x.2.1 : Int), .int .i64 (x.2.2 : Int)]
def lcells (l : List Lw) : List Value := l.flatMap lcell
theorem lcells_snoc (l : List Lw) (x : Lw) : lcells (l ++ [x]) = lcells l ++ [.int .i64 (x.1 : Int), .int .i64 (x.2.1 : Int), .int .i64 (x.2.2 : Int)] := by simp [lcells, lcell]
/-- The links of one broker. -/
def lk1 (T : Tc) (s : Ts) (a : Nat) : List Lw := (nbs T.adj T.nb a T.nb).map fun b => (a, b, (s.q a b).length)
def lkTo (T : Tc) (s : Ts) (k : Nat) : List Lw := (List.range k).flatMap (lk1 T s)
theorem lkTo_succ (T : Tc) (s : Ts) (k : Nat) : lkTo T s (k + 1) = lkTo T s k ++ lk1 T s k := by simp [lkTo, List.range_succ]
theorem lk1_len (T : Tc) (s : Ts) (a : Nat) : (lk1 T s a).length ≤ T.nb := by
  unfold lk1; rw [List.length_map]; exact nbs_le _ _ _ _
theorem lkTo_len (T : Tc) (s : Ts) : ∀ k, (lkTo T s k).length ≤ k * T.nb
  | 0 => by simp [lkTo]
  | k + 1 => by
    rw [lkTo_succ, List.length_append, Nat.succ_mul]
    have := lkTo_len T s k
    have := lk1_len T s k
    omega
theorem Tryz.infoLink : (Tryz.prog.info? 54).map (fun i => (i.zero, i.size, i.bytes)) = some (some (.agg #[.int .i64 0, .int .i64 0, .int .i64 0]), 3, 24) := by kernel_rfl
theorem Tw.look {T : Tc} {r : Nat → Rl} {w : World} {cls : List Cl} {s : Ts} (h : Tw T r w cls s) {a b : Nat} (hab : T.adj a b = true) : ∃ va vc, (Instr.lookup 117 (.map (some T.LB)) (.agg #[.int .i64 a, .int .i64 b]) false).run Tryz.prog w = .ok (.slice va (s.q a b).length vc) w := by
  obtain ⟨Xs, qs, h1, h2⟩ := h
  obtain ⟨m, es, clock, hmp, _, hall, hev⟩ := h1.l.lk
  obtain ⟨v, hv⟩ := hev a b hab
  obtain ⟨a', b', e, _, hQ⟩ := hall _ v hv
  have := pk_inj e
  simp only [Prod.mk.injEq, Int.natCast_inj] at this
  rw [← this.1, ← this.2] at hQ
  obtain ⟨va, vc, rfl⟩ := hQ.shape
  have hltn := h1.b.adj a b hab
  have hnb := h1.b.nb8
  obtain ⟨lk, hlk⟩ := keyE ((a : Int), (b : Int)) ⟨by omega, by omega⟩ ⟨by omega, by omega⟩
  refine ⟨va, vc, ?_⟩
  rw [← vw_qlen h2]
  exact Mp.look_yes Tryz.keyedE Tryz.underlying117 hmp hlk hv false
theorem Tw.b {T : Tc} {r : Nat → Rl} {w : World} {cls : List Cl} {s : Ts} (h : Tw T r w cls s) : Tb T r w := by
  obtain ⟨Xs, qs, h1, h2⟩ := h; exact h1.b
theorem Tw.tlt {T : Tc} {r : Nat → Rl} {w : World} {cls : List Cl} {s : Ts} (h : Tw T r w cls s) : T.TB < w.heap.size := by
  obtain ⟨Xs, qs, h1, h2⟩ := h; exact h1.tlt
theorem tw_neighbours {T : Tc} {r : Nat → Rl} {w : World} {cls : List Cl} {s : Ts} (h : Tw T r w cls s) {b : Nat} (hb : b < T.nb) :
    Calls Tryz.prog 43 #[.pointer (some ⟨T.TB, 0, none⟩), .int .i64 b] w fun e w' => ∃ v, e = .returned v ∧ w'.ownsRow w.heap.size 3 1 v (nbs T.adj T.nb b T.nb).length (ints (nbs T.adj T.nb b T.nb)) ∧ Gr w w' := by
  obtain ⟨Xs, qs, h1, h2⟩ := h
  exact ho_neighbours (w0 := w) (base := fun x y => (qs x y).map Mm.ms) ⟨r, qs, h1, Fr.refl _ _, fun _ _ => rfl⟩ hb
set_option maxRecDepth 100000 in
set_option maxHeartbeats 4000000 in
theorem Links_any (T : Tc) (r : Nat → Rl) (w : World) (cls : List Cl) (s : Ts) (hT : Tw T r w cls s) (hm : Sm T s) :
    Calls Tryz.prog 19 #[.pointer (some ⟨T.TB, 0, none⟩)] w fun e w' => ∃ v, e = .returned v ∧ w'.ownsRow w.heap.size 54 3 v (lkTo T s T.nb).length (lcells (lkTo T s T.nb)) ∧ Gr w w' := by
  obtain ⟨i0, hi, hz0, hz1, hz2⟩ := info_parts Tryz.infoLink
  have hnb := hT.b.nb8
  have HT := Hid.mk' hT
  have HM := Hid.mk' hm
  have c0 := hT.b.c0
  have hTB := hT.tlt
  have LL := Hid.mk' (lkTo_len T s)
  have L1 := Hid.mk' (lk1_len T s)
  clear hT hm
  go_enter Tryz.func19, Tryz.ntmps19
  go_wp2_with fail
  go_loopw [3, 12] (fun v i wr => ∃ q : Nat, q ≤ T.nb ∧ i = .int .i64 q ∧ Hid (Gr w wr) ∧ Hid (wr.ownsRow w.heap.size 54 3 v (lkTo T s q).length (lcells (lkTo T s q)))) (fun _ i _ => T.nb - (intOf i).toNat)
  case atStart => exact ⟨0, Nat.zero_le _, rfl, Gr.refl _, World.ownsRow_nil _ _ _ _⟩
  case round =>
    obtain ⟨q, hq, rfl, G, O⟩ := hrel
    obtain ⟨va, vm, vk, rfl⟩ := owns_slice O.out
    clear c0
    by_cases hlt : q < T.nb
    · have NB := Hid.mk' (tw_neighbours (HT.out.gr G.out) hlt)
      have NMEM : Hid (∀ n, n ∈ nbs T.adj T.nb q T.nb → n < T.nb ∧ T.adj q n = true) := fun n hn => (nbs_mem.1 hn).2
      have NLE := nbs_le T.adj T.nb q T.nb
      have SUC := Hid.mk' (lkTo_succ T s q)
      have L1E : Hid (lk1 T s q = (nbs T.adj T.nb q T.nb).map fun b => (q, b, (s.q q b).length)) := rfl
      have LLq : (lkTo T s q).length ≤ q * T.nb := LL.out q
      have hqq : q * T.nb ≤ 64 := Nat.le_trans (Nat.mul_le_mul (Nat.le_of_lt hlt) (Nat.le_refl _)) (Nat.le_trans (Nat.mul_le_mul hnb hnb) (by omega))
      generalize nbs T.adj T.nb q T.nb = nl at *
      go_wp2_with fail
      refine NB.out.mono ?_
      rintro e w1 ⟨v1, rfl, ho, g1⟩
      obtain ⟨xa, xk, rfl, hxa⟩ := owns_shape ho
      have G1 := Hid.mk' (Gr.call G.out g1)
      have O1 := Hid.mk' (ownsGr O.out g1)
      have N1 := Hid.mk' ho
      have HXA := Hid.mk' hxa
      have SZ := G.out.size
      clear NB ho g1 G O hxa
      generalize hWR : wr = WR at *
      clear hWR
      go_wp2_with fail
      go_loopw [3, 19] (fun v i w6 => ∃ j : Nat, j ≤ nl.length ∧ i = .int .i64 j ∧ Hid (Gr w w6) ∧ Hid (w6.ownsRow WR.heap.size 3 1 (.slice xa nl.length xk) nl.length (ints nl)) ∧ Hid (w6.ownsRow w.heap.size 54 3 v (lkTo T s q ++ (nl.take j).map fun b => (q, b, (s.q q b).length)).length (lcells (lkTo T s q ++ (nl.take j).map fun b => (q, b, (s.q q b).length))))) (fun _ i _ => nl.length - (intOf i).toNat)
      case atStart => exact ⟨0, Nat.zero_le _, rfl, G1, N1, by show World.ownsRow _ _ _ _ _ _ _; simpa using O1.out⟩
      case round =>
        obtain ⟨j, hj, rfl, G2, N2, O2⟩ := hrel
        obtain ⟨ya, ym, yk, rfl⟩ := owns_slice O2.out
        clear G1 N1 O1
        by_cases hjl : j < nl.length
        · obtain ⟨xb, rfl⟩ := HXA.out (by omega)
          have cq : wr.cell? ⟨xb, j, none⟩ = some (.int .i64 (nat_ nl j)) := by rw [World.ownsRow.cellAt N2.out j (by omega)]; simp [ints, nat_, hjl]
          have hmem := NMEM.out _ (nat_mem hjl)
          have T3 := HT.out.gr G2.out
          obtain ⟨qa, qc, hlu⟩ := T3.look hmem.2
          have c2 := T3.b.c2
          have TK : Hid ((lkTo T s q ++ (nl.take (j + 1)).map fun b => (q, b, (s.q q b).length)) = (lkTo T s q ++ (nl.take j).map fun b => (q, b, (s.q q b).length)) ++ [(q, nat_ nl j, (s.q q (nat_ nl j)).length)]) := by
            show _ = _
            rw [nat_take hjl, List.map_append, List.append_assoc]; rfl
          have hlen : (lkTo T s q ++ (nl.take j).map fun b => (q, b, (s.q q b).length)).length ≤ 100 := by
            rw [List.length_append, List.length_map, List.length_take]; omega
          have hqn := HM.out.q q (nat_ nl j)
          clear T3
          generalize (lkTo T s q ++ (nl.take j).map fun b => (q, b, (s.q q b).length)) = pre at *
          generalize nat_ nl j = n at *
          generalize (s.q q n).length = ql at *
          have hne : ¬ (none : Option Addr) = none → False := fun h => h rfl
          go_wp2_with (at_builtin; refine wpList_append_own _ rfl _ _ 51 rfl w.heap.size 54 i0 (.agg #[.int .i64 0, .int .i64 0, .int .i64 0]) 3 24 Tryz.underlying51 hi hz0 hz1 hz2 rfl (by decide) _ _ _ rfl (O2.out.alloc _) ⟨wr.heap.size, 0, none⟩ 1 1 [.int .i64 q, .int .i64 n, .int .i64 ql] rfl rfl (World.news_of_block (heap_alloc_new _ _)) ?k2 ?k3 ?k4 ?k5 ?_)
          case k2 => exact ⟨rfl, rfl, rfl⟩
          case k3 => unfold maxLen; omega
          case k4 => omega
          case k5 => have := G2.out.size; simp; omega
          intro v5 w5 ho5 hg5 _
          have G5 : Hid (Gr w w5) := Below.grown (G2.out.alloc _) hg5 (Nat.le_trans G2.out.size (by simp)) (own_low O2.out)
          have N5 : Hid (w5.ownsRow WR.heap.size 3 1 (.slice (some ⟨xb, 0, none⟩) nl.length xk) nl.length (ints nl)) := owns_kept (N2.out.alloc _) hg5 (own_apart O2.out N2.out (by decide))
          have O5 : Hid (w5.ownsRow w.heap.size 54 3 v5 (lkTo T s q ++ (nl.take (j + 1)).map fun b => (q, b, (s.q q b).length)).length (lcells (lkTo T s q ++ (nl.take (j + 1)).map fun b => (q, b, (s.q q b).length)))) := by
            show World.ownsRow _ _ _ _ _ _ _
            rw [TK.out, List.length_append, lcells_snoc]; exact ho5
          obtain ⟨za, zm, zk, rfl⟩ := owns_slice ho5
          clear ho5 hg5 O2 N2 G2 hlu cq
          go_wp2_with fail
          exact ⟨⟨j + 1, hjl, by simp, G5, N5, O5⟩, measM_dec _ _ hjl⟩
        · have hje : j = nl.length := by omega
          subst hje
          have O5 : Hid (wr.ownsRow w.heap.size 54 3 (.slice ya ym yk) (lkTo T s (q + 1)).length (lcells (lkTo T s (q + 1)))) := by
            have := O2.out
            rw [List.take_length, ← L1E.out, ← SUC.out] at this
            exact this
          clear O2 N2
          go_wp2_with fail
          exact ⟨⟨q + 1, hlt, by simp, G2, O5⟩, measM_dec _ _ hlt⟩
    · have hqn : q = T.nb := by omega
      subst hqn
      go_wp2_with fail
      go_ret
      exact ⟨_, rfl, O.out, G.out⟩
def lat (l : List Lw) (i : Nat) : Lw := l.getD i (0, 0, 0)
theorem lcells_at : ∀ (L : List Lw) (j : Nat), j < L.length → (lcells L)[j * 3]? = some (.int .i64 ((lat L j).1 : Int)) ∧ (lcells L)[j * 3 + 1]? = some (.int .i64 ((lat L j).2.1 : Int)) ∧ (lcells L)[j * 3 + 1 + 1]? = some (.int .i64 ((lat L j).2.2 : Int))
  | [], j, h => by simp at h
  | x :: l, 0, _ => by simp [lcells, lcell, lat]
  | x :: l, j + 1, h => by
    have ih := lcells_at l j (by simpa using h)
    have e : ∀ k, (lcells (x :: l))[(j + 1) * 3 + k]? = (lcells l)[j * 3 + k]? := fun k => by
      have : (j + 1) * 3 + k = (j * 3 + k) + 3 := by omega
      rw [this]; simp [lcells, lcell, List.getElem?_cons_succ]
    have hh : lat (x :: l) (j + 1) = lat l j := by simp [lat]
    rw [hh]
    exact ⟨(e 0).trans ih.1, (e 1).trans ih.2.1, (e 2).trans ih.2.2⟩
/-- The first link in which something waits. -/
def fst_ (l : List Lw) : Option Lw := l.find? fun x => decide (0 < x.2.2)
theorem fst_hit {l : List Lw} {j : Nat} (hj : j < l.length) (h0 : ∀ x ∈ l.take j, x.2.2 = 0) (h1 : 0 < (lat l j).2.2) : fst_ l = some (lat l j) := by
  have e : l = l.take j ++ lat l j :: l.drop (j + 1) := by
    have : lat l j = l[j] := by simp [lat, hj]
    rw [this, ← List.drop_eq_getElem_cons hj, List.take_append_drop]
  unfold fst_
  conv => lhs; rw [e]
  rw [List.find?_append]
  have : (l.take j).find? (fun x => decide (0 < x.2.2)) = none := by
    rw [List.find?_eq_none]
    intro x hx
    rw [h0 x hx]; simp
  rw [this]
  simp [h1]
theorem fst_none {l : List Lw} (h0 : ∀ x ∈ l, x.2.2 = 0) : fst_ l = none := by
  unfold fst_
  rw [List.find?_eq_none]
  intro x hx
  rw [h0 x hx]; simp
def fstV : Option Lw → Value
  | some x => .tuple #[.agg #[.int .i64 (x.1 : Int), .int .i64 (x.2.1 : Int), .int .i64 (x.2.2 : Int)], .bool true]
  | none => .tuple #[.agg #[.int .i64 0, .int .i64 0, .int .i64 0], .bool false]
theorem lkTo_q {T : Tc} {s : Ts} {k : Nat} {x : Lw} (h : x ∈ lkTo T s k) : x.1 < k ∧ T.adj x.1 x.2.1 = true ∧ x.2.2 = (s.q x.1 x.2.1).length := by
  simp only [lkTo, List.mem_flatMap, List.mem_range, lk1, List.mem_map] at h
  obtain ⟨a, ha, b, hb, rfl⟩ := h
  exact ⟨ha, (nbs_mem.1 hb).2.2, rfl⟩
theorem lkTo_mem {T : Tc} {s : Ts} {a b k : Nat} (ha : a < k) (hb : b < T.nb) (h : T.adj a b = true) : (a, b, (s.q a b).length) ∈ lkTo T s k := by
  simp only [lkTo, List.mem_flatMap, List.mem_range, lk1, List.mem_map]
  exact ⟨a, ha, b, nbs_mem.2 ⟨hb, hb, h⟩, rfl⟩
set_option maxRecDepth 100000 in
set_option maxHeartbeats 4000000 in
theorem first_any (T : Tc) (r : Nat → Rl) (w : World) (cls : List Cl) (s : Ts) (hT : Tw T r w cls s) (hm : Sm T s) :
    Calls Tryz.prog 38 #[.pointer (some ⟨T.TB, 0, none⟩)] w fun e w' => e = .returned (fstV (fst_ (lkTo T s T.nb))) ∧ Gr w w' := by
  have ga : Gr w (w.alloc (.cells #[.int .i64 0, .int .i64 0, .int .i64 0] 54)) := (Gr.refl w).alloc _
  have HB := heap_alloc_new w (.cells #[.int .i64 0, .int .i64 0, .int .i64 0] 54)
  have LK := Hid.mk' (Links_any T r _ cls s (hT.gr ga) hm)
  have hnb := hT.b.nb8
  have LL : (lkTo T s T.nb).length ≤ 64 := Nat.le_trans (lkTo_len T s T.nb) (Nat.le_trans (Nat.mul_le_mul hnb hnb) (by omega))
  have LQ : Hid (∀ x ∈ lkTo T s T.nb, x.2.2 < 549755813888) := fun x hx => by rw [(lkTo_q hx).2.2]; exact hm.q _ _
  have GA := Hid.mk' ga
  have HHB := Hid.mk' HB
  clear hT hm ga HB
  generalize lkTo T s T.nb = L at *
  go_enter Tryz.func38, Tryz.ntmps38
  go_wp2_with fail
  refine LK.out.mono ?_
  rintro e w1 ⟨v1, rfl, ho, g1⟩
  obtain ⟨xa, xk, rfl, hxa⟩ := owns_shape ho
  have G1 := Hid.mk' (Gr.call GA.out g1)
  have B1 := Hid.mk' (blk_gr g1 HHB.out)
  have N1 := Hid.mk' ho
  have HXA := Hid.mk' hxa
  clear LK ho g1 hxa GA HHB
  go_wp2_with fail
  go_loopw [9] (fun i wr => ∃ j : Nat, j ≤ L.length ∧ i = .int .i64 j ∧ Hid (Gr w1 wr) ∧ Hid (∀ x ∈ L.take j, x.2.2 = 0)) (fun i _ => L.length - (intOf i).toNat)
  case atStart => exact ⟨0, Nat.zero_le _, rfl, Gr.refl _, fun x hx => by simp at hx⟩
  case round =>
    obtain ⟨j, hj, rfl, G2, Z⟩ := hrel
    have hB := blk_gr G2.out B1.out
    have hws := blk_lt hB
    have G3 := Hid.mk' (Gr.call G1.out G2.out)
    have v0 : wr.cell? ⟨w.heap.size, 0, none⟩ = some (.int .i64 0) := by rw [cell_of_row _ _ _ _ _ _ hB]; rfl
    have v1 : wr.cell? ⟨w.heap.size, 1, none⟩ = some (.int .i64 0) := by rw [cell_of_row _ _ _ _ _ _ hB]; rfl
    have v2 : wr.cell? ⟨w.heap.size, 2, none⟩ = some (.int .i64 0) := by rw [cell_of_row _ _ _ _ _ _ hB]; rfl
    have f0 : ∀ j, wr.frozen? ⟨w.heap.size, j, none⟩ = false := fun j => frozen_of_row _ _ _ _ _ hB
    have HBB := Hid.mk' hB
    clear hB
    by_cases hjl : j < L.length
    · obtain ⟨xb, rfl⟩ := HXA.out (by omega)
      have N2 := ownsGr N1.out G2.out
      obtain ⟨d0, d1, d2⟩ := lcells_at L j hjl
      rw [← World.ownsRow.cellAt N2 _ (by omega)] at d0 d1 d2
      have hmx : lat L j ∈ L := by unfold lat; exact getD_mem hjl _
      have hlq := LQ.out _ hmx
      have G4 := Hid.mk' (G2.out.alloc (.cells #[.int .i64 ((lat L j).1 : Int), .int .i64 ((lat L j).2.1 : Int), .int .i64 ((lat L j).2.2 : Int)] 54))
      have TK : Hid (L.take (j + 1) = L.take j ++ [lat L j]) := by
        show _ = _
        rw [List.take_succ_eq_append_getElem hjl]; simp [lat, hjl]
      have FH := Hid.mk' (fst_hit hjl Z.out)
      clear N2 hmx
      generalize lat L j = y at *
      by_cases hy : 0 < y.2.2
      · have hy' : (0 : Int) < (y.2.2 : Int) := by omega
        have FV := Hid.mk' (FH.out hy)
        have G5 := Hid.mk' (G3.out.alloc (.cells #[.int .i64 (y.1 : Int), .int .i64 (y.2.1 : Int), .int .i64 (y.2.2 : Int)] 54))
        clear Z TK
        go_wp2_with fail
        refine bodyPost_ret (v := fstV (some y)) (by simp [results, Tryz.results38, go_sem, fstV, v0, v1, v2, hws]) rfl ⟨by rw [FV.out], ?_⟩
        exact Gr.alloc (a := w) (Below.setCell (Below.setCell (Below.setCell G3.out (p := ⟨w.heap.size, 0, none⟩) (Nat.le_refl _) _) (p := ⟨w.heap.size, 1, none⟩) (Nat.le_refl _) _) (p := ⟨w.heap.size, 2, none⟩) (Nat.le_refl _) _) _
      · have hy0 : y.2.2 = 0 := by omega
        have Z2 : Hid (∀ x ∈ L.take (j + 1), x.2.2 = 0) := fun x hx => by
          rw [TK.out] at hx
          rcases List.mem_append.1 hx with hx | hx
          · exact Z.out x hx
          · rw [List.mem_singleton.1 hx]; exact hy0
        clear Z TK FH v0 v1 v2 f0
        rw [hy0] at d2 G4
        go_wp2_with fail
        exact ⟨⟨j + 1, hjl, by simp, G4, Z2⟩, measM_dec _ _ hjl⟩
    · have hje : j = L.length := by omega
      subst hje
      rw [List.take_length] at Z
      have FV := Hid.mk' (fst_none Z.out)
      go_wp2_with fail
      refine bodyPost_ret (v := fstV none) (by simp [results, Tryz.results38, go_sem, fstV, v0, v1, v2]) rfl ⟨by rw [FV.out], ?_⟩
      exact Below.setCell (Below.setCell (Below.setCell G3.out (p := ⟨w.heap.size, 0, none⟩) (Nat.le_refl _) _) (p := ⟨w.heap.size, 1, none⟩) (Nat.le_refl _) _) (p := ⟨w.heap.size, 2, none⟩) (Nat.le_refl _) _
/-! ### Drain -/
theorem Sts.snoc {cov : List Wnt → List Wnt → Bool} {adj : Nat → Nat → Bool} {mt : List Atr → List Wnt → Bool} {s s' : Ts} {n : Nat} (h : Sts cov adj mt s n s') {a b : Nat} {m : Ms (List Wnt) (List Atr)} {r : List (Ms (List Wnt) (List Atr))} (ha : adj a b = true) (hq : s'.q a b = m :: r) : Sts cov adj mt s (n + 1) (s'.nstep cov adj mt a b m) := by
  induction h with
  | refl s => exact .step ha hq (.refl _)
  | step h1 h2 _ ih => exact .step h1 h2 (ih hq)
theorem Sts.kin {cov : List Wnt → List Wnt → Bool} {adj : Nat → Nat → Bool} {mt : List Atr → List Wnt → Bool} {s s' : Ts} {n : Nat} {Ks : List Ky} (h : Sts cov adj mt s n s') : Kin Ks s → Kin Ks s' := by
  induction h with
  | refl s => exact fun K => K
  | step h1 h2 _ ih => exact fun K => ih (nstep_kin K h2)
set_option maxRecDepth 100000 in
set_option maxHeartbeats 4000000 in
theorem Drain_f (T : Tc) (r : Nat → Rl) (w : World) (cls : List Cl) (s : Ts) (nxt : Nat → Nat → Int) (rank : Nat → Nat → Nat) (home : Int → Nat) (ok : List Wnt → Prop) (Ks : List Ky)
    (hT : Tw T r w cls s) (N : Nx T.adj nxt) (R : Rk T.adj nxt rank) (I : Inv cov T.adj nxt home ok s) (K : Kin Ks s) (hsm : ∀ n s', Sts cov T.adj mat s n s' → Sm T s') (hne : ∀ n s', Sts cov T.adj mat s n s' → ∀ a b e, Ms.ev e ∉ s'.q a b)
    (hbd : todo rank T.nb (T.nb * (2 * Ks.length + 1) + 1) s < 4611686018427387904) :
    Calls Tryz.prog 14 #[.pointer (some ⟨T.TB, 0, none⟩)] w fun e w' => ∃ k s' r', e = .returned (.int .i64 (k : Nat)) ∧ Sts cov T.adj mat s k s' ∧ quiet s' ∧ Tw T r' w' cls s' ∧ Fr r r' w w' := by
  have HT := Hid.mk' hT
  have HN := Hid.mk' N
  have HR := Hid.mk' R
  have HI := Hid.mk' I
  have HK := Hid.mk' K
  have HS := Hid.mk' hsm
  have HNE := Hid.mk' hne
  have HAD := Hid.mk' hT.b.adj
  clear hT N R I K hsm hne
  go_enter Tryz.func14, Tryz.ntmps14
  go_wp2_with fail
  go_loopg [3] (todo rank T.nb (T.nb * (2 * Ks.length + 1) + 1) s) (fun k v wr => ∃ (c : Nat) (s' : Ts) (r' : Nat → Rl), v = .int .i64 c ∧ c + k ≤ todo rank T.nb (T.nb * (2 * Ks.length + 1) + 1) s ∧ Hid (todo rank T.nb (T.nb * (2 * Ks.length + 1) + 1) s' ≤ k) ∧ Hid (Sts cov T.adj mat s c s') ∧ Hid (Tw T r' wr cls s') ∧ Hid (Fr r r' w wr))
  case atStart => exact ⟨0, s, r, rfl, by omega, Nat.le_refl _, Sts.refl s, HT, Fr.refl _ _⟩
  case round =>
    obtain ⟨c, s', r', rfl, hck, TD, ST, T2, F2⟩ := hrel
    have SM2 := Hid.mk' (HS.out c s' ST.out)
    have FT := Hid.mk' (first_any T r' wr cls s' T2.out SM2.out)
    have I2 := Hid.mk' (ST.out.inv HN.out HI.out)
    have K2 := Hid.mk' (ST.out.kin HK.out)
    cases hf : fst_ (lkTo T s' T.nb) with
    | none =>
      have QT : Hid (quiet s') := by
        intro a b
        by_cases hab : T.adj a b = true
        · have hl := HAD.out a b hab
          have hm := lkTo_mem (s := s') hl.1 hl.2 hab
          have := List.find?_eq_none.1 hf _ hm
          simp only [decide_eq_true_eq] at this
          exact List.length_eq_zero_iff.1 (by omega)
        · exact I2.out.nq a b (by simpa using hab)
      rw [hf] at FT
      go_wp2_with fail
      refine FT.out.mono ?_
      rintro e w1 ⟨rfl, g1⟩
      unfold fstV
      have T3 := Hid.mk' (T2.out.gr (g1.alloc (.cells #[.int .i64 0, .int .i64 0, .int .i64 0] 54)))
      have F3 := Hid.mk' (F2.out.trans (Fr.gr (g1.alloc (.cells #[.int .i64 0, .int .i64 0, .int .i64 0] 54))))
      clear FT g1
      go_wp2_with fail
      go_ret
      exact ⟨c, s', r', rfl, ST.out, QT.out, T3.out, F3.out⟩
    | some y =>
      have hy := List.find?_some hf
      have hym := lkTo_q (List.mem_of_find?_eq_some hf)
      simp only [decide_eq_true_eq] at hy
      obtain ⟨y1, y2, y3⟩ := y
      simp only at hy hym
      have hab := hym.2.1
      have hltn := HAD.out _ _ hab
      obtain ⟨m, rs, hq⟩ : ∃ m rs, s'.q y1 y2 = m :: rs := by
        cases hq : s'.q y1 y2 with
        | nil => rw [hq] at hym; simp at hym; omega
        | cons m rs => exact ⟨m, rs, rfl⟩
      have LESS := Hid.mk' (step_less (mt := mat) HR.out HN.out HAD.out I2.out K2.out hab hq)
      have ST3 := Hid.mk' (ST.out.snoc hab hq)
      have SP : Hid (∀ w', Gr wr w' → Calls Tryz.prog 37 #[.pointer (some ⟨T.TB, 0, none⟩), .int .i64 y1, .int .i64 y2] w' fun e w2 => e = .returned (.int .i64 0) ∧ ∃ r2, Tw T r2 w2 cls (s'.nstep cov T.adj mat y1 y2 m) ∧ Fr r' r2 w' w2) := fun w' g => Step_f T r' w' cls s' nxt home ok y1 y2 m rs (T2.out.gr g) I2.out hab hq (fun e he => HNE.out c s' ST.out y1 y2 e (by rw [hq, he]; simp)) SM2.out
      rw [hf] at FT
      have TDk := TD.out
      have TDl := LESS.out
      have hk : c + 1 ≤ 4611686018427387904 := by omega
      have HTD := Hid.mk' (Nat.lt_of_lt_of_le LESS.out TD.out)
      clear hf hym hy hq TDk TDl LESS TD
      go_wp2_with fail
      refine FT.out.mono ?_
      rintro e w1 ⟨rfl, g1⟩
      unfold fstV
      have g2 := g1.alloc (.cells #[.int .i64 (y1 : Int), .int .i64 (y2 : Int), .int .i64 (y3 : Int)] 54)
      have SP2 := Hid.mk' (SP.out _ g2)
      have GG := Hid.mk' g2
      clear FT g1 g2 SP
      go_wp2_with fail
      refine SP2.out.mono ?_
      rintro e w3 ⟨rfl, r2, z1, z2⟩
      have T3 := Hid.mk' z1
      have F3 := Hid.mk' ((F2.out.trans (Fr.gr GG.out)).trans z2)
      clear SP2 z1 z2 GG
      go_wp2_with fail
      go_roundg (todo rank T.nb (T.nb * (2 * Ks.length + 1) + 1) (s'.nstep cov T.adj mat y1 y2 m))
      case measure => exact HTD.out
      case rel => exact ⟨c + 1, _, r2, by go_num, by have := HTD.out; omega, Nat.le_refl _, ST3, T3, F3⟩
end Go.Proofs.YtecnfgikbmcgoaaGreat
namespace Go.Proofs.YtecnfgikbmcgoaaGreat
open Go.RowKit

theorem wrap_bd (n : Int) : minI ≤ wrap64 n ∧ wrap64 n ≤ maxI := by unfold wrap64 minI maxI; omega
theorem app_size (s t : ByteArray) : (s ++ t).size = s.size + t.size := by simp
theorem piece_ok {n : Int} {s : ByteArray} (hlo : minI ≤ n) (hhi : n ≤ maxI) (hs : s.size ≤ 32) : ∀ v ∈ piece n s, valOk v.1 v.2.1 v.2.2 = true ∧ minI ≤ v.2.1 ∧ v.2.1 ≤ maxI := by
  have hz : minI ≤ 0 ∧ 0 ≤ maxI := by unfold minI maxI; omega
  have num : ∀ x, minI ≤ x → x ≤ maxI → valOk 1 x noText = true ∧ minI ≤ x ∧ x ≤ maxI := fun x h1 h2 => ⟨by simp [valOk, noText_list], h1, h2⟩
  have txt : ∀ t : ByteArray, t.size ≤ 32 → valOk 2 0 t = true ∧ minI ≤ 0 ∧ 0 ≤ maxI := fun t ht => ⟨by simp [valOk]; omega, hz.1, hz.2⟩
  have a1 : aT.size = 1 := rfl
  have z1 : zT.size = 1 := rfl
  have o1 : oT.size = 1 := rfl
  have f1 : fT.size = 1 := rfl
  intro v hv
  unfold piece at hv
  rcases List.mem_append.1 hv with hv | hv
  · simp only [List.mem_cons, List.not_mem_nil, or_false] at hv
    rcases hv with rfl | rfl | rfl | rfl
    · exact num n hlo hhi
    · exact num _ (wrap_bd _).1 (wrap_bd _).2
    · exact num _ (wrap_bd _).1 (wrap_bd _).2
    · exact txt s hs
  · split at hv
    · simp only [List.mem_cons, List.not_mem_nil, or_false] at hv
      rcases hv with rfl | rfl | rfl | rfl | rfl | rfl | rfl | rfl <;> exact txt _ (by rw [app_size]; omega)
    · simp at hv
theorem tried_ok {n : Int} {s : ByteArray} {n' : Int} {s' : ByteArray} (h1 : minI ≤ n) (h2 : n ≤ maxI) (h3 : minI ≤ n') (h4 : n' ≤ maxI) (hs : s.size ≤ 32) (hs' : s'.size ≤ 32) :
    ∀ v ∈ triedL n s n' s', valOk v.1 v.2.1 v.2.2 = true ∧ minI ≤ v.2.1 ∧ v.2.1 ≤ maxI := by
  have hz : minI ≤ 0 ∧ 0 ≤ maxI ∧ minI ≤ 1 ∧ 1 ≤ maxI ∧ minI ≤ maxI := by unfold minI maxI; omega
  intro v hv
  unfold triedL at hv
  rcases List.mem_append.1 hv with hv | hv
  · rcases List.mem_append.1 hv with hv | hv
    · rcases List.mem_append.1 hv with hv | hv
      · simp only [List.mem_cons, List.not_mem_nil, or_false] at hv
        rcases hv with rfl | rfl | rfl | rfl <;> refine ⟨by simp [valOk, noText_list], ?_, ?_⟩ <;> simp only <;> omega
      · exact piece_ok h1 h2 (by decide) v hv
    · exact piece_ok h3 h4 hs v hv
  · exact piece_ok hz.1 hz.2.1 hs' v hv

theorem way_size {y k n : Int} {s : ByteArray} (h : wayOk y k n s = true) : s.size ≤ 32 := by
  by_cases h1 : y = 1
  · subst h1
    simp [wayOk_any] at h
    have := empty_data h.2
    have e : s.size = s.data.toList.length := by simp
    rw [this, List.length_nil] at e
    omega
  · exact val_size (way_val h h1)

theorem within_iff {y k n : Int} {s : ByteArray} {y' k' n' : Int} {s' : ByteArray} (hw : wayOk y k n s = true) (hw' : wayOk y' k' n' s' = true) (hlo : minI ≤ n) (hhi : n ≤ maxI) (hlo' : minI ≤ n') (hhi' : n' ≤ maxI) :
    withinB y k n s y' k' n' s' = true ↔ implP y k n s y' k' n' s' := by
  constructor
  · exact within_sound hw hw' hlo hhi
  · intro h
    cases hb : withinB y k n s y' k' n' s'
    · obtain ⟨v, hm, h1, h2⟩ := within_wit hw hw' hlo hhi hb
      obtain ⟨o1, o2, o3⟩ := tried_ok hlo hhi hlo' hhi' (way_size hw) (way_size hw') v hm
      rw [h _ _ _ o1 o2 o3 h1] at h2; cases h2
    · rfl

/-- As the document's answer has it: all tried values. -/
def triedB (y k n : Int) (s : ByteArray) (y' k' n' : Int) (s' : ByteArray) : Bool := (triedL n s n' s').all fun v => !(lets y k n s v.1 v.2.1 v.2.2 && !lets y' k' n' s' v.1 v.2.1 v.2.2)
theorem tried_eq {y k n : Int} {s : ByteArray} {y' k' n' : Int} {s' : ByteArray} (hw : wayOk y k n s = true) (hw' : wayOk y' k' n' s' = true) (hlo : minI ≤ n) (hhi : n ≤ maxI) (hlo' : minI ≤ n') (hhi' : n' ≤ maxI) :
    triedB y k n s y' k' n' s' = withinB y k n s y' k' n' s' := by
  cases hb : withinB y k n s y' k' n' s'
  · obtain ⟨v, hm, h1, h2⟩ := within_wit hw hw' hlo hhi hb
    unfold triedB
    rw [List.all_eq_false]
    exact ⟨v, hm, by simp [h1, h2]⟩
  · have hs := within_sound hw hw' hlo hhi hb
    unfold triedB
    rw [List.all_eq_true]
    intro v hm
    obtain ⟨o1, o2, o3⟩ := tried_ok hlo hhi hlo' hhi' (way_size hw) (way_size hw') v hm
    cases hl : lets y k n s v.1 v.2.1 v.2.2
    · simp
    · simp [hs _ _ _ o1 o2 o3 hl]

theorem way_of {x : Wnt} (h : wOk x = true) : wayOk x.y x.k x.n x.s = true := by simp [wOk, wantOk] at h; exact h.2
theorem imp_iff {x x' : Wnt} (hx : x.Wf) (hx' : x'.Wf) : impW x x' = true ↔ wOk x = true ∧ wOk x' = true ∧ x.a.toList = x'.a.toList ∧ implP x.y x.k x.n x.s x'.y x'.k x'.n x'.s := by
  unfold impW impB
  simp only [Bool.and_eq_true, beq_iff_eq]
  constructor
  · rintro ⟨⟨⟨h1, h2⟩, h3⟩, h4⟩
    exact ⟨h1, h2, h3, (within_iff (way_of h1) (way_of h2) hx.n1 hx.n2 hx'.n1 hx'.n2).1 h4⟩
  · rintro ⟨h1, h2, h3, h4⟩
    exact ⟨⟨⟨h1, h2⟩, h3⟩, (within_iff (way_of h1) (way_of h2) hx.n1 hx.n2 hx'.n1 hx'.n2).2 h4⟩
theorem imp_refl {x : Wnt} (hx : x.Wf) (h : wOk x = true) : impW x x = true := (imp_iff hx hx).2 ⟨h, h, rfl, fun _ _ _ _ _ _ h => h⟩
theorem imp_trans {x y z : Wnt} (hx : x.Wf) (hy : y.Wf) (hz : z.Wf) (h1 : impW x y = true) (h2 : impW y z = true) : impW x z = true := by
  obtain ⟨a1, _, a3, a4⟩ := (imp_iff hx hy).1 h1
  obtain ⟨_, b2, b3, b4⟩ := (imp_iff hy hz).1 h2
  exact (imp_iff hx hz).2 ⟨a1, b2, a3.trans b3, fun k n s o1 o2 o3 hl => b4 k n s o1 o2 o3 (a4 k n s o1 o2 o3 hl)⟩

theorem cov_iff {f g : List Wnt} : cov f g = true ↔ filterOk f = true ∧ filterOk g = true ∧ ∀ x ∈ f, ∃ v ∈ g, impW v x = true := by
  unfold cov
  simp only [Bool.and_eq_true, List.all_eq_true, List.any_eq_true]
  constructor
  · rintro ⟨⟨h1, h2⟩, h3⟩; exact ⟨h1, h2, h3⟩
  · rintro ⟨h1, h2, h3⟩; exact ⟨⟨h1, h2⟩, h3⟩
theorem cov_sub {f g : List Wnt} (hf : filterOk f = true) (hg : filterOk g = true) (hwf : ∀ x ∈ f, Wnt.Wf x) (h : ∀ x ∈ f, x ∈ g) : cov f g = true :=
  cov_iff.2 ⟨hf, hg, fun x hx => ⟨x, h x hx, imp_refl (hwf x hx) ((fi_ok_of hf).1 x hx)⟩⟩
theorem cov_trans {f g h : List Wnt} (wf : ∀ x ∈ f, Wnt.Wf x) (wg : ∀ x ∈ g, Wnt.Wf x) (wh : ∀ x ∈ h, Wnt.Wf x) (h1 : cov f g = true) (h2 : cov g h = true) : cov f h = true := by
  obtain ⟨a1, _, a3⟩ := cov_iff.1 h1
  obtain ⟨_, b2, b3⟩ := cov_iff.1 h2
  refine cov_iff.2 ⟨a1, b2, fun x hx => ?_⟩
  obtain ⟨v, hv, e1⟩ := a3 x hx
  obtain ⟨u, hu, e2⟩ := b3 v hv
  exact ⟨u, hu, imp_trans (wh u hu) (wg v hv) (wf x hx) e2 e1⟩

theorem ans_imp {v p : Wnt} (hv : v.Wf) (hp : p.Wf) (h : impW v p = true) : ∀ l : List Atr, (∀ z ∈ l, valOk z.k z.n z.s = true) → (∀ z ∈ l, z.Wf) → ans l v = true → ans l p = true
  | [], _, _, hl => by simp [ans] at hl
  | z :: l, h1, h2, hl => by
    obtain ⟨_, _, a3, a4⟩ := (imp_iff hv hp).1 h
    unfold ans at hl ⊢
    rw [a3] at hl
    split
    · rename_i hn
      rw [if_pos hn] at hl
      exact a4 _ _ _ (h1 z (by simp)) (h2 z (by simp)).n1 (h2 z (by simp)).n2 hl
    · rename_i hn
      rw [if_neg hn] at hl
      exact ans_imp hv hp h l (fun z hz => h1 z (by simp [hz])) (fun z hz => h2 z (by simp [hz])) hl
theorem mat_cov {f g : List Wnt} {l : List Atr} (wf : ∀ x ∈ f, Wnt.Wf x) (wg : ∀ x ∈ g, Wnt.Wf x) (he : evOk l = true) (hl : ∀ z ∈ l, z.Wf) (h : cov f g = true) (hm : mat l g = true) : mat l f = true := by
  obtain ⟨_, _, a3⟩ := cov_iff.1 h
  unfold mat at *
  rw [List.all_eq_true] at *
  intro x hx
  obtain ⟨v, hv, e⟩ := a3 x hx
  exact ans_imp (wg v hv) (wf x hx) e l (ev_ok_of he).1 hl (hm v hv)
theorem mat_imp {p q : Wnt} {l : List Atr} (wp : p.Wf) (wq : q.Wf) (he : evOk l = true) (hl : ∀ z ∈ l, z.Wf) (h : impW p q = true) (hm : mat l [p] = true) : mat l [q] = true := by
  simp only [mat, List.all_cons, List.all_nil, Bool.and_true] at *
  exact ans_imp wp wq h l (ev_ok_of he).1 hl hm

end Go.Proofs.YtecnfgikbmcgoaaGreat
