import Derived.Test.YtecnfgikbmcgoaaGreatG17
namespace Go.Proofs.YtecnfgikbmcgoaaGreat
open Go.RowKit

theorem both_ok (f g : List Int) : filterOk (wantsF f ++ wantsF g) = true ∧ (∀ x ∈ wantsF f ++ wantsF g, Wnt.Wf x) := by
  obtain ⟨a1, a2, a3, a4⟩ := wantsF_ok f
  obtain ⟨b1, b2, b3, b4⟩ := wantsF_ok g
  refine ⟨?_, fun x hx => ?_⟩
  · have e1 : decide (1 ≤ ((wantsF f ++ wantsF g).length : Int)) = true := by simp; omega
    have e2 : decide (((wantsF f ++ wantsF g).length : Int) ≤ 6) = true := by simp; omega
    have e3 : (wantsF f ++ wantsF g).all wOk = true := by
      rw [List.all_append, List.all_eq_true.2 (fi_ok_of a1).1, List.all_eq_true.2 (fi_ok_of b1).1]; rfl
    simp only [filterOk, e1, e2, e3, Bool.and_self]
  · rcases List.mem_append.1 hx with h | h
    · exact a2 x h
    · exact b2 x h

theorem owns_pos {w : World} {base : Nat} {e : TypeId} {size : Nat} {v : Value} {n : Nat} {xs : List Value} (h : w.ownsRow base e size v n xs) (hn : 0 < n) : ∃ g cap, v = .slice (some ⟨g, 0, none⟩) n cap := by
  rcases h.2 with ⟨_, hn'⟩ | ⟨g, cap, cur, hv, _⟩
  · omega
  · exact ⟨g, cap, hv⟩
theorem owns_news {w : World} {base : Nat} {e : TypeId} {size g n cap : Nat} {xs : List Value} (h : w.ownsRow base e size (.slice (some ⟨g, 0, none⟩) n cap) n xs) : ∀ j u, xs[j]? = some u → w.cell? ((⟨g, 0, none⟩ : Addr).add j) = some u := fun j u hu => by
  have hadd : (⟨g, 0, none⟩ : Addr).add j = ⟨g, j, none⟩ := by unfold Addr.add; split <;> simp_all
  rw [hadd, World.ownsRow.cellAt h j ?_, hu]
  have := (List.getElem?_eq_some_iff.1 hu).1
  rw [h.1] at this; exact this
theorem wcells_one (l : List Wnt) : ∀ u ∈ wcells l, u.oneCell' = true := by
  intro u hu
  simp only [wcells, List.mem_flatMap, wcell] at hu
  obtain ⟨x, _, hu⟩ := hu
  simp at hu
  rcases hu with rfl | rfl | rfl | rfl | rfl <;> rfl
theorem wcells_app (a b : List Wnt) : wcells (a ++ b) = wcells a ++ wcells b := by simp [wcells]
theorem owns_fi {w : World} {base : Nat} {e : TypeId} {g cap : Nat} {l : List Wnt} (h : w.ownsRow base e 5 (.slice (some ⟨g, 0, none⟩) l.length cap) l.length (wcells l)) : FiAt w (some ⟨g, 0, none⟩) l := by
  obtain ⟨ad, c, e, hf⟩ := owns_wants h
  simp only [Value.slice.injEq] at e
  rw [e.1]; exact hf


/-! ### One filter, and a narrower one of the same client -/
def okF (f : List Wnt) : Prop := filterOk f = true ∧ ∀ x ∈ f, Wnt.Wf x
theorem preF : Pre cov okF := ⟨fun _ h => cov_sub h.1 h.1 h.2 (fun _ hx => hx), fun _ _ _ a b c h1 h2 => cov_trans a.2 b.2 c.2 h1 h2⟩
section
variable {adj : Nat → Nat → Bool} {nxt : Nat → Nat → Int} {home : Int → Nat} {ok : List Wnt → Prop}
theorem fl_q1 {s : Ts} {k : Ky} {b0 : Nat} (I : Inv cov adj nxt home ok s) (L : Fl k b0 s) (a b : Nat) : (s.q a b).length ≤ 1 := by
  by_cases hab : adj a b = true
  · have hw := I.al a b hab
    match hq : s.q a b with
    | [] => simp
    | [_] => simp
    | m1 :: m2 :: r =>
      exfalso
      obtain ⟨f1, rfl⟩ := L.ms a b m1 (by rw [hq]; simp)
      obtain ⟨f2, rfl⟩ := L.ms a b m2 (by rw [hq]; simp)
      rw [hq] at hw
      exact hw.2.1 f1 (Or.inl ⟨rfl, rfl⟩)
  · rw [I.nq a b (by simpa using hab)]; simp
theorem fl_h1 {s : Ts} {k : Ky} {b0 : Nat} (I : Inv cov adj nxt home ok s) (L : Fl k b0 s) (b : Nat) : (s.held b).length ≤ 1 := by
  have hs := I.srt b
  match hq : s.held b with
  | [] => simp
  | [_] => simp
  | x :: y :: r =>
    exfalso
    have h1 := L.key b x (by rw [hq]; simp)
    have h2 := L.key b y (by rw [hq]; simp)
    rw [hq] at hs
    have := (List.pairwise_cons.1 hs).1 y (by simp)
    rw [h1, h2, klt_irr] at this; cases this
theorem fl_home {s s' : Ts} {k : Ky} {n : Nat} (N : Nx adj nxt) {nb : Nat} (Z : Nz nb adj nxt) (h : Sts cov adj mat s n s') : Inv cov adj nxt home ok s → Fl k (home k.1) s → s'.held (home k.1) = s.held (home k.1) ∧ Inv cov adj nxt home ok s' ∧ Fl k (home k.1) s' := by
  induction h with
  | refl s => exact fun I L => ⟨rfl, I, L⟩
  | step ha hq _ ih =>
    intro I L
    rename_i s0 s1 a b n0 m r hst
    have I2 := nstep_inv (mt := mat) N I ha hq
    have L2 := (fl_step (mt := mat) Z I L ha hq).1
    obtain ⟨e, h2⟩ := ih I2 L2
    refine ⟨e.trans ?_, h2⟩
    obtain ⟨f, rfl⟩ := L.ms a b m (by rw [hq]; simp)
    have hn := (I.qs a b k f (by rw [hq]; simp)).1
    have hb : home k.1 ≠ b := fun e => by rw [← e, N.self] at hn; omega
    show (if home k.1 = b then _ else _) = _
    rw [if_neg hb]; rfl
theorem quiet_sts {s s' : Ts} {n : Nat} (h : Sts cov adj mat s n s') (hq : quiet s) : n = 0 ∧ s' = s := by
  cases h with
  | refl => exact ⟨rfl, rfl⟩
  | step ha h1 h2 => rw [hq] at h1; cases h1
theorem todo_le {s : Ts} {rank : Nat → Nat → Nat} {nb C L : Nat} (hr : ∀ a b, rank a b ≤ nb) (hC : 1 ≤ C) (hq : ∀ a b, (s.q a b).length ≤ L) : todo rank nb C s ≤ nb * (nb * (L * C ^ nb)) := by
  unfold todo
  rw [← sm_const (nb * (L * C ^ nb)) nb]
  refine sm_le nb fun a _ => ?_
  rw [← sm_const (L * C ^ nb) nb]
  exact sm_le nb fun b _ => Nat.mul_le_mul (hq a b) (Nat.pow_le_pow_right hC (hr b a))
theorem todo_zero {s : Ts} {rank : Nat → Nat → Nat} {nb C : Nat} (hq : quiet s) : todo rank nb C s = 0 := by
  unfold todo
  have : (fun a => sm nb fun b => (s.q a b).length * C ^ rank b a) = fun _ => 0 := by
    funext a
    have : (fun b => (s.q a b).length * C ^ rank b a) = fun _ => 0 := by funext b; rw [hq]; simp
    rw [this, sm_zero]
  rw [this, sm_zero]
/-- The narrower one, at its broker. -/
theorem narrow_chg {c : Int} {W V : List Wnt} (hWV : cov W V = true) (n : Nat) :
    (chg cov [⟨(c, 1), W, -1⟩] (ins ⟨(c, 2), V, -1⟩ [⟨(c, 1), W, -1⟩]) (n : Int) : List (Ms (List Wnt) (List Atr))) = [] := by
  have hk : klt ((c, 1) : Ky) (c, 2) = true := by simp [klt]
  have hk2 : klt ((c, 2) : Ky) (c, 1) = false := by simp [klt]
  rw [chg_ins (by simp [Srt]) (fun g hg => by rw [List.mem_singleton.1 hg]; simp) (by show (-1 : Int) ≠ n; omega)]
  have hf : ¬ (-1 : Int) = (n : Int) := by omega
  simp [isT, woT, hides, unss, hWV, hk, hk2, hf]
theorem ins_two {c : Int} {W V : List Wnt} : ins (⟨(c, 2), V, -1⟩ : Hw) [⟨(c, 1), W, -1⟩] = [⟨(c, 1), W, -1⟩, ⟨(c, 2), V, -1⟩] := by simp [ins, klt]
theorem del_two {c : Int} {W V : List Wnt} : del ((c, 2) : Ky) [(⟨(c, 1), W, -1⟩ : Hw), ⟨(c, 2), V, -1⟩] = [⟨(c, 1), W, -1⟩] := by simp [del]
theorem narrow_del {c : Int} {W V : List Wnt} (hWV : cov W V = true) (n : Nat) :
    (chg cov [⟨(c, 1), W, -1⟩, ⟨(c, 2), V, -1⟩] (del (c, 2) [⟨(c, 1), W, -1⟩, ⟨(c, 2), V, -1⟩]) (n : Int) : List (Ms (List Wnt) (List Atr))) = [] := by
  have hk : klt ((c, 1) : Ky) (c, 2) = true := by simp [klt]
  have hk2 : klt ((c, 2) : Ky) (c, 1) = false := by simp [klt]
  have := chg_del (E := List Atr) (cov := cov) (l := [⟨(c, 1), W, -1⟩, ⟨(c, 2), V, -1⟩]) (h := ⟨(c, 2), V, -1⟩) (by simp [Srt, hk]) (by simp) (n := (n : Int)) (by show (-1 : Int) ≠ n; omega)
  have hf : ¬ (-1 : Int) = (n : Int) := by omega
  rw [this, del_two]
  simp [isT, woT, hides, subs, hWV, hk, hk2, hf]
end
end Go.Proofs.YtecnfgikbmcgoaaGreat
namespace Go.Proofs.YtecnfgikbmcgoaaGreat

section
variable {F E : Type}
variable {cov : F → F → Bool} {adj : Nat → Nat → Bool} {nxt : Nat → Nat → Int} {home : Int → Nat} {ok : F → Prop} {rank : Nat → Nat → Nat}
/-! ### The clients' own filters -/
theorem nstep_cl {mt : E → F → Bool} {s : TS F E} (I : Inv cov adj nxt home ok s) {a b : Nat} (ha : adj a b = true) {m : Ms F E} {r : List (Ms F E)} (hq : s.q a b = m :: r) (x : Nat) : hfr ((s.nstep cov adj mt a b m).held x) (-1) = hfr (s.held x) (-1) := by
  cases m with
  | ev e => rfl
  | sub k f =>
    have hno := head_sub I ha hq
    show hfr (if x = b then ins ⟨k, f, a⟩ (s.held b) else s.held x) (-1) = _
    by_cases hx : x = b
    · rw [if_pos hx, hx]
      exact hfr_ins_other (by show (a : Int) ≠ -1; omega) (fun g hg e => absurd e (hno g hg))
    · rw [if_neg hx]
  | uns k =>
    obtain ⟨x0, hx0, rfl⟩ := head_uns I ha hq
    have hside : x0.fr = (a : Int) := by rw [I.rt b x0 hx0]; exact I.qu a b x0.key (by rw [hq]; simp)
    show hfr (if x = b then del x0.key (s.held b) else s.held x) (-1) = _
    by_cases hx : x = b
    · rw [if_pos hx, hx]
      exact hfr_del_other (fun g hg e => by rw [(I.srt b).uniq hg hx0 e, hside]; omega)
    · rw [if_neg hx]
/-- The clients have just these filters. -/
def Ow (home : Int → Nat) (s : TS F E) (l : List (Ky × F)) : Prop := ∀ b k f, hfr (s.held b) (-1) k f ↔ b = home k.1 ∧ (k, f) ∈ l
theorem ow_none : Ow home (TS.none F E) [] := fun _ _ _ => ⟨(fun ⟨_, h, _⟩ => nomatch h), (fun h => nomatch h.2)⟩
theorem ow_step {mt : E → F → Bool} {s : TS F E} {l : List (Ky × F)} (h : Ow home s l) (I : Inv cov adj nxt home ok s) {a b : Nat} (ha : adj a b = true) {m : Ms F E} {r : List (Ms F E)} (hq : s.q a b = m :: r) : Ow home (s.nstep cov adj mt a b m) l := fun x k f => by
  rw [nstep_cl I ha hq]; exact h x k f
theorem ow_sub {s : TS F E} {l : List (Ky × F)} (h : Ow home s l) (k : Ky) (f : F) (hn : ∀ g, (k, g) ∉ l) : Ow home (s.turn cov adj (home k.1) (ins ⟨k, f, -1⟩ (s.held (home k.1)))) (l ++ [(k, f)]) := by
  intro b k' f'
  show hfr (if b = home k.1 then _ else _) (-1) k' f' ↔ _
  by_cases hb : b = home k.1
  · rw [if_pos hb]
    have := hfr_ins (E := E) (h := (⟨k, f, -1⟩ : Hd F)) (l := s.held (home k.1))
    simp only at this
    rw [this]
    show (k' = k ∧ f' = f) ∨ (k' ≠ k ∧ _) ↔ _
    rw [← hb, h b k' f', List.mem_append, List.mem_singleton]
    constructor
    · rintro (⟨rfl, rfl⟩ | ⟨h1, h2, h3⟩)
      · exact ⟨hb, Or.inr rfl⟩
      · exact ⟨h2, Or.inl h3⟩
    · rintro ⟨h1, h2 | h2⟩
      · exact Or.inr ⟨fun e => hn f' (by rw [← e]; exact h2), h1, h2⟩
      · injection h2 with e1 e2; exact Or.inl ⟨e1, e2⟩
  · rw [if_neg hb, h b k' f', List.mem_append, List.mem_singleton]
    constructor
    · rintro ⟨h1, h2⟩; exact ⟨h1, Or.inl h2⟩
    · rintro ⟨h1, h2 | h2⟩
      · exact ⟨h1, h2⟩
      · injection h2 with e1 e2; rw [e1] at h1; exact absurd h1 hb
theorem ow_uns {s : TS F E} {l l' : List (Ky × F)} (h : Ow home s l) (k : Ky) (hl : ∀ x, x ∈ l' ↔ x ∈ l ∧ x.1 ≠ k) : Ow home (s.turn cov adj (home k.1) (del k (s.held (home k.1)))) l' := by
  intro b k' f'
  show hfr (if b = home k.1 then _ else _) (-1) k' f' ↔ _
  rw [hl]
  by_cases hb : b = home k.1
  · rw [if_pos hb, hfr_del (E := E)]
    show (k' ≠ k ∧ _) ↔ _
    rw [← hb, h b k' f']
    constructor
    · rintro ⟨h1, h2, h3⟩; exact ⟨h2, h3, h1⟩
    · rintro ⟨h1, h2, h3⟩; exact ⟨h3, h1, h2⟩
  · rw [if_neg hb, h b k' f']
    constructor
    · rintro ⟨h1, h2⟩; exact ⟨h1, h2, fun e => hb (by rw [h1]; show home k'.1 = _; rw [show k' = k from e])⟩
    · rintro ⟨h1, h2, _⟩; exact ⟨h1, h2⟩
theorem ow_come {mt : E → F → Bool} {s : TS F E} {l : List (Ky × F)} (h : Ow home s l) (b : Nat) (fr : Int) (e : E) : Ow home (s.come adj mt b fr e) l := h
/-- A filter that a client has, and where it lies. -/
theorem ow_mem {s : TS F E} {l : List (Ky × F)} (h : Ow home s l) {k : Ky} {f : F} (hm : (k, f) ∈ l) : ∃ x ∈ s.held (home k.1), x.fr = -1 ∧ x.key = k ∧ x.f = f := (h (home k.1) k f).2 ⟨rfl, hm⟩
theorem ow_no (N : Nx adj nxt) {s : TS F E} (I : Inv cov adj nxt home ok s) {l : List (Ky × F)} (h : Ow home s l) {k : Ky} (hm : ∀ f, (k, f) ∉ l) : ∀ g ∈ s.held (home k.1), g.key ≠ k := by
  intro g hg e
  have hf : g.fr = -1 := by rw [I.rt _ g hg, e]; exact N.self _
  have := (h (home k.1) g.key g.f).1 ⟨g, hg, hf, rfl, rfl⟩
  rw [e] at this
  exact hm _ this.2
/-- Two trees of one shape, whose clients have the same, hold the same when nothing waits. -/
theorem ow_settle (R : Rk adj nxt rank) {s t : TS F E} (I : Inv cov adj nxt home ok s) (J : Inv cov adj nxt home ok t) (hs : quiet s) (ht : quiet t) {l l' : List (Ky × F)} (h : Ow home s l) (h' : Ow home t l') (hl : ∀ x, x ∈ l ↔ x ∈ l') (b : Nat) : s.held b = t.held b := by
  refine settle R I J hs ht (fun b => ?_) b
  funext k f
  apply propext
  rw [h b k f, h' b k f, hl]
theorem ow_empty (R : Rk adj nxt rank) {s : TS F E} (I : Inv cov adj nxt home ok s) (hs : quiet s) (h : Ow home s []) (b : Nat) : s.held b = [] := by
  refine settle_none R I hs (fun b x hx e => ?_) b
  have := (h b x.key x.f).1 ⟨x, hx, e, rfl, rfl⟩
  cases this.2
/-! ### How many links there are -/
theorem links_count {nb : Nat} (N : Nx adj nxt) (Z : Nz nb adj nxt) (R : Rk adj nxt rank) (hnb : 0 < nb) : sm nb (fun a => sm nb fun b => if adj a b = true then 1 else 0) + 2 = 2 * nb := by
  have cell : ∀ a b, a < nb → b < nb → (if adj a b = true then 1 else 0) = (if nxt a 0 = (b : Int) then 1 else 0) + (if nxt b 0 = (a : Int) then 1 else 0) := by
    intro a b ha hb
    have down : ∀ x y : Nat, nxt x 0 = (y : Int) → adj y x = true := by
      intro x y e
      rcases R.nb x 0 with h | ⟨m, h1, h2⟩
      · rw [e] at h; omega
      · have : m = y := by omega
        rw [← this]; exact h2
    by_cases hab : adj a b = true
    · rw [if_pos hab]
      by_cases h1 : nxt a 0 = (b : Int)
      · have := Z.excl a b 0 hnb hab h1
        rw [if_pos h1, if_neg this]
      · rw [if_neg h1, if_pos (N.back a b 0 hab h1)]
    · rw [if_neg hab, if_neg (fun e => hab (N.sym _ _ (down a b e))), if_neg (fun e => hab (down b a e))]
  have e1 : sm nb (fun a => sm nb fun b => if adj a b = true then 1 else 0) = sm nb (fun a => sm nb fun b => (if nxt a 0 = (b : Int) then 1 else 0)) + sm nb (fun a => sm nb fun b => (if nxt b 0 = (a : Int) then 1 else 0)) := by
    rw [← sm_add]
    refine sm_congr nb (fun a ha => ?_)
    rw [← sm_add]
    exact sm_congr nb (fun b hb => cell a b ha hb)
  have up : sm nb (fun a => sm nb fun b => (if nxt a 0 = (b : Int) then 1 else 0)) + 1 = nb := by
    have : sm nb (fun a => (sm nb fun b => (if nxt a 0 = (b : Int) then 1 else 0)) + (if a = 0 then 1 else 0)) = sm nb fun _ => 1 := by
      refine sm_congr nb (fun a ha => ?_)
      by_cases h0 : a = 0
      · subst h0
        rw [if_pos rfl, sm_congr nb (g := fun _ => 0) (fun b _ => if_neg (by rw [N.self]; omega)), sm_zero]
      · rw [if_neg h0]
        rcases R.nb a 0 with h | ⟨m, h1, h2⟩
        · exact absurd (Z.one a 0 ha hnb h) h0
        · rw [sm_congr nb (g := fun b => if b = m then 1 else 0) (fun b _ => by
            by_cases hb : b = m
            · rw [if_pos hb, if_pos (by rw [h1, hb])]
            · rw [if_neg hb, if_neg (by rw [h1]; omega)]), sm_one, if_pos (Z.inn m a h2).1]
    rw [sm_add, sm_one, if_pos hnb, sm_const] at this
    omega
  have e2 := sm_swap (fun a b => if nxt b 0 = (a : Int) then 1 else 0) nb nb
  rw [e1, e2]
  omega
/-- No more clients' filters than keys. -/
theorem keys_split (home : Int → Nat) (nb : Nat) : ∀ Ks : List Ky, sm nb (fun b => (Ks.filter fun k => home k.1 == b).length) ≤ Ks.length
  | [] => by simp [sm_zero]
  | k :: t => by
    have ih := keys_split home nb t
    have : sm nb (fun b => ((k :: t).filter fun k => home k.1 == b).length) ≤ sm nb (fun b => (t.filter fun k => home k.1 == b).length + if b = home k.1 then 1 else 0) := sm_le nb (fun b _ => by
      rw [List.filter_cons]
      by_cases hb : b = home k.1
      · rw [if_pos hb, if_pos (by simp [hb])]; simp
      · rw [if_neg hb, if_neg (by simpa using fun e => hb e.symm)]; simp)
    rw [sm_add, sm_one] at this
    rw [List.length_cons]
    split at this <;> omega
theorem cl_count {nb : Nat} (Z : Nz nb adj nxt) (hh : ∀ c, home c < nb) {s : TS F E} (I : Inv cov adj nxt home ok s) {Ks : List Ky} (K : Kin Ks s) : sm nb (fun b => ((s.held b).filter fun h => h.fr == -1).length) ≤ Ks.length := by
  refine Nat.le_trans (sm_le nb (fun b hb => ?_)) (keys_split home nb Ks)
  refine ((I.srt b).filter _).len (fun x hx => ?_)
  obtain ⟨h1, h2⟩ := List.mem_filter.1 hx
  refine List.mem_filter.2 ⟨K.held b x h1, ?_⟩
  have h3 : x.fr = -1 := by simpa using h2
  rw [I.rt b x h1] at h3
  have := Z.one b _ hb (hh x.key.1) h3
  simp [← this]
end
end Go.Proofs.YtecnfgikbmcgoaaGreat
namespace Go.Proofs.YtecnfgikbmcgoaaGreat

section
variable {F E : Type}
/-- A client, plainly. -/
structure Pc (E : Type) where
  num : Int
  at' : Nat
  lost : Int
  box : List E
def Pc.hear (e : E) (c : Pc E) : Pc E := if c.box.length < 16 then { c with box := c.box ++ [e] } else { c with lost := c.lost + 1 }
/-- A holding's side: a client, or a neighbour. -/
def sd (h : Hd F) : Bool × Int := if h.fr = -1 then (true, h.key.1) else (false, h.fr)
/-- Whether a broker holds, from a side, a filter that matches an event. -/
def asksP (mt : E → F → Bool) (l : List (Hd F)) (s : Bool × Int) (e : E) : Bool := l.any fun h => decide (sd h = s) && mt e h.f
def hearAt (mt : E → F → Bool) (l : List (Hd F)) (fr : Bool × Int) (e : E) (c : Pc E) : Pc E := if (true, c.num) ≠ fr ∧ asksP mt l (true, c.num) e = true then c.hear e else c
/-- What a message that comes does to the clients. -/
def hrs (mt : E → F → Bool) (l : List (Hd F)) (a : Nat) (m : Ms F E) (cs : List (Pc E)) : List (Pc E) :=
  match m with
  | .ev e => cs.map (hearAt mt l (false, (a : Int)) e)
  | _ => cs
theorem hear_num (e : E) (c : Pc E) : (c.hear e).num = c.num ∧ (c.hear e).at' = c.at' := by unfold Pc.hear; split <;> exact ⟨rfl, rfl⟩
theorem hear_lost (e : E) (c : Pc E) : c.lost ≤ (c.hear e).lost ∧ (c.hear e).lost ≤ c.lost + 1 ∧ (c.box.length ≤ 16 → (c.hear e).box.length ≤ 16) := by
  unfold Pc.hear
  split
  · rename_i h
    refine ⟨Int.le_refl _, by show c.lost ≤ c.lost + 1; omega, fun _ => ?_⟩
    show (c.box ++ [e]).length ≤ 16
    rw [List.length_append, List.length_singleton]; omega
  · exact ⟨by show c.lost ≤ c.lost + 1; omega, Int.le_refl _, fun h => h⟩
variable {cov : F → F → Bool} {adj : Nat → Nat → Bool} {nxt : Nat → Nat → Int} {home : Int → Nat} {ok : F → Prop} {rank : Nat → Nat → Nat} {mt : E → F → Bool}
theorem hearAt_num (l : List (Hd F)) (fr : Bool × Int) (e : E) (c : Pc E) : (hearAt mt l fr e c).num = c.num ∧ (hearAt mt l fr e c).at' = c.at' := by
  unfold hearAt; split
  · exact hear_num e c
  · exact ⟨rfl, rfl⟩
theorem hearAt_lost (l : List (Hd F)) (fr : Bool × Int) (e : E) (c : Pc E) : c.lost ≤ (hearAt mt l fr e c).lost ∧ (hearAt mt l fr e c).lost ≤ c.lost + 1 ∧ (c.box.length ≤ 16 → (hearAt mt l fr e c).box.length ≤ 16) := by
  unfold hearAt; split
  · exact hear_lost e c
  · exact ⟨Int.le_refl _, by omega, fun h => h⟩
theorem hrs_ids {l : List (Hd F)} {a : Nat} {m : Ms F E} {cs : List (Pc E)} : (hrs mt l a m cs).map (fun c => (c.num, c.at')) = cs.map fun c => (c.num, c.at') := by
  unfold hrs
  split
  · rw [List.map_map]
    refine List.map_congr_left fun c _ => ?_
    have := hearAt_num (mt := mt) l (false, (a : Int)) (by assumption) c
    show ((hearAt mt l _ _ c).num, (hearAt mt l _ _ c).at') = _
    rw [this.1, this.2]
  · rfl
/-- Steps, whichever link has its turn, and what the clients hear. -/
inductive Run (cov : F → F → Bool) (adj : Nat → Nat → Bool) (mt : E → F → Bool) : TS F E → List (Pc E) → Nat → TS F E → List (Pc E) → Prop
  | refl (s : TS F E) (cs : List (Pc E)) : Run cov adj mt s cs 0 s cs
  | step {s s' : TS F E} {cs cs' : List (Pc E)} {a b n : Nat} {m : Ms F E} {r : List (Ms F E)} : adj a b = true → s.q a b = m :: r → Run cov adj mt (s.nstep cov adj mt a b m) (hrs mt (s.held b) a m cs) n s' cs' → Run cov adj mt s cs (n + 1) s' cs'
theorem Run.snoc {s s' : TS F E} {cs cs' : List (Pc E)} {n : Nat} (h : Run cov adj mt s cs n s' cs') {a b : Nat} {m : Ms F E} {r : List (Ms F E)} (ha : adj a b = true) (hq : s'.q a b = m :: r) : Run cov adj mt s cs (n + 1) (s'.nstep cov adj mt a b m) (hrs mt (s'.held b) a m cs') := by
  induction h with
  | refl s cs => exact .step ha hq (.refl _ _)
  | step h1 h2 _ ih => exact .step h1 h2 (ih hq)
theorem Run.keep {P : TS F E → List (Pc E) → Prop} (st : ∀ s cs a b m r, P s cs → adj a b = true → s.q a b = m :: r → P (s.nstep cov adj mt a b m) (hrs mt (s.held b) a m cs)) {s s' : TS F E} {cs cs' : List (Pc E)} {n : Nat} (h : Run cov adj mt s cs n s' cs') : P s cs → P s' cs' := by
  induction h with
  | refl => exact fun p => p
  | step h1 h2 _ ih => exact fun p => ih (st _ _ _ _ _ _ p h1 h2)
theorem Run.sts {s s' : TS F E} {cs cs' : List (Pc E)} {n : Nat} (h : Run cov adj mt s cs n s' cs') : Sts cov adj mt s n s' := by
  induction h with
  | refl => exact .refl _
  | step h1 h2 _ ih => exact .step h1 h2 ih
theorem Run.ids {s s' : TS F E} {cs cs' : List (Pc E)} {n : Nat} (h : Run cov adj mt s cs n s' cs') : cs'.map (fun c => (c.num, c.at')) = cs.map fun c => (c.num, c.at') := by
  induction h with
  | refl => rfl
  | step _ _ _ ih => rw [ih, hrs_ids]
theorem Run.ow (N : Nx adj nxt) {l : List (Ky × F)} {s s' : TS F E} {cs cs' : List (Pc E)} {n : Nat} (h : Run cov adj mt s cs n s' cs') (I : Inv cov adj nxt home ok s) (O : Ow home s l) : Ow home s' l :=
  (Run.keep (P := fun s _ => Inv cov adj nxt home ok s ∧ Ow home s l) (fun _ _ _ _ _ _ p h1 h2 => ⟨nstep_inv N p.1 h1 h2, ow_step p.2 p.1 h1 h2⟩) h ⟨I, O⟩).2
theorem Run.none {s s' : TS F E} {cs cs' : List (Pc E)} {n : Nat} (h : Run cov adj mt s cs n s' cs') (hq : quiet s) : n = 0 ∧ s' = s ∧ cs' = cs := by
  cases h with
  | refl => exact ⟨rfl, rfl, rfl⟩
  | step h1 h2 _ => rw [hq] at h2; cases h2
/-- What is held and told: these keys and filters alone. -/
structure Kif (P : Ky → F → Prop) (s : TS F E) : Prop where
  held : ∀ b, ∀ h ∈ s.held b, P h.key h.f
  q : ∀ a b k f, Ms.sub k f ∈ s.q a b → P k f
theorem turn_kif {P : Ky → F → Prop} {s : TS F E} (K : Kif P s) {b : Nat} {l' : List (Hd F)} (h : ∀ x ∈ l', P x.key x.f) : Kif P (s.turn cov adj b l') := by
  refine ⟨fun x g hg => ?_, fun x y k f hm => ?_⟩
  · simp only [TS.turn] at hg
    split at hg
    · exact h g hg
    · exact K.held x g hg
  · simp only [TS.turn] at hm
    split at hm
    · rcases List.mem_append.1 hm with hm | hm
      · exact K.q x y k f hm
      · obtain ⟨g, hg, _, rfl, rfl⟩ := mem_chg_sub hm
        exact h g hg
    · exact K.q x y k f hm
theorem nstep_kif {P : Ky → F → Prop} {s : TS F E} (K : Kif P s) {a b : Nat} {m : Ms F E} {r : List (Ms F E)} (hq : s.q a b = m :: r) : Kif P (s.nstep cov adj mt a b m) := by
  have KP : Kif P (s.pop a b) := ⟨K.held, fun x y k f hm => K.q x y k f (pop_q hm)⟩
  cases m with
  | sub k f =>
    refine turn_kif KP (fun x hx => ?_)
    rcases mem_ins.1 hx with rfl | ⟨hx, _⟩
    · exact K.q a b k f (by rw [hq]; simp)
    · exact K.held b x hx
  | uns k => exact turn_kif KP (fun x hx => K.held b x (mem_del.1 hx).1)
  | ev e =>
    refine ⟨K.held, fun x y k f hm => KP.q x y k f ?_⟩
    simp only [TS.nstep, TS.come] at hm
    split at hm
    · simpa using hm
    · exact hm
/-! ### One filter all over the tree, and events of one kind that go to it -/
/-- After so many events: what waits, and what the client has heard. -/
structure Rm (nb : Nat) (adj : Nat → Nat → Bool) (nxt : Nat → Nat → Int) (k : Ky) (b1 : Nat) (f : F) (e : E) (c0 : Int) (s : TS F E) (cs : List (Pc E)) (n : Nat) : Prop where
  held : ∀ b, b < nb → s.held b = [⟨k, f, nxt b b1⟩]
  q : ∀ a b m, m ∈ s.q a b → m = .ev e ∧ nxt a b1 = (b : Int)
  nq : ∀ a b, adj a b = false → s.q a b = []
  c : ∀ c ∈ cs, c.num = c0 → ∃ j, j + sm nb (fun a => sm nb fun b => (s.q a b).length) = n ∧ c.box = List.replicate (min j 16) e ∧ c.lost = ((j - 16 : Nat) : Int)
theorem hear_rep {e : E} {c : Pc E} {j : Nat} (h1 : c.box = List.replicate (min j 16) e) (h2 : c.lost = ((j - 16 : Nat) : Int)) : (c.hear e).box = List.replicate (min (j + 1) 16) e ∧ (c.hear e).lost = ((j + 1 - 16 : Nat) : Int) := by
  unfold Pc.hear
  rw [h1, List.length_replicate]
  split
  · rename_i h
    have e1 : min j 16 = j := by omega
    have e2 : min (j + 1) 16 = j + 1 := by omega
    refine ⟨?_, ?_⟩
    · show List.replicate (min j 16) e ++ [e] = _
      rw [e1, e2, List.replicate_succ']
    · show c.lost = _
      rw [h2]; omega
  · rename_i h
    have e1 : min j 16 = 16 := by omega
    have e2 : min (j + 1) 16 = 16 := by omega
    refine ⟨?_, ?_⟩
    · show List.replicate (min j 16) e = _
      rw [e1, e2]
    · show c.lost + 1 = _
      rw [h2]; omega
/-- The event comes to a broker: on, or into the inbox. -/
theorem rm_come (N : Nx adj nxt) {nb : Nat} (Z : Nz nb adj nxt) (R : Rk adj nxt rank) {k : Ky} {b1 : Nat} {f : F} {e : E} (hb1 : b1 < nb) (hmt : mt e f = true) {s : TS F E} {cs : List (Pc E)} {n : Nat} (h : Rm nb adj nxt k b1 f e k.1 s cs n) (b : Nat) (hb : b < nb) (fr : Int) (fs : Bool × Int) (hfr : nxt b b1 ≠ fr ∨ b = b1) (hfs : (true, k.1) ≠ fs) :
    Rm nb adj nxt k b1 f e k.1 (s.come adj mt b fr e) (cs.map (hearAt mt (s.held b) fs e)) (n + 1) := by
  have hh := h.held b hb
  have hq : ∀ x y, (s.come adj mt b fr e).q x y = if x = b ∧ adj b y = true ∧ (y : Int) ≠ fr ∧ nxt b b1 = (y : Int) then s.q x y ++ [.ev e] else s.q x y := by
    intro x y
    show (if x = b ∧ adj b y = true ∧ (y : Int) ≠ fr ∧ ((s.held b).any fun h => h.fr == (y : Int) && mt e h.f) = true then _ else _) = _
    rw [hh]
    simp only [List.any_cons, List.any_nil, hmt, Bool.and_true, Bool.or_false, beq_iff_eq]
  refine ⟨h.held, fun x y m hm => ?_, fun x y hxy => ?_, fun c hc hcn => ?_⟩
  · rw [hq] at hm
    split at hm
    · rename_i hc
      rcases List.mem_append.1 hm with hm | hm
      · exact h.q x y m hm
      · rw [List.mem_singleton.1 hm, hc.1]; exact ⟨rfl, hc.2.2.2⟩
    · exact h.q x y m hm
  · rw [hq, if_neg (fun e => by rw [e.1, e.2.1] at hxy; cases hxy)]; exact h.nq x y hxy
  · obtain ⟨d, hd, rfl⟩ := List.mem_map.1 hc
    have hdn : d.num = k.1 := by rw [(hearAt_num _ _ _ d).1] at hcn; exact hcn
    obtain ⟨j, hj, hbx, hls⟩ := h.c d hd hdn
    have hask : asksP mt (s.held b) (true, d.num) e = decide (nxt b b1 = -1) := by
      rw [hh, hdn]
      simp only [asksP, sd, List.any_cons, List.any_nil, Bool.or_false, hmt, Bool.and_true]
      by_cases h1 : nxt b b1 = -1
      · simp [h1]
      · simp [h1]
    by_cases hbb : b = b1
    · have hn1 : nxt b b1 = -1 := by rw [hbb]; exact N.self _
      have hsum : sm nb (fun x => sm nb fun y => ((s.come adj mt b fr e).q x y).length) = sm nb (fun x => sm nb fun y => (s.q x y).length) := by
        refine sm_congr nb (fun x _ => sm_congr nb (fun y _ => ?_))
        rw [hq, if_neg (fun e => by rw [hn1] at e; omega)]
      obtain ⟨r1, r2⟩ := hear_rep hbx hls
      refine ⟨j + 1, by rw [hsum]; omega, ?_⟩
      unfold hearAt
      rw [if_pos ⟨by rw [hdn]; exact hfs, by rw [hask, hn1]; rfl⟩]
      exact ⟨r1, r2⟩
    · have hn1 : nxt b b1 ≠ -1 := fun e => hbb (Z.one b b1 hb hb1 e)
      obtain ⟨y0, hy0, hadj⟩ := (R.nb b b1).resolve_left hn1
      have hyb := (Z.inn y0 b hadj).1
      have hsum : sm nb (fun x => sm nb fun y => ((s.come adj mt b fr e).q x y).length) = sm nb (fun x => sm nb fun y => (s.q x y).length) + 1 := by
        have e1 : sm nb (fun x => sm nb fun y => ((s.come adj mt b fr e).q x y).length) = sm nb (fun x => sm nb (fun y => (s.q x y).length) + (if x = b then 1 else 0)) := by
          refine sm_congr nb (fun x _ => ?_)
          by_cases hx : x = b
          · rw [if_pos hx]
            have e2 : sm nb (fun y => ((s.come adj mt b fr e).q x y).length) = sm nb (fun y => (s.q x y).length + (if y = y0 then 1 else 0)) := by
              refine sm_congr nb (fun y _ => ?_)
              rw [hq]
              by_cases hy : y = y0
              · subst hy
                rw [if_pos ⟨hx, N.sym _ _ hadj, fun e => hfr.elim (fun h => h (by rw [hy0, e])) hbb, hy0⟩, if_pos rfl, List.length_append]; rfl
              · rw [if_neg (fun e => hy (by have := e.2.2.2; rw [hy0] at this; omega)), if_neg hy]; omega
            rw [e2, sm_add, sm_one, if_pos hyb]
          · rw [if_neg hx]
            have e2 : sm nb (fun y => ((s.come adj mt b fr e).q x y).length) = sm nb (fun y => (s.q x y).length) := sm_congr nb (fun y _ => by rw [hq, if_neg (fun e => hx e.1)])
            rw [e2]; omega
        rw [e1, sm_add, sm_one, if_pos hb]
      refine ⟨j, by rw [hsum]; omega, ?_⟩
      unfold hearAt
      rw [if_neg (fun e => by have := e.2; rw [hask] at this; exact hn1 (of_decide_eq_true this))]
      exact ⟨hbx, hls⟩
theorem sm2_pop {nb a b : Nat} {f g : Nat → Nat → Nat} (ha : a < nb) (hb : b < nb) (h : ∀ x y, f x y = g x y + if x = a ∧ y = b then 1 else 0) : sm nb (fun x => sm nb fun y => f x y) = sm nb (fun x => sm nb fun y => g x y) + 1 := by
  have : sm nb (fun x => sm nb fun y => f x y) = sm nb (fun x => sm nb (fun y => g x y) + (if x = a then 1 else 0)) := sm_congr nb (fun x _ => by
    by_cases hx : x = a
    · rw [if_pos hx]
      have e2 : sm nb (fun y => f x y) = sm nb (fun y => g x y + (if y = b then 1 else 0)) := sm_congr nb (fun y _ => by rw [h]; simp [hx])
      rw [e2, sm_add, sm_one, if_pos hb]
    · rw [if_neg hx]
      have e2 : sm nb (fun y => f x y) = sm nb (fun y => g x y) := sm_congr nb (fun y _ => by rw [h]; simp [hx])
      rw [e2]; omega)
  rw [this, sm_add, sm_one, if_pos ha]
theorem rm_step (N : Nx adj nxt) {nb : Nat} (Z : Nz nb adj nxt) (R : Rk adj nxt rank) {k : Ky} {b1 : Nat} {f : F} {e : E} (hb1 : b1 < nb) (hmt : mt e f = true) {s : TS F E} {cs : List (Pc E)} {n : Nat} (h : Rm nb adj nxt k b1 f e k.1 s cs n) {a b : Nat} (ha : adj a b = true) {m : Ms F E} {r : List (Ms F E)} (hq : s.q a b = m :: r) :
    Rm nb adj nxt k b1 f e k.1 (s.nstep cov adj mt a b m) (hrs mt (s.held b) a m cs) n := by
  obtain ⟨rfl, hab⟩ := h.q a b m (by rw [hq]; simp)
  have hin := Z.inn a b ha
  have hpq : ∀ x y, (s.pop a b).q x y = if x = a ∧ y = b then (s.q x y).tail else s.q x y := fun _ _ => rfl
  cases n with
  | zero =>
    have hpos : 0 < sm nb (fun x => sm nb fun y => (s.q x y).length) := Nat.lt_of_lt_of_le (by rw [hq]; simp) (sm2_le (f := fun x y => (s.q x y).length) hin.1 hin.2)
    refine ⟨h.held, fun x y m hm => ?_, fun x y hxy => ?_, fun c hc hcn => ?_⟩
    · have hm : m ∈ (if x = b ∧ adj b y = true ∧ (y : Int) ≠ (a : Int) ∧ ((s.held b).any fun h => h.fr == (y : Int) && mt e h.f) = true then (s.pop a b).q x y ++ [.ev e] else (s.pop a b).q x y) := hm
      rw [h.held b hin.2] at hm
      simp only [List.any_cons, List.any_nil, hmt, Bool.and_true, Bool.or_false, beq_iff_eq] at hm
      split at hm
      · rename_i hc
        rcases List.mem_append.1 hm with hm | hm
        · exact h.q x y m (pop_q hm)
        · rw [List.mem_singleton.1 hm, hc.1]; exact ⟨rfl, hc.2.2.2⟩
      · exact h.q x y m (pop_q hm)
    · show (if x = b ∧ adj b y = true ∧ _ then _ else (s.pop a b).q x y) = []
      rw [if_neg (fun e => by rw [e.1, e.2.1] at hxy; cases hxy), hpq]
      split
      · rw [h.nq x y hxy]; rfl
      · exact h.nq x y hxy
    · obtain ⟨d, hd, rfl⟩ := List.mem_map.1 hc
      have hdn : d.num = k.1 := by rw [(hearAt_num _ _ _ d).1] at hcn; exact hcn
      obtain ⟨j, hj, _⟩ := h.c d hd hdn
      omega
  | succ n =>
    have hp : Rm nb adj nxt k b1 f e k.1 (s.pop a b) cs n := by
      refine ⟨h.held, fun x y m hm => h.q x y m (pop_q hm), fun x y hxy => ?_, fun c hc hcn => ?_⟩
      · rw [hpq]; split
        · rw [h.nq x y hxy]; rfl
        · exact h.nq x y hxy
      · obtain ⟨j, hj, h1, h2⟩ := h.c c hc hcn
        have := sm2_pop (f := fun x y => (s.q x y).length) (g := fun x y => ((s.pop a b).q x y).length) hin.1 hin.2 (fun x y => by
          rw [hpq]
          by_cases hxy : x = a ∧ y = b
          · rw [if_pos hxy, if_pos hxy, hxy.1, hxy.2, hq]; rfl
          · rw [if_neg hxy, if_neg hxy]; omega)
        exact ⟨j, by omega, h1, h2⟩
    exact rm_come N Z R hb1 hmt hp b hin.2 a (false, (a : Int)) (Or.inl (Z.excl a b b1 hb1 ha hab)) (fun e => by injection e with e; cases e)
end
end Go.Proofs.YtecnfgikbmcgoaaGreat
