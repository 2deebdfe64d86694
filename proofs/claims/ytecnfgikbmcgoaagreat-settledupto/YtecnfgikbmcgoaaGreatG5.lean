import Derived.Test.YtecnfgikbmcgoaaGreatG1
namespace Go.Proofs.YtecnfgikbmcgoaaGreat

section
variable {F E : Type}
/-- What waits on a link: a filter, a key that is taken back, an event. -/
inductive Ms (F E : Type) where
  | sub (k : Ky) (f : F)
  | uns (k : Ky)
  | ev (e : E)
abbrev Rl' (F : Type) := Ky → F → Prop
def ap1 : Ms F E → Rl' F → Rl' F
  | .sub k f, R => fun k' f' => (k' = k ∧ f' = f) ∨ (k' ≠ k ∧ R k' f')
  | .uns k, R => fun k' f' => k' ≠ k ∧ R k' f'
  | .ev _, R => R
def ap : List (Ms F E) → Rl' F → Rl' F
  | [], R => R
  | m :: r, R => ap r (ap1 m R)
theorem ap_append (p q : List (Ms F E)) (R : Rl' F) : ap (p ++ q) R = ap q (ap p R) := by
  induction p generalizing R with
  | nil => rfl
  | cons m r ih => exact ih _
/-- A key is told only when it was not, and taken back only when it was. -/
def wf : List (Ms F E) → Rl' F → Prop
  | [], _ => True
  | .sub k f :: r, R => (∀ f', ¬ R k f') ∧ wf r (ap1 (.sub k f : Ms F E) R)
  | .uns k :: r, R => (∃ f', R k f') ∧ wf r (ap1 (.uns k : Ms F E) R)
  | .ev _ :: r, R => wf r R
theorem wf_append (p q : List (Ms F E)) (R : Rl' F) : wf (p ++ q) R ↔ wf p R ∧ wf q (ap p R) := by
  induction p generalizing R with
  | nil => simp [wf, ap]
  | cons m r ih =>
    cases m with
    | sub k f => simp only [List.cons_append, wf, ap, ih]; exact and_assoc.symm
    | uns k => simp only [List.cons_append, wf, ap, ih]; exact and_assoc.symm
    | ev e => simp only [List.cons_append, wf, ap, ih, ap1]
def rl (l : List (Hd F)) : Rl' F := fun k f => ∃ h ∈ l, h.key = k ∧ h.f = f
def hfr (l : List (Hd F)) (a : Int) : Rl' F := fun k f => ∃ h ∈ l, h.fr = a ∧ h.key = k ∧ h.f = f
variable (cov : F → F → Bool)
def hasK (l : List (Hd F)) (k : Ky) : Bool := l.any fun g => g.key == k
theorem hasK_iff {l : List (Hd F)} {k : Ky} : hasK l k = true ↔ ∃ g ∈ l, g.key = k := by simp [hasK]
theorem hasK_no {l : List (Hd F)} {k : Ky} : hasK l k = false ↔ ∀ g ∈ l, g.key ≠ k := by simp [hasK]
/-- What goes out to a neighbour when what is held turns from l to l'. -/
def newT (l l' : List (Hd F)) (n : Int) : List (Hd F) := (told cov l' n).filter fun h => !(hasK (told cov l n) h.key)
def goneT (l l' : List (Hd F)) (n : Int) : List (Hd F) := (told cov l n).filter fun h => !(hasK (told cov l' n) h.key)
def subs (xs : List (Hd F)) : List (Ms F E) := xs.map fun h => .sub h.key h.f
def unss (xs : List (Hd F)) : List (Ms F E) := xs.map fun h => .uns h.key
def chg (l l' : List (Hd F)) (n : Int) : List (Ms F E) := subs (newT cov l l' n) ++ unss (goneT cov l l' n)
variable {cov}
theorem Srt.newT {l l' : List (Hd F)} (hs : Srt l') (n : Int) : Srt (newT cov l l' n) := (hs.told cov n).filter _
theorem Srt.goneT {l l' : List (Hd F)} (hs : Srt l) (n : Int) : Srt (goneT cov l l' n) := (hs.told cov n).filter _
theorem ap_subs {xs : List (Hd F)} (hs : Srt xs) (R : Rl' F) (k : Ky) (f : F) : ap (subs xs : List (Ms F E)) R k f ↔ rl xs k f ∨ ((∀ h ∈ xs, h.key ≠ k) ∧ R k f) := by
  induction xs generalizing R with
  | nil => simp [subs, ap, rl]
  | cons x t ih =>
    have hp := List.pairwise_cons.1 hs
    show ap (subs t : List (Ms F E)) (ap1 (.sub x.key x.f : Ms F E) R) k f ↔ _
    rw [ih hp.2]
    simp only [ap1, rl, List.mem_cons]
    constructor
    · rintro (⟨h, h1, h2⟩ | ⟨h1, ⟨rfl, rfl⟩ | ⟨h2, h3⟩⟩)
      · exact Or.inl ⟨h, Or.inr h1, h2⟩
      · exact Or.inl ⟨x, Or.inl rfl, rfl, rfl⟩
      · refine Or.inr ⟨fun h hh => ?_, h3⟩
        rcases hh with rfl | hh
        · exact fun e => h2 e.symm
        · exact h1 h hh
    · rintro (⟨h, rfl | h1, h2, h3⟩ | ⟨h1, h2⟩)
      · refine Or.inr ⟨fun g hg e => ?_, Or.inl ⟨h2.symm, h3.symm⟩⟩
        have := hp.1 g hg
        rw [e, h2, klt_irr] at this; cases this
      · exact Or.inl ⟨h, h1, h2, h3⟩
      · exact Or.inr ⟨fun h hh => h1 h (Or.inr hh), Or.inr ⟨fun e => h1 x (Or.inl rfl) e.symm, h2⟩⟩
theorem ap_unss (xs : List (Hd F)) (R : Rl' F) (k : Ky) (f : F) : ap (unss xs : List (Ms F E)) R k f ↔ (∀ h ∈ xs, h.key ≠ k) ∧ R k f := by
  induction xs generalizing R with
  | nil => simp [unss, ap]
  | cons x t ih =>
    show ap (unss t : List (Ms F E)) (ap1 (.uns x.key : Ms F E) R) k f ↔ _
    rw [ih]
    simp only [ap1, List.mem_cons]
    constructor
    · rintro ⟨h1, h2, h3⟩
      refine ⟨fun h hh => ?_, h3⟩
      rcases hh with rfl | hh
      · exact fun e => h2 e.symm
      · exact h1 h hh
    · rintro ⟨h1, h2⟩
      exact ⟨fun h hh => h1 h (Or.inr hh), fun e => h1 x (Or.inl rfl) e.symm, h2⟩
theorem wf_subs {xs : List (Hd F)} (hs : Srt xs) (R : Rl' F) (h : ∀ x ∈ xs, ∀ f, ¬ R x.key f) : wf (subs xs : List (Ms F E)) R := by
  induction xs generalizing R with
  | nil => trivial
  | cons x t ih =>
    have hp := List.pairwise_cons.1 hs
    refine ⟨h x (by simp), ih hp.2 _ (fun y hy f hr => ?_)⟩
    rcases hr with ⟨e, _⟩ | ⟨_, hr⟩
    · have := hp.1 y hy; rw [e, klt_irr] at this; cases this
    · exact h y (by simp [hy]) f hr
theorem wf_unss {xs : List (Hd F)} (hs : Srt xs) (R : Rl' F) (h : ∀ x ∈ xs, ∃ f, R x.key f) : wf (unss xs : List (Ms F E)) R := by
  induction xs generalizing R with
  | nil => trivial
  | cons x t ih =>
    have hp := List.pairwise_cons.1 hs
    refine ⟨h x (by simp), ih hp.2 _ (fun y hy => ?_)⟩
    obtain ⟨f, hf⟩ := h y (by simp [hy])
    refine ⟨f, fun e => ?_, hf⟩
    have := hp.1 y hy; rw [e, klt_irr] at this; cases this
/-- The same key, the same filter. -/
def Same (l l' : List (Hd F)) : Prop := ∀ x ∈ l, ∀ y ∈ l', x.key = y.key → x.f = y.f
theorem ap_chg {l l' : List (Hd F)} (hs' : Srt l') (hsm : Same l l') (n : Int) : ap (chg cov l l' n : List (Ms F E)) (rl (told cov l n)) = rl (told cov l' n) := by
  funext k f
  apply propext
  unfold chg
  rw [ap_append, ap_unss, ap_subs (hs'.newT n)]
  constructor
  · rintro ⟨h1, ⟨h, hm, h2, h3⟩ | ⟨h2, h, hm, h3, h4⟩⟩
    · exact ⟨h, (List.mem_filter.1 hm).1, h2, h3⟩
    · cases hk : hasK (told cov l' n) k with
      | false =>
        exact absurd h3 (h1 h (List.mem_filter.2 ⟨hm, by rw [h3, hk]; rfl⟩))
      | true =>
        obtain ⟨g, hg, hgk⟩ := hasK_iff.1 hk
        exact ⟨g, hg, hgk, by rw [← h4]; exact (hsm h ((mem_told cov).1 hm).1 g ((mem_told cov).1 hg).1 (by rw [h3, hgk])).symm⟩
  · rintro ⟨h, hm, h2, h3⟩
    refine ⟨fun g hg e => ?_, ?_⟩
    · have := (List.mem_filter.1 hg).2
      simp only [Bool.not_eq_true'] at this
      exact hasK_no.1 this h hm (by rw [h2, e])
    · cases hk : hasK (told cov l n) k with
      | false => exact Or.inl ⟨h, List.mem_filter.2 ⟨hm, by rw [h2, hk]; rfl⟩, h2, h3⟩
      | true =>
        obtain ⟨g, hg, hgk⟩ := hasK_iff.1 hk
        refine Or.inr ⟨fun x hx e => ?_, g, hg, hgk, ?_⟩
        · have := (List.mem_filter.1 hx).2
          rw [e, hk] at this; cases this
        · rw [← h3]; exact hsm g ((mem_told cov).1 hg).1 h ((mem_told cov).1 hm).1 (by rw [hgk, h2])
theorem wf_chg {l l' : List (Hd F)} (hs : Srt l) (hs' : Srt l') (n : Int) : wf (chg cov l l' n : List (Ms F E)) (rl (told cov l n)) := by
  unfold chg
  rw [wf_append]
  refine ⟨wf_subs (hs'.newT n) _ (fun x hx f hr => ?_), wf_unss (hs.goneT n) _ (fun x hx => ⟨x.f, ?_⟩)⟩
  · have := (List.mem_filter.1 hx).2
    simp only [Bool.not_eq_true'] at this
    obtain ⟨g, hg, hgk, _⟩ := hr
    exact hasK_no.1 this g hg hgk
  · rw [ap_subs (hs'.newT n)]
    refine Or.inr ⟨fun h hh e => ?_, x, (List.mem_filter.1 hx).1, rfl, rfl⟩
    have := (List.mem_filter.1 hx).2
    simp only [Bool.not_eq_true'] at this
    exact hasK_no.1 this h (List.mem_filter.1 hh).1 e
theorem hfr_ins {h : Hd F} {l : List (Hd F)} : hfr (ins h l) h.fr = ap1 (.sub h.key h.f : Ms F E) (hfr l h.fr) := by
  funext k f
  apply propext
  simp only [hfr, ap1, mem_ins]
  constructor
  · rintro ⟨g, rfl | ⟨h1, h2⟩, h3, rfl, rfl⟩
    · exact Or.inl ⟨rfl, rfl⟩
    · exact Or.inr ⟨h2, g, h1, h3, rfl, rfl⟩
  · rintro (⟨rfl, rfl⟩ | ⟨h1, g, h2, h3, rfl, rfl⟩)
    · exact ⟨h, Or.inl rfl, rfl, rfl, rfl⟩
    · exact ⟨g, Or.inr ⟨h2, h1⟩, h3, rfl, rfl⟩
theorem hfr_ins_other {h : Hd F} {l : List (Hd F)} {a : Int} (ha : h.fr ≠ a) (hn : ∀ g ∈ l, g.key = h.key → g.fr ≠ a) : hfr (ins h l) a = hfr l a := by
  funext k f
  apply propext
  simp only [hfr, mem_ins]
  constructor
  · rintro ⟨g, rfl | ⟨h1, h2⟩, h3, h4⟩
    · exact absurd h3 ha
    · exact ⟨g, h1, h3, h4⟩
  · rintro ⟨g, h1, h2, h3⟩
    exact ⟨g, Or.inr ⟨h1, fun e => hn g h1 e h2⟩, h2, h3⟩
theorem hfr_del {k : Ky} {l : List (Hd F)} {a : Int} : hfr (del k l) a = ap1 (.uns k : Ms F E) (hfr l a) := by
  funext k' f
  apply propext
  simp only [hfr, ap1, mem_del]
  constructor
  · rintro ⟨g, ⟨h1, h2⟩, h3, rfl, rfl⟩
    exact ⟨h2, g, h1, h3, rfl, rfl⟩
  · rintro ⟨h1, g, h2, h3, rfl, rfl⟩
    exact ⟨g, ⟨h2, h1⟩, h3, rfl, rfl⟩
theorem hfr_del_other {k : Ky} {l : List (Hd F)} {a : Int} (hn : ∀ g ∈ l, g.key = k → g.fr ≠ a) : hfr (del k l) a = hfr l a := by
  funext k' f
  apply propext
  simp only [hfr, mem_del]
  constructor
  · rintro ⟨g, ⟨h1, _⟩, h3⟩
    exact ⟨g, h1, h3⟩
  · rintro ⟨g, h1, h2, h3⟩
    exact ⟨g, ⟨h1, fun e => hn g h1 e h2⟩, h2, h3⟩
end
end Go.Proofs.YtecnfgikbmcgoaaGreat
namespace Go.Proofs.YtecnfgikbmcgoaaGreat

section
variable {F E : Type}
/-- Where the tree leads: the neighbour towards a broker (-1: it is this one), and how deep it is behind a link. -/
structure Nx (adj : Nat → Nat → Bool) (nxt : Nat → Nat → Int) : Prop where
  sym : ∀ a b, adj a b = true → adj b a = true
  irr : ∀ a, adj a a = false
  self : ∀ t, nxt t t = -1
  back : ∀ b n t, adj b n = true → nxt b t ≠ (n : Int) → nxt n t = (b : Int)
/-- What the brokers hold, and what waits. -/
structure TS (F E : Type) where
  held : Nat → List (Hd F)
  q : Nat → Nat → List (Ms F E)
variable (cov : F → F → Bool) (adj : Nat → Nat → Bool)
/-- What a broker holds turns, and what follows is sent. -/
def TS.turn (s : TS F E) (b : Nat) (l' : List (Hd F)) : TS F E where
  held := fun x => if x = b then l' else s.held x
  q := fun x y => if x = b ∧ adj b y = true then s.q x y ++ chg cov (s.held b) l' y else s.q x y
/-- The first message of a link is taken. -/
def TS.pop (s : TS F E) (a b : Nat) : TS F E where
  held := s.held
  q := fun x y => if x = a ∧ y = b then (s.q x y).tail else s.q x y
/-- All that always holds of a tree. -/
structure Inv (nxt : Nat → Nat → Int) (home : Int → Nat) (ok : F → Prop) (s : TS F E) : Prop where
  srt : ∀ b, Srt (s.held b)
  rt : ∀ b, ∀ h ∈ s.held b, h.fr = nxt b (home h.key.1)
  hok : ∀ b, ∀ h ∈ s.held b, ok h.f
  qs : ∀ a b k f, Ms.sub k f ∈ s.q a b → nxt b (home k.1) = (a : Int) ∧ ok f
  qu : ∀ a b k, Ms.uns k ∈ s.q a b → nxt b (home k.1) = (a : Int)
  nq : ∀ a b, adj a b = false → s.q a b = []
  ag : ∀ a b, adj a b = true → ap (s.q a b) (hfr (s.held b) a) = rl (told cov (s.held a) b)
  al : ∀ a b, adj a b = true → wf (s.q a b) (hfr (s.held b) a)
variable {cov adj}
variable {nxt : Nat → Nat → Int} {home : Int → Nat} {ok : F → Prop}
theorem mem_chg_sub {l l' : List (Hd F)} {n : Int} {k : Ky} {f : F} (h : (Ms.sub k f : Ms F E) ∈ chg cov l l' n) : ∃ g ∈ l', g.fr ≠ n ∧ g.key = k ∧ g.f = f := by
  simp only [chg, subs, unss, List.mem_append, List.mem_map] at h
  rcases h with ⟨g, hg, he⟩ | ⟨g, _, he⟩
  · injection he with h1 h2
    have := (mem_told cov).1 (List.mem_filter.1 hg).1
    exact ⟨g, this.1, this.2.1, h1, h2⟩
  · cases he
theorem mem_chg_uns {l l' : List (Hd F)} {n : Int} {k : Ky} (h : (Ms.uns k : Ms F E) ∈ chg cov l l' n) : ∃ g ∈ l, g.fr ≠ n ∧ g.key = k := by
  simp only [chg, subs, unss, List.mem_append, List.mem_map] at h
  rcases h with ⟨g, _, he⟩ | ⟨g, hg, he⟩
  · cases he
  · injection he with h1
    have := (mem_told cov).1 (List.mem_filter.1 hg).1
    exact ⟨g, this.1, this.2.1, h1⟩
/-- What is asked when what b holds turns from s.held b to l' (a message from a link into b may have been taken). -/
theorem turn_inv (N : Nx adj nxt) {s : TS F E} {b : Nat} {l' : List (Hd F)}
    (srt : ∀ x, Srt (s.held x)) (rt : ∀ x, ∀ h ∈ s.held x, h.fr = nxt x (home h.key.1)) (hok : ∀ x, ∀ h ∈ s.held x, ok h.f)
    (qs : ∀ a x k f, Ms.sub k f ∈ s.q a x → nxt x (home k.1) = (a : Int) ∧ ok f) (qu : ∀ a x k, Ms.uns k ∈ s.q a x → nxt x (home k.1) = (a : Int)) (nq : ∀ a x, adj a x = false → s.q a x = [])
    (ag : ∀ a x, x ≠ b → adj a x = true → ap (s.q a x) (hfr (s.held x) a) = rl (told cov (s.held a) x)) (al : ∀ a x, x ≠ b → adj a x = true → wf (s.q a x) (hfr (s.held x) a))
    (srt' : Srt l') (rt' : ∀ h ∈ l', h.fr = nxt b (home h.key.1)) (hok' : ∀ h ∈ l', ok h.f) (hsm : Same (s.held b) l')
    (ag' : ∀ a, adj a b = true → ap (s.q a b) (hfr l' a) = rl (told cov (s.held a) b)) (al' : ∀ a, adj a b = true → wf (s.q a b) (hfr l' a)) : Inv cov adj nxt home ok (s.turn cov adj b l') := by
  have hh : ∀ x, (s.turn cov adj b l').held x = if x = b then l' else s.held x := fun _ => rfl
  have hq : ∀ x y, (s.turn cov adj b l').q x y = if x = b ∧ adj b y = true then s.q x y ++ chg cov (s.held b) l' y else s.q x y := fun _ _ => rfl
  refine ⟨fun x => ?_, fun x h hm => ?_, fun x h hm => ?_, fun a x k f hm => ?_, fun a x k hm => ?_, fun a x ha => ?_, fun a x ha => ?_, fun a x ha => ?_⟩
  · rw [hh]; split
    · exact srt'
    · exact srt x
  · rw [hh] at hm
    by_cases hx : x = b
    · subst hx; rw [if_pos rfl] at hm; exact rt' h hm
    · rw [if_neg hx] at hm; exact rt x h hm
  · rw [hh] at hm
    by_cases hx : x = b
    · subst hx; rw [if_pos rfl] at hm; exact hok' h hm
    · rw [if_neg hx] at hm; exact hok x h hm
  · rw [hq] at hm
    split at hm
    · rename_i hc
      obtain ⟨rfl, hadj⟩ := hc
      rcases List.mem_append.1 hm with hm | hm
      · exact qs a x k f hm
      · obtain ⟨g, hg, hn, rfl, rfl⟩ := mem_chg_sub hm
        refine ⟨N.back a x _ hadj ?_, hok' g hg⟩
        rw [← rt' g hg]; exact hn
    · exact qs a x k f hm
  · rw [hq] at hm
    split at hm
    · rename_i hc
      obtain ⟨rfl, hadj⟩ := hc
      rcases List.mem_append.1 hm with hm | hm
      · exact qu a x k hm
      · obtain ⟨g, hg, hn, rfl⟩ := mem_chg_uns hm
        refine N.back a x _ hadj ?_
        rw [← rt a g hg]; exact hn
    · exact qu a x k hm
  · rw [hq]
    split
    · rename_i hc
      obtain ⟨rfl, hadj⟩ := hc
      rw [ha] at hadj; cases hadj
    · exact nq a x ha
  · rw [hq, hh, hh]
    by_cases hab : a = b
    · subst hab
      have hxa : x ≠ a := fun e => by subst e; rw [N.irr] at ha; cases ha
      rw [if_pos ⟨rfl, ha⟩, if_neg hxa, if_pos rfl, ap_append, ag a x hxa ha]
      exact ap_chg srt' hsm x
    · rw [if_neg (fun h => hab h.1), if_neg hab]
      by_cases hxb : x = b
      · subst hxb; rw [if_pos rfl]; exact ag' a ha
      · rw [if_neg hxb]; exact ag a x hxb ha
  · rw [hq, hh]
    by_cases hab : a = b
    · subst hab
      have hxa : x ≠ a := fun e => by subst e; rw [N.irr] at ha; cases ha
      rw [if_pos ⟨rfl, ha⟩, if_neg hxa, wf_append]
      refine ⟨al a x hxa ha, ?_⟩
      rw [ag a x hxa ha]
      exact wf_chg (srt a) srt' x
    · rw [if_neg (fun h => hab h.1)]
      by_cases hxb : x = b
      · subst hxb; rw [if_pos rfl]; exact al' a ha
      · rw [if_neg hxb]; exact al a x hxb ha
theorem Same.ins {h : Hd F} {l : List (Hd F)} (hs : Srt l) (hn : ∀ g ∈ l, g.key ≠ h.key) : Same l (ins h l) := by
  intro x hx y hy e
  rcases mem_ins.1 hy with rfl | ⟨hy, _⟩
  · exact absurd e (hn x hx)
  · rw [hs.uniq hx hy e]
theorem Same.del {k : Ky} {l : List (Hd F)} (hs : Srt l) : Same l (del k l) := by
  intro x hx y hy e
  rw [hs.uniq hx (mem_del.1 hy).1 e]
/-- A client's filter is held. -/
theorem sub_inv (N : Nx adj nxt) {s : TS F E} (I : Inv cov adj nxt home ok s) (k : Ky) (f : F) (hf : ok f) (hn : ∀ g ∈ s.held (home k.1), g.key ≠ k) :
    Inv cov adj nxt home ok (s.turn cov adj (home k.1) (ins ⟨k, f, -1⟩ (s.held (home k.1)))) := by
  refine turn_inv N I.srt I.rt I.hok I.qs I.qu I.nq (fun a x _ => I.ag a x) (fun a x _ => I.al a x) ((I.srt _).ins _) (fun h hm => ?_) (fun h hm => ?_) (Same.ins (I.srt _) hn) (fun a ha => ?_) (fun a ha => ?_)
  · rcases mem_ins.1 hm with rfl | ⟨hm, _⟩
    · exact (N.self _).symm
    · exact I.rt _ h hm
  · rcases mem_ins.1 hm with rfl | ⟨hm, _⟩
    · exact hf
    · exact I.hok _ h hm
  · rw [hfr_ins_other (by show (-1 : Int) ≠ a; omega) (fun g hg e => absurd e (hn g hg))]
    exact I.ag a _ ha
  · rw [hfr_ins_other (by show (-1 : Int) ≠ a; omega) (fun g hg e => absurd e (hn g hg))]
    exact I.al a _ ha
/-- A client's filter is held no more. -/
theorem uns_inv (N : Nx adj nxt) {s : TS F E} (I : Inv cov adj nxt home ok s) (k : Ky) :
    Inv cov adj nxt home ok (s.turn cov adj (home k.1) (del k (s.held (home k.1)))) := by
  have hoth : ∀ a : Nat, ∀ g ∈ s.held (home k.1), g.key = k → g.fr ≠ (a : Int) := by
    intro a g hg e
    rw [I.rt _ g hg, e, N.self]; omega
  refine turn_inv N I.srt I.rt I.hok I.qs I.qu I.nq (fun a x _ => I.ag a x) (fun a x _ => I.al a x) ((I.srt _).del _) (fun h hm => I.rt _ h (mem_del.1 hm).1) (fun h hm => I.hok _ h (mem_del.1 hm).1) (Same.del (I.srt _)) (fun a ha => ?_) (fun a ha => ?_)
  · rw [hfr_del_other (hoth a)]; exact I.ag a _ ha
  · rw [hfr_del_other (hoth a)]; exact I.al a _ ha
/-- A message comes. -/
def TS.arr (cov : F → F → Bool) (adj : Nat → Nat → Bool) (s : TS F E) (a b : Nat) : Ms F E → TS F E
  | .sub k f => (s.pop a b).turn cov adj b (ins ⟨k, f, a⟩ (s.held b))
  | .uns k => (s.pop a b).turn cov adj b (del k (s.held b))
  | .ev _ => s.pop a b
theorem pop_q {s : TS F E} {a b x y : Nat} {m : Ms F E} (hm : m ∈ (s.pop a b).q x y) : m ∈ s.q x y := by
  simp only [TS.pop] at hm
  split at hm
  · exact List.mem_of_mem_tail hm
  · exact hm
/-- Where a key that comes is not held yet; one that is taken back is. -/
theorem head_sub {s : TS F E} (I : Inv cov adj nxt home ok s) {a b : Nat} (ha : adj a b = true) {k : Ky} {f : F} {r : List (Ms F E)} (hq : s.q a b = .sub k f :: r) : ∀ g ∈ s.held b, g.key ≠ k := by
  intro g hg e
  have h1 := I.al a b ha
  rw [hq] at h1
  have h2 := (I.qs a b k f (by rw [hq]; simp)).1
  exact h1.1 g.f ⟨g, hg, by rw [I.rt b g hg, e, h2], e, rfl⟩
theorem head_uns {s : TS F E} (I : Inv cov adj nxt home ok s) {a b : Nat} (ha : adj a b = true) {k : Ky} {r : List (Ms F E)} (hq : s.q a b = .uns k :: r) : ∃ g ∈ s.held b, g.key = k := by
  have h1 := I.al a b ha
  rw [hq] at h1
  obtain ⟨f, g, hg, _, h3, _⟩ := h1.1
  exact ⟨g, hg, h3⟩
theorem arr_inv (N : Nx adj nxt) {s : TS F E} (I : Inv cov adj nxt home ok s) {a b : Nat} (ha : adj a b = true) {m : Ms F E} {r : List (Ms F E)} (hq : s.q a b = m :: r) : Inv cov adj nxt home ok (s.arr cov adj a b m) := by
  have hpq : ∀ x y, (s.pop a b).q x y = if x = a ∧ y = b then (s.q x y).tail else s.q x y := fun _ _ => rfl
  have hpb : (s.pop a b).q a b = r := by rw [hpq, if_pos ⟨rfl, rfl⟩, hq]; rfl
  have hpo : ∀ x, x ≠ a → (s.pop a b).q x b = s.q x b := fun x hx => by rw [hpq, if_neg (fun h => hx h.1)]
  have hpy : ∀ x y, y ≠ b → (s.pop a b).q x y = s.q x y := fun x y hy => by rw [hpq, if_neg (fun h => hy h.2)]
  have hnq : ∀ x y, adj x y = false → (s.pop a b).q x y = [] := by
    intro x y hxy
    rw [hpq]; split
    · rw [I.nq x y hxy]; rfl
    · exact I.nq x y hxy
  have hag := I.ag a b ha
  have hal := I.al a b ha
  rw [hq] at hag hal
  cases m with
  | sub k f =>
    have hside := (I.qs a b k f (by rw [hq]; simp))
    have hno := head_sub I ha hq
    refine turn_inv N (s := s.pop a b) I.srt I.rt I.hok (fun x y k f hm => I.qs x y k f (pop_q hm)) (fun x y k hm => I.qu x y k (pop_q hm)) hnq (fun x y hy hxy => by rw [hpy x y hy]; exact I.ag x y hxy) (fun x y hy hxy => by rw [hpy x y hy]; exact I.al x y hxy)
      ((I.srt b).ins _) (fun h hm => ?_) (fun h hm => ?_) (Same.ins (I.srt b) hno) (fun x hx => ?_) (fun x hx => ?_)
    · rcases mem_ins.1 hm with rfl | ⟨hm, _⟩
      · exact hside.1.symm
      · exact I.rt b h hm
    · rcases mem_ins.1 hm with rfl | ⟨hm, _⟩
      · exact hside.2
      · exact I.hok b h hm
    · by_cases hxa : x = a
      · subst hxa
        rw [hpb]
        have := hfr_ins (E := E) (h := (⟨k, f, x⟩ : Hd F)) (l := s.held b)
        simp only at this
        rw [this]
        exact hag
      · rw [hpo x hxa, hfr_ins_other (by show (a : Int) ≠ x; omega) (fun g hg e => absurd e (hno g hg))]
        exact I.ag x b hx
    · by_cases hxa : x = a
      · subst hxa
        rw [hpb]
        have := hfr_ins (E := E) (h := (⟨k, f, x⟩ : Hd F)) (l := s.held b)
        simp only at this
        rw [this]
        exact hal.2
      · rw [hpo x hxa, hfr_ins_other (by show (a : Int) ≠ x; omega) (fun g hg e => absurd e (hno g hg))]
        exact I.al x b hx
  | uns k =>
    have hside := I.qu a b k (by rw [hq]; simp)
    have hoth : ∀ x : Nat, x ≠ a → ∀ g ∈ s.held b, g.key = k → g.fr ≠ (x : Int) := by
      intro x hx g hg e
      rw [I.rt b g hg, e, hside]; omega
    refine turn_inv N (s := s.pop a b) I.srt I.rt I.hok (fun x y k f hm => I.qs x y k f (pop_q hm)) (fun x y k hm => I.qu x y k (pop_q hm)) hnq (fun x y hy hxy => by rw [hpy x y hy]; exact I.ag x y hxy) (fun x y hy hxy => by rw [hpy x y hy]; exact I.al x y hxy)
      ((I.srt b).del _) (fun h hm => I.rt b h (mem_del.1 hm).1) (fun h hm => I.hok b h (mem_del.1 hm).1) (Same.del (I.srt b)) (fun x hx => ?_) (fun x hx => ?_)
    · by_cases hxa : x = a
      · subst hxa
        rw [hpb, hfr_del (E := E)]
        exact hag
      · rw [hpo x hxa, hfr_del_other (hoth x hxa)]
        exact I.ag x b hx
    · by_cases hxa : x = a
      · subst hxa
        rw [hpb, hfr_del (E := E)]
        exact hal.2
      · rw [hpo x hxa, hfr_del_other (hoth x hxa)]
        exact I.al x b hx
  | ev e =>
    refine ⟨I.srt, I.rt, I.hok, fun x y k f hm => I.qs x y k f (pop_q hm), fun x y k hm => I.qu x y k (pop_q hm), hnq, fun x y hxy => ?_, fun x y hxy => ?_⟩
    · show ap ((s.pop a b).q x y) (hfr (s.held y) x) = _
      by_cases h : x = a ∧ y = b
      · obtain ⟨rfl, rfl⟩ := h
        rw [hpb]; exact hag
      · rw [hpq, if_neg h]; exact I.ag x y hxy
    · show wf ((s.pop a b).q x y) (hfr (s.held y) x)
      by_cases h : x = a ∧ y = b
      · obtain ⟨rfl, rfl⟩ := h
        rw [hpb]; exact hal
      · rw [hpq, if_neg h]; exact I.al x y hxy
end
end Go.Proofs.YtecnfgikbmcgoaaGreat
namespace Go.Proofs.YtecnfgikbmcgoaaGreat

section
variable {F E : Type}
variable {cov : F → F → Bool} {adj : Nat → Nat → Bool} {nxt : Nat → Nat → Int} {home : Int → Nat} {ok : F → Prop} {rank : Nat → Nat → Nat}
/-- How deep the tree is behind a link; whatever is not here came from a neighbour. -/
structure Rk (adj : Nat → Nat → Bool) (nxt : Nat → Nat → Int) (rank : Nat → Nat → Nat) : Prop where
  lt : ∀ b n m, adj b n = true → adj m b = true → m ≠ n → rank m b < rank b n
  nb : ∀ b t, nxt b t = -1 ∨ ∃ m : Nat, nxt b t = (m : Int) ∧ adj m b = true
def quiet (s : TS F E) : Prop := ∀ a b, s.q a b = []
theorem hfr_mem {l : List (Hd F)} {h : Hd F} (hm : h ∈ l) : hfr l h.fr h.key h.f := ⟨h, hm, rfl, rfl, rfl⟩
theorem mem_hfr {l : List (Hd F)} {h : Hd F} (hr : hfr l h.fr h.key h.f) : h ∈ l := by
  obtain ⟨g, hg, h1, h2, h3⟩ := hr
  have : g = h := by cases g; cases h; simp_all
  rw [← this]; exact hg
theorem Inv.sides (R : Rk adj nxt rank) {s : TS F E} (I : Inv cov adj nxt home ok s) {b : Nat} {h : Hd F} (hm : h ∈ s.held b) : h.fr = -1 ∨ ∃ m : Nat, h.fr = (m : Int) ∧ adj m b = true := by
  rw [I.rt b h hm]; exact R.nb b _
/-- What is held when nothing waits hangs on the clients' filters alone. -/
theorem settle_link (R : Rk adj nxt rank) {s t : TS F E} (I : Inv cov adj nxt home ok s) (J : Inv cov adj nxt home ok t) (hs : quiet s) (ht : quiet t) (hc : ∀ b, hfr (s.held b) (-1) = hfr (t.held b) (-1)) :
    ∀ (r b n : Nat), adj b n = true → rank b n ≤ r → hfr (s.held n) b = hfr (t.held n) b := by
  intro r
  induction r using Nat.strongRecOn with
  | ind r ih =>
    intro b n hbn hr
    have same : ∀ h : Hd F, h.fr ≠ (n : Int) → (h ∈ s.held b ↔ h ∈ t.held b) := by
      intro h hn
      constructor
      · intro hm
        rcases I.sides R hm with e | ⟨m, e, hadj⟩
        · apply mem_hfr; rw [e, ← hc b, ← e]; exact hfr_mem hm
        · have hmn : m ≠ n := fun h' => hn (by rw [e, h'])
          have h1 := R.lt b n m hbn hadj hmn
          apply mem_hfr; rw [e, ← ih (rank m b) (by omega) m b hadj (Nat.le_refl _), ← e]; exact hfr_mem hm
      · intro hm
        rcases J.sides R hm with e | ⟨m, e, hadj⟩
        · apply mem_hfr; rw [e, hc b, ← e]; exact hfr_mem hm
        · have hmn : m ≠ n := fun h' => hn (by rw [e, h'])
          have h1 := R.lt b n m hbn hadj hmn
          apply mem_hfr; rw [e, ih (rank m b) (by omega) m b hadj (Nat.le_refl _), ← e]; exact hfr_mem hm
    have e1 := I.ag b n hbn
    have e2 := J.ag b n hbn
    rw [hs b n] at e1
    rw [ht b n] at e2
    have e1 : hfr (s.held n) b = rl (told cov (s.held b) n) := e1
    have e2 : hfr (t.held n) b = rl (told cov (t.held b) n) := e2
    rw [e1, e2]
    have tl : ∀ h, h ∈ told cov (s.held b) n ↔ h ∈ told cov (t.held b) n := by
      intro h
      rw [mem_told, mem_told]
      constructor
      · rintro ⟨h1, h2, h3⟩
        exact ⟨(same h h2).1 h1, h2, fun g hg hn => h3 g ((same g hn).2 hg) hn⟩
      · rintro ⟨h1, h2, h3⟩
        exact ⟨(same h h2).2 h1, h2, fun g hg hn => h3 g ((same g hn).1 hg) hn⟩
    funext k f
    apply propext
    simp only [rl, tl]
theorem settle (R : Rk adj nxt rank) {s t : TS F E} (I : Inv cov adj nxt home ok s) (J : Inv cov adj nxt home ok t) (hs : quiet s) (ht : quiet t) (hc : ∀ b, hfr (s.held b) (-1) = hfr (t.held b) (-1)) (b : Nat) : s.held b = t.held b := by
  refine (I.srt b).ext (J.srt b) (fun h => ?_)
  constructor
  · intro hm
    rcases I.sides R hm with e | ⟨m, e, hadj⟩
    · apply mem_hfr; rw [e, ← hc b, ← e]; exact hfr_mem hm
    · apply mem_hfr; rw [e, ← settle_link R I J hs ht hc _ m b hadj (Nat.le_refl _), ← e]; exact hfr_mem hm
  · intro hm
    rcases J.sides R hm with e | ⟨m, e, hadj⟩
    · apply mem_hfr; rw [e, hc b, ← e]; exact hfr_mem hm
    · apply mem_hfr; rw [e, settle_link R I J hs ht hc _ m b hadj (Nat.le_refl _), ← e]; exact hfr_mem hm
/-- A tree in which nothing has happened. -/
def TS.none (F E : Type) : TS F E := ⟨fun _ => [], fun _ _ => []⟩
theorem none_inv : Inv cov adj nxt home ok (TS.none F E) := by
  refine ⟨fun b => List.Pairwise.nil, fun b h hm => (by cases hm), fun b h hm => (by cases hm), fun a b k f hm => (by cases hm), fun a b k hm => (by cases hm), fun a b _ => rfl, fun a b _ => ?_, fun a b _ => trivial⟩
  funext k f
  apply propext
  constructor
  · rintro ⟨h, hm, _⟩; cases hm
  · rintro ⟨h, hm, _⟩; cases hm
/-- All taken back, nothing is held. -/
theorem settle_none (R : Rk adj nxt rank) {s : TS F E} (I : Inv cov adj nxt home ok s) (hs : quiet s) (hc : ∀ b, ∀ h ∈ s.held b, h.fr ≠ -1) (b : Nat) : s.held b = [] := by
  refine settle R I (none_inv (cov := cov) (E := E)) hs (fun _ _ => rfl) (fun b => ?_) b
  funext k f
  apply propext
  constructor
  · rintro ⟨h, hm, h1, _⟩; exact absurd h1 (hc b h hm)
  · rintro ⟨h, hm, _⟩; cases hm
/-- What is held from a side that matches an event: just where something behind matches it. -/
theorem match_back (P : Pre cov ok) {mt : F → Bool} (hm : ∀ f g, ok f → ok g → cov f g = true → mt g = true → mt f = true) {s : TS F E} (I : Inv cov adj nxt home ok s) {b n : Nat} (hbn : adj b n = true) (hq : s.q b n = []) :
    (∃ h ∈ s.held n, h.fr = (b : Int) ∧ mt h.f = true) ↔ ∃ h ∈ s.held b, h.fr ≠ (n : Int) ∧ mt h.f = true := by
  have e1 := I.ag b n hbn
  rw [hq] at e1
  have e1 : hfr (s.held n) b = rl (told cov (s.held b) n) := e1
  constructor
  · rintro ⟨h, h1, h2, h3⟩
    have h4 : hfr (s.held n) b h.key h.f := ⟨h, h1, h2, rfl, rfl⟩
    rw [e1] at h4
    obtain ⟨g, hg, _, h6⟩ := h4
    have := (mem_told cov).1 hg
    exact ⟨g, this.1, this.2.1, by rw [h6]; exact h3⟩
  · rintro ⟨h, h1, h2, h3⟩
    obtain ⟨g, hg, hgh⟩ := told_over (n := (n : Int)) P (I.hok b) _ h h1 h2 (Nat.le_refl _)
    have h4 : rl (told cov (s.held b) n) g.key g.f := ⟨g, hg, rfl, rfl⟩
    rw [← e1] at h4
    obtain ⟨x, hx, hx1, _, hx3⟩ := h4
    refine ⟨x, hx, hx1, ?_⟩
    rw [hx3]
    rcases hgh with rfl | hgh
    · exact h3
    · exact hm _ _ (I.hok b g ((mem_told cov).1 hg).1) (I.hok b h h1) (hides_cov hgh) h3

/-! ### What the program sends is what the document asks -/
def isT (cov : F → F → Bool) (l : List (Hd F)) (n : Int) (h : Hd F) : Bool := !(l.any fun g => !(g.fr == n) && hides cov g h)
theorem isT_iff {l : List (Hd F)} {n : Int} {h : Hd F} : isT cov l n h = true ↔ ∀ g ∈ l, g.fr ≠ n → hides cov g h = false := by
  simp only [isT, Bool.not_eq_true', List.any_eq_false]
  constructor
  · intro h1 g hg hn
    have := h1 g hg
    simpa [hn] using this
  · intro h1 g hg
    by_cases hn : g.fr = n
    · simp [hn]
    · simp [h1 g hg hn]
/-- Those that h hides and that are told without it. -/
def woT (cov : F → F → Bool) (l : List (Hd F)) (n : Int) (h : Hd F) : List (Hd F) := l.filter fun g => !(g.fr == n) && hides cov h g && isT cov l n g
theorem mem_woT {l : List (Hd F)} {n : Int} {h g : Hd F} : g ∈ woT cov l n h ↔ g ∈ told cov l n ∧ hides cov h g = true := by
  simp only [woT, List.mem_filter, Bool.and_eq_true, Bool.not_eq_true', beq_eq_false_iff_ne, mem_told, isT_iff]
  constructor
  · rintro ⟨h1, ⟨h2, h3⟩, h4⟩; exact ⟨⟨h1, h2, h4⟩, h3⟩
  · rintro ⟨⟨h1, h2, h4⟩, h3⟩; exact ⟨h1, ⟨h2, h3⟩, h4⟩
theorem told_ins {l : List (Hd F)} {h : Hd F} (hn : ∀ g ∈ l, g.key ≠ h.key) {n : Int} (hf : h.fr ≠ n) (g : Hd F) : g ∈ told cov (ins h l) n ↔ (g = h ∧ isT cov l n h = true) ∨ (g ∈ told cov l n ∧ hides cov h g = false) := by
  rw [mem_told, mem_told, isT_iff]
  constructor
  · rintro ⟨h1, h2, h3⟩
    rcases mem_ins.1 h1 with rfl | ⟨h4, h5⟩
    · exact Or.inl ⟨rfl, fun x hx hxn => h3 x (mem_ins.2 (Or.inr ⟨hx, hn x hx⟩)) hxn⟩
    · exact Or.inr ⟨⟨h4, h2, fun x hx hxn => h3 x (mem_ins.2 (Or.inr ⟨hx, hn x hx⟩)) hxn⟩, h3 h (mem_ins.2 (Or.inl rfl)) hf⟩
  · rintro (⟨rfl, h1⟩ | ⟨⟨h1, h2, h3⟩, h4⟩)
    · refine ⟨mem_ins.2 (Or.inl rfl), hf, fun x hx hxn => ?_⟩
      rcases mem_ins.1 hx with rfl | ⟨hx, _⟩
      · exact hides_irr x
      · exact h1 x hx hxn
    · refine ⟨mem_ins.2 (Or.inr ⟨h1, hn g h1⟩), h2, fun x hx hxn => ?_⟩
      rcases mem_ins.1 hx with rfl | ⟨hx, _⟩
      · exact h4
      · exact h3 x hx hxn
theorem told_ins_same {l : List (Hd F)} {h : Hd F} (hs : Srt l) (hn : ∀ g ∈ l, g.key ≠ h.key) : told cov (ins h l) h.fr = told cov l h.fr := by
  refine ((hs.ins h).told cov _).ext (hs.told cov _) (fun g => ?_)
  rw [mem_told, mem_told]
  constructor
  · rintro ⟨h1, h2, h3⟩
    rcases mem_ins.1 h1 with rfl | ⟨h4, _⟩
    · exact absurd rfl h2
    · exact ⟨h4, h2, fun x hx hxn => h3 x (mem_ins.2 (Or.inr ⟨hx, hn x hx⟩)) hxn⟩
  · rintro ⟨h1, h2, h3⟩
    refine ⟨mem_ins.2 (Or.inr ⟨h1, hn g h1⟩), h2, fun x hx hxn => ?_⟩
    rcases mem_ins.1 hx with rfl | ⟨hx, _⟩
    · exact absurd rfl hxn
    · exact h3 x hx hxn
theorem chg_none {l l' : List (Hd F)} {n : Int} (h : told cov l' n = told cov l n) : (chg cov l l' n : List (Ms F E)) = [] := by
  have e : ∀ m : List (Hd F), (m.filter fun h => !(hasK m h.key)) = [] := by
    intro m
    rw [List.filter_eq_nil_iff]
    intro x hx
    simp only [Bool.not_eq_true', Bool.not_eq_false]
    exact hasK_iff.2 ⟨x, hx, rfl⟩
  simp only [chg, newT, goneT, h, e, subs, unss, List.map_nil, List.append_nil]
/-- What goes out when a filter more is held. -/
theorem chg_ins {l : List (Hd F)} {h : Hd F} (hs : Srt l) (hn : ∀ g ∈ l, g.key ≠ h.key) {n : Int} (hf : h.fr ≠ n) :
    (chg cov l (ins h l) n : List (Ms F E)) = (if isT cov l n h then [.sub h.key h.f] else []) ++ unss (woT cov l n h) := by
  have e1 : newT cov l (ins h l) n = if isT cov l n h then [h] else [] := by
    refine ((hs.ins h).newT n).ext ?_ (fun g => ?_)
    · split
      · exact List.pairwise_singleton _ _
      · exact List.Pairwise.nil
    · unfold newT
      rw [List.mem_filter, told_ins hn hf]
      constructor
      · rintro ⟨⟨rfl, h1⟩ | ⟨h1, h2⟩, h3⟩
        · rw [if_pos h1]; simp
        · simp only [Bool.not_eq_true'] at h3
          exact absurd rfl (hasK_no.1 h3 g h1)
      · intro hg
        split at hg
        · rename_i h1
          simp only [List.mem_singleton] at hg
          subst hg
          refine ⟨Or.inl ⟨rfl, h1⟩, ?_⟩
          simp only [Bool.not_eq_true']
          exact hasK_no.2 (fun x hx => hn x ((mem_told cov).1 hx).1)
        · cases hg
  have e2 : goneT cov l (ins h l) n = woT cov l n h := by
    refine (hs.goneT n).ext (hs.filter _) (fun g => ?_)
    rw [mem_woT]
    unfold goneT
    rw [List.mem_filter]
    constructor
    · rintro ⟨h1, h2⟩
      refine ⟨h1, ?_⟩
      cases hh : hides cov h g with
      | true => rfl
      | false =>
        simp only [Bool.not_eq_true'] at h2
        exact absurd rfl (hasK_no.1 h2 g ((told_ins hn hf g).2 (Or.inr ⟨h1, hh⟩)))
    · rintro ⟨h1, h2⟩
      refine ⟨h1, ?_⟩
      simp only [Bool.not_eq_true']
      refine hasK_no.2 (fun x hx e => ?_)
      rcases (told_ins hn hf x).1 hx with ⟨rfl, _⟩ | ⟨h3, h4⟩
      · exact hn g ((mem_told cov).1 h1).1 e.symm
      · rw [hs.uniq ((mem_told cov).1 h3).1 ((mem_told cov).1 h1).1 e, h2] at h4; cases h4
  unfold chg
  rw [e1, e2]
  congr 1
  split <;> rfl
theorem chg_ins_same {l : List (Hd F)} {h : Hd F} (hs : Srt l) (hn : ∀ g ∈ l, g.key ≠ h.key) : (chg cov l (ins h l) h.fr : List (Ms F E)) = [] := chg_none (told_ins_same hs hn)
theorem ins_del {l : List (Hd F)} {h : Hd F} (hs : Srt l) (hm : h ∈ l) : ins h (del h.key l) = l := by
  refine ((hs.del _).ins h).ext hs (fun g => ?_)
  rw [mem_ins, mem_del]
  constructor
  · rintro (rfl | ⟨⟨h1, _⟩, _⟩)
    · exact hm
    · exact h1
  · intro hg
    by_cases e : g.key = h.key
    · exact Or.inl (hs.uniq hg hm e)
    · exact Or.inr ⟨⟨hg, e⟩, e⟩
theorem del_no {l : List (Hd F)} {k : Ky} : ∀ g ∈ del k l, g.key ≠ k := fun _ hg => (mem_del.1 hg).2
theorem chg_swap {l l' : List (Hd F)} {n : Int} : (chg cov l l' n : List (Ms F E)) = subs (newT cov l l' n) ++ unss (newT cov l' l n) := rfl
/-- What goes out when a filter less is held. -/
theorem chg_del {l : List (Hd F)} {h : Hd F} (hs : Srt l) (hm : h ∈ l) {n : Int} (hf : h.fr ≠ n) :
    (chg cov l (del h.key l) n : List (Ms F E)) = subs (woT cov (del h.key l) n h) ++ (if isT cov (del h.key l) n h then [.uns h.key] else []) := by
  have hd := hs.del h.key
  have e := ins_del hs hm
  have tt : ∀ g, g ∈ told cov l n ↔ (g = h ∧ isT cov (del h.key l) n h = true) ∨ (g ∈ told cov (del h.key l) n ∧ hides cov h g = false) := by
    intro g
    have := told_ins (cov := cov) (l := del h.key l) (h := h) del_no hf g
    rw [e] at this
    exact this
  have e1 : newT cov (del h.key l) l n = if isT cov (del h.key l) n h then [h] else [] := by
    refine (hs.newT n).ext ?_ (fun g => ?_)
    · split
      · exact List.pairwise_singleton _ _
      · exact List.Pairwise.nil
    · unfold newT
      rw [List.mem_filter, tt]
      constructor
      · rintro ⟨⟨rfl, h1⟩ | ⟨h1, h2⟩, h3⟩
        · rw [if_pos h1]; simp
        · simp only [Bool.not_eq_true'] at h3
          exact absurd rfl (hasK_no.1 h3 g h1)
      · intro hg
        split at hg
        · rename_i h1
          simp only [List.mem_singleton] at hg
          subst hg
          refine ⟨Or.inl ⟨rfl, h1⟩, ?_⟩
          simp only [Bool.not_eq_true']
          exact hasK_no.2 (fun x hx => del_no x ((mem_told cov).1 hx).1)
        · cases hg
  have e2 : newT cov l (del h.key l) n = woT cov (del h.key l) n h := by
    refine (hd.newT n).ext (hd.filter _) (fun g => ?_)
    rw [mem_woT]
    unfold newT
    rw [List.mem_filter]
    constructor
    · rintro ⟨h1, h2⟩
      refine ⟨h1, ?_⟩
      cases hh : hides cov h g with
      | true => rfl
      | false =>
        simp only [Bool.not_eq_true'] at h2
        refine absurd rfl (hasK_no.1 h2 g ?_)
        rw [tt]
        exact Or.inr ⟨h1, hh⟩
    · rintro ⟨h1, h2⟩
      refine ⟨h1, ?_⟩
      simp only [Bool.not_eq_true']
      refine hasK_no.2 (fun x hx ek => ?_)
      rw [tt] at hx
      rcases hx with ⟨rfl, _⟩ | ⟨h3, h4⟩
      · exact del_no g ((mem_told cov).1 h1).1 ek.symm
      · rw [hd.uniq ((mem_told cov).1 h3).1 ((mem_told cov).1 h1).1 ek, h2] at h4; cases h4
  rw [chg_swap, e2, e1]
  congr 1
  split <;> rfl
theorem chg_del_same {l : List (Hd F)} {h : Hd F} (hs : Srt l) (hm : h ∈ l) : (chg cov l (del h.key l) h.fr : List (Ms F E)) = [] := by
  refine chg_none ?_
  have := told_ins_same (cov := cov) (hs.del h.key) (h := h) del_no
  rw [ins_del hs hm] at this
  exact this.symm
end
end Go.Proofs.YtecnfgikbmcgoaaGreat
