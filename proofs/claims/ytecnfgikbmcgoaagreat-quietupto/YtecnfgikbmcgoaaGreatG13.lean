import Derived.Test.YtecnfgikbmcgoaaGreatG12
namespace Go.Proofs.YtecnfgikbmcgoaaGreat

section
variable {F E : Type}
variable {cov : F → F → Bool} {adj : Nat → Nat → Bool} {nxt : Nat → Nat → Int} {home : Int → Nat} {ok : F → Prop} {rank : Nat → Nat → Nat}
/-- How deep the tree is behind a link; whatever is not here came from a neighbour. -/
structure Rk (adj : Nat → Nat → Bool) (nxt : Nat → Nat → Int) (rank : Nat → Nat → Nat) : Prop where
  lt : ∀ b n m, adj b n = true → adj m b = true → m ≠ n → rank m b < rank b n
  nb : ∀ b t, nxt b t = -1 ∨ ∃ m : Nat, nxt b t = (m : Int) ∧ adj m b = true
def quiet (s : TS F E) : Prop := ∀ a b, s.q a b = []
theorem hfr_mem {l : List (Hd F)} {h : Hd F} (hm : h ∈ l) : hfr l h.fr h.key h.f := ⟨h, hm, rfl, rfl, rfl⟩
theorem mem_hfr {l : List (Hd F)} {h : Hd F} (hr : hfr l h.fr h.key h.f) : h ∈ l := by
  obtain ⟨g, hg, h1, h2, h3⟩ := hr
  have : g = h := by cases g; cases h; simp_all
  rw [← this]; exact hg
theorem Inv.sides (R : Rk adj nxt rank) {s : TS F E} (I : Inv cov adj nxt home ok s) {b : Nat} {h : Hd F} (hm : h ∈ s.held b) : h.fr = -1 ∨ ∃ m : Nat, h.fr = (m : Int) ∧ adj m b = true := by
  rw [I.rt b h hm]; exact R.nb b _
/-- What is held when nothing waits hangs on the clients' filters alone. -/
theorem settle_link (R : Rk adj nxt rank) {s t : TS F E} (I : Inv cov adj nxt home ok s) (J : Inv cov adj nxt home ok t) (hs : quiet s) (ht : quiet t) (hc : ∀ b, hfr (s.held b) (-1) = hfr (t.held b) (-1)) :
    ∀ (r b n : Nat), adj b n = true → rank b n ≤ r → hfr (s.held n) b = hfr (t.held n) b := by
  intro r
  induction r using Nat.strongRecOn with
  | ind r ih =>
    intro b n hbn hr
    have same : ∀ h : Hd F, h.fr ≠ (n : Int) → (h ∈ s.held b ↔ h ∈ t.held b) := by
      intro h hn
      constructor
      · intro hm
        rcases I.sides R hm with e | ⟨m, e, hadj⟩
        · apply mem_hfr; rw [e, ← hc b, ← e]; exact hfr_mem hm
        · have hmn : m ≠ n := fun h' => hn (by rw [e, h'])
          have h1 := R.lt b n m hbn hadj hmn
          apply mem_hfr; rw [e, ← ih (rank m b) (by omega) m b hadj (Nat.le_refl _), ← e]; exact hfr_mem hm
      · intro hm
        rcases J.sides R hm with e | ⟨m, e, hadj⟩
        · apply mem_hfr; rw [e, hc b, ← e]; exact hfr_mem hm
        · have hmn : m ≠ n := fun h' => hn (by rw [e, h'])
          have h1 := R.lt b n m hbn hadj hmn
          apply mem_hfr; rw [e, ih (rank m b) (by omega) m b hadj (Nat.le_refl _), ← e]; exact hfr_mem hm
    have e1 := I.ag b n hbn
    have e2 := J.ag b n hbn
    rw [hs b n] at e1
    rw [ht b n] at e2
    have e1 : hfr (s.held n) b = rl (told cov (s.held b) n) := e1
    have e2 : hfr (t.held n) b = rl (told cov (t.held b) n) := e2
    rw [e1, e2]
    have tl : ∀ h, h ∈ told cov (s.held b) n ↔ h ∈ told cov (t.held b) n := by
      intro h
      rw [mem_told, mem_told]
      constructor
      · rintro ⟨h1, h2, h3⟩
        exact ⟨(same h h2).1 h1, h2, fun g hg hn => h3 g ((same g hn).2 hg) hn⟩
      · rintro ⟨h1, h2, h3⟩
        exact ⟨(same h h2).2 h1, h2, fun g hg hn => h3 g ((same g hn).1 hg) hn⟩
    funext k f
    apply propext
    simp only [rl, tl]
theorem settle (R : Rk adj nxt rank) {s t : TS F E} (I : Inv cov adj nxt home ok s) (J : Inv cov adj nxt home ok t) (hs : quiet s) (ht : quiet t) (hc : ∀ b, hfr (s.held b) (-1) = hfr (t.held b) (-1)) (b : Nat) : s.held b = t.held b := by
  refine (I.srt b).ext (J.srt b) (fun h => ?_)
  constructor
  · intro hm
    rcases I.sides R hm with e | ⟨m, e, hadj⟩
    · apply mem_hfr; rw [e, ← hc b, ← e]; exact hfr_mem hm
    · apply mem_hfr; rw [e, ← settle_link R I J hs ht hc _ m b hadj (Nat.le_refl _), ← e]; exact hfr_mem hm
  · intro hm
    rcases J.sides R hm with e | ⟨m, e, hadj⟩
    · apply mem_hfr; rw [e, hc b, ← e]; exact hfr_mem hm
    · apply mem_hfr; rw [e, settle_link R I J hs ht hc _ m b hadj (Nat.le_refl _), ← e]; exact hfr_mem hm
/-- A tree in which nothing has happened. -/
def TS.none (F E : Type) : TS F E := ⟨fun _ => [], fun _ _ => []⟩
theorem none_inv : Inv cov adj nxt home ok (TS.none F E) := by
  refine ⟨fun b => List.Pairwise.nil, fun b h hm => (by cases hm), fun b h hm => (by cases hm), fun a b k f hm => (by cases hm), fun a b k hm => (by cases hm), fun a b _ => rfl, fun a b _ => ?_, fun a b _ => trivial⟩
  funext k f
  apply propext
  constructor
  · rintro ⟨h, hm, _⟩; cases hm
  · rintro ⟨h, hm, _⟩; cases hm
/-- All taken back, nothing is held. -/
theorem settle_none (R : Rk adj nxt rank) {s : TS F E} (I : Inv cov adj nxt home ok s) (hs : quiet s) (hc : ∀ b, ∀ h ∈ s.held b, h.fr ≠ -1) (b : Nat) : s.held b = [] := by
  refine settle R I (none_inv (cov := cov) (E := E)) hs (fun _ _ => rfl) (fun b => ?_) b
  funext k f
  apply propext
  constructor
  · rintro ⟨h, hm, h1, _⟩; exact absurd h1 (hc b h hm)
  · rintro ⟨h, hm, _⟩; cases hm
/-- What is held from a side that matches an event: just where something behind matches it. -/
theorem match_back (P : Pre cov ok) {mt : F → Bool} (hm : ∀ f g, ok f → ok g → cov f g = true → mt g = true → mt f = true) {s : TS F E} (I : Inv cov adj nxt home ok s) {b n : Nat} (hbn : adj b n = true) (hq : s.q b n = []) :
    (∃ h ∈ s.held n, h.fr = (b : Int) ∧ mt h.f = true) ↔ ∃ h ∈ s.held b, h.fr ≠ (n : Int) ∧ mt h.f = true := by
  have e1 := I.ag b n hbn
  rw [hq] at e1
  have e1 : hfr (s.held n) b = rl (told cov (s.held b) n) := e1
  constructor
  · rintro ⟨h, h1, h2, h3⟩
    have h4 : hfr (s.held n) b h.key h.f := ⟨h, h1, h2, rfl, rfl⟩
    rw [e1] at h4
    obtain ⟨g, hg, _, h6⟩ := h4
    have := (mem_told cov).1 hg
    exact ⟨g, this.1, this.2.1, by rw [h6]; exact h3⟩
  · rintro ⟨h, h1, h2, h3⟩
    obtain ⟨g, hg, hgh⟩ := told_over (n := (n : Int)) P (I.hok b) _ h h1 h2 (Nat.le_refl _)
    have h4 : rl (told cov (s.held b) n) g.key g.f := ⟨g, hg, rfl, rfl⟩
    rw [← e1] at h4
    obtain ⟨x, hx, hx1, _, hx3⟩ := h4
    refine ⟨x, hx, hx1, ?_⟩
    rw [hx3]
    rcases hgh with rfl | hgh
    · exact h3
    · exact hm _ _ (I.hok b g ((mem_told cov).1 hg).1) (I.hok b h h1) (hides_cov hgh) h3

/-! ### What the program sends is what the document asks -/
def isT (cov : F → F → Bool) (l : List (Hd F)) (n : Int) (h : Hd F) : Bool := !(l.any fun g => !(g.fr == n) && hides cov g h)
theorem isT_iff {l : List (Hd F)} {n : Int} {h : Hd F} : isT cov l n h = true ↔ ∀ g ∈ l, g.fr ≠ n → hides cov g h = false := by
  simp only [isT, Bool.not_eq_true', List.any_eq_false]
  constructor
  · intro h1 g hg hn
    have := h1 g hg
    simpa [hn] using this
  · intro h1 g hg
    by_cases hn : g.fr = n
    · simp [hn]
    · simp [h1 g hg hn]
/-- Those that h hides and that are told without it. -/
def woT (cov : F → F → Bool) (l : List (Hd F)) (n : Int) (h : Hd F) : List (Hd F) := l.filter fun g => !(g.fr == n) && hides cov h g && isT cov l n g
theorem mem_woT {l : List (Hd F)} {n : Int} {h g : Hd F} : g ∈ woT cov l n h ↔ g ∈ told cov l n ∧ hides cov h g = true := by
  simp only [woT, List.mem_filter, Bool.and_eq_true, Bool.not_eq_true', beq_eq_false_iff_ne, mem_told, isT_iff]
  constructor
  · rintro ⟨h1, ⟨h2, h3⟩, h4⟩; exact ⟨⟨h1, h2, h4⟩, h3⟩
  · rintro ⟨⟨h1, h2, h4⟩, h3⟩; exact ⟨h1, ⟨h2, h3⟩, h4⟩
theorem told_ins {l : List (Hd F)} {h : Hd F} (hn : ∀ g ∈ l, g.key ≠ h.key) {n : Int} (hf : h.fr ≠ n) (g : Hd F) : g ∈ told cov (ins h l) n ↔ (g = h ∧ isT cov l n h = true) ∨ (g ∈ told cov l n ∧ hides cov h g = false) := by
  rw [mem_told, mem_told, isT_iff]
  constructor
  · rintro ⟨h1, h2, h3⟩
    rcases mem_ins.1 h1 with rfl | ⟨h4, h5⟩
    · exact Or.inl ⟨rfl, fun x hx hxn => h3 x (mem_ins.2 (Or.inr ⟨hx, hn x hx⟩)) hxn⟩
    · exact Or.inr ⟨⟨h4, h2, fun x hx hxn => h3 x (mem_ins.2 (Or.inr ⟨hx, hn x hx⟩)) hxn⟩, h3 h (mem_ins.2 (Or.inl rfl)) hf⟩
  · rintro (⟨rfl, h1⟩ | ⟨⟨h1, h2, h3⟩, h4⟩)
    · refine ⟨mem_ins.2 (Or.inl rfl), hf, fun x hx hxn => ?_⟩
      rcases mem_ins.1 hx with rfl | ⟨hx, _⟩
      · exact hides_irr x
      · exact h1 x hx hxn
    · refine ⟨mem_ins.2 (Or.inr ⟨h1, hn g h1⟩), h2, fun x hx hxn => ?_⟩
      rcases mem_ins.1 hx with rfl | ⟨hx, _⟩
      · exact h4
      · exact h3 x hx hxn
theorem told_ins_same {l : List (Hd F)} {h : Hd F} (hs : Srt l) (hn : ∀ g ∈ l, g.key ≠ h.key) : told cov (ins h l) h.fr = told cov l h.fr := by
  refine ((hs.ins h).told cov _).ext (hs.told cov _) (fun g => ?_)
  rw [mem_told, mem_told]
  constructor
  · rintro ⟨h1, h2, h3⟩
    rcases mem_ins.1 h1 with rfl | ⟨h4, _⟩
    · exact absurd rfl h2
    · exact ⟨h4, h2, fun x hx hxn => h3 x (mem_ins.2 (Or.inr ⟨hx, hn x hx⟩)) hxn⟩
  · rintro ⟨h1, h2, h3⟩
    refine ⟨mem_ins.2 (Or.inr ⟨h1, hn g h1⟩), h2, fun x hx hxn => ?_⟩
    rcases mem_ins.1 hx with rfl | ⟨hx, _⟩
    · exact absurd rfl hxn
    · exact h3 x hx hxn
theorem chg_none {l l' : List (Hd F)} {n : Int} (h : told cov l' n = told cov l n) : (chg cov l l' n : List (Ms F E)) = [] := by
  have e : ∀ m : List (Hd F), (m.filter fun h => !(hasK m h.key)) = [] := by
    intro m
    rw [List.filter_eq_nil_iff]
    intro x hx
    simp only [Bool.not_eq_true', Bool.not_eq_false]
    exact hasK_iff.2 ⟨x, hx, rfl⟩
  simp only [chg, newT, goneT, h, e, subs, unss, List.map_nil, List.append_nil]
/-- What goes out when a filter more is held. -/
theorem chg_ins {l : List (Hd F)} {h : Hd F} (hs : Srt l) (hn : ∀ g ∈ l, g.key ≠ h.key) {n : Int} (hf : h.fr ≠ n) :
    (chg cov l (ins h l) n : List (Ms F E)) = (if isT cov l n h then [.sub h.key h.f] else []) ++ unss (woT cov l n h) := by
  have e1 : newT cov l (ins h l) n = if isT cov l n h then [h] else [] := by
    refine ((hs.ins h).newT n).ext ?_ (fun g => ?_)
    · split
      · exact List.pairwise_singleton _ _
      · exact List.Pairwise.nil
    · unfold newT
      rw [List.mem_filter, told_ins hn hf]
      constructor
      · rintro ⟨⟨rfl, h1⟩ | ⟨h1, h2⟩, h3⟩
        · rw [if_pos h1]; simp
        · simp only [Bool.not_eq_true'] at h3
          exact absurd rfl (hasK_no.1 h3 g h1)
      · intro hg
        split at hg
        · rename_i h1
          simp only [List.mem_singleton] at hg
          subst hg
          refine ⟨Or.inl ⟨rfl, h1⟩, ?_⟩
          simp only [Bool.not_eq_true']
          exact hasK_no.2 (fun x hx => hn x ((mem_told cov).1 hx).1)
        · cases hg
  have e2 : goneT cov l (ins h l) n = woT cov l n h := by
    refine (hs.goneT n).ext (hs.filter _) (fun g => ?_)
    rw [mem_woT]
    unfold goneT
    rw [List.mem_filter]
    constructor
    · rintro ⟨h1, h2⟩
      refine ⟨h1, ?_⟩
      cases hh : hides cov h g with
      | true => rfl
      | false =>
        simp only [Bool.not_eq_true'] at h2
        exact absurd rfl (hasK_no.1 h2 g ((told_ins hn hf g).2 (Or.inr ⟨h1, hh⟩)))
    · rintro ⟨h1, h2⟩
      refine ⟨h1, ?_⟩
      simp only [Bool.not_eq_true']
      refine hasK_no.2 (fun x hx e => ?_)
      rcases (told_ins hn hf x).1 hx with ⟨rfl, _⟩ | ⟨h3, h4⟩
      · exact hn g ((mem_told cov).1 h1).1 e.symm
      · rw [hs.uniq ((mem_told cov).1 h3).1 ((mem_told cov).1 h1).1 e, h2] at h4; cases h4
  unfold chg
  rw [e1, e2]
  congr 1
  split <;> rfl
theorem chg_ins_same {l : List (Hd F)} {h : Hd F} (hs : Srt l) (hn : ∀ g ∈ l, g.key ≠ h.key) : (chg cov l (ins h l) h.fr : List (Ms F E)) = [] := chg_none (told_ins_same hs hn)
theorem ins_del {l : List (Hd F)} {h : Hd F} (hs : Srt l) (hm : h ∈ l) : ins h (del h.key l) = l := by
  refine ((hs.del _).ins h).ext hs (fun g => ?_)
  rw [mem_ins, mem_del]
  constructor
  · rintro (rfl | ⟨⟨h1, _⟩, _⟩)
    · exact hm
    · exact h1
  · intro hg
    by_cases e : g.key = h.key
    · exact Or.inl (hs.uniq hg hm e)
    · exact Or.inr ⟨⟨hg, e⟩, e⟩
theorem del_no {l : List (Hd F)} {k : Ky} : ∀ g ∈ del k l, g.key ≠ k := fun _ hg => (mem_del.1 hg).2
theorem chg_swap {l l' : List (Hd F)} {n : Int} : (chg cov l l' n : List (Ms F E)) = subs (newT cov l l' n) ++ unss (newT cov l' l n) := rfl
/-- What goes out when a filter less is held. -/
theorem chg_del {l : List (Hd F)} {h : Hd F} (hs : Srt l) (hm : h ∈ l) {n : Int} (hf : h.fr ≠ n) :
    (chg cov l (del h.key l) n : List (Ms F E)) = subs (woT cov (del h.key l) n h) ++ (if isT cov (del h.key l) n h then [.uns h.key] else []) := by
  have hd := hs.del h.key
  have e := ins_del hs hm
  have tt : ∀ g, g ∈ told cov l n ↔ (g = h ∧ isT cov (del h.key l) n h = true) ∨ (g ∈ told cov (del h.key l) n ∧ hides cov h g = false) := by
    intro g
    have := told_ins (cov := cov) (l := del h.key l) (h := h) del_no hf g
    rw [e] at this
    exact this
  have e1 : newT cov (del h.key l) l n = if isT cov (del h.key l) n h then [h] else [] := by
    refine (hs.newT n).ext ?_ (fun g => ?_)
    · split
      · exact List.pairwise_singleton _ _
      · exact List.Pairwise.nil
    · unfold newT
      rw [List.mem_filter, tt]
      constructor
      · rintro ⟨⟨rfl, h1⟩ | ⟨h1, h2⟩, h3⟩
        · rw [if_pos h1]; simp
        · simp only [Bool.not_eq_true'] at h3
          exact absurd rfl (hasK_no.1 h3 g h1)
      · intro hg
        split at hg
        · rename_i h1
          simp only [List.mem_singleton] at hg
          subst hg
          refine ⟨Or.inl ⟨rfl, h1⟩, ?_⟩
          simp only [Bool.not_eq_true']
          exact hasK_no.2 (fun x hx => del_no x ((mem_told cov).1 hx).1)
        · cases hg
  have e2 : newT cov l (del h.key l) n = woT cov (del h.key l) n h := by
    refine (hd.newT n).ext (hd.filter _) (fun g => ?_)
    rw [mem_woT]
    unfold newT
    rw [List.mem_filter]
    constructor
    · rintro ⟨h1, h2⟩
      refine ⟨h1, ?_⟩
      cases hh : hides cov h g with
      | true => rfl
      | false =>
        simp only [Bool.not_eq_true'] at h2
        refine absurd rfl (hasK_no.1 h2 g ?_)
        rw [tt]
        exact Or.inr ⟨h1, hh⟩
    · rintro ⟨h1, h2⟩
      refine ⟨h1, ?_⟩
      simp only [Bool.not_eq_true']
      refine hasK_no.2 (fun x hx ek => ?_)
      rw [tt] at hx
      rcases hx with ⟨rfl, _⟩ | ⟨h3, h4⟩
      · exact del_no g ((mem_told cov).1 h1).1 ek.symm
      · rw [hd.uniq ((mem_told cov).1 h3).1 ((mem_told cov).1 h1).1 ek, h2] at h4; cases h4
  rw [chg_swap, e2, e1]
  congr 1
  split <;> rfl
theorem chg_del_same {l : List (Hd F)} {h : Hd F} (hs : Srt l) (hm : h ∈ l) : (chg cov l (del h.key l) h.fr : List (Ms F E)) = [] := by
  refine chg_none ?_
  have := told_ins_same (cov := cov) (hs.del h.key) (h := h) del_no
  rw [ins_del hs hm] at this
  exact this.symm
end
end Go.Proofs.YtecnfgikbmcgoaaGreat
