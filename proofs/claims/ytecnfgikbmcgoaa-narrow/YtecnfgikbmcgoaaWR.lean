import Derived.Test.YtecnfgikbmcgoaaWQ
import Derived.Test.YtecnfgikbmcgoaaOrd
namespace Go.Proofs.Ytecnfgikbmcgoaa
open Go.RowKit

/-- A want lies in a box of its own. -/
structure Box (w : World) (b : Nat) (x : Wnt) : Prop where
  lt : b < w.heap.size
  c0 : w.cell? ⟨b, 0, none⟩ = some (.string x.a)
  c1 : w.cell? ⟨b, 1, none⟩ = some (.int .i64 x.y)
  c2 : w.cell? ⟨b, 1 + 1, none⟩ = some (.int .i64 x.k)
  c3 : w.cell? ⟨b, 1 + 1 + 1, none⟩ = some (.int .i64 x.n)
  c4 : w.cell? ⟨b, 1 + 1 + 1 + 1, none⟩ = some (.string x.s)
  f0 : w.frozen? ⟨b, 0, none⟩ = false
theorem Box.gr {w w' : World} {b : Nat} {x : Wnt} (h : Box w b x) (g : Gr w w') : Box w' b x := by
  obtain ⟨hc, hf⟩ := bcell g
  exact ⟨Gr.lt g h.lt, by rw [hc _ _ h.lt]; exact h.c0, by rw [hc _ _ h.lt]; exact h.c1, by rw [hc _ _ h.lt]; exact h.c2, by rw [hc _ _ h.lt]; exact h.c3, by rw [hc _ _ h.lt]; exact h.c4, by rw [hf _ _ h.lt]; exact h.f0⟩
theorem Box.new (w : World) (x : Wnt) : Box (w.alloc (.cells #[.string x.a, .int .i64 x.y, .int .i64 x.k, .int .i64 x.n, .string x.s] 67)) w.heap.size x := by
  constructor <;> simp [go_sem]

theorem Box.other {w : World} {b : Nat} {x : Wnt} (h : Box w b x) {p : Addr} (hp : b ≠ p.block) (u : Value) : Box (w.setCell p u) b x := by
  have e : ∀ o, (w.setCell p u).cell? ⟨b, o, none⟩ = w.cell? ⟨b, o, none⟩ := fun o => World.cell?_of_block (w := w) (a := ⟨b, o, none⟩) (Below.heap_setCell w p u b hp)
  have f : ∀ o, (w.setCell p u).frozen? ⟨b, o, none⟩ = w.frozen? ⟨b, o, none⟩ := fun o => World.frozen?_of_block (w := w) (a := ⟨b, o, none⟩) (Below.heap_setCell w p u b hp)
  exact ⟨by simp [World.setCell]; exact h.lt, by rw [e]; exact h.c0, by rw [e]; exact h.c1, by rw [e]; exact h.c2, by rw [e]; exact h.c3, by rw [e]; exact h.c4, by rw [f]; exact h.f0⟩
theorem Box.name {w : World} {b : Nat} {x : Wnt} (h : Box w b x) (a : ByteArray) : Box (w.setCell ⟨b, 0, none⟩ (.string a)) b { x with a := a } := by
  have h0 := h.c0
  have h1 := h.c1
  have h2 := h.c2
  have h3 := h.c3
  have h4 := h.c4
  have hf := h.f0
  have hl := h.lt
  constructor <;> simp [go_sem, *]

/-- A want under another one's name. -/
def ren (u v : Int) : Wnt := { wantF v with a := (wantF u).a }
theorem ren_ok (u v : Int) : wOk (ren u v) = true := by
  have h1 := wantF_ok u
  have h2 := wantF_ok v
  simp only [wOk, wantOk, Bool.and_eq_true] at h1 h2 ⊢
  exact ⟨h1.1, h2.2⟩
theorem ren_wf (u v : Int) : (ren u v).Wf := ⟨(wantF_wf u).a, (wantF_wf v).s, (wantF_wf v).n1, (wantF_wf v).n2⟩
theorem owns_grown0 {w w1 w' : World} {base : Nat} {e : TypeId} {size : Nat} {v : Value} {n : Nat} {xs : List Value} (hb : base = w.heap.size) (h : w1.ownsRow base e size v n xs) (g : Gr w w1) (hg : w1.grownBy w' v.ownBlock) : Gr w w' := by
  subst hb
  refine Below.grown g hg g.size (fun b hb => ?_)
  rcases h.2 with ⟨hv, _⟩ | ⟨q, cap, cur, hv, hq, _⟩
  · rw [hv] at hb; simp [Value.ownBlock] at hb
  · rw [hv] at hb; simp [Value.ownBlock] at hb; omega
def bothF (f g : List Int) : List Wnt := wantsF f ++ wantsF g
theorem both_ok (f g : List Int) : filterOk (wantsF f ++ wantsF g) = true ∧ (∀ x ∈ wantsF f ++ wantsF g, Wnt.Wf x) := by
  obtain ⟨a1, a2, a3, a4⟩ := wantsF_ok f
  obtain ⟨b1, b2, b3, b4⟩ := wantsF_ok g
  refine ⟨?_, fun x hx => ?_⟩
  · have e1 : decide (1 ≤ ((wantsF f ++ wantsF g).length : Int)) = true := by simp; omega
    have e2 : decide (((wantsF f ++ wantsF g).length : Int) ≤ 6) = true := by simp; omega
    have e3 : (wantsF f ++ wantsF g).all wOk = true := by
      rw [List.all_append, List.all_eq_true.2 (fi_ok_of a1).1, List.all_eq_true.2 (fi_ok_of b1).1]; rfl
    simp only [filterOk, e1, e2, e3, Bool.and_self]
  · rcases List.mem_append.1 hx with h | h
    · exact a2 x h
    · exact b2 x h

theorem owns_pos {w : World} {base : Nat} {e : TypeId} {size : Nat} {v : Value} {n : Nat} {xs : List Value} (h : w.ownsRow base e size v n xs) (hn : 0 < n) : ∃ g cap, v = .slice (some ⟨g, 0, none⟩) n cap := by
  rcases h.2 with ⟨_, hn'⟩ | ⟨g, cap, cur, hv, _⟩
  · omega
  · exact ⟨g, cap, hv⟩
theorem owns_news {w : World} {base : Nat} {e : TypeId} {size g n cap : Nat} {xs : List Value} (h : w.ownsRow base e size (.slice (some ⟨g, 0, none⟩) n cap) n xs) : ∀ j u, xs[j]? = some u → w.cell? ((⟨g, 0, none⟩ : Addr).add j) = some u := fun j u hu => by
  have hadd : (⟨g, 0, none⟩ : Addr).add j = ⟨g, j, none⟩ := by unfold Addr.add; split <;> simp_all
  rw [hadd, World.ownsRow.cellAt h j ?_, hu]
  have := (List.getElem?_eq_some_iff.1 hu).1
  rw [h.1] at this; exact this
theorem wcells_one (l : List Wnt) : ∀ u ∈ wcells l, u.oneCell' = true := by
  intro u hu
  simp only [wcells, List.mem_flatMap, wcell] at hu
  obtain ⟨x, _, hu⟩ := hu
  simp at hu
  rcases hu with rfl | rfl | rfl | rfl | rfl <;> rfl
theorem wcells_len (l : List Wnt) : (wcells l).length = l.length * 5 := by
  induction l with
  | nil => rfl
  | cons x l ih => simp [wcells, wcell] at ih ⊢; omega
theorem wcells_app (a b : List Wnt) : wcells (a ++ b) = wcells a ++ wcells b := by simp [wcells]
theorem owns_fi {w : World} {base : Nat} {e : TypeId} {g cap : Nat} {l : List Wnt} (h : w.ownsRow base e 5 (.slice (some ⟨g, 0, none⟩) l.length cap) l.length (wcells l)) : FiAt w (some ⟨g, 0, none⟩) l := by
  obtain ⟨ad, c, e, hf⟩ := owns_wants h
  simp only [Value.slice.injEq] at e
  rw [e.1]; exact hf

set_option maxHeartbeats 8000000 in
theorem Ordered_any (u v x : Int) (f g h : List Int) (adf adg adh : Option Addr) (cf cg ch : Nat) (m : Int) (w : World)
    (hu : -9223372036854775808 ≤ u ∧ u ≤ 9223372036854775807) (hv : -9223372036854775808 ≤ v ∧ v ≤ 9223372036854775807) (hx : -9223372036854775808 ≤ x ∧ x ≤ 9223372036854775807)
    (lf : f.length ≤ maxLen) (lg : g.length ≤ maxLen) (lh : h.length ≤ maxLen) (af : InAt w adf f) (ag : InAt w adg g) (ah : InAt w adh h) (wf : IntWf f) (wg : IntWf g) (wh : IntWf h) (hM : Ml m w) :
    Calls Try.prog 6 #[.int .i64 u, .int .i64 v, .int .i64 x, .slice adf f.length cf, .slice adg g.length cg, .slice adh h.length ch] w fun e w' => e = .returned (.bool true) ∧ Gr w w' := by
  have HU : Hid (-9223372036854775808 ≤ u ∧ u ≤ 9223372036854775807) := hu
  have HV : Hid (-9223372036854775808 ≤ v ∧ v ≤ 9223372036854775807) := hv
  have HX : Hid (-9223372036854775808 ≤ x ∧ x ≤ 9223372036854775807) := hx
  have LF : Hid (f.length ≤ maxLen) := lf
  have LG : Hid (g.length ≤ maxLen) := lg
  have LH : Hid (h.length ≤ maxLen) := lh
  have AF : Hid (InAt w adf f) := af
  have AG : Hid (InAt w adg g) := ag
  have AH : Hid (InAt w adh h) := ah
  have WF : Hid (IntWf f) := wf
  have WG : Hid (IntWf g) := wg
  have WH : Hid (IntWf h) := wh
  clear hu hv hx lf lg lh af ag ah wf wg wh
  go_enter Try.func6, Try.ntmps6
  go_wp2_with fail
  refine (lives_any m _ hM).mono ?_
  rintro e w1 ⟨rfl, hb1⟩
  have g1 : Gr w w1 := hb1
  clear hb1
  go_wp2_with fail
  refine (keepWant_any u _ HU.out.1 HU.out.2).mono ?_
  rintro e w2 ⟨rfl, hb2⟩
  have g2 : Gr w w2 := Gr.call g1 hb2
  clear hb2 g1
  go_wp2_with fail
  refine (keepWant_any v _ HV.out.1 HV.out.2).mono ?_
  rintro e w3 ⟨rfl, hb3⟩
  have B1 : Hid (Box w3 w2.heap.size (wantF u)) := (Box.new w2 (wantF u)).gr hb3
  have g3 : Gr w w3 := Gr.call (g2.alloc _) hb3
  have z3 : w2.heap.size < w3.heap.size := B1.out.lt
  clear hb3
  go_wp2_with fail
  refine (keepWant_any x _ HX.out.1 HX.out.2).mono ?_
  rintro e w4 ⟨rfl, hb4⟩
  have B2 : Hid (Box w4 w2.heap.size (wantF u)) := (B1.out.gr ((Gr.refl w3).alloc _)).gr hb4
  have B3 : Hid (Box w4 w3.heap.size (wantF v)) := (Box.new w3 (wantF v)).gr hb4
  have g4 : Gr w w4 := Gr.call (g3.alloc _) hb4
  have z4 : w3.heap.size < w4.heap.size := B3.out.lt
  have z5 : w2.heap.size < w4.heap.size := B2.out.lt
  have hne : w2.heap.size ≠ w3.heap.size := by omega
  have hne' : w3.heap.size ≠ w2.heap.size := by omega
  clear hb4 B1
  have a0 := B2.out.c0
  have a1 := B2.out.c1
  have a2 := B2.out.c2
  have a3 := B2.out.c3
  have a4 := B2.out.c4
  have b0 := B3.out.c0
  have b1 := B3.out.c1
  have bf := B3.out.f0
  go_wp2_with fail
  have G5 : Gr w ((w4.setCell ⟨w3.heap.size, 0, none⟩ (.string (wantF u).a)).alloc (.cells #[.string (wantF u).a, .int .i64 (wantF x).y, .int .i64 (wantF x).k, .int .i64 (wantF x).n, .string (wantF x).s] 67)) := Gr.alloc (Below.setCell g4 g3.size _) _
  have Ba : Box ((w4.setCell ⟨w3.heap.size, 0, none⟩ (.string (wantF u).a)).alloc (.cells #[.string (wantF u).a, .int .i64 (wantF x).y, .int .i64 (wantF x).k, .int .i64 (wantF x).n, .string (wantF x).s] 67)) w2.heap.size (wantF u) := (B2.out.other (p := ⟨w3.heap.size, 0, none⟩) hne _).gr ((Gr.refl _).alloc _)
  have Bb : Box ((w4.setCell ⟨w3.heap.size, 0, none⟩ (.string (wantF u).a)).alloc (.cells #[.string (wantF u).a, .int .i64 (wantF x).y, .int .i64 (wantF x).k, .int .i64 (wantF x).n, .string (wantF x).s] 67)) w3.heap.size (ren u v) := (B3.out.name (wantF u).a).gr ((Gr.refl _).alloc _)
  have Bc : Box ((w4.setCell ⟨w3.heap.size, 0, none⟩ (.string (wantF u).a)).alloc (.cells #[.string (wantF u).a, .int .i64 (wantF x).y, .int .i64 (wantF x).k, .int .i64 (wantF x).n, .string (wantF x).s] 67)) w4.heap.size (ren u x) := by
    have := Box.new (w4.setCell ⟨w3.heap.size, 0, none⟩ (.string (wantF u).a)) (ren u x)
    rwa [show (w4.setCell ⟨w3.heap.size, 0, none⟩ (.string (wantF u).a)).heap.size = w4.heap.size by simp [World.setCell]] at this
  clear a0 a1 a2 a3 a4 b0 b1 bf B2 B3
  revert G5 Ba Bb Bc
  generalize ((w4.setCell ⟨w3.heap.size, 0, none⟩ (.string (wantF u).a)).alloc (.cells #[.string (wantF u).a, .int .i64 (wantF x).y, .int .i64 (wantF x).k, .int .i64 (wantF x).n, .string (wantF x).s] 67)) = w5
  intro G5 Ba Bb Bc
  have hMl := G5.ml hM
  have Iaa : Hid (impW (wantF u) (wantF u) = true) := imp_refl (wantF_wf u) (wantF_ok u)
  have Tr : Hid (impW (wantF u) (ren u v) = true → impW (ren u v) (ren u x) = true → impW (wantF u) (ren u x) = true) := imp_trans (wantF_wf u) (ren_wf u v) (ren_wf u x)
  refine (Implies_any _ _ _ _ _ _ _ _ _ _ m _ (wantF_wf u).a (wantF_wf u).a (wantF_wf u).n1 (wantF_wf u).n2 hMl).mono ?_
  rw [show impB (wantF u).a (wantF u).y (wantF u).k (wantF u).n (wantF u).s (wantF u).a (wantF u).y (wantF u).k (wantF u).n (wantF u).s = true from Iaa.out]
  rintro e w6 ⟨rfl, hb6⟩
  have G6 : Gr w w6 := Gr.call G5 hb6
  have Bb6 : Hid (Box w6 w3.heap.size (ren u v)) := Bb.gr hb6
  have Ba6 : Hid (Box w6 w2.heap.size (wantF u)) := Ba.gr hb6
  have Bc6 : Hid (Box w6 w4.heap.size (ren u x)) := Bc.gr hb6
  clear hb6 Ba Bb Bc hMl G5
  have a0 := Ba6.out.c0
  have a1 := Ba6.out.c1
  have a2 := Ba6.out.c2
  have a3 := Ba6.out.c3
  have a4 := Ba6.out.c4
  have b0 := Bb6.out.c0
  have b1 := Bb6.out.c1
  have b2 := Bb6.out.c2
  have b3 := Bb6.out.c3
  have b4 := Bb6.out.c4
  go_wp2_with fail
  refine (Implies_any _ _ _ _ _ _ _ _ _ _ m _ (wantF_wf u).a (ren_wf u v).a (wantF_wf u).n1 (wantF_wf u).n2 (G6.ml hM)).mono ?_
  cases hab : impW (wantF u) (ren u v)
  · rw [show impB (wantF u).a (wantF u).y (wantF u).k (wantF u).n (wantF u).s (ren u v).a (ren u v).y (ren u v).k (ren u v).n (ren u v).s = false from hab]
    rintro e w7 ⟨rfl, hb7⟩
    have G7 : Gr w w7 := Gr.call G6 hb7
    clear a0 a1 a2 a3 a4 b0 b1 b2 b3 b4
    clear hb7 G6 Ba6 Bb6 Bc6
    go_wp2_with fail
    have OK : Hid ((filterOk (wantsF f) = true ∧ (∀ x ∈ wantsF f, Wnt.Wf x) ∧ 1 ≤ (wantsF f).length ∧ (wantsF f).length ≤ 3) ∧ (filterOk (wantsF g) = true ∧ (∀ x ∈ wantsF g, Wnt.Wf x) ∧ 1 ≤ (wantsF g).length ∧ (wantsF g).length ≤ 3)) := ⟨wantsF_ok f, wantsF_ok g⟩
    have OH : Hid (filterOk (wantsF h) = true ∧ (∀ x ∈ wantsF h, Wnt.Wf x) ∧ 1 ≤ (wantsF h).length ∧ (wantsF h).length ≤ 3) := wantsF_ok h
    have BO : Hid (filterOk (bothF f g) = true ∧ (∀ x ∈ bothF f g, Wnt.Wf x)) := both_ok f g
    obtain ⟨i0, hi, hz0, hz1, hz2⟩ := info_parts Try.infoWant
    refine (wants_any f _ _ _ LF.out (AF.out.gr G7) WF.out).mono ?_
    rintro e wx ⟨vx, rfl, hbx, hownx⟩
    have Gx : Gr w wx := Gr.call G7 hbx
    obtain ⟨gx, cx, rfl⟩ := owns_pos hownx (by have := OK.out.1.2.2.1; omega)
    have HX0 : Hid (wx.ownsRow _ 67 5 (.slice (some ⟨gx, 0, none⟩) (wantsF f).length cx) (wantsF f).length (wcells (wantsF f))) := hownx
    clear hownx hbx
    go_wp2_with fail
    refine (wants_any g _ _ _ LG.out (AG.out.gr Gx) WG.out).mono ?_
    rintro e wy ⟨vy, rfl, hby, howny⟩
    have Gy : Gr w wy := Gr.call Gx hby
    obtain ⟨gy, cy, rfl⟩ := owns_pos howny (by have := OK.out.2.2.2.1; omega)
    have HY0 : Hid (wy.ownsRow _ 67 5 (.slice (some ⟨gy, 0, none⟩) (wantsF g).length cy) (wantsF g).length (wcells (wantsF g))) := howny
    have HX2 : Hid (wy.ownsRow _ 67 5 (.slice (some ⟨gx, 0, none⟩) (wantsF f).length cx) (wantsF f).length (wcells (wantsF f))) := ownsGr HX0.out hby
    clear howny hby HX0
    go_wp2_with fail
    refine (wants_any h _ _ _ LH.out (AH.out.gr Gy) WH.out).mono ?_
    rintro e wz ⟨vz, rfl, hbz, hownz⟩
    have Gz : Gr w wz := Gr.call Gy hbz
    obtain ⟨gz, cz, rfl⟩ := owns_pos hownz (by have := OH.out.2.2.1; omega)
    have FZ : Hid (FiAt wz (some ⟨gz, 0, none⟩) (wantsF h)) := owns_fi hownz
    have HY1 : Hid (wz.ownsRow _ 67 5 (.slice (some ⟨gy, 0, none⟩) (wantsF g).length cy) (wantsF g).length (wcells (wantsF g))) := ownsGr HY0.out hbz
    have HX1 : Hid (wz.ownsRow _ 67 5 (.slice (some ⟨gx, 0, none⟩) (wantsF f).length cx) (wantsF f).length (wcells (wantsF f))) := ownsGr HX2.out hbz
    clear hownz hbz HX2 HY0
    go_wp2_with fail
    refine (Covers_ad (wantsF f) (wantsF f) _ _ _ _ m _ (by have := OK.out.1.2.2.2; unfold maxLen; omega) (owns_fi HX1.out) OK.out.1.2.1 (fi_ok_of OK.out.1.1).2 (by have := OK.out.1.2.2.2; unfold maxLen; omega) (owns_fi HX1.out) OK.out.1.2.1 (fi_ok_of OK.out.1.1).2 (Gz.ml hM)).mono ?_
    rw [cov_sub OK.out.1.1 OK.out.1.1 OK.out.1.2.1 (fun x hx => hx)]
    rintro e wa ⟨rfl, hba⟩
    have Ga : Gr w wa := Gr.call Gz hba
    go_wp2_with fail
    refine (Covers_ad (wantsF f) (wantsF g) _ _ _ _ m _ (by have := OK.out.1.2.2.2; unfold maxLen; omega) ((owns_fi HX1.out).gr hba) OK.out.1.2.1 (fi_ok_of OK.out.1.1).2 (by have := OK.out.2.2.2.2; unfold maxLen; omega) ((owns_fi HY1.out).gr hba) OK.out.2.2.1 (fi_ok_of OK.out.2.1).2 (Ga.ml hM)).mono ?_
    cases hxy : cov (wantsF f) (wantsF g)
    · rintro e wb ⟨rfl, hbb⟩
      have Gb : Gr w wb := Gr.call Ga hbb
      have T1 : Gr wz wb := Gr.call hba hbb
      clear hba hbb
      have HX' : Hid (wb.ownsRow _ 67 5 (.slice (some ⟨gx, 0, none⟩) (wantsF f).length cx) (wantsF f).length (wcells (wantsF f))) := ownsGr HX1.out T1
      have HY' : Hid (wb.ownsRow _ 67 5 (.slice (some ⟨gy, 0, none⟩) (wantsF g).length cy) (wantsF g).length (wcells (wantsF g))) := ownsGr HY1.out T1
      go_wp2_with (at_builtin; refine wpList_append_own _ rfl _ _ 46 rfl wb.heap.size 67 i0 _ 5 56 Try.underlying46 hi hz0 hz1 hz2 rfl (by decide) _ _ _ rfl (World.ownsRow_nil _ _ _ _) ⟨gx, 0, none⟩ (wantsF f).length cx (wcells (wantsF f)) rfl (wcells_len _) (owns_news HX'.out) (wcells_one _) ?c3 ?c4 ?c5 ?_)
      case c3 => have := OK.out.1.2.2.2; unfold maxLen; omega
      case c4 => have := OK.out.1.2.2.2; omega
      case c5 => exact Nat.le_refl _
      intro v1 wp hown1 hgrow1 _
      have P1 : Gr wb wp := owns_grown0 rfl (World.ownsRow_nil wb wb.heap.size 67 5) (Gr.refl _) hgrow1
      have HO1 : Hid (wp.ownsRow wb.heap.size 67 5 v1 (wantsF f).length (wcells (wantsF f))) := hown1
      have hps := P1.size
      clear hown1 hgrow1
      go_wp2_with (at_builtin; refine wpList_append_own _ rfl _ _ 46 rfl wb.heap.size 67 i0 _ 5 56 Try.underlying46 hi hz0 hz1 hz2 rfl (by decide) _ _ _ rfl HO1.out ⟨gy, 0, none⟩ (wantsF g).length cy (wcells (wantsF g)) rfl (wcells_len _) (owns_news (ownsGr HY'.out P1)) (wcells_one _) ?c3 ?c4 ?c5 ?_)
      case c3 => have := OK.out.1.2.2.2; have := OK.out.2.2.2.2; unfold maxLen; omega
      case c4 => have := OK.out.1.2.2.2; have := OK.out.2.2.2.2; omega
      case c5 => exact hps
      intro v2 wq hown2 hgrow2 _
      have P2 : Gr wb wq := owns_grown0 rfl HO1.out P1 hgrow2
      have HO2 : wq.ownsRow wb.heap.size 67 5 v2 (bothF f g).length (wcells (bothF f g)) := by
        rw [bothF, wcells_app, List.length_append]; exact hown2
      obtain ⟨gb, cb, rfl⟩ := owns_pos HO2 (by have := OK.out.1.2.2.1; rw [bothF, List.length_append]; omega)
      have FB : Hid (FiAt wq (some ⟨gb, 0, none⟩) (bothF f g)) := owns_fi HO2
      clear hown2 hgrow2 HO2 HO1
      go_wp2_with fail
      refine (Covers_ad (wantsF f) (bothF f g) _ _ _ _ m _ (by have := OK.out.1.2.2.2; unfold maxLen; omega) ((owns_fi HX'.out).gr P2) OK.out.1.2.1 (fi_ok_of OK.out.1.1).2 (by have := OK.out.1.2.2.2; have := OK.out.2.2.2.2; unfold maxLen; rw [bothF, List.length_append]; omega) FB.out BO.out.2 (fi_ok_of BO.out.1).2 ((Gr.call Gb P2).ml hM)).mono ?_
      rw [cov_sub OK.out.1.1 BO.out.1 OK.out.1.2.1 (fun x hx => List.mem_append.2 (Or.inl hx))]
      rintro e wr ⟨rfl, hbr⟩
      go_wp2_with fail
      refine (Covers_ad (wantsF g) (bothF f g) _ _ _ _ m _ (by have := OK.out.2.2.2.2; unfold maxLen; omega) ((owns_fi HY'.out).gr (Gr.call P2 hbr)) OK.out.2.2.1 (fi_ok_of OK.out.2.1).2 (by have := OK.out.1.2.2.2; have := OK.out.2.2.2.2; unfold maxLen; rw [bothF, List.length_append]; omega) (FB.out.gr hbr) BO.out.2 (fi_ok_of BO.out.1).2 ((Gr.call (Gr.call Gb P2) hbr).ml hM)).mono ?_
      rw [cov_sub OK.out.2.1 BO.out.1 OK.out.2.2.1 (fun x hx => List.mem_append.2 (Or.inr hx))]
      rintro e ws ⟨rfl, hbs⟩
      go_wp2_with fail
      go_ret
      exact ⟨rfl, Gr.call (Gr.call (Gr.call Gb P2) hbr) hbs⟩
    · rintro e wb ⟨rfl, hbb⟩
      have Gb : Gr w wb := Gr.call Ga hbb
      have T1 : Gr wz wb := Gr.call hba hbb
      clear hba hbb
      go_wp2_with fail
      refine (Covers_ad (wantsF g) (wantsF h) _ _ _ _ m _ (by have := OK.out.2.2.2.2; unfold maxLen; omega) ((owns_fi HY1.out).gr T1) OK.out.2.2.1 (fi_ok_of OK.out.2.1).2 (by have := OH.out.2.2.2; unfold maxLen; omega) (FZ.out.gr T1) OH.out.2.1 (fi_ok_of OH.out.1).2 (Gb.ml hM)).mono ?_
      cases hyz : cov (wantsF g) (wantsF h)
      · rintro e wc ⟨rfl, hbc⟩
        have Gc : Gr w wc := Gr.call Gb hbc
        have T2 : Gr wz wc := Gr.call T1 hbc
        clear hbc
        have HX' : Hid (wc.ownsRow _ 67 5 (.slice (some ⟨gx, 0, none⟩) (wantsF f).length cx) (wantsF f).length (wcells (wantsF f))) := ownsGr HX1.out T2
        have HY' : Hid (wc.ownsRow _ 67 5 (.slice (some ⟨gy, 0, none⟩) (wantsF g).length cy) (wantsF g).length (wcells (wantsF g))) := ownsGr HY1.out T2
        go_wp2_with (at_builtin; refine wpList_append_own _ rfl _ _ 46 rfl wc.heap.size 67 i0 _ 5 56 Try.underlying46 hi hz0 hz1 hz2 rfl (by decide) _ _ _ rfl (World.ownsRow_nil _ _ _ _) ⟨gx, 0, none⟩ (wantsF f).length cx (wcells (wantsF f)) rfl (wcells_len _) (owns_news HX'.out) (wcells_one _) ?c3 ?c4 ?c5 ?_)
        case c3 => have := OK.out.1.2.2.2; unfold maxLen; omega
        case c4 => have := OK.out.1.2.2.2; omega
        case c5 => exact Nat.le_refl _
        intro v1 wp hown1 hgrow1 _
        have P1 : Gr wc wp := owns_grown0 rfl (World.ownsRow_nil wc wc.heap.size 67 5) (Gr.refl _) hgrow1
        have HO1 : Hid (wp.ownsRow wc.heap.size 67 5 v1 (wantsF f).length (wcells (wantsF f))) := hown1
        have hps := P1.size
        clear hown1 hgrow1
        go_wp2_with (at_builtin; refine wpList_append_own _ rfl _ _ 46 rfl wc.heap.size 67 i0 _ 5 56 Try.underlying46 hi hz0 hz1 hz2 rfl (by decide) _ _ _ rfl HO1.out ⟨gy, 0, none⟩ (wantsF g).length cy (wcells (wantsF g)) rfl (wcells_len _) (owns_news (ownsGr HY'.out P1)) (wcells_one _) ?c3 ?c4 ?c5 ?_)
        case c3 => have := OK.out.1.2.2.2; have := OK.out.2.2.2.2; unfold maxLen; omega
        case c4 => have := OK.out.1.2.2.2; have := OK.out.2.2.2.2; omega
        case c5 => exact hps
        intro v2 wq hown2 hgrow2 _
        have P2 : Gr wc wq := owns_grown0 rfl HO1.out P1 hgrow2
        have HO2 : wq.ownsRow wc.heap.size 67 5 v2 (bothF f g).length (wcells (bothF f g)) := by
          rw [bothF, wcells_app, List.length_append]; exact hown2
        obtain ⟨gb, cb, rfl⟩ := owns_pos HO2 (by have := OK.out.1.2.2.1; rw [bothF, List.length_append]; omega)
        have FB : Hid (FiAt wq (some ⟨gb, 0, none⟩) (bothF f g)) := owns_fi HO2
        clear hown2 hgrow2 HO2 HO1
        go_wp2_with fail
        refine (Covers_ad (wantsF f) (bothF f g) _ _ _ _ m _ (by have := OK.out.1.2.2.2; unfold maxLen; omega) ((owns_fi HX'.out).gr P2) OK.out.1.2.1 (fi_ok_of OK.out.1.1).2 (by have := OK.out.1.2.2.2; have := OK.out.2.2.2.2; unfold maxLen; rw [bothF, List.length_append]; omega) FB.out BO.out.2 (fi_ok_of BO.out.1).2 ((Gr.call Gc P2).ml hM)).mono ?_
        rw [cov_sub OK.out.1.1 BO.out.1 OK.out.1.2.1 (fun x hx => List.mem_append.2 (Or.inl hx))]
        rintro e wr ⟨rfl, hbr⟩
        go_wp2_with fail
        refine (Covers_ad (wantsF g) (bothF f g) _ _ _ _ m _ (by have := OK.out.2.2.2.2; unfold maxLen; omega) ((owns_fi HY'.out).gr (Gr.call P2 hbr)) OK.out.2.2.1 (fi_ok_of OK.out.2.1).2 (by have := OK.out.1.2.2.2; have := OK.out.2.2.2.2; unfold maxLen; rw [bothF, List.length_append]; omega) (FB.out.gr hbr) BO.out.2 (fi_ok_of BO.out.1).2 ((Gr.call (Gr.call Gc P2) hbr).ml hM)).mono ?_
        rw [cov_sub OK.out.2.1 BO.out.1 OK.out.2.2.1 (fun x hx => List.mem_append.2 (Or.inr hx))]
        rintro e ws ⟨rfl, hbs⟩
        go_wp2_with fail
        go_ret
        exact ⟨rfl, Gr.call (Gr.call (Gr.call Gc P2) hbr) hbs⟩
      · rintro e wc ⟨rfl, hbc⟩
        have Gc : Gr w wc := Gr.call Gb hbc
        have T2 : Gr wz wc := Gr.call T1 hbc
        clear hbc
        go_wp2_with fail
        refine (Covers_ad (wantsF f) (wantsF h) _ _ _ _ m _ (by have := OK.out.1.2.2.2; unfold maxLen; omega) ((owns_fi HX1.out).gr T2) OK.out.1.2.1 (fi_ok_of OK.out.1.1).2 (by have := OH.out.2.2.2; unfold maxLen; omega) (FZ.out.gr T2) OH.out.2.1 (fi_ok_of OH.out.1).2 (Gc.ml hM)).mono ?_
        rw [cov_trans OK.out.1.2.1 OK.out.2.2.1 OH.out.2.1 hxy hyz]
        rintro e wd ⟨rfl, hbd⟩
        have Gd : Gr w wd := Gr.call Gc hbd
        have T3 : Gr wz wd := Gr.call T2 hbd
        clear hbd
        have HX' : Hid (wd.ownsRow _ 67 5 (.slice (some ⟨gx, 0, none⟩) (wantsF f).length cx) (wantsF f).length (wcells (wantsF f))) := ownsGr HX1.out T3
        have HY' : Hid (wd.ownsRow _ 67 5 (.slice (some ⟨gy, 0, none⟩) (wantsF g).length cy) (wantsF g).length (wcells (wantsF g))) := ownsGr HY1.out T3
        go_wp2_with (at_builtin; refine wpList_append_own _ rfl _ _ 46 rfl wd.heap.size 67 i0 _ 5 56 Try.underlying46 hi hz0 hz1 hz2 rfl (by decide) _ _ _ rfl (World.ownsRow_nil _ _ _ _) ⟨gx, 0, none⟩ (wantsF f).length cx (wcells (wantsF f)) rfl (wcells_len _) (owns_news HX'.out) (wcells_one _) ?c3 ?c4 ?c5 ?_)
        case c3 => have := OK.out.1.2.2.2; unfold maxLen; omega
        case c4 => have := OK.out.1.2.2.2; omega
        case c5 => exact Nat.le_refl _
        intro v1 wp hown1 hgrow1 _
        have P1 : Gr wd wp := owns_grown0 rfl (World.ownsRow_nil wd wd.heap.size 67 5) (Gr.refl _) hgrow1
        have HO1 : Hid (wp.ownsRow wd.heap.size 67 5 v1 (wantsF f).length (wcells (wantsF f))) := hown1
        have hps := P1.size
        clear hown1 hgrow1
        go_wp2_with (at_builtin; refine wpList_append_own _ rfl _ _ 46 rfl wd.heap.size 67 i0 _ 5 56 Try.underlying46 hi hz0 hz1 hz2 rfl (by decide) _ _ _ rfl HO1.out ⟨gy, 0, none⟩ (wantsF g).length cy (wcells (wantsF g)) rfl (wcells_len _) (owns_news (ownsGr HY'.out P1)) (wcells_one _) ?c3 ?c4 ?c5 ?_)
        case c3 => have := OK.out.1.2.2.2; have := OK.out.2.2.2.2; unfold maxLen; omega
        case c4 => have := OK.out.1.2.2.2; have := OK.out.2.2.2.2; omega
        case c5 => exact hps
        intro v2 wq hown2 hgrow2 _
        have P2 : Gr wd wq := owns_grown0 rfl HO1.out P1 hgrow2
        have HO2 : wq.ownsRow wd.heap.size 67 5 v2 (bothF f g).length (wcells (bothF f g)) := by
          rw [bothF, wcells_app, List.length_append]; exact hown2
        obtain ⟨gb, cb, rfl⟩ := owns_pos HO2 (by have := OK.out.1.2.2.1; rw [bothF, List.length_append]; omega)
        have FB : Hid (FiAt wq (some ⟨gb, 0, none⟩) (bothF f g)) := owns_fi HO2
        clear hown2 hgrow2 HO2 HO1
        go_wp2_with fail
        refine (Covers_ad (wantsF f) (bothF f g) _ _ _ _ m _ (by have := OK.out.1.2.2.2; unfold maxLen; omega) ((owns_fi HX'.out).gr P2) OK.out.1.2.1 (fi_ok_of OK.out.1.1).2 (by have := OK.out.1.2.2.2; have := OK.out.2.2.2.2; unfold maxLen; rw [bothF, List.length_append]; omega) FB.out BO.out.2 (fi_ok_of BO.out.1).2 ((Gr.call Gd P2).ml hM)).mono ?_
        rw [cov_sub OK.out.1.1 BO.out.1 OK.out.1.2.1 (fun x hx => List.mem_append.2 (Or.inl hx))]
        rintro e wr ⟨rfl, hbr⟩
        go_wp2_with fail
        refine (Covers_ad (wantsF g) (bothF f g) _ _ _ _ m _ (by have := OK.out.2.2.2.2; unfold maxLen; omega) ((owns_fi HY'.out).gr (Gr.call P2 hbr)) OK.out.2.2.1 (fi_ok_of OK.out.2.1).2 (by have := OK.out.1.2.2.2; have := OK.out.2.2.2.2; unfold maxLen; rw [bothF, List.length_append]; omega) (FB.out.gr hbr) BO.out.2 (fi_ok_of BO.out.1).2 ((Gr.call (Gr.call Gd P2) hbr).ml hM)).mono ?_
        rw [cov_sub OK.out.2.1 BO.out.1 OK.out.2.2.1 (fun x hx => List.mem_append.2 (Or.inr hx))]
        rintro e ws ⟨rfl, hbs⟩
        go_wp2_with fail
        go_ret
        exact ⟨rfl, Gr.call (Gr.call (Gr.call Gd P2) hbr) hbs⟩
  · rw [show impB (wantF u).a (wantF u).y (wantF u).k (wantF u).n (wantF u).s (ren u v).a (ren u v).y (ren u v).k (ren u v).n (ren u v).s = true from hab]
    rintro e w7 ⟨rfl, hb7⟩
    have G7 : Gr w w7 := Gr.call G6 hb7
    have Ba7 : Hid (Box w7 w2.heap.size (wantF u)) := Ba6.out.gr hb7
    have Bb7 : Hid (Box w7 w3.heap.size (ren u v)) := Bb6.out.gr hb7
    have Bc7 : Hid (Box w7 w4.heap.size (ren u x)) := Bc6.out.gr hb7
    clear a0 a1 a2 a3 a4 b0 b1 b2 b3 b4
    clear hb7 G6 Ba6 Bb6 Bc6
    have b0 := Bb7.out.c0
    have b1 := Bb7.out.c1
    have b2 := Bb7.out.c2
    have b3 := Bb7.out.c3
    have b4 := Bb7.out.c4
    have c0 := Bc7.out.c0
    have c1 := Bc7.out.c1
    have c2 := Bc7.out.c2
    have c3 := Bc7.out.c3
    have c4 := Bc7.out.c4
    go_wp2_with fail
    refine (Implies_any _ _ _ _ _ _ _ _ _ _ m _ (ren_wf u v).a (ren_wf u x).a (ren_wf u v).n1 (ren_wf u v).n2 (G7.ml hM)).mono ?_
    cases hbc : impW (ren u v) (ren u x)
    · rw [show impB (ren u v).a (ren u v).y (ren u v).k (ren u v).n (ren u v).s (ren u x).a (ren u x).y (ren u x).k (ren u x).n (ren u x).s = false from hbc]
      rintro e w8 ⟨rfl, hb8⟩
      have G8 : Gr w w8 := Gr.call G7 hb8
      clear b0 b1 b2 b3 b4 c0 c1 c2 c3 c4
      clear hb8 G7 Ba7 Bb7 Bc7
      go_wp2_with fail
      have OK : Hid ((filterOk (wantsF f) = true ∧ (∀ x ∈ wantsF f, Wnt.Wf x) ∧ 1 ≤ (wantsF f).length ∧ (wantsF f).length ≤ 3) ∧ (filterOk (wantsF g) = true ∧ (∀ x ∈ wantsF g, Wnt.Wf x) ∧ 1 ≤ (wantsF g).length ∧ (wantsF g).length ≤ 3)) := ⟨wantsF_ok f, wantsF_ok g⟩
      have OH : Hid (filterOk (wantsF h) = true ∧ (∀ x ∈ wantsF h, Wnt.Wf x) ∧ 1 ≤ (wantsF h).length ∧ (wantsF h).length ≤ 3) := wantsF_ok h
      have BO : Hid (filterOk (bothF f g) = true ∧ (∀ x ∈ bothF f g, Wnt.Wf x)) := both_ok f g
      obtain ⟨i0, hi, hz0, hz1, hz2⟩ := info_parts Try.infoWant
      refine (wants_any f _ _ _ LF.out (AF.out.gr G8) WF.out).mono ?_
      rintro e wx ⟨vx, rfl, hbx, hownx⟩
      have Gx : Gr w wx := Gr.call G8 hbx
      obtain ⟨gx, cx, rfl⟩ := owns_pos hownx (by have := OK.out.1.2.2.1; omega)
      have HX0 : Hid (wx.ownsRow _ 67 5 (.slice (some ⟨gx, 0, none⟩) (wantsF f).length cx) (wantsF f).length (wcells (wantsF f))) := hownx
      clear hownx hbx
      go_wp2_with fail
      refine (wants_any g _ _ _ LG.out (AG.out.gr Gx) WG.out).mono ?_
      rintro e wy ⟨vy, rfl, hby, howny⟩
      have Gy : Gr w wy := Gr.call Gx hby
      obtain ⟨gy, cy, rfl⟩ := owns_pos howny (by have := OK.out.2.2.2.1; omega)
      have HY0 : Hid (wy.ownsRow _ 67 5 (.slice (some ⟨gy, 0, none⟩) (wantsF g).length cy) (wantsF g).length (wcells (wantsF g))) := howny
      have HX2 : Hid (wy.ownsRow _ 67 5 (.slice (some ⟨gx, 0, none⟩) (wantsF f).length cx) (wantsF f).length (wcells (wantsF f))) := ownsGr HX0.out hby
      clear howny hby HX0
      go_wp2_with fail
      refine (wants_any h _ _ _ LH.out (AH.out.gr Gy) WH.out).mono ?_
      rintro e wz ⟨vz, rfl, hbz, hownz⟩
      have Gz : Gr w wz := Gr.call Gy hbz
      obtain ⟨gz, cz, rfl⟩ := owns_pos hownz (by have := OH.out.2.2.1; omega)
      have FZ : Hid (FiAt wz (some ⟨gz, 0, none⟩) (wantsF h)) := owns_fi hownz
      have HY1 : Hid (wz.ownsRow _ 67 5 (.slice (some ⟨gy, 0, none⟩) (wantsF g).length cy) (wantsF g).length (wcells (wantsF g))) := ownsGr HY0.out hbz
      have HX1 : Hid (wz.ownsRow _ 67 5 (.slice (some ⟨gx, 0, none⟩) (wantsF f).length cx) (wantsF f).length (wcells (wantsF f))) := ownsGr HX2.out hbz
      clear hownz hbz HX2 HY0
      go_wp2_with fail
      refine (Covers_ad (wantsF f) (wantsF f) _ _ _ _ m _ (by have := OK.out.1.2.2.2; unfold maxLen; omega) (owns_fi HX1.out) OK.out.1.2.1 (fi_ok_of OK.out.1.1).2 (by have := OK.out.1.2.2.2; unfold maxLen; omega) (owns_fi HX1.out) OK.out.1.2.1 (fi_ok_of OK.out.1.1).2 (Gz.ml hM)).mono ?_
      rw [cov_sub OK.out.1.1 OK.out.1.1 OK.out.1.2.1 (fun x hx => hx)]
      rintro e wa ⟨rfl, hba⟩
      have Ga : Gr w wa := Gr.call Gz hba
      go_wp2_with fail
      refine (Covers_ad (wantsF f) (wantsF g) _ _ _ _ m _ (by have := OK.out.1.2.2.2; unfold maxLen; omega) ((owns_fi HX1.out).gr hba) OK.out.1.2.1 (fi_ok_of OK.out.1.1).2 (by have := OK.out.2.2.2.2; unfold maxLen; omega) ((owns_fi HY1.out).gr hba) OK.out.2.2.1 (fi_ok_of OK.out.2.1).2 (Ga.ml hM)).mono ?_
      cases hxy : cov (wantsF f) (wantsF g)
      · rintro e wb ⟨rfl, hbb⟩
        have Gb : Gr w wb := Gr.call Ga hbb
        have T1 : Gr wz wb := Gr.call hba hbb
        clear hba hbb
        have HX' : Hid (wb.ownsRow _ 67 5 (.slice (some ⟨gx, 0, none⟩) (wantsF f).length cx) (wantsF f).length (wcells (wantsF f))) := ownsGr HX1.out T1
        have HY' : Hid (wb.ownsRow _ 67 5 (.slice (some ⟨gy, 0, none⟩) (wantsF g).length cy) (wantsF g).length (wcells (wantsF g))) := ownsGr HY1.out T1
        go_wp2_with (at_builtin; refine wpList_append_own _ rfl _ _ 46 rfl wb.heap.size 67 i0 _ 5 56 Try.underlying46 hi hz0 hz1 hz2 rfl (by decide) _ _ _ rfl (World.ownsRow_nil _ _ _ _) ⟨gx, 0, none⟩ (wantsF f).length cx (wcells (wantsF f)) rfl (wcells_len _) (owns_news HX'.out) (wcells_one _) ?c3 ?c4 ?c5 ?_)
        case c3 => have := OK.out.1.2.2.2; unfold maxLen; omega
        case c4 => have := OK.out.1.2.2.2; omega
        case c5 => exact Nat.le_refl _
        intro v1 wp hown1 hgrow1 _
        have P1 : Gr wb wp := owns_grown0 rfl (World.ownsRow_nil wb wb.heap.size 67 5) (Gr.refl _) hgrow1
        have HO1 : Hid (wp.ownsRow wb.heap.size 67 5 v1 (wantsF f).length (wcells (wantsF f))) := hown1
        have hps := P1.size
        clear hown1 hgrow1
        go_wp2_with (at_builtin; refine wpList_append_own _ rfl _ _ 46 rfl wb.heap.size 67 i0 _ 5 56 Try.underlying46 hi hz0 hz1 hz2 rfl (by decide) _ _ _ rfl HO1.out ⟨gy, 0, none⟩ (wantsF g).length cy (wcells (wantsF g)) rfl (wcells_len _) (owns_news (ownsGr HY'.out P1)) (wcells_one _) ?c3 ?c4 ?c5 ?_)
        case c3 => have := OK.out.1.2.2.2; have := OK.out.2.2.2.2; unfold maxLen; omega
        case c4 => have := OK.out.1.2.2.2; have := OK.out.2.2.2.2; omega
        case c5 => exact hps
        intro v2 wq hown2 hgrow2 _
        have P2 : Gr wb wq := owns_grown0 rfl HO1.out P1 hgrow2
        have HO2 : wq.ownsRow wb.heap.size 67 5 v2 (bothF f g).length (wcells (bothF f g)) := by
          rw [bothF, wcells_app, List.length_append]; exact hown2
        obtain ⟨gb, cb, rfl⟩ := owns_pos HO2 (by have := OK.out.1.2.2.1; rw [bothF, List.length_append]; omega)
        have FB : Hid (FiAt wq (some ⟨gb, 0, none⟩) (bothF f g)) := owns_fi HO2
        clear hown2 hgrow2 HO2 HO1
        go_wp2_with fail
        refine (Covers_ad (wantsF f) (bothF f g) _ _ _ _ m _ (by have := OK.out.1.2.2.2; unfold maxLen; omega) ((owns_fi HX'.out).gr P2) OK.out.1.2.1 (fi_ok_of OK.out.1.1).2 (by have := OK.out.1.2.2.2; have := OK.out.2.2.2.2; unfold maxLen; rw [bothF, List.length_append]; omega) FB.out BO.out.2 (fi_ok_of BO.out.1).2 ((Gr.call Gb P2).ml hM)).mono ?_
        rw [cov_sub OK.out.1.1 BO.out.1 OK.out.1.2.1 (fun x hx => List.mem_append.2 (Or.inl hx))]
        rintro e wr ⟨rfl, hbr⟩
        go_wp2_with fail
        refine (Covers_ad (wantsF g) (bothF f g) _ _ _ _ m _ (by have := OK.out.2.2.2.2; unfold maxLen; omega) ((owns_fi HY'.out).gr (Gr.call P2 hbr)) OK.out.2.2.1 (fi_ok_of OK.out.2.1).2 (by have := OK.out.1.2.2.2; have := OK.out.2.2.2.2; unfold maxLen; rw [bothF, List.length_append]; omega) (FB.out.gr hbr) BO.out.2 (fi_ok_of BO.out.1).2 ((Gr.call (Gr.call Gb P2) hbr).ml hM)).mono ?_
        rw [cov_sub OK.out.2.1 BO.out.1 OK.out.2.2.1 (fun x hx => List.mem_append.2 (Or.inr hx))]
        rintro e ws ⟨rfl, hbs⟩
        go_wp2_with fail
        go_ret
        exact ⟨rfl, Gr.call (Gr.call (Gr.call Gb P2) hbr) hbs⟩
      · rintro e wb ⟨rfl, hbb⟩
        have Gb : Gr w wb := Gr.call Ga hbb
        have T1 : Gr wz wb := Gr.call hba hbb
        clear hba hbb
        go_wp2_with fail
        refine (Covers_ad (wantsF g) (wantsF h) _ _ _ _ m _ (by have := OK.out.2.2.2.2; unfold maxLen; omega) ((owns_fi HY1.out).gr T1) OK.out.2.2.1 (fi_ok_of OK.out.2.1).2 (by have := OH.out.2.2.2; unfold maxLen; omega) (FZ.out.gr T1) OH.out.2.1 (fi_ok_of OH.out.1).2 (Gb.ml hM)).mono ?_
        cases hyz : cov (wantsF g) (wantsF h)
        · rintro e wc ⟨rfl, hbc⟩
          have Gc : Gr w wc := Gr.call Gb hbc
          have T2 : Gr wz wc := Gr.call T1 hbc
          clear hbc
          have HX' : Hid (wc.ownsRow _ 67 5 (.slice (some ⟨gx, 0, none⟩) (wantsF f).length cx) (wantsF f).length (wcells (wantsF f))) := ownsGr HX1.out T2
          have HY' : Hid (wc.ownsRow _ 67 5 (.slice (some ⟨gy, 0, none⟩) (wantsF g).length cy) (wantsF g).length (wcells (wantsF g))) := ownsGr HY1.out T2
          go_wp2_with (at_builtin; refine wpList_append_own _ rfl _ _ 46 rfl wc.heap.size 67 i0 _ 5 56 Try.underlying46 hi hz0 hz1 hz2 rfl (by decide) _ _ _ rfl (World.ownsRow_nil _ _ _ _) ⟨gx, 0, none⟩ (wantsF f).length cx (wcells (wantsF f)) rfl (wcells_len _) (owns_news HX'.out) (wcells_one _) ?c3 ?c4 ?c5 ?_)
          case c3 => have := OK.out.1.2.2.2; unfold maxLen; omega
          case c4 => have := OK.out.1.2.2.2; omega
          case c5 => exact Nat.le_refl _
          intro v1 wp hown1 hgrow1 _
          have P1 : Gr wc wp := owns_grown0 rfl (World.ownsRow_nil wc wc.heap.size 67 5) (Gr.refl _) hgrow1
          have HO1 : Hid (wp.ownsRow wc.heap.size 67 5 v1 (wantsF f).length (wcells (wantsF f))) := hown1
          have hps := P1.size
          clear hown1 hgrow1
          go_wp2_with (at_builtin; refine wpList_append_own _ rfl _ _ 46 rfl wc.heap.size 67 i0 _ 5 56 Try.underlying46 hi hz0 hz1 hz2 rfl (by decide) _ _ _ rfl HO1.out ⟨gy, 0, none⟩ (wantsF g).length cy (wcells (wantsF g)) rfl (wcells_len _) (owns_news (ownsGr HY'.out P1)) (wcells_one _) ?c3 ?c4 ?c5 ?_)
          case c3 => have := OK.out.1.2.2.2; have := OK.out.2.2.2.2; unfold maxLen; omega
          case c4 => have := OK.out.1.2.2.2; have := OK.out.2.2.2.2; omega
          case c5 => exact hps
          intro v2 wq hown2 hgrow2 _
          have P2 : Gr wc wq := owns_grown0 rfl HO1.out P1 hgrow2
          have HO2 : wq.ownsRow wc.heap.size 67 5 v2 (bothF f g).length (wcells (bothF f g)) := by
            rw [bothF, wcells_app, List.length_append]; exact hown2
          obtain ⟨gb, cb, rfl⟩ := owns_pos HO2 (by have := OK.out.1.2.2.1; rw [bothF, List.length_append]; omega)
          have FB : Hid (FiAt wq (some ⟨gb, 0, none⟩) (bothF f g)) := owns_fi HO2
          clear hown2 hgrow2 HO2 HO1
          go_wp2_with fail
          refine (Covers_ad (wantsF f) (bothF f g) _ _ _ _ m _ (by have := OK.out.1.2.2.2; unfold maxLen; omega) ((owns_fi HX'.out).gr P2) OK.out.1.2.1 (fi_ok_of OK.out.1.1).2 (by have := OK.out.1.2.2.2; have := OK.out.2.2.2.2; unfold maxLen; rw [bothF, List.length_append]; omega) FB.out BO.out.2 (fi_ok_of BO.out.1).2 ((Gr.call Gc P2).ml hM)).mono ?_
          rw [cov_sub OK.out.1.1 BO.out.1 OK.out.1.2.1 (fun x hx => List.mem_append.2 (Or.inl hx))]
          rintro e wr ⟨rfl, hbr⟩
          go_wp2_with fail
          refine (Covers_ad (wantsF g) (bothF f g) _ _ _ _ m _ (by have := OK.out.2.2.2.2; unfold maxLen; omega) ((owns_fi HY'.out).gr (Gr.call P2 hbr)) OK.out.2.2.1 (fi_ok_of OK.out.2.1).2 (by have := OK.out.1.2.2.2; have := OK.out.2.2.2.2; unfold maxLen; rw [bothF, List.length_append]; omega) (FB.out.gr hbr) BO.out.2 (fi_ok_of BO.out.1).2 ((Gr.call (Gr.call Gc P2) hbr).ml hM)).mono ?_
          rw [cov_sub OK.out.2.1 BO.out.1 OK.out.2.2.1 (fun x hx => List.mem_append.2 (Or.inr hx))]
          rintro e ws ⟨rfl, hbs⟩
          go_wp2_with fail
          go_ret
          exact ⟨rfl, Gr.call (Gr.call (Gr.call Gc P2) hbr) hbs⟩
        · rintro e wc ⟨rfl, hbc⟩
          have Gc : Gr w wc := Gr.call Gb hbc
          have T2 : Gr wz wc := Gr.call T1 hbc
          clear hbc
          go_wp2_with fail
          refine (Covers_ad (wantsF f) (wantsF h) _ _ _ _ m _ (by have := OK.out.1.2.2.2; unfold maxLen; omega) ((owns_fi HX1.out).gr T2) OK.out.1.2.1 (fi_ok_of OK.out.1.1).2 (by have := OH.out.2.2.2; unfold maxLen; omega) (FZ.out.gr T2) OH.out.2.1 (fi_ok_of OH.out.1).2 (Gc.ml hM)).mono ?_
          rw [cov_trans OK.out.1.2.1 OK.out.2.2.1 OH.out.2.1 hxy hyz]
          rintro e wd ⟨rfl, hbd⟩
          have Gd : Gr w wd := Gr.call Gc hbd
          have T3 : Gr wz wd := Gr.call T2 hbd
          clear hbd
          have HX' : Hid (wd.ownsRow _ 67 5 (.slice (some ⟨gx, 0, none⟩) (wantsF f).length cx) (wantsF f).length (wcells (wantsF f))) := ownsGr HX1.out T3
          have HY' : Hid (wd.ownsRow _ 67 5 (.slice (some ⟨gy, 0, none⟩) (wantsF g).length cy) (wantsF g).length (wcells (wantsF g))) := ownsGr HY1.out T3
          go_wp2_with (at_builtin; refine wpList_append_own _ rfl _ _ 46 rfl wd.heap.size 67 i0 _ 5 56 Try.underlying46 hi hz0 hz1 hz2 rfl (by decide) _ _ _ rfl (World.ownsRow_nil _ _ _ _) ⟨gx, 0, none⟩ (wantsF f).length cx (wcells (wantsF f)) rfl (wcells_len _) (owns_news HX'.out) (wcells_one _) ?c3 ?c4 ?c5 ?_)
          case c3 => have := OK.out.1.2.2.2; unfold maxLen; omega
          case c4 => have := OK.out.1.2.2.2; omega
          case c5 => exact Nat.le_refl _
          intro v1 wp hown1 hgrow1 _
          have P1 : Gr wd wp := owns_grown0 rfl (World.ownsRow_nil wd wd.heap.size 67 5) (Gr.refl _) hgrow1
          have HO1 : Hid (wp.ownsRow wd.heap.size 67 5 v1 (wantsF f).length (wcells (wantsF f))) := hown1
          have hps := P1.size
          clear hown1 hgrow1
          go_wp2_with (at_builtin; refine wpList_append_own _ rfl _ _ 46 rfl wd.heap.size 67 i0 _ 5 56 Try.underlying46 hi hz0 hz1 hz2 rfl (by decide) _ _ _ rfl HO1.out ⟨gy, 0, none⟩ (wantsF g).length cy (wcells (wantsF g)) rfl (wcells_len _) (owns_news (ownsGr HY'.out P1)) (wcells_one _) ?c3 ?c4 ?c5 ?_)
          case c3 => have := OK.out.1.2.2.2; have := OK.out.2.2.2.2; unfold maxLen; omega
          case c4 => have := OK.out.1.2.2.2; have := OK.out.2.2.2.2; omega
          case c5 => exact hps
          intro v2 wq hown2 hgrow2 _
          have P2 : Gr wd wq := owns_grown0 rfl HO1.out P1 hgrow2
          have HO2 : wq.ownsRow wd.heap.size 67 5 v2 (bothF f g).length (wcells (bothF f g)) := by
            rw [bothF, wcells_app, List.length_append]; exact hown2
          obtain ⟨gb, cb, rfl⟩ := owns_pos HO2 (by have := OK.out.1.2.2.1; rw [bothF, List.length_append]; omega)
          have FB : Hid (FiAt wq (some ⟨gb, 0, none⟩) (bothF f g)) := owns_fi HO2
          clear hown2 hgrow2 HO2 HO1
          go_wp2_with fail
          refine (Covers_ad (wantsF f) (bothF f g) _ _ _ _ m _ (by have := OK.out.1.2.2.2; unfold maxLen; omega) ((owns_fi HX'.out).gr P2) OK.out.1.2.1 (fi_ok_of OK.out.1.1).2 (by have := OK.out.1.2.2.2; have := OK.out.2.2.2.2; unfold maxLen; rw [bothF, List.length_append]; omega) FB.out BO.out.2 (fi_ok_of BO.out.1).2 ((Gr.call Gd P2).ml hM)).mono ?_
          rw [cov_sub OK.out.1.1 BO.out.1 OK.out.1.2.1 (fun x hx => List.mem_append.2 (Or.inl hx))]
          rintro e wr ⟨rfl, hbr⟩
          go_wp2_with fail
          refine (Covers_ad (wantsF g) (bothF f g) _ _ _ _ m _ (by have := OK.out.2.2.2.2; unfold maxLen; omega) ((owns_fi HY'.out).gr (Gr.call P2 hbr)) OK.out.2.2.1 (fi_ok_of OK.out.2.1).2 (by have := OK.out.1.2.2.2; have := OK.out.2.2.2.2; unfold maxLen; rw [bothF, List.length_append]; omega) (FB.out.gr hbr) BO.out.2 (fi_ok_of BO.out.1).2 ((Gr.call (Gr.call Gd P2) hbr).ml hM)).mono ?_
          rw [cov_sub OK.out.2.1 BO.out.1 OK.out.2.2.1 (fun x hx => List.mem_append.2 (Or.inr hx))]
          rintro e ws ⟨rfl, hbs⟩
          go_wp2_with fail
          go_ret
          exact ⟨rfl, Gr.call (Gr.call (Gr.call Gd P2) hbr) hbs⟩
    · rw [show impB (ren u v).a (ren u v).y (ren u v).k (ren u v).n (ren u v).s (ren u x).a (ren u x).y (ren u x).k (ren u x).n (ren u x).s = true from hbc]
      rintro e w8 ⟨rfl, hb8⟩
      have G8 : Gr w w8 := Gr.call G7 hb8
      have Ba8 : Hid (Box w8 w2.heap.size (wantF u)) := Ba7.out.gr hb8
      have Bc8 : Hid (Box w8 w4.heap.size (ren u x)) := Bc7.out.gr hb8
      clear b0 b1 b2 b3 b4 c0 c1 c2 c3 c4
      clear hb8 G7 Ba7 Bb7 Bc7
      have a0 := Ba8.out.c0
      have a1 := Ba8.out.c1
      have a2 := Ba8.out.c2
      have a3 := Ba8.out.c3
      have a4 := Ba8.out.c4
      have c0 := Bc8.out.c0
      have c1 := Bc8.out.c1
      have c2 := Bc8.out.c2
      have c3 := Bc8.out.c3
      have c4 := Bc8.out.c4
      go_wp2_with fail
      refine (Implies_any _ _ _ _ _ _ _ _ _ _ m _ (wantF_wf u).a (ren_wf u x).a (wantF_wf u).n1 (wantF_wf u).n2 (G8.ml hM)).mono ?_
      rw [show impB (wantF u).a (wantF u).y (wantF u).k (wantF u).n (wantF u).s (ren u x).a (ren u x).y (ren u x).k (ren u x).n (ren u x).s = true from Tr.out hab hbc]
      rintro e w9 ⟨rfl, hb9⟩
      have G9 : Gr w w9 := Gr.call G8 hb9
      clear a0 a1 a2 a3 a4 c0 c1 c2 c3 c4
      clear hb9 G8 Ba8 Bc8
      go_wp2_with fail
      have OK : Hid ((filterOk (wantsF f) = true ∧ (∀ x ∈ wantsF f, Wnt.Wf x) ∧ 1 ≤ (wantsF f).length ∧ (wantsF f).length ≤ 3) ∧ (filterOk (wantsF g) = true ∧ (∀ x ∈ wantsF g, Wnt.Wf x) ∧ 1 ≤ (wantsF g).length ∧ (wantsF g).length ≤ 3)) := ⟨wantsF_ok f, wantsF_ok g⟩
      have OH : Hid (filterOk (wantsF h) = true ∧ (∀ x ∈ wantsF h, Wnt.Wf x) ∧ 1 ≤ (wantsF h).length ∧ (wantsF h).length ≤ 3) := wantsF_ok h
      have BO : Hid (filterOk (bothF f g) = true ∧ (∀ x ∈ bothF f g, Wnt.Wf x)) := both_ok f g
      obtain ⟨i0, hi, hz0, hz1, hz2⟩ := info_parts Try.infoWant
      refine (wants_any f _ _ _ LF.out (AF.out.gr G9) WF.out).mono ?_
      rintro e wx ⟨vx, rfl, hbx, hownx⟩
      have Gx : Gr w wx := Gr.call G9 hbx
      obtain ⟨gx, cx, rfl⟩ := owns_pos hownx (by have := OK.out.1.2.2.1; omega)
      have HX0 : Hid (wx.ownsRow _ 67 5 (.slice (some ⟨gx, 0, none⟩) (wantsF f).length cx) (wantsF f).length (wcells (wantsF f))) := hownx
      clear hownx hbx
      go_wp2_with fail
      refine (wants_any g _ _ _ LG.out (AG.out.gr Gx) WG.out).mono ?_
      rintro e wy ⟨vy, rfl, hby, howny⟩
      have Gy : Gr w wy := Gr.call Gx hby
      obtain ⟨gy, cy, rfl⟩ := owns_pos howny (by have := OK.out.2.2.2.1; omega)
      have HY0 : Hid (wy.ownsRow _ 67 5 (.slice (some ⟨gy, 0, none⟩) (wantsF g).length cy) (wantsF g).length (wcells (wantsF g))) := howny
      have HX2 : Hid (wy.ownsRow _ 67 5 (.slice (some ⟨gx, 0, none⟩) (wantsF f).length cx) (wantsF f).length (wcells (wantsF f))) := ownsGr HX0.out hby
      clear howny hby HX0
      go_wp2_with fail
      refine (wants_any h _ _ _ LH.out (AH.out.gr Gy) WH.out).mono ?_
      rintro e wz ⟨vz, rfl, hbz, hownz⟩
      have Gz : Gr w wz := Gr.call Gy hbz
      obtain ⟨gz, cz, rfl⟩ := owns_pos hownz (by have := OH.out.2.2.1; omega)
      have FZ : Hid (FiAt wz (some ⟨gz, 0, none⟩) (wantsF h)) := owns_fi hownz
      have HY1 : Hid (wz.ownsRow _ 67 5 (.slice (some ⟨gy, 0, none⟩) (wantsF g).length cy) (wantsF g).length (wcells (wantsF g))) := ownsGr HY0.out hbz
      have HX1 : Hid (wz.ownsRow _ 67 5 (.slice (some ⟨gx, 0, none⟩) (wantsF f).length cx) (wantsF f).length (wcells (wantsF f))) := ownsGr HX2.out hbz
      clear hownz hbz HX2 HY0
      go_wp2_with fail
      refine (Covers_ad (wantsF f) (wantsF f) _ _ _ _ m _ (by have := OK.out.1.2.2.2; unfold maxLen; omega) (owns_fi HX1.out) OK.out.1.2.1 (fi_ok_of OK.out.1.1).2 (by have := OK.out.1.2.2.2; unfold maxLen; omega) (owns_fi HX1.out) OK.out.1.2.1 (fi_ok_of OK.out.1.1).2 (Gz.ml hM)).mono ?_
      rw [cov_sub OK.out.1.1 OK.out.1.1 OK.out.1.2.1 (fun x hx => hx)]
      rintro e wa ⟨rfl, hba⟩
      have Ga : Gr w wa := Gr.call Gz hba
      go_wp2_with fail
      refine (Covers_ad (wantsF f) (wantsF g) _ _ _ _ m _ (by have := OK.out.1.2.2.2; unfold maxLen; omega) ((owns_fi HX1.out).gr hba) OK.out.1.2.1 (fi_ok_of OK.out.1.1).2 (by have := OK.out.2.2.2.2; unfold maxLen; omega) ((owns_fi HY1.out).gr hba) OK.out.2.2.1 (fi_ok_of OK.out.2.1).2 (Ga.ml hM)).mono ?_
      cases hxy : cov (wantsF f) (wantsF g)
      · rintro e wb ⟨rfl, hbb⟩
        have Gb : Gr w wb := Gr.call Ga hbb
        have T1 : Gr wz wb := Gr.call hba hbb
        clear hba hbb
        have HX' : Hid (wb.ownsRow _ 67 5 (.slice (some ⟨gx, 0, none⟩) (wantsF f).length cx) (wantsF f).length (wcells (wantsF f))) := ownsGr HX1.out T1
        have HY' : Hid (wb.ownsRow _ 67 5 (.slice (some ⟨gy, 0, none⟩) (wantsF g).length cy) (wantsF g).length (wcells (wantsF g))) := ownsGr HY1.out T1
        go_wp2_with (at_builtin; refine wpList_append_own _ rfl _ _ 46 rfl wb.heap.size 67 i0 _ 5 56 Try.underlying46 hi hz0 hz1 hz2 rfl (by decide) _ _ _ rfl (World.ownsRow_nil _ _ _ _) ⟨gx, 0, none⟩ (wantsF f).length cx (wcells (wantsF f)) rfl (wcells_len _) (owns_news HX'.out) (wcells_one _) ?c3 ?c4 ?c5 ?_)
        case c3 => have := OK.out.1.2.2.2; unfold maxLen; omega
        case c4 => have := OK.out.1.2.2.2; omega
        case c5 => exact Nat.le_refl _
        intro v1 wp hown1 hgrow1 _
        have P1 : Gr wb wp := owns_grown0 rfl (World.ownsRow_nil wb wb.heap.size 67 5) (Gr.refl _) hgrow1
        have HO1 : Hid (wp.ownsRow wb.heap.size 67 5 v1 (wantsF f).length (wcells (wantsF f))) := hown1
        have hps := P1.size
        clear hown1 hgrow1
        go_wp2_with (at_builtin; refine wpList_append_own _ rfl _ _ 46 rfl wb.heap.size 67 i0 _ 5 56 Try.underlying46 hi hz0 hz1 hz2 rfl (by decide) _ _ _ rfl HO1.out ⟨gy, 0, none⟩ (wantsF g).length cy (wcells (wantsF g)) rfl (wcells_len _) (owns_news (ownsGr HY'.out P1)) (wcells_one _) ?c3 ?c4 ?c5 ?_)
        case c3 => have := OK.out.1.2.2.2; have := OK.out.2.2.2.2; unfold maxLen; omega
        case c4 => have := OK.out.1.2.2.2; have := OK.out.2.2.2.2; omega
        case c5 => exact hps
        intro v2 wq hown2 hgrow2 _
        have P2 : Gr wb wq := owns_grown0 rfl HO1.out P1 hgrow2
        have HO2 : wq.ownsRow wb.heap.size 67 5 v2 (bothF f g).length (wcells (bothF f g)) := by
          rw [bothF, wcells_app, List.length_append]; exact hown2
        obtain ⟨gb, cb, rfl⟩ := owns_pos HO2 (by have := OK.out.1.2.2.1; rw [bothF, List.length_append]; omega)
        have FB : Hid (FiAt wq (some ⟨gb, 0, none⟩) (bothF f g)) := owns_fi HO2
        clear hown2 hgrow2 HO2 HO1
        go_wp2_with fail
        refine (Covers_ad (wantsF f) (bothF f g) _ _ _ _ m _ (by have := OK.out.1.2.2.2; unfold maxLen; omega) ((owns_fi HX'.out).gr P2) OK.out.1.2.1 (fi_ok_of OK.out.1.1).2 (by have := OK.out.1.2.2.2; have := OK.out.2.2.2.2; unfold maxLen; rw [bothF, List.length_append]; omega) FB.out BO.out.2 (fi_ok_of BO.out.1).2 ((Gr.call Gb P2).ml hM)).mono ?_
        rw [cov_sub OK.out.1.1 BO.out.1 OK.out.1.2.1 (fun x hx => List.mem_append.2 (Or.inl hx))]
        rintro e wr ⟨rfl, hbr⟩
        go_wp2_with fail
        refine (Covers_ad (wantsF g) (bothF f g) _ _ _ _ m _ (by have := OK.out.2.2.2.2; unfold maxLen; omega) ((owns_fi HY'.out).gr (Gr.call P2 hbr)) OK.out.2.2.1 (fi_ok_of OK.out.2.1).2 (by have := OK.out.1.2.2.2; have := OK.out.2.2.2.2; unfold maxLen; rw [bothF, List.length_append]; omega) (FB.out.gr hbr) BO.out.2 (fi_ok_of BO.out.1).2 ((Gr.call (Gr.call Gb P2) hbr).ml hM)).mono ?_
        rw [cov_sub OK.out.2.1 BO.out.1 OK.out.2.2.1 (fun x hx => List.mem_append.2 (Or.inr hx))]
        rintro e ws ⟨rfl, hbs⟩
        go_wp2_with fail
        go_ret
        exact ⟨rfl, Gr.call (Gr.call (Gr.call Gb P2) hbr) hbs⟩
      · rintro e wb ⟨rfl, hbb⟩
        have Gb : Gr w wb := Gr.call Ga hbb
        have T1 : Gr wz wb := Gr.call hba hbb
        clear hba hbb
        go_wp2_with fail
        refine (Covers_ad (wantsF g) (wantsF h) _ _ _ _ m _ (by have := OK.out.2.2.2.2; unfold maxLen; omega) ((owns_fi HY1.out).gr T1) OK.out.2.2.1 (fi_ok_of OK.out.2.1).2 (by have := OH.out.2.2.2; unfold maxLen; omega) (FZ.out.gr T1) OH.out.2.1 (fi_ok_of OH.out.1).2 (Gb.ml hM)).mono ?_
        cases hyz : cov (wantsF g) (wantsF h)
        · rintro e wc ⟨rfl, hbc⟩
          have Gc : Gr w wc := Gr.call Gb hbc
          have T2 : Gr wz wc := Gr.call T1 hbc
          clear hbc
          have HX' : Hid (wc.ownsRow _ 67 5 (.slice (some ⟨gx, 0, none⟩) (wantsF f).length cx) (wantsF f).length (wcells (wantsF f))) := ownsGr HX1.out T2
          have HY' : Hid (wc.ownsRow _ 67 5 (.slice (some ⟨gy, 0, none⟩) (wantsF g).length cy) (wantsF g).length (wcells (wantsF g))) := ownsGr HY1.out T2
          go_wp2_with (at_builtin; refine wpList_append_own _ rfl _ _ 46 rfl wc.heap.size 67 i0 _ 5 56 Try.underlying46 hi hz0 hz1 hz2 rfl (by decide) _ _ _ rfl (World.ownsRow_nil _ _ _ _) ⟨gx, 0, none⟩ (wantsF f).length cx (wcells (wantsF f)) rfl (wcells_len _) (owns_news HX'.out) (wcells_one _) ?c3 ?c4 ?c5 ?_)
          case c3 => have := OK.out.1.2.2.2; unfold maxLen; omega
          case c4 => have := OK.out.1.2.2.2; omega
          case c5 => exact Nat.le_refl _
          intro v1 wp hown1 hgrow1 _
          have P1 : Gr wc wp := owns_grown0 rfl (World.ownsRow_nil wc wc.heap.size 67 5) (Gr.refl _) hgrow1
          have HO1 : Hid (wp.ownsRow wc.heap.size 67 5 v1 (wantsF f).length (wcells (wantsF f))) := hown1
          have hps := P1.size
          clear hown1 hgrow1
          go_wp2_with (at_builtin; refine wpList_append_own _ rfl _ _ 46 rfl wc.heap.size 67 i0 _ 5 56 Try.underlying46 hi hz0 hz1 hz2 rfl (by decide) _ _ _ rfl HO1.out ⟨gy, 0, none⟩ (wantsF g).length cy (wcells (wantsF g)) rfl (wcells_len _) (owns_news (ownsGr HY'.out P1)) (wcells_one _) ?c3 ?c4 ?c5 ?_)
          case c3 => have := OK.out.1.2.2.2; have := OK.out.2.2.2.2; unfold maxLen; omega
          case c4 => have := OK.out.1.2.2.2; have := OK.out.2.2.2.2; omega
          case c5 => exact hps
          intro v2 wq hown2 hgrow2 _
          have P2 : Gr wc wq := owns_grown0 rfl HO1.out P1 hgrow2
          have HO2 : wq.ownsRow wc.heap.size 67 5 v2 (bothF f g).length (wcells (bothF f g)) := by
            rw [bothF, wcells_app, List.length_append]; exact hown2
          obtain ⟨gb, cb, rfl⟩ := owns_pos HO2 (by have := OK.out.1.2.2.1; rw [bothF, List.length_append]; omega)
          have FB : Hid (FiAt wq (some ⟨gb, 0, none⟩) (bothF f g)) := owns_fi HO2
          clear hown2 hgrow2 HO2 HO1
          go_wp2_with fail
          refine (Covers_ad (wantsF f) (bothF f g) _ _ _ _ m _ (by have := OK.out.1.2.2.2; unfold maxLen; omega) ((owns_fi HX'.out).gr P2) OK.out.1.2.1 (fi_ok_of OK.out.1.1).2 (by have := OK.out.1.2.2.2; have := OK.out.2.2.2.2; unfold maxLen; rw [bothF, List.length_append]; omega) FB.out BO.out.2 (fi_ok_of BO.out.1).2 ((Gr.call Gc P2).ml hM)).mono ?_
          rw [cov_sub OK.out.1.1 BO.out.1 OK.out.1.2.1 (fun x hx => List.mem_append.2 (Or.inl hx))]
          rintro e wr ⟨rfl, hbr⟩
          go_wp2_with fail
          refine (Covers_ad (wantsF g) (bothF f g) _ _ _ _ m _ (by have := OK.out.2.2.2.2; unfold maxLen; omega) ((owns_fi HY'.out).gr (Gr.call P2 hbr)) OK.out.2.2.1 (fi_ok_of OK.out.2.1).2 (by have := OK.out.1.2.2.2; have := OK.out.2.2.2.2; unfold maxLen; rw [bothF, List.length_append]; omega) (FB.out.gr hbr) BO.out.2 (fi_ok_of BO.out.1).2 ((Gr.call (Gr.call Gc P2) hbr).ml hM)).mono ?_
          rw [cov_sub OK.out.2.1 BO.out.1 OK.out.2.2.1 (fun x hx => List.mem_append.2 (Or.inr hx))]
          rintro e ws ⟨rfl, hbs⟩
          go_wp2_with fail
          go_ret
          exact ⟨rfl, Gr.call (Gr.call (Gr.call Gc P2) hbr) hbs⟩
        · rintro e wc ⟨rfl, hbc⟩
          have Gc : Gr w wc := Gr.call Gb hbc
          have T2 : Gr wz wc := Gr.call T1 hbc
          clear hbc
          go_wp2_with fail
          refine (Covers_ad (wantsF f) (wantsF h) _ _ _ _ m _ (by have := OK.out.1.2.2.2; unfold maxLen; omega) ((owns_fi HX1.out).gr T2) OK.out.1.2.1 (fi_ok_of OK.out.1.1).2 (by have := OH.out.2.2.2; unfold maxLen; omega) (FZ.out.gr T2) OH.out.2.1 (fi_ok_of OH.out.1).2 (Gc.ml hM)).mono ?_
          rw [cov_trans OK.out.1.2.1 OK.out.2.2.1 OH.out.2.1 hxy hyz]
          rintro e wd ⟨rfl, hbd⟩
          have Gd : Gr w wd := Gr.call Gc hbd
          have T3 : Gr wz wd := Gr.call T2 hbd
          clear hbd
          have HX' : Hid (wd.ownsRow _ 67 5 (.slice (some ⟨gx, 0, none⟩) (wantsF f).length cx) (wantsF f).length (wcells (wantsF f))) := ownsGr HX1.out T3
          have HY' : Hid (wd.ownsRow _ 67 5 (.slice (some ⟨gy, 0, none⟩) (wantsF g).length cy) (wantsF g).length (wcells (wantsF g))) := ownsGr HY1.out T3
          go_wp2_with (at_builtin; refine wpList_append_own _ rfl _ _ 46 rfl wd.heap.size 67 i0 _ 5 56 Try.underlying46 hi hz0 hz1 hz2 rfl (by decide) _ _ _ rfl (World.ownsRow_nil _ _ _ _) ⟨gx, 0, none⟩ (wantsF f).length cx (wcells (wantsF f)) rfl (wcells_len _) (owns_news HX'.out) (wcells_one _) ?c3 ?c4 ?c5 ?_)
          case c3 => have := OK.out.1.2.2.2; unfold maxLen; omega
          case c4 => have := OK.out.1.2.2.2; omega
          case c5 => exact Nat.le_refl _
          intro v1 wp hown1 hgrow1 _
          have P1 : Gr wd wp := owns_grown0 rfl (World.ownsRow_nil wd wd.heap.size 67 5) (Gr.refl _) hgrow1
          have HO1 : Hid (wp.ownsRow wd.heap.size 67 5 v1 (wantsF f).length (wcells (wantsF f))) := hown1
          have hps := P1.size
          clear hown1 hgrow1
          go_wp2_with (at_builtin; refine wpList_append_own _ rfl _ _ 46 rfl wd.heap.size 67 i0 _ 5 56 Try.underlying46 hi hz0 hz1 hz2 rfl (by decide) _ _ _ rfl HO1.out ⟨gy, 0, none⟩ (wantsF g).length cy (wcells (wantsF g)) rfl (wcells_len _) (owns_news (ownsGr HY'.out P1)) (wcells_one _) ?c3 ?c4 ?c5 ?_)
          case c3 => have := OK.out.1.2.2.2; have := OK.out.2.2.2.2; unfold maxLen; omega
          case c4 => have := OK.out.1.2.2.2; have := OK.out.2.2.2.2; omega
          case c5 => exact hps
          intro v2 wq hown2 hgrow2 _
          have P2 : Gr wd wq := owns_grown0 rfl HO1.out P1 hgrow2
          have HO2 : wq.ownsRow wd.heap.size 67 5 v2 (bothF f g).length (wcells (bothF f g)) := by
            rw [bothF, wcells_app, List.length_append]; exact hown2
          obtain ⟨gb, cb, rfl⟩ := owns_pos HO2 (by have := OK.out.1.2.2.1; rw [bothF, List.length_append]; omega)
          have FB : Hid (FiAt wq (some ⟨gb, 0, none⟩) (bothF f g)) := owns_fi HO2
          clear hown2 hgrow2 HO2 HO1
          go_wp2_with fail
          refine (Covers_ad (wantsF f) (bothF f g) _ _ _ _ m _ (by have := OK.out.1.2.2.2; unfold maxLen; omega) ((owns_fi HX'.out).gr P2) OK.out.1.2.1 (fi_ok_of OK.out.1.1).2 (by have := OK.out.1.2.2.2; have := OK.out.2.2.2.2; unfold maxLen; rw [bothF, List.length_append]; omega) FB.out BO.out.2 (fi_ok_of BO.out.1).2 ((Gr.call Gd P2).ml hM)).mono ?_
          rw [cov_sub OK.out.1.1 BO.out.1 OK.out.1.2.1 (fun x hx => List.mem_append.2 (Or.inl hx))]
          rintro e wr ⟨rfl, hbr⟩
          go_wp2_with fail
          refine (Covers_ad (wantsF g) (bothF f g) _ _ _ _ m _ (by have := OK.out.2.2.2.2; unfold maxLen; omega) ((owns_fi HY'.out).gr (Gr.call P2 hbr)) OK.out.2.2.1 (fi_ok_of OK.out.2.1).2 (by have := OK.out.1.2.2.2; have := OK.out.2.2.2.2; unfold maxLen; rw [bothF, List.length_append]; omega) (FB.out.gr hbr) BO.out.2 (fi_ok_of BO.out.1).2 ((Gr.call (Gr.call Gd P2) hbr).ml hM)).mono ?_
          rw [cov_sub OK.out.2.1 BO.out.1 OK.out.2.2.1 (fun x hx => List.mem_append.2 (Or.inr hx))]
          rintro e ws ⟨rfl, hbs⟩
          go_wp2_with fail
          go_ret
          exact ⟨rfl, Gr.call (Gr.call (Gr.call Gd P2) hbr) hbs⟩
end Go.Proofs.Ytecnfgikbmcgoaa
