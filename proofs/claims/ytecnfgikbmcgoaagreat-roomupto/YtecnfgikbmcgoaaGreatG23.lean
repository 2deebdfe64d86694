import Derived.Test.YtecnfgikbmcgoaaGreatG22
import Derived.Test.YtecnfgikbmcgoaaGreatG4
import Derived.Test.YtecnfgikbmcgoaaGreatG18
namespace Go.Proofs.YtecnfgikbmcgoaaGreat
open Go.RowKit

def moreW : Wnt := ⟨⟨#[97]⟩, 6, 1, 3, ⟨#[]⟩⟩
def threeA : Atr := ⟨⟨#[97]⟩, 1, 3, ⟨#[]⟩⟩
theorem moreW_ok : wOk moreW = true := by
  simp only [wOk, wantOk, moreW, name97, Bool.true_and]
  rw [wayOk_mid _ _ _ _ (by omega) (by omega)]; simp [valOk]
theorem live_fi : filterOk [anyW] = true ∧ filterOk [moreW] = true := by simp [filterOk, anyW_ok, moreW_ok]
theorem live_ev : evOk [threeA] = true := one_ok threeA name97 (by simp [threeA, valOk])
theorem live_mat : mat [threeA] [anyW] = true ∧ mat [threeA] [moreW] = false := by simp [mat, ans, threeA, anyW, moreW, lets]
theorem live_cov : cov [anyW] [moreW] = true ∧ cov [moreW] [anyW] = false := by
  have h1 := anyW_ok
  have h2 := moreW_ok
  simp only [wOk, anyW, moreW] at h1 h2
  refine ⟨?_, ?_⟩
  · rw [cov, live_fi.1, live_fi.2]; simp [impW, impB, anyW, moreW, h1, h2, withinB]
  · rw [cov, live_fi.1, live_fi.2]; simp [impW, impB, anyW, moreW, h1, h2, withinB, nothingB]
theorem live_wf : (∀ x ∈ [anyW], Wnt.Wf x) ∧ (∀ x ∈ [moreW], Wnt.Wf x) ∧ (∀ x ∈ [threeA], Atr.Wf x) := by
  refine ⟨?_, ?_, ?_⟩
  all_goals
    intro x hx
    simp at hx; subst hx
    constructor <;> decide

def liveW (w : World) : World := (((w.alloc (.cells #[.string ⟨#[97]⟩, .int .i64 1, .int .i64 0, .int .i64 0, .string ⟨#[]⟩] 76)).alloc (.cells #[.string ⟨#[97]⟩, .int .i64 6, .int .i64 1, .int .i64 3, .string ⟨#[]⟩] 76)).alloc (.cells #[.string ⟨#[97]⟩, .int .i64 1, .int .i64 3, .string ⟨#[]⟩] 74))
theorem live_gr (w : World) : Gr w (liveW w) := (((Gr.refl w).alloc _).alloc _).alloc _
theorem live_any (w : World) : FiAt (liveW w) (some ⟨w.heap.size, 0, none⟩) [anyW] := by
  refine Or.inr ⟨w.heap.size, 0, rfl, by simp [liveW]; omega, fun i hi => ?_⟩
  have e : i = 0 := by simpa using hi
  subst e
  simp [liveW, go_sem, wat, anyW]
theorem live_more (w : World) : FiAt (liveW w) (some ⟨w.heap.size + 1, 0, none⟩) [moreW] := by
  refine Or.inr ⟨w.heap.size + 1, 0, rfl, by simp [liveW], fun i hi => ?_⟩
  have e : i = 0 := by simpa using hi
  subst e
  simp [liveW, go_sem, wat, moreW]
theorem live_three (w : World) : EvAt (liveW w) (some ⟨w.heap.size + 1 + 1, 0, none⟩) [threeA] := by
  refine Or.inr ⟨w.heap.size + 1 + 1, 0, rfl, by simp [liveW], fun i hi => ?_⟩
  have e : i = 0 := by simpa using hi
  subst e
  simp [liveW, go_sem, aat, threeA]
theorem one_len {α : Type} (x : α) : [x].length ≤ maxLen := by simp [maxLen]
theorem Covers_ad (f g : List Wnt) (ad ad' : Option Addr) (cap cap' : Nat) (m : Int) (w : World) (hl : f.length ≤ maxLen) (h : FiAt w ad f) (hwf : ∀ x ∈ f, Wnt.Wf x) (hne : f ≠ [])
    (hl' : g.length ≤ maxLen) (h' : FiAt w ad' g) (hwf' : ∀ x ∈ g, Wnt.Wf x) (hne' : g ≠ []) (hM : Ml m w) :
    Calls Tryz.prog 44 #[.slice ad f.length cap, .slice ad' g.length cap'] w fun e w' => e = .returned (.bool (cov f g)) ∧ Gr w w' := by
  rcases h with h | ⟨b, off, rfl, hb, hat⟩
  · exact absurd h hne
  rcases h' with h' | ⟨b', off', rfl, hb', hat'⟩
  · exact absurd h' hne'
  exact Covers_any f g b off cap b' off' cap' m w hl hb hat hwf hl' hb' hat' hwf' hM

set_option maxHeartbeats 2000000 in
theorem lives_any (m : Int) (w : World) (hM : Ml m w) : Calls Tryz.prog 20 #[] w fun e w' => e = .returned (.bool true) ∧ Gr w w' := by
  have HW : Hid ((∀ x ∈ [anyW], Wnt.Wf x) ∧ (∀ x ∈ [moreW], Wnt.Wf x) ∧ (∀ x ∈ [threeA], Atr.Wf x)) := live_wf
  have HF : Hid (filterOk [anyW] = true ∧ filterOk [moreW] = true) := live_fi
  have HE : Hid (evOk [threeA] = true) := live_ev
  have HM : Hid (mat [threeA] [anyW] = true ∧ mat [threeA] [moreW] = false) := live_mat
  have HC : Hid (cov [anyW] [moreW] = true ∧ cov [moreW] [anyW] = false) := live_cov
  go_enter Tryz.func20, Tryz.ntmps20
  go_wp2_with fail
  have hMl : Ml m (liveW w) := (live_gr w).ml hM
  refine (one_any [threeA] [anyW] _ _ 1 1 m (liveW w) (one_len _) (live_three w) HW.out.2.2 (one_len _) (live_any w) HW.out.1 HE.out HF.out.1 hMl).mono ?_
  rw [HM.out.1]
  rintro e w1 ⟨rfl, hb1⟩
  have g1 : Gr (liveW w) w1 := hb1
  clear hb1
  go_wp2_with fail
  refine (one_any [threeA] [moreW] _ _ 1 1 m w1 (one_len _) ((live_three w).gr g1) HW.out.2.2 (one_len _) ((live_more w).gr g1) HW.out.2.1 HE.out HF.out.2 (g1.ml hMl)).mono ?_
  rw [HM.out.2]
  rintro e w2 ⟨rfl, hb2⟩
  have g2 : Gr (liveW w) w2 := Gr.call g1 hb2
  clear hb2
  go_wp2_with fail
  refine (Covers_ad [anyW] [moreW] _ _ 1 1 m w2 (one_len _) ((live_any w).gr g2) HW.out.1 (by simp) (one_len _) ((live_more w).gr g2) HW.out.2.1 (by simp) (g2.ml hMl)).mono ?_
  rw [HC.out.1]
  rintro e w3 ⟨rfl, hb3⟩
  have g3 : Gr (liveW w) w3 := Gr.call g2 hb3
  clear hb3
  go_wp2_with fail
  refine (Covers_ad [moreW] [anyW] _ _ 1 1 m w3 (one_len _) ((live_more w).gr g3) HW.out.2.1 (by simp) (one_len _) ((live_any w).gr g3) HW.out.1 (by simp) (g3.ml hMl)).mono ?_
  rw [HC.out.2]
  rintro e w4 ⟨rfl, hb4⟩
  have g4 : Gr (liveW w) w4 := Gr.call g3 hb4
  clear hb4
  go_wp2_with fail
  go_ret
  exact ⟨rfl, Gr.call (live_gr w) g4⟩
end Go.Proofs.YtecnfgikbmcgoaaGreat
namespace Go.Proofs.YtecnfgikbmcgoaaGreat
open Go.RowKit

section
variable {adj : Nat → Nat → Bool} {nxt : Nat → Nat → Int} {home : Int → Nat}
theorem fl_init {c : Int} {i : Int} {W : List Wnt} : Fl ((c, i) : Ky) (home c) ((TS.none (List Wnt) (List Atr)).turn cov adj (home c) [⟨(c, i), W, -1⟩]) := by
  refine ⟨fun b h hm => ?_, fun a b m hm => ?_, ?_⟩
  · have hm : h ∈ (if b = home c then [(⟨(c, i), W, -1⟩ : Hw)] else []) := hm
    split at hm
    · rw [List.mem_singleton.1 hm]
    · cases hm
  · have hm : m ∈ (if a = home c ∧ adj (home c) b = true then [] ++ chg cov [] [(⟨(c, i), W, -1⟩ : Hw)] b else []) := hm
    split at hm
    · rw [List.nil_append] at hm
      have e : (chg cov [] [(⟨(c, i), W, -1⟩ : Hw)] (b : Int) : List (Ms (List Wnt) (List Atr))) = chg cov [] (ins (⟨(c, i), W, -1⟩ : Hw) []) b := by rfl
      rw [e, chg_ins (by simp [Srt]) (fun g hg => by cases hg) (by show (-1 : Int) ≠ b; omega)] at hm
      simp [isT, woT, unss] at hm
      exact ⟨W, hm⟩
    · cases hm
  · show (if home c = home c then _ else _) ≠ _
    simp
theorem home_init {c i : Int} {W : List Wnt} : ((TS.none (List Wnt) (List Atr)).turn cov adj (home c) [⟨(c, i), W, -1⟩]).held (home c) = [⟨(c, i), W, -1⟩] := by
  show (if home c = home c then _ else _) = _
  rw [if_pos rfl]
/-- What the narrower filter does to a quiet tree: nothing. -/
theorem turn_quiet {s : Ts} {b : Nat} {l' : List Hw} (hq : quiet s) (h : ∀ n : Nat, (chg cov (s.held b) l' (n : Int) : List (Ms (List Wnt) (List Atr))) = []) : quiet (s.turn cov adj b l') := by
  intro x y
  show (if x = b ∧ adj b y = true then s.q x y ++ chg cov (s.held b) l' y else s.q x y) = []
  rw [h, hq, List.append_nil]
  split <;> rfl
theorem held_turn {s : Ts} {b : Nat} {l' : List Hw} : (s.turn cov adj b l').held b = l' := by
  show (if b = b then _ else _) = _
  rw [if_pos rfl]
theorem held_other {s : Ts} {b x : Nat} {l' : List Hw} (h : x ≠ b) : (s.turn cov adj b l').held x = s.held x := by
  show (if x = b then _ else _) = _
  rw [if_neg h]
end
/-- A filter of the caller's own. -/
structure FiN (r : Nat → Rl) (w : World) (ad : Option Addr) (f : List Wnt) : Prop where
  m : FiM w ad f
  r : ∃ b off, ad = some ⟨b, off, none⟩ ∧ r b = .no
theorem FiN.fr {r r' : Nat → Rl} {w w' : World} {ad : Option Addr} {f : List Wnt} (h : FiN r w ad f) (k : Fr r r' w w') : FiN r' w' ad f := by
  obtain ⟨⟨⟨b, off, h1, h2, h3⟩, hwf, hok⟩, b', off', h4, h5⟩ := h
  have e := h1.symm.trans h4
  injection e with e
  injection e with e1 e2
  subst e1
  exact ⟨⟨⟨b, off, h1, Nat.lt_of_lt_of_le h2 k.size, h3.blk (k.keep b h2 (Or.inl h5))⟩, hwf, hok⟩, b, off, h1, (k.same b h2).trans h5⟩
theorem pow31 {N n : Nat} (hN : N ≤ 6) (hn : n ≤ 2) : N * (N * (1 * (N * (2 * n + 1) + 1) ^ N)) < 4611686018427387904 := by
  have h1 : N * (2 * n + 1) + 1 ≤ 31 := by
    have := Nat.mul_le_mul hN (show 2 * n + 1 ≤ 5 by omega)
    omega
  have h2 : (N * (2 * n + 1) + 1) ^ N ≤ 31 ^ 6 := Nat.le_trans (Nat.pow_le_pow_left h1 N) (Nat.pow_le_pow_right (by omega) hN)
  have h3 : N * (N * (1 * (N * (2 * n + 1) + 1) ^ N)) ≤ 6 * (6 * (1 * 31 ^ 6)) := Nat.mul_le_mul hN (Nat.mul_le_mul hN (Nat.mul_le_mul (Nat.le_refl _) h2))
  exact Nat.lt_of_le_of_lt h3 (by decide)
/-- The three states of Quiet. -/
structure Q2 (T : Tc) (nxt : Nat → Nat → Int) (home : Int → Nat) (c : Int) (W : List Wnt) (s2 : Ts) : Prop where
  I : Inv cov T.adj nxt home okF s2
  L : Fl ((c, 1) : Ky) (home c) s2
  q : quiet s2
  h : s2.held (home c) = [⟨(c, 1), W, -1⟩]
theorem drain1 (T : Tc) (r : Nat → Rl) (w : World) (cls : List Cl) (nxt : Nat → Nat → Int) (rank : Nat → Nat → Nat) (home : Int → Nat) (c : Int) (W : List Wnt) (S : Sh T nxt rank) (hN : T.nb ≤ 6) (hW : okF W) (hb : home c < T.nb)
    (hT : Tw T r w cls ((TS.none (List Wnt) (List Atr)).turn cov T.adj (home c) [⟨(c, 1), W, -1⟩])) :
    Calls Tryz.prog 14 #[.pointer (some ⟨T.TB, 0, none⟩)] w fun e w' => ∃ s2 r', e = .returned (.int .i64 ((T.nb : Int) - 1)) ∧ Q2 T nxt home c W s2 ∧ Tw T r' w' cls s2 ∧ Fr r r' w w' := by
  have I1 : Inv cov T.adj nxt home okF ((TS.none (List Wnt) (List Atr)).turn cov T.adj (home c) [⟨(c, 1), W, -1⟩]) := sub_inv S.N none_inv (c, 1) W hW (fun g hg => by cases hg)
  have L1 : Fl ((c, 1) : Ky) (home c) ((TS.none (List Wnt) (List Atr)).turn cov T.adj (home c) [⟨(c, 1), W, -1⟩]) := fl_init
  refine (Drain_f T r w cls _ nxt rank home okF [(c, 1), (c, 2)] hT S.N S.R I1 ⟨fun b h hm => by rw [L1.key b h hm]; simp, fun a b k f hm => ?_⟩ (fun n s' h => ?_) (fun n s' h a b e he => ?_) ?_).mono ?_
  · obtain ⟨f', e⟩ := L1.ms a b _ hm
    injection e with e _
    rw [e]; simp
  · obtain ⟨_, I, L⟩ := fl_home S.N S.Z h I1 L1
    exact ⟨fun b _ => Nat.le_trans (fl_h1 I L b) (by omega), fun a b => Nat.lt_of_le_of_lt (fl_q1 I L a b) (by omega)⟩
  · obtain ⟨_, I, L⟩ := fl_home S.N S.Z h I1 L1
    obtain ⟨f', e'⟩ := L.ms a b _ he
    cases e'
  · exact Nat.lt_of_le_of_lt (todo_le S.le (by omega) (fun a b => fl_q1 I1 L1 a b)) (pow31 hN (Nat.le_refl _))
  · rintro e w' ⟨k, s', r', h1, h2, h3, h4, h5⟩
    obtain ⟨hc, I, L⟩ := fl_count preF S.R S.N S.Z hW (k := ((c, 1) : Ky)) hb h2 h3
    refine ⟨s', r', ?_, ⟨I, L, h3, (fl_home S.N S.Z h2 I1 L1).1.trans home_init⟩, h4, h5⟩
    rw [h1]
    congr 2
    omega
theorem Q2.sm {T : Tc} {nxt : Nat → Nat → Int} {home : Int → Nat} {c : Int} {W : List Wnt} {s2 : Ts} (h : Q2 T nxt home c W s2) : Sm T s2 :=
  ⟨fun b _ => Nat.le_trans (fl_h1 h.I h.L b) (by omega), fun a b => by rw [h.q]; simp⟩
theorem Q2.ncl {T : Tc} {nxt : Nat → Nat → Int} {home : Int → Nat} {c : Int} {W : List Wnt} {s2 : Ts} (h : Q2 T nxt home c W s2) (hN : T.nb ≤ 6) : nCl T s2 < 64 := by
  have := sm_le (f := fun b => ((s2.held b).filter fun h => h.fr == -1).length) (g := fun _ => 1) T.nb (fun b _ => Nat.le_trans (List.length_filter_le _ _) (fl_h1 h.I h.L b))
  rw [sm_const] at this
  unfold nCl; omega
/-- With the narrower filter. -/
structure Q3 (T : Tc) (nxt : Nat → Nat → Int) (home : Int → Nat) (c : Int) (W V : List Wnt) (s : Ts) : Prop where
  I : Inv cov T.adj nxt home okF s
  q : quiet s
  h : s.held (home c) = [⟨(c, 1), W, -1⟩, ⟨(c, 2), V, -1⟩]
  k : ∀ b, ∀ x ∈ s.held b, x.key = (c, 1) ∨ x.key = (c, 2)
  l : ∀ b, (s.held b).length ≤ 2
theorem Q2.up {T : Tc} {nxt : Nat → Nat → Int} {rank : Nat → Nat → Nat} {home : Int → Nat} {c : Int} {W V : List Wnt} {s2 : Ts} (h : Q2 T nxt home c W s2) (S : Sh T nxt rank) (hV : okF V) (hWV : cov W V = true) : Q3 T nxt home c W V (s2.turn cov T.adj (home c) (ins ⟨(c, 2), V, -1⟩ (s2.held (home c)))) := by
  have hn : ∀ g ∈ s2.held (home c), g.key ≠ ((c, 2) : Ky) := fun g hg => by rw [h.L.key _ g hg]; simp
  refine ⟨sub_inv S.N h.I (c, 2) V hV hn, turn_quiet h.q (fun n => ?_), ?_, fun b x hx => ?_, fun b => ?_⟩
  · rw [h.h]; exact narrow_chg hWV n
  · rw [held_turn, h.h, ins_two]
  · by_cases hb : b = home c
    · rw [hb, held_turn, h.h, ins_two] at hx
      simp at hx
      rcases hx with rfl | rfl
      · exact Or.inl rfl
      · exact Or.inr rfl
    · rw [held_other hb] at hx
      exact Or.inl (h.L.key b x hx)
  · by_cases hb : b = home c
    · rw [hb, held_turn, h.h, ins_two]; simp
    · rw [held_other hb]
      exact Nat.le_trans (fl_h1 h.I h.L b) (by omega)
theorem drain0 (T : Tc) (r : Nat → Rl) (w : World) (cls : List Cl) (nxt : Nat → Nat → Int) (rank : Nat → Nat → Nat) (home : Int → Nat) (s : Ts) (Ks : List Ky) (S : Sh T nxt rank) (I : Inv cov T.adj nxt home okF s) (hq : quiet s) (hk : ∀ b, ∀ x ∈ s.held b, x.key ∈ Ks) (hm : Sm T s) (hT : Tw T r w cls s) :
    Calls Tryz.prog 14 #[.pointer (some ⟨T.TB, 0, none⟩)] w fun e w' => ∃ r', e = .returned (.int .i64 0) ∧ Tw T r' w' cls s ∧ Fr r r' w w' := by
  refine (Drain_f T r w cls s nxt rank home okF Ks hT S.N S.R I ⟨hk, fun a b k f hm => by rw [hq] at hm; cases hm⟩ (fun n s' h => ?_) (fun n s' h a b e he => ?_) ?_).mono ?_
  · rw [(quiet_sts h hq).2]; exact hm
  · rw [(quiet_sts h hq).2, hq] at he; cases he
  · rw [todo_zero hq]; omega
  · rintro e w' ⟨k, s', r', h1, h2, h3, h4, h5⟩
    obtain ⟨e1, e2⟩ := quiet_sts h2 hq
    subst e1
    subst e2
    exact ⟨r', h1, h4, h5⟩
end Go.Proofs.YtecnfgikbmcgoaaGreat
namespace Go.Proofs.YtecnfgikbmcgoaaGreat
open Go.RowKit

theorem Q3.sm {T : Tc} {nxt : Nat → Nat → Int} {home : Int → Nat} {c : Int} {W V : List Wnt} {s : Ts} (h : Q3 T nxt home c W V s) : Sm T s :=
  ⟨fun b _ => Nat.le_trans (h.l b) (by omega), fun a b => by rw [h.q]; simp⟩
theorem Q3.down {T : Tc} {nxt : Nat → Nat → Int} {rank : Nat → Nat → Nat} {home : Int → Nat} {c : Int} {W V : List Wnt} {s : Ts} (h : Q3 T nxt home c W V s) (S : Sh T nxt rank) (hWV : cov W V = true) :
    Inv cov T.adj nxt home okF (s.turn cov T.adj (home c) (del (c, 2) (s.held (home c)))) ∧ quiet (s.turn cov T.adj (home c) (del (c, 2) (s.held (home c)))) ∧ (∀ b, ∀ x ∈ (s.turn cov T.adj (home c) (del (c, 2) (s.held (home c)))).held b, x.key ∈ [((c, 1) : Ky), (c, 2)]) ∧ Sm T (s.turn cov T.adj (home c) (del (c, 2) (s.held (home c)))) := by
  have hq : quiet (s.turn cov T.adj (home c) (del (c, 2) (s.held (home c)))) := turn_quiet h.q (fun n => by rw [h.h]; exact narrow_del hWV n)
  refine ⟨uns_inv S.N h.I (c, 2), hq, fun b x hx => ?_, ⟨fun b _ => ?_, fun a b => by rw [hq]; simp⟩⟩
  · have : x ∈ s.held b := by
      by_cases hb : b = home c
      · rw [hb, held_turn] at hx
        rw [hb]; exact (mem_del.1 hx).1
      · rwa [held_other hb] at hx
    rcases h.k b x this with e | e <;> (rw [e]; simp)
  · by_cases hb : b = home c
    · rw [hb, held_turn, h.h, del_two]; simp
    · rw [held_other hb]; exact Nat.le_trans (h.l b) (by omega)
theorem fin_of {r : Nat → Rl} {w : World} {base g cap : Nat} {e : TypeId} {l : List Wnt} (h : w.ownsRow base e 5 (.slice (some ⟨g, 0, none⟩) l.length cap) l.length (wcells l)) (hok : filterOk l = true) (hwf : ∀ x ∈ l, Wnt.Wf x) (hr : r g = .no) : FiN r w (some ⟨g, 0, none⟩) l := by
  refine ⟨⟨?_, hwf, hok⟩, g, 0, rfl, hr⟩
  rcases owns_fi h with h0 | h0
  · exact absurd h0 (fi_ok_of hok).2
  · exact h0
theorem kept_fr {w w' : World} {n bs size : Nat} {e : TypeId} {v : Value} {xs : List Value} (g : Gr w w') (h : w.ownsRow bs e size v n xs) : w'.ownsRow bs e size v n xs := ownsGr h g
theorem owns_grown0 {base : Nat} {a w w' : World} {e : TypeId} {size : Nat} {v : Value} {n : Nat} {xs : List Value} (hb : base = a.heap.size) (h : w.ownsRow base e size v n xs) (g : Gr a w) (hg : w.grownBy w' v.ownBlock) : Gr a w' := by
  subst hb
  refine Below.grown g hg g.size (fun b hb => ?_)
  rcases h.2 with ⟨hv, _⟩ | ⟨q, cap, cur, hv, hq, _⟩
  · rw [hv] at hb; simp [Value.ownBlock] at hb
  · rw [hv] at hb; simp [Value.ownBlock] at hb; omega
set_option maxRecDepth 100000 in
set_option maxHeartbeats 4000000 in
theorem Quiet_any (zs ps : List Int) (c : Int) (f g : List Int) (az ap af ag : Option Addr) (cz cp cf cg : Nat) (ml : Int) (w : World)
    (lz : zs.length ≤ 1048576) (hz : InAt w az zs) (wz : IntWf zs) (lp : ps.length ≤ 1048576) (hp : InAt w ap ps) (wp : IntWf ps) (hc : I64 c) (lf : f.length ≤ 1048576) (hf : InAt w af f) (wf_ : IntWf f) (lg : g.length ≤ 1048576) (hg : InAt w ag g) (wg : IntWf g) (hml : Ml ml w) :
    Calls Tryz.prog 5 #[.slice az zs.length cz, .slice ap ps.length cp, .int .i64 c, .slice af f.length cf, .slice ag g.length cg] w fun e w' => e = .returned (.bool true) ∧ Gr w w' := by
  obtain ⟨i0, hi, hz0, hz1, hz2⟩ := info_parts Tryz.infoWantK
  have GR := Hid.mk' (grown_any zs ps az ap cz cp ml w lz hz wz lp hp wp hml)
  have HZ := Hid.mk' (And.intro hz wz)
  have HF := Hid.mk' (And.intro hf wf_)
  have HG := Hid.mk' (And.intro hg wg)
  have HML := Hid.mk' hml
  have hb6 : 1 ≤ nbF zs ∧ nbF zs ≤ 6 := by unfold nbF; omega
  have HB6 := Hid.mk' hb6
  have OKF := Hid.mk' (wantsF_ok f)
  have OKG := Hid.mk' (wantsF_ok g)
  have OKB := Hid.mk' (both_ok f g)
  have hlF : 1 ≤ (wantsF f).length ∧ (wantsF f).length ≤ 3 := (wantsF_ok f).2.2
  have hlG : 1 ≤ (wantsF g).length ∧ (wantsF g).length ≤ 3 := (wantsF_ok g).2.2
  have COV := Hid.mk' (cov_sub (wantsF_ok f).1 (both_ok f g).1 (wantsF_ok f).2.1 (fun x hx => List.mem_append.2 (Or.inl hx)))
  have hcb := hc
  clear hz wz hp wp hf wf_ hg wg hml hb6 hc
  unfold I64 at hcb
  go_enter Tryz.func5, Tryz.ntmps5
  go_wp2_with fail
  refine GR.out.mono ?_
  rintro e w1 ⟨T, r, cls, nxt, rank, rfl, t1, f1, hTn, hTm, SH, CL⟩
  have T1 := Hid.mk' t1
  have F1 := Hid.mk' f1
  have S1 := Hid.mk' SH
  have C1 := Hid.mk' CL
  have HTN := Hid.mk' hTn
  clear GR t1 f1 SH CL hTn
  go_wp2_with fail
  refine (lives_any ml _ (F1.out.gr0.ml HML.out)).mono ?_
  rintro e w2 ⟨rfl, g2⟩
  have G2 := Hid.mk' g2
  clear g2
  go_wp2_with fail
  refine (wants_any f af cf w2 (by unfold maxLen; omega) (HF.out.1.gr (Gr.call F1.out.gr0 G2.out)) HF.out.2).mono ?_
  rintro e w3 ⟨vW, rfl, g3, hW⟩
  have HW0 := Hid.mk' hW
  obtain ⟨gx, cx, rfl⟩ := owns_pos hW (by omega)
  have G3 := Hid.mk' (Gr.call G2.out g3)
  have OW := Hid.mk' hW
  have OWX := Hid.mk' hW
  clear HW0 hW g3
  go_wp2_with (at_builtin; refine wpList_append_own _ rfl _ _ 48 rfl w3.heap.size 76 i0 _ 5 56 Tryz.underlying48 hi hz0 hz1 hz2 rfl (by decide) _ _ _ rfl (World.ownsRow_nil _ _ _ _) ⟨gx, 0, none⟩ (wantsF f).length cx (wcells (wantsF f)) rfl (wcells_len5 _) (owns_news OW.out) (wcells_one _) ?c3 ?c4 ?c5 ?_)
  case c3 => unfold maxLen; omega
  case c4 => omega
  case c5 => exact Nat.le_refl _
  intro v4 w4 ho4 hg4 _
  have P4 : Gr w3 w4 := owns_grown0 rfl (World.ownsRow_nil w3 w3.heap.size 76 5) (Gr.refl _) hg4
  obtain ⟨g4, c4, rfl⟩ := owns_pos ho4 (by omega)
  have HO4 : Hid (w4.ownsRow w3.heap.size 76 5 (.slice (some ⟨g4, 0, none⟩) (wantsF f).length c4) (wantsF f).length (wcells (wantsF f))) := by show World.ownsRow _ _ _ _ _ _ _; simpa using ho4
  have OW4 := Hid.mk' (ownsGr OW.out P4)
  have G4 := Hid.mk' (Gr.call G3.out P4)
  have HP4 := Hid.mk' P4
  clear ho4 hg4 P4 OW
  go_wp2_with fail
  refine (wants_any g ag cg w4 (by unfold maxLen; omega) (HG.out.1.gr (Gr.call F1.out.gr0 G4.out)) HG.out.2).mono ?_
  rintro e w5 ⟨vY, rfl, g5, hY⟩
  obtain ⟨gy, cy, rfl⟩ := owns_pos hY (by omega)
  have OY := Hid.mk' hY
  have OW5 := Hid.mk' (ownsGr OW4.out g5)
  have HO5 := Hid.mk' (ownsGr HO4.out g5)
  have G5 := Hid.mk' (Gr.call G4.out g5)
  have P5 := Hid.mk' (Gr.call HP4.out g5)
  clear hY g5 OW4 HO4 HP4
  go_wp2_with (at_builtin; refine wpList_append_own _ rfl _ _ 48 rfl w3.heap.size 76 i0 _ 5 56 Tryz.underlying48 hi hz0 hz1 hz2 rfl (by decide) _ _ _ rfl HO5.out ⟨gy, 0, none⟩ (wantsF g).length cy (wcells (wantsF g)) rfl (wcells_len5 _) (owns_news OY.out) (wcells_one _) ?c3 ?c4 ?c5 ?_)
  case c3 => unfold maxLen; omega
  case c4 => omega
  case c5 => exact P5.out.size
  intro v6 w6 ho6 hg6 _
  have P6 : Gr w3 w6 := owns_grown0 rfl HO5.out P5.out hg6
  have HO6 : w6.ownsRow w3.heap.size 76 5 v6 (wantsF f ++ wantsF g).length (wcells (wantsF f ++ wantsF g)) := by
    rw [wcells_app, List.length_append]; exact ho6
  obtain ⟨g6, c6, rfl⟩ := owns_pos HO6 (by rw [List.length_append]; omega)
  -- both filters, the caller's own
  have G6 := Hid.mk' (Gr.call G3.out P6)
  have T6 := Hid.mk' (T1.out.gr G6.out)
  have F6 := Hid.mk' (F1.out.trans (Fr.gr (r := r) G6.out))
  have TOP := Hid.mk' T1.out.b.top
  have lowX := own_low OW5.out gx rfl
  have lowB := own_low HO6 g6 rfl
  have sz3 := G3.out.size
  have sz2 := G2.out.size
  have OW6 : w6.ownsRow w2.heap.size 76 5 (.slice (some ⟨gx, 0, none⟩) (wantsF f).length cx) (wantsF f).length (wcells (wantsF f)) := by
    refine owns_kept OW5.out hg6 (fun k hk => ?_)
    have h1 : gx < w3.heap.size := owns_lt OWX.out
    have h2 := own_low HO5.out g4 rfl
    intro e
    simp only [Value.ownBlock, Option.some.injEq] at hk e
    omega
  have NW := Hid.mk' (fin_of OW6 OKF.out.1 OKF.out.2.1 (TOP.out gx (by omega)))
  have NB := Hid.mk' (fin_of HO6 OKB.out.1 OKB.out.2 (TOP.out g6 (by omega)))
  have LB : Hid ((wantsF f).length + (wantsF g).length = (wantsF f ++ wantsF g).length) := (List.length_append).symm
  clear ho6 hg6 P6 HO6 OW5 HO5 OY OW6 OWX
  have pb := pickF_bd c 6 (by omega)
  obtain ⟨x, hx, hxn0⟩ := C1.out.all (pickF c 6).toNat (by omega)
  have hxn : pickF c 6 = x.num := by rw [hxn0]; omega
  clear hxn0
  have PK := Hid.mk' (pick_any c 6 w6 hcb.1 hcb.2 (by omega) (by omega))
  rw [hxn] at PK
  have hxa := (C1.out.lt x hx).2.2.1
  have hxb : hmF ps (nbF zs) x.num < T.nb := by rw [HTN.out]; exact hmF_lt ps HB6.out.1 _
  have hT6 : T.nb ≤ 6 := by rw [HTN.out]; exact HB6.out.2
  have SB1 := Hid.mk' (Subscribe_ok T r w6 cls (TS.none (List Wnt) (List Atr)) x 1 (wantsF f) (some ⟨gx, 0, none⟩) cx T6.out hx ⟨by omega, by omega⟩ NW.out.m (fun b _ => by simp [TS.none, Srt]) (fun g hg => by cases hg) ⟨fun b _ => by simp [TS.none], fun a b => by simp [TS.none]⟩ (by
    have : nCl T (TS.none (List Wnt) (List Atr)) = 0 := by
      have := sm_zero T.nb
      simpa [nCl, TS.none] using this
    omega))
  have eI : ins (⟨(x.num, 1), wantsF f, -1⟩ : Hw) ((TS.none (List Wnt) (List Atr)).held x.at') = [⟨(x.num, 1), wantsF f, -1⟩] := by simp [ins, TS.none]
  rw [eI, hxa] at SB1
  clear eI
  have HX := Hid.mk' hx
  have HXA := Hid.mk' hxa
  have HXB := Hid.mk' hxb
  have HT6 := Hid.mk' hT6
  clear hx hxa hxb pb hxn hT6
  go_wp2_with fail
  refine PK.out.mono ?_
  rintro e wx ⟨rfl, hw⟩
  have hw' := hw.symm
  clear hw PK
  subst hw'
  go_wp2_with fail
  refine SB1.out.mono ?_
  rintro e w7 ⟨rfl, r7, t7, f7⟩
  have F7 := Hid.mk' (F6.out.trans f7)
  have NB7 := Hid.mk' (NB.out.fr f7)
  have DR1 := Hid.mk' (drain1 T r7 w7 cls nxt rank (hmF ps (nbF zs)) x.num (wantsF f) S1.out HT6.out ⟨OKF.out.1, OKF.out.2.1⟩ HXB.out t7)
  clear SB1 t7 f7 NW NB T6 F6
  go_wp2_with fail
  refine DR1.out.mono ?_
  rintro e w8 ⟨s2, r8, rfl, q2, t8, f8⟩
  have F8 := Hid.mk' (F7.out.trans f8)
  have NB8 := Hid.mk' (NB7.out.fr f8)
  have Q8 := Hid.mk' q2
  have SB2 := Hid.mk' (Subscribe_ok T r8 w8 cls s2 x 2 (wantsF f ++ wantsF g) (some ⟨g6, 0, none⟩) c6 t8 HX.out ⟨by omega, by omega⟩ NB8.out.m (fun b _ => q2.I.srt b) (fun g hg => by
    rw [HXA.out] at hg
    rw [q2.L.key _ g hg]; simp) q2.sm (q2.ncl HT6.out))
  rw [HXA.out] at SB2
  clear DR1 t8 f8 NB7 F7 q2
  rw [List.length_append] at SB2
  go_wp2_with fail
  refine SB2.out.mono ?_
  rintro e w9 ⟨rfl, r9, t9, f9⟩
  have F9 := Hid.mk' (F8.out.trans f9)
  have Q9 := Hid.mk' (Q8.out.up S1.out ⟨OKB.out.1, OKB.out.2⟩ COV.out)
  have DR2 := Hid.mk' (drain0 T r9 w9 cls nxt rank (hmF ps (nbF zs)) _ [((x.num, 1) : Ky), (x.num, 2)] S1.out Q9.out.I Q9.out.q (fun b y hy => by rcases Q9.out.k b y hy with e | e <;> (rw [e]; simp)) Q9.out.sm t9)
  clear SB2 t9 f9 NB8 F8 Q8
  generalize (s2.turn cov T.adj (hmF ps (nbF zs) x.num) (ins ⟨(x.num, 2), wantsF f ++ wantsF g, -1⟩ (s2.held (hmF ps (nbF zs) x.num)))) = s3 at *
  go_wp2_with fail
  refine DR2.out.mono ?_
  rintro e w10 ⟨r10, rfl, t10, f10⟩
  have F10 := Hid.mk' (F9.out.trans f10)
  have US := Hid.mk' (Unsubscribe_ok T r10 w10 cls s3 x 2 ⟨(x.num, 2), wantsF f ++ wantsF g, -1⟩ t10 HX.out ⟨by omega, by omega⟩ (Q9.out.I.srt _) (by rw [HXA.out, Q9.out.h]; simp) rfl Q9.out.sm)
  rw [HXA.out] at US
  clear DR2 t10 f10 F9
  go_wp2_with fail
  refine US.out.mono ?_
  rintro e w11 ⟨rfl, r11, t11, f11⟩
  have F11 := Hid.mk' (F10.out.trans f11)
  obtain ⟨k1, k2, k3, k4⟩ := Q9.out.down S1.out COV.out
  have DR3 := Hid.mk' (drain0 T r11 w11 cls nxt rank (hmF ps (nbF zs)) _ [((x.num, 1) : Ky), (x.num, 2)] S1.out k1 k2 k3 k4 t11)
  clear US t11 f11 F10 k1 k2 k3 k4
  go_wp2_with fail
  refine DR3.out.mono ?_
  rintro e w12 ⟨r12, rfl, t12, f12⟩
  have F12 := Hid.mk' (F11.out.trans f12)
  have SHP := Hid.mk' (shape_any zs az cz w12 lz (HZ.out.1.gr F12.out.gr0) HZ.out.2)
  clear DR3 t12 f12 F11
  go_wp2_with fail
  refine SHP.out.mono ?_
  rintro e w13 ⟨v13, rfl, _, g13⟩
  have FIN := Hid.mk' (Gr.call F12.out.gr0 g13)
  have hTN : (T.nb : Int) = (nbF zs : Int) := by rw [HTN.out]
  have h66 := HT6.out
  have h11 := HB6.out
  have hsb : wrap64 ((nbF zs : Int) - 1) = (nbF zs : Int) - 1 := by unfold wrap64; omega
  clear SHP g13
  rw [hTN]
  go_wp2_with fail
  go_ret
  exact ⟨rfl, FIN.out⟩
end Go.Proofs.YtecnfgikbmcgoaaGreat
namespace Go.Proofs.YtecnfgikbmcgoaaGreat
open Go.RowKit

/-- The want that the first attribute is there. -/
def firstW (l : List Atr) : Wnt := ⟨(aat l 0).a, 1, 0, 0, ⟨#[]⟩⟩
theorem firstW_ok {l : List Atr} (h : evOk l = true) (hwf : ∀ x ∈ l, Atr.Wf x) : okF [firstW l] ∧ mat l [firstW l] = true := by
  have h' := h
  simp only [evOk, Bool.and_eq_true, List.all_eq_true, decide_eq_true_eq] at h'
  have hn : nameOk (aat l 0).a = true := by
    have := h'.2 0 (by simp; omega)
    simp only [okAt, Bool.and_eq_true] at this
    exact this.1.1
  have hlen : 0 < l.length := by omega
  have hm : aat l 0 ∈ l := by unfold aat; exact getD_mem hlen _
  have he : (⟨#[]⟩ : ByteArray).toList = [] := noText_list
  refine ⟨⟨?_, fun x hx => ?_⟩, ?_⟩
  · simp [filterOk, wOk, wantOk, firstW, wayOk_any, hn, he]
  · rw [List.mem_singleton.1 hx]
    have := hwf _ hm
    have e : (⟨#[]⟩ : ByteArray).size = 0 := rfl
    constructor
    · exact this.a
    · show (⟨#[]⟩ : ByteArray).size ≤ maxLen; rw [e]; unfold maxLen; omega
    · show minI ≤ 0; unfold minI; omega
    · show (0 : Int) ≤ maxI; unfold maxI; omega
  · cases l with
    | nil => simp at hlen
    | cons a t => simp [mat, ans, firstW, aat, lets]
/-- Who the clients are. -/
structure Idn (home : Int → Nat) (cs : List (Pc (List Atr))) : Prop where
  at' : ∀ p ∈ cs.map (fun c => (c.num, c.at')), 0 ≤ p.1 ∧ p.1 < 6 ∧ p.2 = home p.1
  all : ∀ i : Nat, i < 6 → ((i : Int), home i) ∈ cs.map (fun c => (c.num, c.at'))
theorem Idn.of {home : Int → Nat} {cs cs' : List (Pc (List Atr))} (h : Idn home cs) (e : cs'.map (fun c => (c.num, c.at')) = cs.map fun c => (c.num, c.at')) : Idn home cs' := ⟨by rw [e]; exact h.at', by rw [e]; exact h.all⟩
theorem Idn.get {home : Int → Nat} {cs : List (Pc (List Atr))} (h : Idn home cs) {i : Nat} (hi : i < 6) : ∃ c ∈ cs, c.num = (i : Int) ∧ c.at' = home i := by
  obtain ⟨c, hc, e⟩ := List.mem_map.1 (h.all i hi)
  injection e with e1 e2
  exact ⟨c, hc, e1, e2⟩
theorem Idn.mem {home : Int → Nat} {cs : List (Pc (List Atr))} (h : Idn home cs) {c : Pc (List Atr)} (hc : c ∈ cs) : 0 ≤ c.num ∧ c.num < 6 ∧ c.at' = home c.num := h.at' (c.num, c.at') (List.mem_map.2 ⟨c, hc, rfl⟩)
theorem ids_hear {l : List Hw} {fr : Bool × Int} {e : List Atr} {cs : List (Pc (List Atr))} : (cs.map (hearAt mat l fr e)).map (fun c => (c.num, c.at')) = cs.map fun c => (c.num, c.at') := by
  rw [List.map_map]
  refine List.map_congr_left fun c _ => ?_
  have := hearAt_num (mt := mat) l fr e c
  show ((hearAt mat l fr e c).num, (hearAt mat l fr e c).at') = _
  rw [this.1, this.2]
theorem ids_clr {n : Int} {cs : List (Pc (List Atr))} : (cs.map (clrC n)).map (fun c => (c.num, c.at')) = cs.map fun c => (c.num, c.at') := by
  rw [List.map_map]
  refine List.map_congr_left fun c _ => ?_
  show ((clrC n c).num, (clrC n c).at') = _
  unfold clrC; split <;> rfl
theorem cls_idn {ps : List Int} {nb : Nat} {cls : List Cl} (h : Cls ps nb 6 cls) : Idn (hmF ps nb) (cls.map pcOf) ∧ ∀ c ∈ cls.map pcOf, c.lost = 0 ∧ c.box = [] := by
  refine ⟨⟨fun p hp => ?_, fun i hi => ?_⟩, fun c hc => ?_⟩
  · obtain ⟨c, hc, rfl⟩ := List.mem_map.1 hp
    obtain ⟨x, hx, rfl⟩ := List.mem_map.1 hc
    have := h.lt x hx
    exact ⟨this.1, this.2.1, this.2.2.1⟩
  · obtain ⟨x, hx, hn⟩ := h.all i hi
    refine List.mem_map.2 ⟨pcOf x, List.mem_map_of_mem hx, ?_⟩
    show (x.num, x.at') = _
    rw [(h.lt x hx).2.2.1, hn]
  · obtain ⟨x, hx, rfl⟩ := List.mem_map.1 hc
    have := h.lt x hx
    exact ⟨this.2.2.2.1, by simp [pcOf, this.2.2.2.2]⟩
/-- A tree in which nothing has happened is well. -/
theorem gd_none {T : Tc} {nxt : Nat → Nat → Int} {rank : Nat → Nat → Nat} {home : Int → Nat} {Ks : List Ky} {cs : List (Pc (List Atr))} (h : ∀ c ∈ cs, c.lost = 0 ∧ c.box = []) : Gd T nxt rank home Ks (TS.none (List Wnt) (List Atr)) cs 0 0 :=
  ⟨none_inv, ⟨(fun b h hm => by cases hm), (fun a b k f hm => by cases hm)⟩, wgt_none, fun c hc => by rw [(h c hc).1, (h c hc).2]; exact ⟨by omega, by omega, by simp⟩, Nat.le_refl _⟩
/-- What Room's rounds keep. -/
structure Rmk (T : Tc) (nxt : Nat → Nat → Int) (rank : Nat → Nat → Nat) (home : Int → Nat) (f : List Wnt) (e : List Atr) (i : Nat) (s : Ts) (cs : List (Pc (List Atr))) (n : Nat) : Prop where
  G : Gd T nxt rank home [((0, 0) : Ky)] s cs n (T.nb * 2 + i * (T.nb + 1))
  R : Rm T.nb T.adj nxt ((0, 0) : Ky) (home 0) f e 0 s cs i
  D : Idn home cs
theorem Rmk.run {T : Tc} {nxt : Nat → Nat → Int} {rank : Nat → Nat → Nat} {home : Int → Nat} {f : List Wnt} {e : List Atr} {i : Nat} {s s' : Ts} {cs cs' : List (Pc (List Atr))} {n n' k : Nat} (h : Rmk T nxt rank home f e i s cs n) (S : Sh T nxt rank) (hh : ∀ c, home c < T.nb) (hm : mat e f = true) (hr : Run cov T.adj mat s cs k s' cs') (g : Gd T nxt rank home [((0, 0) : Ky)] s' cs' n' (T.nb * 2 + i * (T.nb + 1))) : Rmk T nxt rank home f e i s' cs' n' :=
  ⟨g, Run.keep (P := fun s cs => Rm T.nb T.adj nxt ((0, 0) : Ky) (home 0) f e 0 s cs i) (fun _ _ _ _ _ _ p h1 h2 => rm_step (k := ((0, 0) : Ky)) S.N S.Z S.R (hh 0) hm p h1 h2) hr h.R, h.D.of hr.ids⟩
theorem Rmk.pub {T : Tc} {nxt : Nat → Nat → Int} {rank : Nat → Nat → Nat} {home : Int → Nat} {f : List Wnt} {e : List Atr} {i : Nat} {s : Ts} {cs : List (Pc (List Atr))} {n : Nat} (h : Rmk T nxt rank home f e i s cs n) (S : Sh T nxt rank) (hh : ∀ c, home c < T.nb) (hm : mat e f = true) : Rmk T nxt rank home f e (i + 1) (s.come T.adj mat (home 1) (-1) e) (cs.map (hearAt mat (s.held (home 1)) (true, 1) e)) (n + T.nb) := by
  refine ⟨?_, ?_, h.D.of ids_hear⟩
  · have := h.G.pub S (home 1) (hh 1) (-1) (true, 1) e
    rw [show T.nb * 2 + (i + 1) * (T.nb + 1) = T.nb * 2 + i * (T.nb + 1) + T.nb + 1 by rw [Nat.add_mul]; omega]
    exact this
  · refine rm_come (k := ((0, 0) : Ky)) S.N S.Z S.R (hh 0) hm h.R (home 1) (hh 1) (-1) (true, 1) ?_ (fun h => by simp at h)
    by_cases hb : home 1 = home 0
    · exact Or.inr hb
    · exact Or.inl (fun e => hb (S.Z.one _ _ (hh 1) (hh 0) e))
set_option maxRecDepth 100000 in
set_option maxHeartbeats 4000000 in
theorem Room_any (zs ps : List Int) (c : Int) (es : List Int) (az ap ae : Option Addr) (cz cp ce : Nat) (ml : Int) (w : World)
    (lz : zs.length ≤ 1048576) (hz : InAt w az zs) (wz : IntWf zs) (lp : ps.length ≤ 1048576) (hp : InAt w ap ps) (wp : IntWf ps) (hc : I64 c) (le : es.length ≤ 1048576) (he : InAt w ae es) (we : IntWf es) (hml : Ml ml w) :
    Calls Tryz.prog 7 #[.slice az zs.length cz, .slice ap ps.length cp, .int .i64 c, .slice ae es.length ce] w fun e w' => e = .returned (.bool true) ∧ Gr w w' := by
  have GR := Hid.mk' (grown_any zs ps az ap cz cp ml w lz hz wz lp hp wp hml)
  have HE := Hid.mk' (And.intro he we)
  have hb6 : 1 ≤ nbF zs ∧ nbF zs ≤ 6 := by unfold nbF; omega
  have HB6 := Hid.mk' hb6
  have OKE := Hid.mk' (evF_ok es)
  have WFE := Hid.mk' (evF_wf es)
  have hlE : 1 ≤ (evF es).length ∧ (evF es).length ≤ 3 := evF_len es
  have hcb := hc
  clear hz wz hp wp he we hml hb6 hc
  unfold I64 at hcb
  go_enter Tryz.func7, Tryz.ntmps7
  go_wp2_with fail
  refine GR.out.mono ?_
  rintro e w1 ⟨T, r, cls, nxt, rank, rfl, t1, f1, hTn, hTm, SH, CL⟩
  have T1 := Hid.mk' t1
  have F1 := Hid.mk' f1
  have S1 := Hid.mk' SH
  have C1 := Hid.mk' CL
  have HTN := Hid.mk' hTn
  clear GR t1 f1 SH CL hTn
  go_wp2_with fail
  refine (event_any es ae ce w1 (by unfold maxLen; omega) (HE.out.1.gr F1.out.gr0) HE.out.2).mono ?_
  rintro e w2 ⟨vE, rfl, g2, hE⟩
  obtain ⟨gx, cx, rfl⟩ := owns_pos hE (by omega)
  have lowX := own_low hE gx rfl
  have TOP := Hid.mk' T1.out.b.top
  have EV := Hid.mk' (evn_of (r := r) hE OKE.out WFE.out (TOP.out gx lowX))
  obtain ⟨eb, eo, ebe, hebw, hat⟩ := EV.out.m.at'
  obtain ⟨rfl, rfl⟩ : gx = eb ∧ 0 = eo := by injection ebe with ebe; injection ebe with h1 h2; exact ⟨h1, h2⟩
  obtain ⟨n1, n2, n3, n4⟩ := hat 0 (by omega)
  have G2 := Hid.mk' g2
  clear g2 hE ebe hat lowX n2 n3 n4
  go_wp2_with fail
  have HFW := Hid.mk' (firstW_ok OKE.out WFE.out)
  have g3 := G2.out.alloc (.cells #[.string (aat (evF es) 0).a, .int .i64 1, .int .i64 0, .int .i64 0, .string ⟨#[]⟩] 76)
  have G3 := Hid.mk' g3
  have HB3 := heap_alloc_new w2 (.cells #[.string (aat (evF es) 0).a, .int .i64 1, .int .i64 0, .int .i64 0, .string ⟨#[]⟩] 76)
  obtain ⟨ID, CL0⟩ := cls_idn C1.out
  have HH : Hid (∀ c, hmF ps (nbF zs) c < T.nb) := fun c => by rw [HTN.out]; exact hmF_lt ps HB6.out.1 c
  generalize hhome : hmF ps (nbF zs) = home at *
  have HID := Hid.mk' ID
  have HCL0 := Hid.mk' CL0
  obtain ⟨c0, hc0, hc0n, hc0a⟩ := ID.get (i := 0) (by omega)
  have FI : Hid (FiM (w2.alloc (.cells #[.string (aat (evF es) 0).a, .int .i64 1, .int .i64 0, .int .i64 0, .string ⟨#[]⟩] 76)) (some ⟨w2.heap.size, 0, none⟩) [firstW (evF es)]) := by
    refine ⟨⟨w2.heap.size, 0, rfl, blk_lt HB3, fun i hi => ?_⟩, HFW.out.1.2, HFW.out.1.1⟩
    have hi0 : i = 0 := by simpa using hi
    subst hi0
    refine ⟨?_, ?_, ?_, ?_, ?_⟩ <;> (rw [cell_of_row _ _ _ _ _ _ HB3]; rfl)
  have SB1 := Hid.mk' (Subscribe_t T r _ _ (TS.none (List Wnt) (List Atr)) c0 0 [firstW (evF es)] (some ⟨w2.heap.size, 0, none⟩) 1 ⟨cls, T1.out.gr g3, rfl⟩ hc0 ⟨by omega, by omega⟩ FI.out (fun b _ => by simp [TS.none, Srt]) (fun g hg => by cases hg) ⟨fun b _ => by simp [TS.none], fun a b => by simp [TS.none]⟩ (by
    have : nCl T (TS.none (List Wnt) (List Atr)) = 0 := by
      have := sm_zero T.nb
      simpa [nCl, TS.none] using this
    omega))
  have eI : ins (⟨(c0.num, 0), [firstW (evF es)], -1⟩ : Hw) ((TS.none (List Wnt) (List Atr)).held c0.at') = [⟨(c0.num, 0), [firstW (evF es)], -1⟩] := by simp [ins, TS.none]
  rw [eI, hc0a, hc0n] at SB1
  have GD1 : Hid (Gd T nxt rank home [((0, 0) : Ky)] ((TS.none (List Wnt) (List Atr)).turn cov T.adj (home 0) [⟨((0, 0) : Ky), [firstW (evF es)], -1⟩]) (cls.map pcOf) (T.nb * 2) (T.nb * 2)) := by
    have := (gd_none (T := T) (nxt := nxt) (rank := rank) (home := home) (Ks := [((0, 0) : Ky)]) CL0).sub S1.out ((0, 0) : Ky) [firstW (evF es)] HFW.out.1 (HH.out 0) (fun g hg => by cases hg) (by simp)
    have eJ : ins (⟨((0, 0) : Ky), [firstW (evF es)], -1⟩ : Hw) ((TS.none (List Wnt) (List Atr)).held (home 0)) = [⟨((0, 0) : Ky), [firstW (evF es)], -1⟩] := by simp [ins, TS.none]
    rw [show home ((0, 0) : Ky).1 = home 0 from rfl, eJ] at this
    show Gd _ _ _ _ _ _ _ _ _
    simpa using this
  have F3 := Hid.mk' (F1.out.trans (Fr.gr (r := r) g3))
  have EV3 := Hid.mk' (EV.out.fr (Fr.gr (r := r) ((Gr.refl w2).alloc (.cells #[.string (aat (evF es) 0).a, .int .i64 1, .int .i64 0, .int .i64 0, .string ⟨#[]⟩] 76))))
  have hT6 : T.nb ≤ 6 := by rw [HTN.out]; exact HB6.out.2
  have HT6 := Hid.mk' hT6
  clear eI ID CL0 g3 HB3 FI hc0 hc0n hc0a T1 n1 EV HE TOP C1
  refine SB1.out.mono ?_
  rintro e w4 ⟨rfl, r4, t4, f4⟩
  have F4 := Hid.mk' (F3.out.trans f4)
  have EV4 := Hid.mk' (EV3.out.fr f4)
  have DR1 := Hid.mk' (Drain_t T r4 w4 _ _ nxt rank home _ _ _ t4 S1.out GD1.out (by simp) (by omega))
  clear SB1 t4 f4 F3 EV3
  go_wp2_with fail
  refine DR1.out.mono ?_
  rintro e w5 ⟨k5, s5, cs5, r5, n5, rfl, hrun, hq5, t5, g5, hk5, f5⟩
  have F5 := Hid.mk' (F4.out.trans f5)
  have EV5 := Hid.mk' (EV4.out.fr f5)
  have RS := rm_start (mt := mat) preF S1.out.R S1.out.N S1.out.Z (k := ((0, 0) : Ky)) HFW.out.1 (HH.out 0) (evF es) (fun c hc => ⟨(HCL0.out c hc).2, (HCL0.out c hc).1⟩) hrun hq5
  have hk5b : (k5 : Int) < 100 := by omega
  have K5 : Hid (Rmk T nxt rank home [firstW (evF es)] (evF es) 0 s5 cs5 n5) := ⟨by simpa using g5, RS.1, HID.out.of hrun.ids⟩
  have T5 := Hid.mk' t5
  have PK := Hid.mk' (pick_any c 40 w5 hcb.1 hcb.2 (by omega) (by omega))
  have pb := pickF_bd c 40 (by omega)
  clear DR1 hrun hq5 t5 g5 hk5 f5 F4 EV4 RS GD1 HCL0 HID
  go_wp2_with fail
  refine PK.out.mono ?_
  rintro e wx ⟨rfl, hw⟩
  have hw' := hw.symm
  clear hw PK
  subst hw'
  go_wp2_with fail
  generalize hN : pickF c 40 = N at *
  obtain ⟨N, rfl⟩ : ∃ N' : Nat, N = (N' : Int) := ⟨N.toNat, by omega⟩
  have hN40 : N < 40 := by omega
  clear hN pb
  have HN40 := Hid.mk' hN40
  have MB : Hid (∀ i, i ≤ 40 → T.nb * 2 + i * (T.nb + 1) < 549755813888) := fun i hi => by
    have := Nat.mul_le_mul hi (show T.nb + 1 ≤ 7 by have := HT6.out; omega)
    have := HT6.out
    omega
  go_loopw [13] (fun i wr => ∃ (q : Nat) (s' : Ts) (cs' : List (Pc (List Atr))) (r' : Nat → Rl) (n' : Nat), q ≤ N ∧ i = .int .i64 q ∧ Hid (Rmk T nxt rank home [firstW (evF es)] (evF es) q s' cs' n') ∧ Hid (Tf T r' wr cs' s') ∧ Hid (Fr (fun _ => .no) r' w wr) ∧ Hid (EvN r' wr (some ⟨gx, 0, none⟩) (evF es))) (fun i _ => N - (intOf i).toNat)
  case atStart => exact ⟨0, s5, cs5, r5, n5, Nat.zero_le _, rfl, K5, T5, F5, EV5⟩
  case round =>
    clear K5 T5 F5 EV5
    obtain ⟨q, s', cs', r', n', hq, rfl, K6, T6, F6, EV6⟩ := hrel
    by_cases hlt : q < N
    · obtain ⟨c1, hc1, hc1n, hc1a⟩ := K6.out.D.get (i := 1) (by omega)
      have SM := K6.out.G.sm S1.out (by simp) (MB.out q (by omega))
      have PB := Hid.mk' (Publish_t T r' wr cs' s' c1 (evF es) (some ⟨gx, 0, none⟩) cx T6.out hc1 EV6.out.m SM (fun c hc => ⟨(K6.out.G.L c hc).1, by have := (K6.out.G.L c hc).2.1; have := MB.out q (by omega); omega⟩))
      rw [hc1n, hc1a] at PB
      have K7 := Hid.mk' (K6.out.pub S1.out HH.out HFW.out.2)
      clear hc1 hc1n hc1a SM K6 T6
      go_wp2_with fail
      refine PB.out.mono ?_
      rintro e w7 ⟨rfl, r7, t7, f7⟩
      have T7 := Hid.mk' t7
      have F7 := Hid.mk' (F6.out.trans f7)
      have EV7 := Hid.mk' (EV6.out.fr f7)
      clear PB t7 f7 F6 EV6
      generalize (s'.come T.adj mat (home ((1 : Nat) : Int)) (-1) (evF es)) = s7 at *
      generalize (cs'.map (hearAt mat (s'.held (home ((1 : Nat) : Int))) (true, ((1 : Nat) : Int)) (evF es))) = cs7 at *
      by_cases h3 : (q : Int) % 3 = 0
      · have DR := Hid.mk' (Drain_t T r7 w7 cs7 s7 nxt rank home _ _ _ T7.out S1.out K7.out.G (by simp) (MB.out (q + 1) (by omega)))
        go_wp2_with fail
        refine DR.out.mono ?_
        rintro e w8 ⟨k8, s8, cs8, r8, n8, rfl, hrun, hq8, t8, g8, hk8, f8⟩
        have K8 := Hid.mk' (K7.out.run S1.out HH.out HFW.out.2 hrun g8)
        have T8 := Hid.mk' t8
        have F8 := Hid.mk' (F7.out.trans f8)
        have EV8 := Hid.mk' (EV7.out.fr f8)
        clear DR hrun hq8 t8 g8 hk8 f8 K7 T7 F7 EV7
        go_wp2_with fail
        exact ⟨⟨q + 1, s8, cs8, r8, n8, hlt, by simp, K8, T8, F8, EV8⟩, measM_dec _ _ hlt⟩
      · have h3' : ((q : Int) % 3 == 0) = false := by simpa using h3
        go_wp2_with fail
        exact ⟨⟨q + 1, s7, cs7, r7, _, hlt, by simp, K7, T7, F7, EV7⟩, measM_dec _ _ hlt⟩
    · have hqe : q = N := by omega
      subst hqe
      have DR := Hid.mk' (Drain_t T r' wr cs' s' nxt rank home _ _ _ T6.out S1.out K6.out.G (by simp) (MB.out q (by omega)))
      go_wp2_with fail
      refine DR.out.mono ?_
      rintro e w8 ⟨k8, s8, cs8, r8, n8, rfl, hrun, hq8, t8, g8, hk8, f8⟩
      have K8 := K6.out.run S1.out HH.out HFW.out.2 hrun g8
      obtain ⟨c0, hc0, hc0n, hc0a⟩ := K8.D.get (i := 0) (by omega)
      have hend := rm_end K8.R hq8 hc0 hc0n
      have hLc := (K8.G.L c0 hc0).2.2
      have IB := Hid.mk' (Inbox_t T r8 w8 cs8 s8 c0 t8 hc0 hLc)
      rw [hc0n, hend.2] at IB
      have HEND := Hid.mk' hend.1
      have F8 := Hid.mk' (F6.out.trans f8)
      have EV8 := Hid.mk' (EV6.out.fr f8)
      have D8 := Hid.mk' K8.D
      have HC0 := Hid.mk' hc0
      have HC0N := Hid.mk' hc0n
      have hk8b : (k8 : Int) < 549755813888 := by have := K6.out.G.le; have := MB.out q (by omega); omega
      clear DR hrun hq8 t8 g8 hk8 f8 K8 hc0 hc0n hc0a hend hLc K6 T6 F6 EV6
      go_wp2_with fail
      refine IB.out.mono ?_
      rintro e w9 ⟨v9, r9, L, rfl, t9, f9, o9, hL, hev, hrole⟩
      obtain ⟨d0, hd0⟩ : ∃ d, d = clrC ((0 : Nat) : Int) c0 := ⟨_, rfl⟩
      have hdc : d0.num = ((0 : Nat) : Int) ∧ d0.lost = 0 ∧ d0.box = [] := by
        rw [hd0]; unfold clrC; rw [if_pos HC0N.out]; exact ⟨HC0N.out, rfl, rfl⟩
      have hdm : d0 ∈ cs8.map (clrC ((0 : Nat) : Int)) := by rw [hd0]; exact List.mem_map_of_mem HC0.out
      have IB2 := Hid.mk' (Inbox_t T r9 w9 _ s8 d0 t9 hdm (by rw [hdc.2.2]; simp))
      rw [hdc.1, hdc.2.1] at IB2
      have HDB := Hid.mk' hdc.2.2
      have hLl : L.length = min q 16 := by
        have := congrArg List.length hL
        rw [HEND.out, List.length_map, List.length_replicate] at this
        exact this
      have hLe : ∀ y ∈ L, y.1 = evF es := fun y hy => by
        have : y.1 ∈ L.map (·.1) := List.mem_map_of_mem hy
        rw [hL, HEND.out] at this
        exact (List.mem_replicate.1 this).2
      obtain ⟨la, lk, rfl, hla⟩ := owns_shape o9
      have O9 := Hid.mk' o9
      have HLA := Hid.mk' hla
      have RL9 := Hid.mk' hrole
      have EVL := Hid.mk' hev
      have LEQ := Hid.mk' hLe
      have F9 := Hid.mk' (F8.out.trans f9)
      have EV9 := Hid.mk' (EV8.out.fr f9)
      have hq40 := HN40.out
      have HLL := Hid.mk' hLl
      clear hLl
      clear IB hL hev hrole hLe o9 hla hdc hdm t9 f9 F8 EV8 HEND HC0 HC0N hd0
      go_wp2_with fail
      refine IB2.out.mono ?_
      rintro e w10 ⟨v10, r10, L2, rfl, t10, f10, o10, hL2, _, _⟩
      have hL20 : L2.length = 0 := by
        have := congrArg List.length hL2
        rw [HDB.out] at this
        simpa using this
      obtain ⟨lb, lm, rfl, _⟩ := owns_shape o10
      have O10 := Hid.mk' (f10.ownsB O9.out RL9.out).1
      have EVL2 : Hid (∀ y ∈ L, EvM w10 y.2.1 y.1) := fun y hy => ((EVL.out y hy).fr f10).m
      have EVX : Hid (EvM w10 (some ⟨gx, 0, none⟩) (evF es)) := (EV9.out.fr f10).m
      have F10 := Hid.mk' (F9.out.trans f10)
      rw [hL20]
      clear IB2 t10 f10 o10 hL2 hL20 O9 EVL RL9 EV9 F9 HDB
      -- the loop over what came, and the end
      have LOOP : Hid (∀ W, Gr w10 W → ∀ i, i < L.length → ∃ la2 cap2 gb, la = some ⟨gb, 0, none⟩ ∧ W.cell? ⟨gb, i, none⟩ = some (.slice la2 (evF es).length cap2) ∧ EvM W la2 (evF es)) := fun W g i hi => by
        obtain ⟨gb, rfl⟩ := HLA.out (by omega)
        have O := ownsGr O10.out g
        refine ⟨L[i].2.1, L[i].2.2, gb, rfl, ?_, ?_⟩
        · rw [World.ownsRow.cellAt O i (by omega)]
          simp only [List.getElem?_map, List.getElem?_eq_getElem hi, Option.map_some, bv]
          rw [LEQ.out _ (List.getElem_mem hi)]
        · rw [← LEQ.out _ (List.getElem_mem hi)]
          exact (EVL2.out _ (List.getElem_mem hi)).gr g
      by_cases hq16 : 16 < q
      · have hq16' : (16 : Int) < (q : Int) := by omega
        have hll : L.length = 16 := by have := HLL.out; omega
        have hsub : ((q - 16 : Nat) : Int) = (q : Int) - 16 := by omega
        rw [hll] at LOOP
        rw [hll, hsub]
        clear hll hsub
        clear hTm hhome hk5b hk8b hq hlt hN40 hq16 lz lp le hlE hcb hebw hT6
        go_wp2_with fail
        go_loopw [22] (fun i wr => ∃ k : Nat, k ≤ 16 ∧ i = .int .i64 k ∧ Hid (Gr w10 wr)) (fun i _ => 16 - (intOf i).toNat)
        case atStart => exact ⟨0, Nat.zero_le _, rfl, Gr.refl _⟩
        case round =>
          obtain ⟨k, hk, rfl, G⟩ := hrel
          by_cases hkl : k < 16
          · obtain ⟨la2, cap2, gb, rfl, hcell, hEv⟩ := LOOP.out _ G.out k hkl
            have SE := Hid.mk' (sameEv_yes (evF es) la2 (some ⟨gx, 0, none⟩) cap2 cx wr hEv (EVX.out.gr G.out))
            clear hEv
            go_wp2_with fail
            refine SE.out.mono ?_
            rintro e w12 ⟨rfl, g12⟩
            have G2' := Hid.mk' (Gr.call G.out g12)
            clear SE g12 hcell
            go_wp2_with fail
            exact ⟨⟨k + 1, hkl, by simp, G2'⟩, measM_dec _ _ hkl⟩
          · have hke : k = 16 := by omega
            subst hke
            go_wp2_with fail
            go_ret
            exact ⟨rfl, Gr.call F10.out.gr0 G.out⟩
      · have hq16' : ¬ (16 : Int) < (q : Int) := by omega
        have hll : L.length = q := by have := HLL.out; omega
        rw [hll] at LOOP
        rw [hll, show q - 16 = 0 by omega]
        clear hll
        clear hTm hhome hk5b hk8b hq hlt hN40 hq16 lz lp le hlE hcb hebw hT6
        go_wp2_with fail
        go_loopw [22] (fun i wr => ∃ k : Nat, k ≤ q ∧ i = .int .i64 k ∧ Hid (Gr w10 wr)) (fun i _ => q - (intOf i).toNat)
        case atStart => exact ⟨0, Nat.zero_le _, rfl, Gr.refl _⟩
        case round =>
          obtain ⟨k, hk, rfl, G⟩ := hrel
          by_cases hkl : k < q
          · obtain ⟨la2, cap2, gb, rfl, hcell, hEv⟩ := LOOP.out _ G.out k hkl
            have SE := Hid.mk' (sameEv_yes (evF es) la2 (some ⟨gx, 0, none⟩) cap2 cx wr hEv (EVX.out.gr G.out))
            clear hEv
            go_wp2_with fail
            refine SE.out.mono ?_
            rintro e w12 ⟨rfl, g12⟩
            have G2' := Hid.mk' (Gr.call G.out g12)
            clear SE g12 hcell
            go_wp2_with fail
            exact ⟨⟨k + 1, hkl, by simp, G2'⟩, measM_dec _ _ hkl⟩
          · have hke : k = q := by omega
            subst hke
            go_wp2_with fail
            go_ret
            exact ⟨rfl, Gr.call F10.out.gr0 G.out⟩
end Go.Proofs.YtecnfgikbmcgoaaGreat
