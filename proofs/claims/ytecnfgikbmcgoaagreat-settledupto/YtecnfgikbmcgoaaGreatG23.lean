import Derived.Test.YtecnfgikbmcgoaaGreatG18
import Derived.Test.YtecnfgikbmcgoaaGreatG22
import Derived.Test.YtecnfgikbmcgoaaGreatG4
namespace Go.Proofs.YtecnfgikbmcgoaaGreat

section
variable {F E : Type}
variable {cov : F → F → Bool} {adj : Nat → Nat → Bool} {nxt : Nat → Nat → Int} {home : Int → Nat} {ok : F → Prop} {rank : Nat → Nat → Nat} {mt : E → F → Bool}
/-- What a client asks for: at its own broker, and nowhere else. -/
theorem asks_home {nb : Nat} (Z : Nz nb adj nxt) (hh : ∀ c, home c < nb) {s : TS F E} (I : Inv cov adj nxt home ok s) {b : Nat} (hb : b < nb) {c : Int} {e : E} (h : asksP mt (s.held b) (true, c) e = true) : home c = b := by
  simp only [asksP, List.any_eq_true, Bool.and_eq_true, decide_eq_true_eq] at h
  obtain ⟨x, hx, h1, _⟩ := h
  unfold sd at h1
  split at h1
  · rename_i h2
    injection h1 with _ h3
    rw [I.rt b x hx, h3] at h2
    exact (Z.one b _ hb (hh c) h2).symm
  · injection h1 with h1; cases h1
theorem asks_ow {s : TS F E} {l : List (Ky × F)} (O : Ow home s l) {c : Int} {e : E} : asksP mt (s.held (home c)) (true, c) e = true ↔ ∃ k f, (k, f) ∈ l ∧ k.1 = c ∧ mt e f = true := by
  simp only [asksP, List.any_eq_true, Bool.and_eq_true, decide_eq_true_eq]
  constructor
  · rintro ⟨x, hx, h1, h2⟩
    unfold sd at h1
    split at h1
    · rename_i h3
      injection h1 with _ h4
      exact ⟨x.key, x.f, ((O _ x.key x.f).1 ⟨x, hx, h3, rfl, rfl⟩).2, h4, h2⟩
    · injection h1 with h1; cases h1
  · rintro ⟨k, f, h1, h2, h3⟩
    obtain ⟨x, hx, h4, h5, h6⟩ := ow_mem O h1
    rw [h2] at hx
    refine ⟨x, hx, ?_, by rw [h6]; exact h3⟩
    unfold sd
    rw [if_pos h4, h5, h2]
/-- While an event is under way: what the clients have heard. -/
def Hc (mt : E → F → Bool) (home : Int → Nat) (H : Nat → List (Hd F)) (fr : Int) (e : E) (V : Nat → Prop) (cs : List (Pc E)) : Prop :=
  ∀ c ∈ cs, c.at' = home c.num ∧ c.lost = 0 ∧ ((V c.at' ∧ c.num ≠ fr ∧ asksP mt (H c.at') (true, c.num) e = true) → c.box = [e]) ∧ (¬ (V c.at' ∧ c.num ≠ fr ∧ asksP mt (H c.at') (true, c.num) e = true) → c.box = [])
theorem hear_empty {e : E} {c : Pc E} (h : c.box = []) : (c.hear e).box = [e] ∧ (c.hear e).lost = c.lost := by
  unfold Pc.hear
  rw [h]
  simp
/-- An event is published in a quiet tree. -/
theorem ew_init {s : TS F E} (hq : quiet s) (hirr : ∀ a, adj a a = false) (b0 : Nat) (e : E) : Ew adj nxt mt s.held b0 e (fun x => x = b0) (s.come adj mt b0 (-1) e) := by
  have hq' : ∀ x y, (s.come adj mt b0 (-1) e).q x y = if x = b0 ∧ adj b0 y = true ∧ (y : Int) ≠ -1 ∧ goes mt s e b0 y = true then [.ev e] else [] := by
    intro x y
    show (if x = b0 ∧ adj b0 y = true ∧ (y : Int) ≠ -1 ∧ _ then s.q x y ++ [.ev e] else s.q x y) = _
    rw [hq x y]; rfl
  refine ⟨rfl, rfl, fun a b hne => ?_, fun a b hab ha hb hg => ?_, fun b hb => Or.inl hb⟩
  · rw [hq'] at hne ⊢
    split at hne
    · rename_i h
      rw [if_pos h]
      obtain ⟨rfl, h2, _, h4⟩ := h
      exact ⟨h2, rfl, (fun e => by rw [e, hirr] at h2; cases h2), h4, rfl⟩
    · exact absurd rfl hne
  · rw [hq']
    have ha : a = b0 := ha
    subst ha
    rw [if_pos ⟨rfl, hab, by omega, hg⟩]
theorem hc_init {nb : Nat} (Z : Nz nb adj nxt) (hh : ∀ c, home c < nb) {s : TS F E} (I : Inv cov adj nxt home ok s) {fr : Int} {e : E} {cs : List (Pc E)} (hc : ∀ c ∈ cs, c.at' = home c.num ∧ c.lost = 0 ∧ c.box = []) : Hc mt home s.held fr e (fun x => x = home fr) (cs.map (hearAt mt (s.held (home fr)) (true, fr) e)) := by
  intro c hcm
  obtain ⟨d, hd, rfl⟩ := List.mem_map.1 hcm
  obtain ⟨h1, h2, h3⟩ := hc d hd
  rw [(hearAt_num _ _ _ d).1, (hearAt_num _ _ _ d).2]
  obtain ⟨r1, r2⟩ := hear_empty (e := e) h3
  unfold hearAt
  by_cases hx : (true, d.num) ≠ (true, fr) ∧ asksP mt (s.held (home fr)) (true, d.num) e = true
  · rw [if_pos hx]
    have hat := asks_home Z hh I (hh fr) hx.2
    refine ⟨h1, by rw [r2, h2], fun _ => r1, fun hn => absurd ⟨by rw [h1, hat], fun e => hx.1 (by rw [e]), by rw [h1, hat]; exact hx.2⟩ hn⟩
  · rw [if_neg hx]
    refine ⟨h1, h2, fun hn => absurd ⟨fun e => hn.2.1 (by injection e), ?_⟩ hx, fun _ => h3⟩
    rw [← hn.1]; exact hn.2.2
theorem hc_step (N : Nx adj nxt) {nb : Nat} (Z : Nz nb adj nxt) (hh : ∀ c, home c < nb) {s : TS F E} (I : Inv cov adj nxt home ok s) {H : Nat → List (Hd F)} {b0 : Nat} {fr : Int} {e : E} {V : Nat → Prop} {cs : List (Pc E)} (hb0 : b0 = home fr) (W : Ew adj nxt mt H b0 e V s) (h : Hc mt home H fr e V cs) {a b : Nat} (ha : adj a b = true) {m : Ms F E} {r : List (Ms F E)} (hq : s.q a b = m :: r) :
    Hc mt home H fr e (fun x => V x ∨ x = b) (hrs mt (s.held b) a m cs) := by
  obtain ⟨rfl, hva, hvb, _⟩ := ew_step (cov := cov) N W ha hq
  intro c hcm
  obtain ⟨d, hd, rfl⟩ := List.mem_map.1 hcm
  obtain ⟨h1, h2, h3, h4⟩ := h d hd
  rw [(hearAt_num _ _ _ d).1, (hearAt_num _ _ _ d).2]
  have hin := Z.inn a b ha
  unfold hearAt
  by_cases hx : (true, d.num) ≠ (false, (a : Int)) ∧ asksP mt (s.held b) (true, d.num) e = true
  · rw [if_pos hx]
    have hat := asks_home Z hh I hin.2 hx.2
    have hno : d.box = [] := h4 (fun hn => hvb (by rw [← hat, ← h1]; exact hn.1))
    obtain ⟨r1, r2⟩ := hear_empty (e := e) hno
    refine ⟨h1, by rw [r2, h2], fun _ => r1, fun hn => absurd ⟨Or.inr (by rw [h1, hat]), fun e => ?_, ?_⟩ hn⟩
    · rw [e, ← hb0] at hat
      exact hvb (by rw [← hat]; exact W.at0)
    · rw [h1, hat, ← W.held]; exact hx.2
  · rw [if_neg hx]
    refine ⟨h1, h2, fun hn => ?_, fun hn => h4 (fun hm => hn ⟨Or.inl hm.1, hm.2⟩)⟩
    rcases hn.1 with hv | hv
    · exact h3 ⟨hv, hn.2⟩
    · refine absurd ⟨fun e => (by injection e with e; cases e), ?_⟩ hx
      rw [W.held, ← hv]; exact hn.2.2
/-- As 'ew_all', of one event. -/
theorem ew_all1 (P : Pre cov ok) (R : Rk adj nxt rank) (N : Nx adj nxt) {nb : Nat} (Z : Nz nb adj nxt) {mt : E → F → Bool} 
    {H : Nat → List (Hd F)} {b0 : Nat} {e : E} (hm : ∀ f g, ok f → ok g → cov f g = true → mt e g = true → mt e f = true) {V : Nat → Prop} {s : TS F E} (h0 : b0 < nb) (I : Inv cov adj nxt home ok s) (W : Ew adj nxt mt H b0 e V s) (hs : quiet s) :
    ∀ (r b m : Nat), b < nb → nxt b b0 = (m : Int) → adj m b = true → rank m b ≤ r → (∃ h ∈ s.held b, h.fr ≠ (m : Int) ∧ mt e h.f = true) → V b := by
  intro r
  induction r using Nat.strongRecOn with
  | ind r ih =>
    intro b m hb hbm hmb hr hx
    have hback := (match_back P hm I (N.sym _ _ hmb) (hs b m)).2 hx
    obtain ⟨h', h1, h2, h3⟩ := hback
    have hex := Z.excl b m b0 h0 (N.sym _ _ hmb) hbm
    have hvm : V m := by
      rcases R.nb m b0 with e' | ⟨m', e', hm'⟩
      · rw [Z.one m b0 (Z.inn m b hmb).1 h0 e']; exact W.at0
      · have hm'b : m' ≠ b := fun e'' => hex (by rw [e', e''])
        have hlt := R.lt m b m' hmb hm' hm'b
        exact ih (rank m' m) (by omega) m m' (Z.inn m b hmb).1 e' hm' (Nat.le_refl _) ⟨h', h1, by rw [h2]; omega, h3⟩
    refine Classical.byContradiction fun hvb => ?_
    have := W.q2 m b hmb hvm hvb (by
      simp only [goes, List.any_eq_true, Bool.and_eq_true, beq_iff_eq]
      exact ⟨h', h1, h2, h3⟩)
    rw [hs] at this; cases this
/-- When nothing waits any more, everybody has heard just what they asked for. -/
theorem heard_end (P : Pre cov ok) (N : Nx adj nxt) {nb : Nat} (Z : Nz nb adj nxt) (R : Rk adj nxt rank) (hh : ∀ c, home c < nb) {s s' : TS F E} (I : Inv cov adj nxt home ok s) (hq : quiet s) {l : List (Ky × F)} (O : Ow home s l) {fr : Int} {e : E} (hm : ∀ f g, ok f → ok g → cov f g = true → mt e g = true → mt e f = true) {cs cs' : List (Pc E)} (hc : ∀ c ∈ cs, c.at' = home c.num ∧ c.lost = 0 ∧ c.box = []) {n : Nat}
    (h : Run cov adj mt (s.come adj mt (home fr) (-1) e) (cs.map (hearAt mt (s.held (home fr)) (true, fr) e)) n s' cs') (hq' : quiet s') :
    Inv cov adj nxt home ok s' ∧ Ow home s' l ∧ ∀ c ∈ cs', c.at' = home c.num ∧ c.lost = 0 ∧ ((c.num ≠ fr ∧ ∃ k f, (k, f) ∈ l ∧ k.1 = c.num ∧ mt e f = true) → c.box = [e]) ∧ (¬ (c.num ≠ fr ∧ ∃ k f, (k, f) ∈ l ∧ k.1 = c.num ∧ mt e f = true) → c.box = []) := by
  have I1 : Inv cov adj nxt home ok (s.come adj mt (home fr) (-1) e) := come_inv I _ _ _
  have key := Run.keep (P := fun t ds => Inv cov adj nxt home ok t ∧ ∃ V, Ew adj nxt mt s.held (home fr) e V t ∧ Hc mt home s.held fr e V ds) (fun t ds a b m r p h1 h2 => by
    obtain ⟨J, V, W, C⟩ := p
    exact ⟨nstep_inv N J h1 h2, _, (ew_step (cov := cov) N W h1 h2).2.2.2, hc_step N Z hh J rfl W C h1 h2⟩) h ⟨I1, _, ew_init hq N.irr _ _, hc_init Z hh I hc⟩
  obtain ⟨J, V, W, C⟩ := key
  refine ⟨J, h.ow N I1 O, fun c hcm => ?_⟩
  obtain ⟨h1, h2, h3, h4⟩ := C c hcm
  have hask : asksP mt (s.held c.at') (true, c.num) e = true ↔ ∃ k f, (k, f) ∈ l ∧ k.1 = c.num ∧ mt e f = true := by rw [h1]; exact asks_ow O
  have hV : asksP mt (s.held c.at') (true, c.num) e = true → V c.at' := by
    intro ha
    by_cases hb0 : c.at' = home fr
    · rw [hb0]; exact W.at0
    · have hlt : c.at' < nb := by rw [h1]; exact hh _
      rcases R.nb c.at' (home fr) with e' | ⟨m, e', hm'⟩
      · exact absurd (Z.one _ _ hlt (hh fr) e') hb0
      · refine ew_all1 P R N Z hm (hh fr) J W hq' _ c.at' m hlt e' hm' (Nat.le_refl _) ?_
        simp only [asksP, List.any_eq_true, Bool.and_eq_true, decide_eq_true_eq] at ha
        obtain ⟨x, hx, k1, k2⟩ := ha
        rw [← W.held] at hx
        refine ⟨x, hx, ?_, k2⟩
        unfold sd at k1
        split at k1
        · rename_i k3; rw [k3]; omega
        · injection k1 with k1; cases k1
  exact ⟨h1, h2, fun hx => h3 ⟨hV (hask.2 hx.2), hx.1, hask.2 hx.2⟩, fun hx => h4 (fun hn => hx ⟨hn.2.1, hask.1 hn.2.2⟩)⟩
end
end Go.Proofs.YtecnfgikbmcgoaaGreat
namespace Go.Proofs.YtecnfgikbmcgoaaGreat

section
variable {F E : Type}
variable {cov : F → F → Bool} {adj : Nat → Nat → Bool} {nxt : Nat → Nat → Int} {home : Int → Nat} {ok : F → Prop} {rank : Nat → Nat → Nat} {mt : E → F → Bool}
/-- One filter, everywhere, and nothing else. -/
theorem rm_start (P : Pre cov ok) (R : Rk adj nxt rank) (N : Nx adj nxt) {nb : Nat} (Z : Nz nb adj nxt) {k : Ky} {f : F} (hf : ok f) (h0 : home k.1 < nb) (e : E) {cs cs' : List (Pc E)} (hc : ∀ c ∈ cs, c.box = [] ∧ c.lost = 0) {s' : TS F E} {n : Nat}
    (h : Run cov adj mt ((TS.none F E).turn cov adj (home k.1) [⟨k, f, -1⟩]) cs n s' cs') (hq : quiet s') : Rm nb adj nxt k (home k.1) f e k.1 s' cs' 0 ∧ cs' = cs := by
  obtain ⟨_, I, L⟩ := fl_count (mt := mt) P R N Z hf h0 h.sts hq
  have I0 : Inv cov adj nxt home ok ((TS.none F E).turn cov adj (home k.1) [⟨k, f, -1⟩]) := sub_inv N none_inv k f hf (fun g hg => by cases hg)
  have K0 : Kif (fun k' f' => k' = k ∧ f' = f) ((TS.none F E).turn cov adj (home k.1) [⟨k, f, -1⟩]) := turn_kif ⟨(fun b h hm => by cases hm), (fun a b k f hm => by cases hm)⟩ (fun x hx => by rw [List.mem_singleton.1 hx]; exact ⟨rfl, rfl⟩)
  have L0 : Fl k (home k.1) ((TS.none F E).turn cov adj (home k.1) [⟨k, f, -1⟩]) := by
    refine ⟨fun b h hm => (K0.held b h hm).1, fun a b m hm => ?_, ?_⟩
    · have hm' : m ∈ (if a = home k.1 ∧ adj (home k.1) b = true then [] ++ chg cov [] [(⟨k, f, -1⟩ : Hd F)] b else []) := hm
      split at hm'
      · rw [List.nil_append] at hm'
        cases m with
        | sub k' f' => exact ⟨f', by rw [(K0.q a b k' f' hm).1]⟩
        | uns k' =>
          obtain ⟨g, hg, _⟩ := mem_chg_uns hm'
          cases hg
        | ev e =>
          simp only [chg, subs, unss, List.mem_append, List.mem_map] at hm'
          rcases hm' with ⟨_, _, h⟩ | ⟨_, _, h⟩ <;> cases h
      · cases hm'
    · show (if home k.1 = home k.1 then [(⟨k, f, -1⟩ : Hd F)] else []) ≠ []
      rw [if_pos rfl]; simp
  have key := Run.keep (P := fun s ds => Inv cov adj nxt home ok s ∧ Fl k (home k.1) s ∧ Kif (fun k' f' => k' = k ∧ f' = f) s ∧ ds = cs) (fun s ds a b m r p h1 h2 => by
    obtain ⟨p1, p2, p3, p4⟩ := p
    refine ⟨nstep_inv N p1 h1 h2, (fl_step (mt := mt) Z p1 p2 h1 h2).1, nstep_kif p3 h2, ?_⟩
    obtain ⟨f', rfl⟩ := p2.ms a b m (by rw [h2]; simp)
    exact p4) h ⟨I0, L0, K0, rfl⟩
  obtain ⟨_, _, K, rfl⟩ := key
  refine ⟨⟨fun b hb => ?_, (fun a b m hm => by rw [hq] at hm; cases hm), I.nq, fun c hcm _ => ⟨0, ?_, ?_, ?_⟩⟩, rfl⟩
  · have hne : s'.held b ≠ [] := by
      rcases R.nb b (home k.1) with e | ⟨m, e, hm⟩
      · rw [Z.one b _ hb h0 e]; exact L.at0
      · exact fl_all P R N Z I h0 L hq _ b m hb e hm (Nat.le_refl _)
    have all : ∀ x ∈ s'.held b, x = ⟨k, f, nxt b (home k.1)⟩ := fun x hx => by
      have h1 := K.held b x hx
      have h2 := I.rt b x hx
      rw [h1.1] at h2
      cases x
      simp only at h1 h2
      rw [h1.1, h1.2, h2]
    have hs := I.srt b
    cases hl : s'.held b with
    | nil => exact absurd hl hne
    | cons x t =>
      rw [hl] at all hs
      have hx := all x (by simp)
      cases t with
      | nil => rw [hx]
      | cons y u =>
        have hy := all y (by simp)
        have := (List.pairwise_cons.1 hs).1 y (by simp)
        rw [hx, hy, klt_irr] at this; cases this
  · have : sm nb (fun a => sm nb fun b => (s'.q a b).length) = sm nb fun _ => 0 := sm_congr nb (fun a _ => by
      rw [sm_congr nb (g := fun _ => 0) (fun b _ => by rw [hq]; rfl), sm_zero])
    rw [this, sm_zero]
  · rw [(hc c hcm).1]; rfl
  · rw [(hc c hcm).2]; rfl
/-- When nothing waits, all have come. -/
theorem rm_end {nb : Nat} {k : Ky} {b1 : Nat} {f : F} {e : E} {s : TS F E} {cs : List (Pc E)} {n : Nat} (h : Rm nb adj nxt k b1 f e k.1 s cs n) (hq : quiet s) {c : Pc E} (hc : c ∈ cs) (hn : c.num = k.1) : c.box = List.replicate (min n 16) e ∧ c.lost = ((n - 16 : Nat) : Int) := by
  obtain ⟨j, hj, h1, h2⟩ := h.c c hc hn
  have : sm nb (fun a => sm nb fun b => (s.q a b).length) = sm nb fun _ => 0 := sm_congr nb (fun a _ => by
    rw [sm_congr nb (g := fun _ => 0) (fun b _ => by rw [hq]; rfl), sm_zero])
  rw [this, sm_zero] at hj
  have : j = n := by omega
  rw [← this]; exact ⟨h1, h2⟩
end
end Go.Proofs.YtecnfgikbmcgoaaGreat
namespace Go.Proofs.YtecnfgikbmcgoaaGreat
open Go.RowKit

def moreW : Wnt := ⟨⟨#[97]⟩, 6, 1, 3, ⟨#[]⟩⟩
def threeA : Atr := ⟨⟨#[97]⟩, 1, 3, ⟨#[]⟩⟩
theorem moreW_ok : wOk moreW = true := by
  simp only [wOk, wantOk, moreW, name97, Bool.true_and]
  rw [wayOk_mid _ _ _ _ (by omega) (by omega)]; simp [valOk]
theorem live_fi : filterOk [anyW] = true ∧ filterOk [moreW] = true := by simp [filterOk, anyW_ok, moreW_ok]
theorem live_ev : evOk [threeA] = true := one_ok threeA name97 (by simp [threeA, valOk])
theorem live_mat : mat [threeA] [anyW] = true ∧ mat [threeA] [moreW] = false := by simp [mat, ans, threeA, anyW, moreW, lets]
theorem live_cov : cov [anyW] [moreW] = true ∧ cov [moreW] [anyW] = false := by
  have h1 := anyW_ok
  have h2 := moreW_ok
  simp only [wOk, anyW, moreW] at h1 h2
  refine ⟨?_, ?_⟩
  · rw [cov, live_fi.1, live_fi.2]; simp [impW, impB, anyW, moreW, h1, h2, withinB]
  · rw [cov, live_fi.1, live_fi.2]; simp [impW, impB, anyW, moreW, h1, h2, withinB, nothingB]
theorem live_wf : (∀ x ∈ [anyW], Wnt.Wf x) ∧ (∀ x ∈ [moreW], Wnt.Wf x) ∧ (∀ x ∈ [threeA], Atr.Wf x) := by
  refine ⟨?_, ?_, ?_⟩
  all_goals
    intro x hx
    simp at hx; subst hx
    constructor <;> decide

def liveW (w : World) : World := (((w.alloc (.cells #[.string ⟨#[97]⟩, .int .i64 1, .int .i64 0, .int .i64 0, .string ⟨#[]⟩] 76)).alloc (.cells #[.string ⟨#[97]⟩, .int .i64 6, .int .i64 1, .int .i64 3, .string ⟨#[]⟩] 76)).alloc (.cells #[.string ⟨#[97]⟩, .int .i64 1, .int .i64 3, .string ⟨#[]⟩] 74))
theorem live_gr (w : World) : Gr w (liveW w) := (((Gr.refl w).alloc _).alloc _).alloc _
theorem live_any (w : World) : FiAt (liveW w) (some ⟨w.heap.size, 0, none⟩) [anyW] := by
  refine Or.inr ⟨w.heap.size, 0, rfl, by simp [liveW]; omega, fun i hi => ?_⟩
  have e : i = 0 := by simpa using hi
  subst e
  simp [liveW, go_sem, wat, anyW]
theorem live_more (w : World) : FiAt (liveW w) (some ⟨w.heap.size + 1, 0, none⟩) [moreW] := by
  refine Or.inr ⟨w.heap.size + 1, 0, rfl, by simp [liveW], fun i hi => ?_⟩
  have e : i = 0 := by simpa using hi
  subst e
  simp [liveW, go_sem, wat, moreW]
theorem live_three (w : World) : EvAt (liveW w) (some ⟨w.heap.size + 1 + 1, 0, none⟩) [threeA] := by
  refine Or.inr ⟨w.heap.size + 1 + 1, 0, rfl, by simp [liveW], fun i hi => ?_⟩
  have e : i = 0 := by simpa using hi
  subst e
  simp [liveW, go_sem, aat, threeA]
theorem one_len {α : Type} (x : α) : [x].length ≤ maxLen := by simp [maxLen]
theorem Covers_ad (f g : List Wnt) (ad ad' : Option Addr) (cap cap' : Nat) (m : Int) (w : World) (hl : f.length ≤ maxLen) (h : FiAt w ad f) (hwf : ∀ x ∈ f, Wnt.Wf x) (hne : f ≠ [])
    (hl' : g.length ≤ maxLen) (h' : FiAt w ad' g) (hwf' : ∀ x ∈ g, Wnt.Wf x) (hne' : g ≠ []) (hM : Ml m w) :
    Calls Tryz.prog 44 #[.slice ad f.length cap, .slice ad' g.length cap'] w fun e w' => e = .returned (.bool (cov f g)) ∧ Gr w w' := by
  rcases h with h | ⟨b, off, rfl, hb, hat⟩
  · exact absurd h hne
  rcases h' with h' | ⟨b', off', rfl, hb', hat'⟩
  · exact absurd h' hne'
  exact Covers_any f g b off cap b' off' cap' m w hl hb hat hwf hl' hb' hat' hwf' hM

set_option maxHeartbeats 2000000 in
theorem lives_any (m : Int) (w : World) (hM : Ml m w) : Calls Tryz.prog 20 #[] w fun e w' => e = .returned (.bool true) ∧ Gr w w' := by
  have HW : Hid ((∀ x ∈ [anyW], Wnt.Wf x) ∧ (∀ x ∈ [moreW], Wnt.Wf x) ∧ (∀ x ∈ [threeA], Atr.Wf x)) := live_wf
  have HF : Hid (filterOk [anyW] = true ∧ filterOk [moreW] = true) := live_fi
  have HE : Hid (evOk [threeA] = true) := live_ev
  have HM : Hid (mat [threeA] [anyW] = true ∧ mat [threeA] [moreW] = false) := live_mat
  have HC : Hid (cov [anyW] [moreW] = true ∧ cov [moreW] [anyW] = false) := live_cov
  go_enter Tryz.func20, Tryz.ntmps20
  go_wp2_with fail
  have hMl : Ml m (liveW w) := (live_gr w).ml hM
  refine (one_any [threeA] [anyW] _ _ 1 1 m (liveW w) (one_len _) (live_three w) HW.out.2.2 (one_len _) (live_any w) HW.out.1 HE.out HF.out.1 hMl).mono ?_
  rw [HM.out.1]
  rintro e w1 ⟨rfl, hb1⟩
  have g1 : Gr (liveW w) w1 := hb1
  clear hb1
  go_wp2_with fail
  refine (one_any [threeA] [moreW] _ _ 1 1 m w1 (one_len _) ((live_three w).gr g1) HW.out.2.2 (one_len _) ((live_more w).gr g1) HW.out.2.1 HE.out HF.out.2 (g1.ml hMl)).mono ?_
  rw [HM.out.2]
  rintro e w2 ⟨rfl, hb2⟩
  have g2 : Gr (liveW w) w2 := Gr.call g1 hb2
  clear hb2
  go_wp2_with fail
  refine (Covers_ad [anyW] [moreW] _ _ 1 1 m w2 (one_len _) ((live_any w).gr g2) HW.out.1 (by simp) (one_len _) ((live_more w).gr g2) HW.out.2.1 (by simp) (g2.ml hMl)).mono ?_
  rw [HC.out.1]
  rintro e w3 ⟨rfl, hb3⟩
  have g3 : Gr (liveW w) w3 := Gr.call g2 hb3
  clear hb3
  go_wp2_with fail
  refine (Covers_ad [moreW] [anyW] _ _ 1 1 m w3 (one_len _) ((live_more w).gr g3) HW.out.2.1 (by simp) (one_len _) ((live_any w).gr g3) HW.out.1 (by simp) (g3.ml hMl)).mono ?_
  rw [HC.out.2]
  rintro e w4 ⟨rfl, hb4⟩
  have g4 : Gr (liveW w) w4 := Gr.call g3 hb4
  clear hb4
  go_wp2_with fail
  go_ret
  exact ⟨rfl, Gr.call (live_gr w) g4⟩
end Go.Proofs.YtecnfgikbmcgoaaGreat
namespace Go.Proofs.YtecnfgikbmcgoaaGreat
open Go.RowKit

section
variable {adj : Nat → Nat → Bool} {nxt : Nat → Nat → Int} {home : Int → Nat}
theorem fl_init {c : Int} {i : Int} {W : List Wnt} : Fl ((c, i) : Ky) (home c) ((TS.none (List Wnt) (List Atr)).turn cov adj (home c) [⟨(c, i), W, -1⟩]) := by
  refine ⟨fun b h hm => ?_, fun a b m hm => ?_, ?_⟩
  · have hm : h ∈ (if b = home c then [(⟨(c, i), W, -1⟩ : Hw)] else []) := hm
    split at hm
    · rw [List.mem_singleton.1 hm]
    · cases hm
  · have hm : m ∈ (if a = home c ∧ adj (home c) b = true then [] ++ chg cov [] [(⟨(c, i), W, -1⟩ : Hw)] b else []) := hm
    split at hm
    · rw [List.nil_append] at hm
      have e : (chg cov [] [(⟨(c, i), W, -1⟩ : Hw)] (b : Int) : List (Ms (List Wnt) (List Atr))) = chg cov [] (ins (⟨(c, i), W, -1⟩ : Hw) []) b := by rfl
      rw [e, chg_ins (by simp [Srt]) (fun g hg => by cases hg) (by show (-1 : Int) ≠ b; omega)] at hm
      simp [isT, woT, unss] at hm
      exact ⟨W, hm⟩
    · cases hm
  · show (if home c = home c then _ else _) ≠ _
    simp
theorem home_init {c i : Int} {W : List Wnt} : ((TS.none (List Wnt) (List Atr)).turn cov adj (home c) [⟨(c, i), W, -1⟩]).held (home c) = [⟨(c, i), W, -1⟩] := by
  show (if home c = home c then _ else _) = _
  rw [if_pos rfl]
/-- What the narrower filter does to a quiet tree: nothing. -/
theorem turn_quiet {s : Ts} {b : Nat} {l' : List Hw} (hq : quiet s) (h : ∀ n : Nat, (chg cov (s.held b) l' (n : Int) : List (Ms (List Wnt) (List Atr))) = []) : quiet (s.turn cov adj b l') := by
  intro x y
  show (if x = b ∧ adj b y = true then s.q x y ++ chg cov (s.held b) l' y else s.q x y) = []
  rw [h, hq, List.append_nil]
  split <;> rfl
theorem held_turn {s : Ts} {b : Nat} {l' : List Hw} : (s.turn cov adj b l').held b = l' := by
  show (if b = b then _ else _) = _
  rw [if_pos rfl]
theorem held_other {s : Ts} {b x : Nat} {l' : List Hw} (h : x ≠ b) : (s.turn cov adj b l').held x = s.held x := by
  show (if x = b then _ else _) = _
  rw [if_neg h]
end
/-- A filter of the caller's own. -/
structure FiN (r : Nat → Rl) (w : World) (ad : Option Addr) (f : List Wnt) : Prop where
  m : FiM w ad f
  r : ∃ b off, ad = some ⟨b, off, none⟩ ∧ r b = .no
theorem FiN.fr {r r' : Nat → Rl} {w w' : World} {ad : Option Addr} {f : List Wnt} (h : FiN r w ad f) (k : Fr r r' w w') : FiN r' w' ad f := by
  obtain ⟨⟨⟨b, off, h1, h2, h3⟩, hwf, hok⟩, b', off', h4, h5⟩ := h
  have e := h1.symm.trans h4
  injection e with e
  injection e with e1 e2
  subst e1
  exact ⟨⟨⟨b, off, h1, Nat.lt_of_lt_of_le h2 k.size, h3.blk (k.keep b h2 (Or.inl h5))⟩, hwf, hok⟩, b, off, h1, (k.same b h2).trans h5⟩
theorem pow31 {N n : Nat} (hN : N ≤ 6) (hn : n ≤ 2) : N * (N * (1 * (N * (2 * n + 1) + 1) ^ N)) < 4611686018427387904 := by
  have h1 : N * (2 * n + 1) + 1 ≤ 31 := by
    have := Nat.mul_le_mul hN (show 2 * n + 1 ≤ 5 by omega)
    omega
  have h2 : (N * (2 * n + 1) + 1) ^ N ≤ 31 ^ 6 := Nat.le_trans (Nat.pow_le_pow_left h1 N) (Nat.pow_le_pow_right (by omega) hN)
  have h3 : N * (N * (1 * (N * (2 * n + 1) + 1) ^ N)) ≤ 6 * (6 * (1 * 31 ^ 6)) := Nat.mul_le_mul hN (Nat.mul_le_mul hN (Nat.mul_le_mul (Nat.le_refl _) h2))
  exact Nat.lt_of_le_of_lt h3 (by decide)
/-- The three states of Quiet. -/
structure Q2 (T : Tc) (nxt : Nat → Nat → Int) (home : Int → Nat) (c : Int) (W : List Wnt) (s2 : Ts) : Prop where
  I : Inv cov T.adj nxt home okF s2
  L : Fl ((c, 1) : Ky) (home c) s2
  q : quiet s2
  h : s2.held (home c) = [⟨(c, 1), W, -1⟩]
theorem drain1 (T : Tc) (r : Nat → Rl) (w : World) (cls : List Cl) (nxt : Nat → Nat → Int) (rank : Nat → Nat → Nat) (home : Int → Nat) (c : Int) (W : List Wnt) (S : Sh T nxt rank) (hN : T.nb ≤ 6) (hW : okF W) (hb : home c < T.nb)
    (hT : Tw T r w cls ((TS.none (List Wnt) (List Atr)).turn cov T.adj (home c) [⟨(c, 1), W, -1⟩])) :
    Calls Tryz.prog 14 #[.pointer (some ⟨T.TB, 0, none⟩)] w fun e w' => ∃ s2 r', e = .returned (.int .i64 ((T.nb : Int) - 1)) ∧ Q2 T nxt home c W s2 ∧ Tw T r' w' cls s2 ∧ Fr r r' w w' := by
  have I1 : Inv cov T.adj nxt home okF ((TS.none (List Wnt) (List Atr)).turn cov T.adj (home c) [⟨(c, 1), W, -1⟩]) := sub_inv S.N none_inv (c, 1) W hW (fun g hg => by cases hg)
  have L1 : Fl ((c, 1) : Ky) (home c) ((TS.none (List Wnt) (List Atr)).turn cov T.adj (home c) [⟨(c, 1), W, -1⟩]) := fl_init
  refine (Drain_f T r w cls _ nxt rank home okF [(c, 1), (c, 2)] hT S.N S.R I1 ⟨fun b h hm => by rw [L1.key b h hm]; simp, fun a b k f hm => ?_⟩ (fun n s' h => ?_) (fun n s' h a b e he => ?_) ?_).mono ?_
  · obtain ⟨f', e⟩ := L1.ms a b _ hm
    injection e with e _
    rw [e]; simp
  · obtain ⟨_, I, L⟩ := fl_home S.N S.Z h I1 L1
    exact ⟨fun b _ => Nat.le_trans (fl_h1 I L b) (by omega), fun a b => Nat.lt_of_le_of_lt (fl_q1 I L a b) (by omega)⟩
  · obtain ⟨_, I, L⟩ := fl_home S.N S.Z h I1 L1
    obtain ⟨f', e'⟩ := L.ms a b _ he
    cases e'
  · exact Nat.lt_of_le_of_lt (todo_le S.le (by omega) (fun a b => fl_q1 I1 L1 a b)) (pow31 hN (Nat.le_refl _))
  · rintro e w' ⟨k, s', r', h1, h2, h3, h4, h5⟩
    obtain ⟨hc, I, L⟩ := fl_count preF S.R S.N S.Z hW (k := ((c, 1) : Ky)) hb h2 h3
    refine ⟨s', r', ?_, ⟨I, L, h3, (fl_home S.N S.Z h2 I1 L1).1.trans home_init⟩, h4, h5⟩
    rw [h1]
    congr 2
    omega
theorem Q2.sm {T : Tc} {nxt : Nat → Nat → Int} {home : Int → Nat} {c : Int} {W : List Wnt} {s2 : Ts} (h : Q2 T nxt home c W s2) : Sm T s2 :=
  ⟨fun b _ => Nat.le_trans (fl_h1 h.I h.L b) (by omega), fun a b => by rw [h.q]; simp⟩
theorem Q2.ncl {T : Tc} {nxt : Nat → Nat → Int} {home : Int → Nat} {c : Int} {W : List Wnt} {s2 : Ts} (h : Q2 T nxt home c W s2) (hN : T.nb ≤ 6) : nCl T s2 < 64 := by
  have := sm_le (f := fun b => ((s2.held b).filter fun h => h.fr == -1).length) (g := fun _ => 1) T.nb (fun b _ => Nat.le_trans (List.length_filter_le _ _) (fl_h1 h.I h.L b))
  rw [sm_const] at this
  unfold nCl; omega
/-- With the narrower filter. -/
structure Q3 (T : Tc) (nxt : Nat → Nat → Int) (home : Int → Nat) (c : Int) (W V : List Wnt) (s : Ts) : Prop where
  I : Inv cov T.adj nxt home okF s
  q : quiet s
  h : s.held (home c) = [⟨(c, 1), W, -1⟩, ⟨(c, 2), V, -1⟩]
  k : ∀ b, ∀ x ∈ s.held b, x.key = (c, 1) ∨ x.key = (c, 2)
  l : ∀ b, (s.held b).length ≤ 2
theorem Q2.up {T : Tc} {nxt : Nat → Nat → Int} {rank : Nat → Nat → Nat} {home : Int → Nat} {c : Int} {W V : List Wnt} {s2 : Ts} (h : Q2 T nxt home c W s2) (S : Sh T nxt rank) (hV : okF V) (hWV : cov W V = true) : Q3 T nxt home c W V (s2.turn cov T.adj (home c) (ins ⟨(c, 2), V, -1⟩ (s2.held (home c)))) := by
  have hn : ∀ g ∈ s2.held (home c), g.key ≠ ((c, 2) : Ky) := fun g hg => by rw [h.L.key _ g hg]; simp
  refine ⟨sub_inv S.N h.I (c, 2) V hV hn, turn_quiet h.q (fun n => ?_), ?_, fun b x hx => ?_, fun b => ?_⟩
  · rw [h.h]; exact narrow_chg hWV n
  · rw [held_turn, h.h, ins_two]
  · by_cases hb : b = home c
    · rw [hb, held_turn, h.h, ins_two] at hx
      simp at hx
      rcases hx with rfl | rfl
      · exact Or.inl rfl
      · exact Or.inr rfl
    · rw [held_other hb] at hx
      exact Or.inl (h.L.key b x hx)
  · by_cases hb : b = home c
    · rw [hb, held_turn, h.h, ins_two]; simp
    · rw [held_other hb]
      exact Nat.le_trans (fl_h1 h.I h.L b) (by omega)
theorem drain0 (T : Tc) (r : Nat → Rl) (w : World) (cls : List Cl) (nxt : Nat → Nat → Int) (rank : Nat → Nat → Nat) (home : Int → Nat) (s : Ts) (Ks : List Ky) (S : Sh T nxt rank) (I : Inv cov T.adj nxt home okF s) (hq : quiet s) (hk : ∀ b, ∀ x ∈ s.held b, x.key ∈ Ks) (hm : Sm T s) (hT : Tw T r w cls s) :
    Calls Tryz.prog 14 #[.pointer (some ⟨T.TB, 0, none⟩)] w fun e w' => ∃ r', e = .returned (.int .i64 0) ∧ Tw T r' w' cls s ∧ Fr r r' w w' := by
  refine (Drain_f T r w cls s nxt rank home okF Ks hT S.N S.R I ⟨hk, fun a b k f hm => by rw [hq] at hm; cases hm⟩ (fun n s' h => ?_) (fun n s' h a b e he => ?_) ?_).mono ?_
  · rw [(quiet_sts h hq).2]; exact hm
  · rw [(quiet_sts h hq).2, hq] at he; cases he
  · rw [todo_zero hq]; omega
  · rintro e w' ⟨k, s', r', h1, h2, h3, h4, h5⟩
    obtain ⟨e1, e2⟩ := quiet_sts h2 hq
    subst e1
    subst e2
    exact ⟨r', h1, h4, h5⟩
end Go.Proofs.YtecnfgikbmcgoaaGreat
namespace Go.Proofs.YtecnfgikbmcgoaaGreat
open Go.RowKit

theorem Q3.sm {T : Tc} {nxt : Nat → Nat → Int} {home : Int → Nat} {c : Int} {W V : List Wnt} {s : Ts} (h : Q3 T nxt home c W V s) : Sm T s :=
  ⟨fun b _ => Nat.le_trans (h.l b) (by omega), fun a b => by rw [h.q]; simp⟩
theorem Q3.down {T : Tc} {nxt : Nat → Nat → Int} {rank : Nat → Nat → Nat} {home : Int → Nat} {c : Int} {W V : List Wnt} {s : Ts} (h : Q3 T nxt home c W V s) (S : Sh T nxt rank) (hWV : cov W V = true) :
    Inv cov T.adj nxt home okF (s.turn cov T.adj (home c) (del (c, 2) (s.held (home c)))) ∧ quiet (s.turn cov T.adj (home c) (del (c, 2) (s.held (home c)))) ∧ (∀ b, ∀ x ∈ (s.turn cov T.adj (home c) (del (c, 2) (s.held (home c)))).held b, x.key ∈ [((c, 1) : Ky), (c, 2)]) ∧ Sm T (s.turn cov T.adj (home c) (del (c, 2) (s.held (home c)))) := by
  have hq : quiet (s.turn cov T.adj (home c) (del (c, 2) (s.held (home c)))) := turn_quiet h.q (fun n => by rw [h.h]; exact narrow_del hWV n)
  refine ⟨uns_inv S.N h.I (c, 2), hq, fun b x hx => ?_, ⟨fun b _ => ?_, fun a b => by rw [hq]; simp⟩⟩
  · have : x ∈ s.held b := by
      by_cases hb : b = home c
      · rw [hb, held_turn] at hx
        rw [hb]; exact (mem_del.1 hx).1
      · rwa [held_other hb] at hx
    rcases h.k b x this with e | e <;> (rw [e]; simp)
  · by_cases hb : b = home c
    · rw [hb, held_turn, h.h, del_two]; simp
    · rw [held_other hb]; exact Nat.le_trans (h.l b) (by omega)
theorem fin_of {r : Nat → Rl} {w : World} {base g cap : Nat} {e : TypeId} {l : List Wnt} (h : w.ownsRow base e 5 (.slice (some ⟨g, 0, none⟩) l.length cap) l.length (wcells l)) (hok : filterOk l = true) (hwf : ∀ x ∈ l, Wnt.Wf x) (hr : r g = .no) : FiN r w (some ⟨g, 0, none⟩) l := by
  refine ⟨⟨?_, hwf, hok⟩, g, 0, rfl, hr⟩
  rcases owns_fi h with h0 | h0
  · exact absurd h0 (fi_ok_of hok).2
  · exact h0
theorem kept_fr {w w' : World} {n bs size : Nat} {e : TypeId} {v : Value} {xs : List Value} (g : Gr w w') (h : w.ownsRow bs e size v n xs) : w'.ownsRow bs e size v n xs := ownsGr h g
theorem owns_grown0 {base : Nat} {a w w' : World} {e : TypeId} {size : Nat} {v : Value} {n : Nat} {xs : List Value} (hb : base = a.heap.size) (h : w.ownsRow base e size v n xs) (g : Gr a w) (hg : w.grownBy w' v.ownBlock) : Gr a w' := by
  subst hb
  refine Below.grown g hg g.size (fun b hb => ?_)
  rcases h.2 with ⟨hv, _⟩ | ⟨q, cap, cur, hv, hq, _⟩
  · rw [hv] at hb; simp [Value.ownBlock] at hb
  · rw [hv] at hb; simp [Value.ownBlock] at hb; omega
set_option maxRecDepth 100000 in
set_option maxHeartbeats 4000000 in
theorem Quiet_any (zs ps : List Int) (c : Int) (f g : List Int) (az ap af ag : Option Addr) (cz cp cf cg : Nat) (ml : Int) (w : World)
    (lz : zs.length ≤ 1048576) (hz : InAt w az zs) (wz : IntWf zs) (lp : ps.length ≤ 1048576) (hp : InAt w ap ps) (wp : IntWf ps) (hc : I64 c) (lf : f.length ≤ 1048576) (hf : InAt w af f) (wf_ : IntWf f) (lg : g.length ≤ 1048576) (hg : InAt w ag g) (wg : IntWf g) (hml : Ml ml w) :
    Calls Tryz.prog 5 #[.slice az zs.length cz, .slice ap ps.length cp, .int .i64 c, .slice af f.length cf, .slice ag g.length cg] w fun e w' => e = .returned (.bool true) ∧ Gr w w' := by
  obtain ⟨i0, hi, hz0, hz1, hz2⟩ := info_parts Tryz.infoWantK
  have GR := Hid.mk' (grown_any zs ps az ap cz cp ml w lz hz wz lp hp wp hml)
  have HZ := Hid.mk' (And.intro hz wz)
  have HF := Hid.mk' (And.intro hf wf_)
  have HG := Hid.mk' (And.intro hg wg)
  have HML := Hid.mk' hml
  have hb6 : 1 ≤ nbF zs ∧ nbF zs ≤ 6 := by unfold nbF; omega
  have HB6 := Hid.mk' hb6
  have OKF := Hid.mk' (wantsF_ok f)
  have OKG := Hid.mk' (wantsF_ok g)
  have OKB := Hid.mk' (both_ok f g)
  have hlF : 1 ≤ (wantsF f).length ∧ (wantsF f).length ≤ 3 := (wantsF_ok f).2.2
  have hlG : 1 ≤ (wantsF g).length ∧ (wantsF g).length ≤ 3 := (wantsF_ok g).2.2
  have COV := Hid.mk' (cov_sub (wantsF_ok f).1 (both_ok f g).1 (wantsF_ok f).2.1 (fun x hx => List.mem_append.2 (Or.inl hx)))
  have hcb := hc
  clear hz wz hp wp hf wf_ hg wg hml hb6 hc
  unfold I64 at hcb
  go_enter Tryz.func5, Tryz.ntmps5
  go_wp2_with fail
  refine GR.out.mono ?_
  rintro e w1 ⟨T, r, cls, nxt, rank, rfl, t1, f1, hTn, hTm, SH, CL⟩
  have T1 := Hid.mk' t1
  have F1 := Hid.mk' f1
  have S1 := Hid.mk' SH
  have C1 := Hid.mk' CL
  have HTN := Hid.mk' hTn
  clear GR t1 f1 SH CL hTn
  go_wp2_with fail
  refine (lives_any ml _ (F1.out.gr0.ml HML.out)).mono ?_
  rintro e w2 ⟨rfl, g2⟩
  have G2 := Hid.mk' g2
  clear g2
  go_wp2_with fail
  refine (wants_any f af cf w2 (by unfold maxLen; omega) (HF.out.1.gr (Gr.call F1.out.gr0 G2.out)) HF.out.2).mono ?_
  rintro e w3 ⟨vW, rfl, g3, hW⟩
  have HW0 := Hid.mk' hW
  obtain ⟨gx, cx, rfl⟩ := owns_pos hW (by omega)
  have G3 := Hid.mk' (Gr.call G2.out g3)
  have OW := Hid.mk' hW
  have OWX := Hid.mk' hW
  clear HW0 hW g3
  go_wp2_with (at_builtin; refine wpList_append_own _ rfl _ _ 48 rfl w3.heap.size 76 i0 _ 5 56 Tryz.underlying48 hi hz0 hz1 hz2 rfl (by decide) _ _ _ rfl (World.ownsRow_nil _ _ _ _) ⟨gx, 0, none⟩ (wantsF f).length cx (wcells (wantsF f)) rfl (wcells_len5 _) (owns_news OW.out) (wcells_one _) ?c3 ?c4 ?c5 ?_)
  case c3 => unfold maxLen; omega
  case c4 => omega
  case c5 => exact Nat.le_refl _
  intro v4 w4 ho4 hg4 _
  have P4 : Gr w3 w4 := owns_grown0 rfl (World.ownsRow_nil w3 w3.heap.size 76 5) (Gr.refl _) hg4
  obtain ⟨g4, c4, rfl⟩ := owns_pos ho4 (by omega)
  have HO4 : Hid (w4.ownsRow w3.heap.size 76 5 (.slice (some ⟨g4, 0, none⟩) (wantsF f).length c4) (wantsF f).length (wcells (wantsF f))) := by show World.ownsRow _ _ _ _ _ _ _; simpa using ho4
  have OW4 := Hid.mk' (ownsGr OW.out P4)
  have G4 := Hid.mk' (Gr.call G3.out P4)
  have HP4 := Hid.mk' P4
  clear ho4 hg4 P4 OW
  go_wp2_with fail
  refine (wants_any g ag cg w4 (by unfold maxLen; omega) (HG.out.1.gr (Gr.call F1.out.gr0 G4.out)) HG.out.2).mono ?_
  rintro e w5 ⟨vY, rfl, g5, hY⟩
  obtain ⟨gy, cy, rfl⟩ := owns_pos hY (by omega)
  have OY := Hid.mk' hY
  have OW5 := Hid.mk' (ownsGr OW4.out g5)
  have HO5 := Hid.mk' (ownsGr HO4.out g5)
  have G5 := Hid.mk' (Gr.call G4.out g5)
  have P5 := Hid.mk' (Gr.call HP4.out g5)
  clear hY g5 OW4 HO4 HP4
  go_wp2_with (at_builtin; refine wpList_append_own _ rfl _ _ 48 rfl w3.heap.size 76 i0 _ 5 56 Tryz.underlying48 hi hz0 hz1 hz2 rfl (by decide) _ _ _ rfl HO5.out ⟨gy, 0, none⟩ (wantsF g).length cy (wcells (wantsF g)) rfl (wcells_len5 _) (owns_news OY.out) (wcells_one _) ?c3 ?c4 ?c5 ?_)
  case c3 => unfold maxLen; omega
  case c4 => omega
  case c5 => exact P5.out.size
  intro v6 w6 ho6 hg6 _
  have P6 : Gr w3 w6 := owns_grown0 rfl HO5.out P5.out hg6
  have HO6 : w6.ownsRow w3.heap.size 76 5 v6 (wantsF f ++ wantsF g).length (wcells (wantsF f ++ wantsF g)) := by
    rw [wcells_app, List.length_append]; exact ho6
  obtain ⟨g6, c6, rfl⟩ := owns_pos HO6 (by rw [List.length_append]; omega)
  -- both filters, the caller's own
  have G6 := Hid.mk' (Gr.call G3.out P6)
  have T6 := Hid.mk' (T1.out.gr G6.out)
  have F6 := Hid.mk' (F1.out.trans (Fr.gr (r := r) G6.out))
  have TOP := Hid.mk' T1.out.b.top
  have lowX := own_low OW5.out gx rfl
  have lowB := own_low HO6 g6 rfl
  have sz3 := G3.out.size
  have sz2 := G2.out.size
  have OW6 : w6.ownsRow w2.heap.size 76 5 (.slice (some ⟨gx, 0, none⟩) (wantsF f).length cx) (wantsF f).length (wcells (wantsF f)) := by
    refine owns_kept OW5.out hg6 (fun k hk => ?_)
    have h1 : gx < w3.heap.size := owns_lt OWX.out
    have h2 := own_low HO5.out g4 rfl
    intro e
    simp only [Value.ownBlock, Option.some.injEq] at hk e
    omega
  have NW := Hid.mk' (fin_of OW6 OKF.out.1 OKF.out.2.1 (TOP.out gx (by omega)))
  have NB := Hid.mk' (fin_of HO6 OKB.out.1 OKB.out.2 (TOP.out g6 (by omega)))
  have LB : Hid ((wantsF f).length + (wantsF g).length = (wantsF f ++ wantsF g).length) := (List.length_append).symm
  clear ho6 hg6 P6 HO6 OW5 HO5 OY OW6 OWX
  have pb := pickF_bd c 6 (by omega)
  obtain ⟨x, hx, hxn0⟩ := C1.out.all (pickF c 6).toNat (by omega)
  have hxn : pickF c 6 = x.num := by rw [hxn0]; omega
  clear hxn0
  have PK := Hid.mk' (pick_any c 6 w6 hcb.1 hcb.2 (by omega) (by omega))
  rw [hxn] at PK
  have hxa := (C1.out.lt x hx).2.2.1
  have hxb : hmF ps (nbF zs) x.num < T.nb := by rw [HTN.out]; exact hmF_lt ps HB6.out.1 _
  have hT6 : T.nb ≤ 6 := by rw [HTN.out]; exact HB6.out.2
  have SB1 := Hid.mk' (Subscribe_ok T r w6 cls (TS.none (List Wnt) (List Atr)) x 1 (wantsF f) (some ⟨gx, 0, none⟩) cx T6.out hx ⟨by omega, by omega⟩ NW.out.m (fun b _ => by simp [TS.none, Srt]) (fun g hg => by cases hg) ⟨fun b _ => by simp [TS.none], fun a b => by simp [TS.none]⟩ (by
    have : nCl T (TS.none (List Wnt) (List Atr)) = 0 := by
      have := sm_zero T.nb
      simpa [nCl, TS.none] using this
    omega))
  have eI : ins (⟨(x.num, 1), wantsF f, -1⟩ : Hw) ((TS.none (List Wnt) (List Atr)).held x.at') = [⟨(x.num, 1), wantsF f, -1⟩] := by simp [ins, TS.none]
  rw [eI, hxa] at SB1
  clear eI
  have HX := Hid.mk' hx
  have HXA := Hid.mk' hxa
  have HXB := Hid.mk' hxb
  have HT6 := Hid.mk' hT6
  clear hx hxa hxb pb hxn hT6
  go_wp2_with fail
  refine PK.out.mono ?_
  rintro e wx ⟨rfl, hw⟩
  have hw' := hw.symm
  clear hw PK
  subst hw'
  go_wp2_with fail
  refine SB1.out.mono ?_
  rintro e w7 ⟨rfl, r7, t7, f7⟩
  have F7 := Hid.mk' (F6.out.trans f7)
  have NB7 := Hid.mk' (NB.out.fr f7)
  have DR1 := Hid.mk' (drain1 T r7 w7 cls nxt rank (hmF ps (nbF zs)) x.num (wantsF f) S1.out HT6.out ⟨OKF.out.1, OKF.out.2.1⟩ HXB.out t7)
  clear SB1 t7 f7 NW NB T6 F6
  go_wp2_with fail
  refine DR1.out.mono ?_
  rintro e w8 ⟨s2, r8, rfl, q2, t8, f8⟩
  have F8 := Hid.mk' (F7.out.trans f8)
  have NB8 := Hid.mk' (NB7.out.fr f8)
  have Q8 := Hid.mk' q2
  have SB2 := Hid.mk' (Subscribe_ok T r8 w8 cls s2 x 2 (wantsF f ++ wantsF g) (some ⟨g6, 0, none⟩) c6 t8 HX.out ⟨by omega, by omega⟩ NB8.out.m (fun b _ => q2.I.srt b) (fun g hg => by
    rw [HXA.out] at hg
    rw [q2.L.key _ g hg]; simp) q2.sm (q2.ncl HT6.out))
  rw [HXA.out] at SB2
  clear DR1 t8 f8 NB7 F7 q2
  rw [List.length_append] at SB2
  go_wp2_with fail
  refine SB2.out.mono ?_
  rintro e w9 ⟨rfl, r9, t9, f9⟩
  have F9 := Hid.mk' (F8.out.trans f9)
  have Q9 := Hid.mk' (Q8.out.up S1.out ⟨OKB.out.1, OKB.out.2⟩ COV.out)
  have DR2 := Hid.mk' (drain0 T r9 w9 cls nxt rank (hmF ps (nbF zs)) _ [((x.num, 1) : Ky), (x.num, 2)] S1.out Q9.out.I Q9.out.q (fun b y hy => by rcases Q9.out.k b y hy with e | e <;> (rw [e]; simp)) Q9.out.sm t9)
  clear SB2 t9 f9 NB8 F8 Q8
  generalize (s2.turn cov T.adj (hmF ps (nbF zs) x.num) (ins ⟨(x.num, 2), wantsF f ++ wantsF g, -1⟩ (s2.held (hmF ps (nbF zs) x.num)))) = s3 at *
  go_wp2_with fail
  refine DR2.out.mono ?_
  rintro e w10 ⟨r10, rfl, t10, f10⟩
  have F10 := Hid.mk' (F9.out.trans f10)
  have US := Hid.mk' (Unsubscribe_ok T r10 w10 cls s3 x 2 ⟨(x.num, 2), wantsF f ++ wantsF g, -1⟩ t10 HX.out ⟨by omega, by omega⟩ (Q9.out.I.srt _) (by rw [HXA.out, Q9.out.h]; simp) rfl Q9.out.sm)
  rw [HXA.out] at US
  clear DR2 t10 f10 F9
  go_wp2_with fail
  refine US.out.mono ?_
  rintro e w11 ⟨rfl, r11, t11, f11⟩
  have F11 := Hid.mk' (F10.out.trans f11)
  obtain ⟨k1, k2, k3, k4⟩ := Q9.out.down S1.out COV.out
  have DR3 := Hid.mk' (drain0 T r11 w11 cls nxt rank (hmF ps (nbF zs)) _ [((x.num, 1) : Ky), (x.num, 2)] S1.out k1 k2 k3 k4 t11)
  clear US t11 f11 F10 k1 k2 k3 k4
  go_wp2_with fail
  refine DR3.out.mono ?_
  rintro e w12 ⟨r12, rfl, t12, f12⟩
  have F12 := Hid.mk' (F11.out.trans f12)
  have SHP := Hid.mk' (shape_any zs az cz w12 lz (HZ.out.1.gr F12.out.gr0) HZ.out.2)
  clear DR3 t12 f12 F11
  go_wp2_with fail
  refine SHP.out.mono ?_
  rintro e w13 ⟨v13, rfl, _, g13⟩
  have FIN := Hid.mk' (Gr.call F12.out.gr0 g13)
  have hTN : (T.nb : Int) = (nbF zs : Int) := by rw [HTN.out]
  have h66 := HT6.out
  have h11 := HB6.out
  have hsb : wrap64 ((nbF zs : Int) - 1) = (nbF zs : Int) - 1 := by unfold wrap64; omega
  clear SHP g13
  rw [hTN]
  go_wp2_with fail
  go_ret
  exact ⟨rfl, FIN.out⟩
end Go.Proofs.YtecnfgikbmcgoaaGreat
