import Derived.Test.YtecnfgikbmcgoaaYE
namespace Go.Proofs.Ytecnfgikbmcgoaa
open Go.RowKit

theorem lawWant_s (wz : World) (a : ByteArray) (y k n : Int) (s : ByteArray) (w : World) (h : Gr wz w) :
    Calls Try.prog 22 #[.agg #[.string a, .int .i64 y, .int .i64 k, .int .i64 n, .string s]] w fun e w' => e = .returned (.agg #[.string a, .int .i64 y, .int .i64 k, .int .i64 n, .string s]) ∧ Gr wz w' :=
  (lawWant_any a y k n s w).mono fun _ _ ⟨h1, h2⟩ => ⟨h1, Gr.call h h2⟩
theorem Implies_s (wz : World) (m : Int) (a : ByteArray) (y k n : Int) (s a' : ByteArray) (y' k' n' : Int) (s' : ByteArray) (w : World) (ha : a.size ≤ maxLen) (ha' : a'.size ≤ maxLen) (hlo : minI ≤ n) (hhi : n ≤ maxI) (hM : Ml m wz) (h : Gr wz w) :
    Calls Try.prog 21 #[.agg #[.string a, .int .i64 y, .int .i64 k, .int .i64 n, .string s], .agg #[.string a', .int .i64 y', .int .i64 k', .int .i64 n', .string s']] w
      fun e w' => e = .returned (.bool (impB a y k n s a' y' k' n' s')) ∧ Gr wz w' :=
  (Implies_any a y k n s a' y' k' n' s' m w ha ha' hlo hhi (h.ml hM)).mono fun _ _ ⟨h1, h2⟩ => ⟨h1, Gr.call h h2⟩
theorem refImplies_s (wz : World) (a : ByteArray) (y k n : Int) (s a' : ByteArray) (y' k' n' : Int) (s' : ByteArray) (w : World) (ha : a.size ≤ maxLen) (ha' : a'.size ≤ maxLen) (hlo : minI ≤ n) (hhi : n ≤ maxI) (hlo' : minI ≤ n') (hhi' : n' ≤ maxI) (h : Gr wz w) :
    Calls Try.prog 24 #[.agg #[.string a, .int .i64 y, .int .i64 k, .int .i64 n, .string s], .agg #[.string a', .int .i64 y', .int .i64 k', .int .i64 n', .string s']] w
      fun e w' => e = .returned (.bool (impB a y k n s a' y' k' n' s')) ∧ Gr wz w' :=
  (refImplies_any a y k n s a' y' k' n' s' w ha ha' hlo hhi hlo' hhi').mono fun _ _ ⟨h1, h2⟩ => ⟨h1, Gr.call h h2⟩
theorem refCovers_s (wz : World) (f g : List Wnt) (ad ad' : Option Addr) (cap cap' : Nat) (w : World) (hl : f.length ≤ maxLen) (h : FiAt wz ad f) (hwf : ∀ x ∈ f, Wnt.Wf x)
    (hl' : g.length ≤ maxLen) (h' : FiAt wz ad' g) (hwf' : ∀ x ∈ g, Wnt.Wf x) (hg : Gr wz w) :
    Calls Try.prog 25 #[.slice ad f.length cap, .slice ad' g.length cap'] w fun e w' => e = .returned (.bool (cov f g)) ∧ Gr wz w' :=
  (refCovers_any f g ad ad' cap cap' w hl (h.gr hg) hwf hl' (h'.gr hg) hwf').mono fun _ _ ⟨h1, h2⟩ => ⟨h1, Gr.call hg h2⟩

theorem imp_up : impB ⟨#[115, 105, 122, 101]⟩ 6 1 5 ⟨#[]⟩ ⟨#[115, 105, 122, 101]⟩ 6 1 3 ⟨#[]⟩ = true := by kernel_rfl
theorem imp_down : impB ⟨#[115, 105, 122, 101]⟩ 6 1 3 ⟨#[]⟩ ⟨#[115, 105, 122, 101]⟩ 6 1 5 ⟨#[]⟩ = false := by kernel_rfl

/-- A want's box. -/
def BoxW (w : World) (b : Nat) (v : Wnt) : Prop := w.heap[b]? = some (.cells #[.string v.a, .int .i64 v.y, .int .i64 v.k, .int .i64 v.n, .string v.s] 51 (0, 0))
theorem BoxW.cells {w : World} {b : Nat} {v : Wnt} (h : BoxW w b v) : w.cell? ⟨b, 0, none⟩ = some (.string v.a) ∧ w.cell? ⟨b, 1, none⟩ = some (.int .i64 v.y) ∧ w.cell? ⟨b, 2, none⟩ = some (.int .i64 v.k) ∧ w.cell? ⟨b, 3, none⟩ = some (.int .i64 v.n) ∧ w.cell? ⟨b, 4, none⟩ = some (.string v.s) := by
  refine ⟨?_, ?_, ?_, ?_, ?_⟩ <;> rw [cell_of_row _ _ _ _ _ _ h] <;> rfl
theorem BoxW.below {w w' : World} {base b : Nat} {v : Wnt} (h : BoxW w b v) (g : Below base w w') (hb : b < base) : BoxW w' b v := by
  unfold BoxW; rw [g.block b hb]; exact h

/-- The walk's state. -/
structure Wk (m : Int) (w w' : World) (v x : Wnt) (f g : List Wnt) (ad ad' : Option Addr) (vf vw : Value) (Fs : List FE) (k : Nat) : Prop where
  gr : Gr w w'
  bv : BoxW w' w.heap.size v
  bx : BoxW w' (w.heap.size + 1) x
  len : LentF w' (w.heap.size + 1 + 1) (w.heap.size + 1 + 1) (.slice none 0 0) (.slice none 0 0) vf vw Fs
  n : Fs.length ≤ k
  b : ∀ e ∈ Fs, e.f.length ≤ 2513169434845
  ff : FiB' (w.heap.size + 1 + 1) w' ad f
  fg : FiB' (w.heap.size + 1 + 1) w' ad' g
  ml0 : Ml m w
theorem Wk.step {m : Int} {w w' w2 : World} {v x : Wnt} {f g : List Wnt} {ad ad' : Option Addr} {vf vw : Value} {Fs : List FE} {k : Nat} (h : Wk m w w' v x f g ad ad' vf vw Fs k) (hg : Gr w' w2) : Wk m w w2 v x f g ad ad' vf vw Fs k := by
  have hs : w.heap.size + 1 + 1 ≤ w'.heap.size := h.len.le
  have hb : Below (w.heap.size + 1 + 1) w' w2 := Below.mono hg hs
  exact ⟨Gr.call h.gr hg, h.bv.below hb (by omega), h.bx.below hb (by omega), h.len.gr hg, h.n, h.b, h.ff.gr hb, h.fg.gr hb, h.ml0⟩
theorem Wk.ml {m : Int} {w w' : World} {v x : Wnt} {f g : List Wnt} {ad ad' : Option Addr} {vf vw : Value} {Fs : List FE} {k : Nat} (h : Wk m w w' v x f g ad ad' vf vw Fs k) : Ml m w' := h.gr.ml h.ml0
theorem Wk.lend {m : Int} {w w' w2 : World} {v x : Wnt} {f g : List Wnt} {ad ad' : Option Addr} {vf vw vf' vw' : Value} {Fs Fs' : List FE} {k : Nat} (h : Wk m w w' v x f g ad ad' vf vw Fs k) (hb : Below (w.heap.size + 1 + 1) w' w2)
    (hL : LentF w2 (w.heap.size + 1 + 1) (w.heap.size + 1 + 1) (.slice none 0 0) (.slice none 0 0) vf' vw' Fs') (hn : Fs'.length ≤ Fs.length + 1) (hb' : ∀ e ∈ Fs', e.f.length ≤ 2513169434845) : Wk m w w2 v x f g ad ad' vf' vw' Fs' (k + 1) :=
  ⟨Below.trans h.gr (Below.mono hb (by omega)), h.bv.below hb (by omega), h.bx.below hb (by omega), hL, Nat.le_trans hn (Nat.add_le_add_right h.n 1), hb', h.ff.gr hb, h.fg.gr hb, h.ml0⟩
theorem Wk.held {m : Int} {w wz : World} {v x : Wnt} {f g : List Wnt} {ad ad' : Option Addr} {vf vw : Value} {Fs : List FE} {k : Nat} (h : Wk m w wz v x f g ad ad' vf vw Fs k) : ∀ w', Gr wz w' → (Gr wz w' ∧ w'.cell? ⟨w.heap.size, 0, none⟩ = some (.string v.a) ∧ w'.cell? ⟨w.heap.size, 1, none⟩ = some (.int .i64 v.y) ∧ w'.cell? ⟨w.heap.size, 2, none⟩ = some (.int .i64 v.k) ∧ w'.cell? ⟨w.heap.size, 3, none⟩ = some (.int .i64 v.n) ∧ w'.cell? ⟨w.heap.size, 4, none⟩ = some (.string v.s) ∧ w'.cell? ⟨w.heap.size + 1, 0, none⟩ = some (.string x.a) ∧ w'.cell? ⟨w.heap.size + 1, 1, none⟩ = some (.int .i64 x.y) ∧ w'.cell? ⟨w.heap.size + 1, 2, none⟩ = some (.int .i64 x.k) ∧ w'.cell? ⟨w.heap.size + 1, 3, none⟩ = some (.int .i64 x.n) ∧ w'.cell? ⟨w.heap.size + 1, 4, none⟩ = some (.string x.s)) := by
  intro w' hg
  have h' := h.step hg
  obtain ⟨a1, a2, a3, a4, a5⟩ := h'.bv.cells
  obtain ⟨b1, b2, b3, b4, b5⟩ := h'.bx.cells
  exact ⟨hg, a1, a2, a3, a4, a5, b1, b2, b3, b4, b5⟩

structure Wl (w w' : World) (v x : Wnt) (f g : List Wnt) (ad ad' : Option Addr) : Prop where
  gr : Gr w w'
  bv : BoxW w' w.heap.size v
  bx : BoxW w' (w.heap.size + 1) x
  le : w.heap.size + 1 + 1 ≤ w'.heap.size
  ff : FiAt w' ad f
  fg : FiAt w' ad' g
theorem FiB'.fi {base : Nat} {w : World} {ad : Option Addr} {f : List Wnt} (h : FiB' base w ad f) (hb : base ≤ w.heap.size) : FiAt w ad f := by
  rcases h with h | ⟨b, off, h1, h2, h3⟩
  · exact Or.inl h
  · exact Or.inr ⟨b, off, h1, by omega, h3⟩
theorem Wk.done {m : Int} {w w' w2 : World} {v x : Wnt} {f g : List Wnt} {ad ad' : Option Addr} {vf vw : Value} {Fs : List FE} {k : Nat} (h : Wk m w w' v x f g ad ad' vf vw Fs k) (hb : Below (w.heap.size + 1 + 1) w' w2) : Wl w w2 v x f g ad ad' := by
  have hs : w.heap.size + 1 + 1 ≤ w2.heap.size := Nat.le_trans h.len.le hb.size
  exact ⟨Below.trans h.gr (Below.mono hb (by omega)), h.bv.below hb (by omega), h.bx.below hb (by omega), hs, (h.ff.gr hb).fi hs, (h.fg.gr hb).fi hs⟩
theorem Wl.held {w wz : World} {v x : Wnt} {f g : List Wnt} {ad ad' : Option Addr} (h : Wl w wz v x f g ad ad') : ∀ w', Gr wz w' → (Gr wz w' ∧ w'.cell? ⟨w.heap.size, 0, none⟩ = some (.string v.a) ∧ w'.cell? ⟨w.heap.size, 1, none⟩ = some (.int .i64 v.y) ∧ w'.cell? ⟨w.heap.size, 2, none⟩ = some (.int .i64 v.k) ∧ w'.cell? ⟨w.heap.size, 3, none⟩ = some (.int .i64 v.n) ∧ w'.cell? ⟨w.heap.size, 4, none⟩ = some (.string v.s) ∧ w'.cell? ⟨w.heap.size + 1, 0, none⟩ = some (.string x.a) ∧ w'.cell? ⟨w.heap.size + 1, 1, none⟩ = some (.int .i64 x.y) ∧ w'.cell? ⟨w.heap.size + 1, 2, none⟩ = some (.int .i64 x.k) ∧ w'.cell? ⟨w.heap.size + 1, 3, none⟩ = some (.int .i64 x.n) ∧ w'.cell? ⟨w.heap.size + 1, 4, none⟩ = some (.string x.s)) := by
  intro w' hg
  have hb : Below (w.heap.size + 1 + 1) wz w' := Below.mono hg h.le
  obtain ⟨a1, a2, a3, a4, a5⟩ := (h.bv.below hb (by omega)).cells
  obtain ⟨b1, b2, b3, b4, b5⟩ := (h.bx.below hb (by omega)).cells
  exact ⟨hg, a1, a2, a3, a4, a5, b1, b2, b3, b4, b5⟩

set_option maxRecDepth 100000 in
set_option maxHeartbeats 4000000 in
theorem Implied_any (v x : Wnt) (f g : List Wnt) (ad ad' : Option Addr) (cap cap' : Nat) (m : Int) (w : World) (hv : v.Wf) (hx : x.Wf) (hl : f.length ≤ 2513169434845) (h : FiAt w ad f) (hwf : ∀ x ∈ f, Wnt.Wf x)
    (hl' : g.length ≤ 2513169434845) (h' : FiAt w ad' g) (hwf' : ∀ x ∈ g, Wnt.Wf x) (hM : Ml m w) :
    Calls Try.prog 4 #[.agg #[.string v.a, .int .i64 v.y, .int .i64 v.k, .int .i64 v.n, .string v.s], .agg #[.string x.a, .int .i64 x.y, .int .i64 x.k, .int .i64 x.n, .string x.s], .slice ad f.length cap, .slice ad' g.length cap'] w
      fun e w' => e = .returned (.bool true) ∧ Gr w w' := by
  have HV : Hid v.Wf := hv
  have HX : Hid x.Wf := hx
  have HF : Hid (∀ x ∈ f, Wnt.Wf x) := hwf
  have HG : Hid (∀ x ∈ g, Wnt.Wf x) := hwf'
  have HL : Hid (f.length ≤ 2513169434845) := hl
  have HL' : Hid (g.length ≤ 2513169434845) := hl'
  have HFA : Hid (FiAt w ad f) := h
  have HGA : Hid (FiAt w ad' g) := h'
  have K0 : Hid (Wk m w (((w.alloc (.cells #[.string v.a, .int .i64 v.y, .int .i64 v.k, .int .i64 v.n, .string v.s] 51)).alloc (.cells #[.string x.a, .int .i64 x.y, .int .i64 x.k, .int .i64 x.n, .string x.s] 51)).alloc (.cells #[.slice none 0 0, .slice none 0 0, .slice none 0 0, .slice none 0 0] 29)) v x f g ad ad' (.slice none 0 0) (.slice none 0 0) [] 0) := by
    have gg : Gr w (((w.alloc (.cells #[.string v.a, .int .i64 v.y, .int .i64 v.k, .int .i64 v.n, .string v.s] 51)).alloc (.cells #[.string x.a, .int .i64 x.y, .int .i64 x.k, .int .i64 x.n, .string x.s] 51)).alloc (.cells #[.slice none 0 0, .slice none 0 0, .slice none 0 0, .slice none 0 0] 29)) := (((Gr.refl w).alloc _).alloc _).alloc _
    have fib : ∀ {ad : Option Addr} {f : List Wnt}, FiAt w ad f → FiB' (w.heap.size + 1 + 1) (((w.alloc (.cells #[.string v.a, .int .i64 v.y, .int .i64 v.k, .int .i64 v.n, .string v.s] 51)).alloc (.cells #[.string x.a, .int .i64 x.y, .int .i64 x.k, .int .i64 x.n, .string x.s] 51)).alloc (.cells #[.slice none 0 0, .slice none 0 0, .slice none 0 0, .slice none 0 0] 29)) ad f := by
      intro ad f hf
      rcases hf with hf | ⟨b, off, h1, h2, h3⟩
      · exact Or.inl hf
      · exact Or.inr ⟨b, off, h1, by omega, h3.gr gg h2⟩
    refine ⟨gg, ?_, ?_, ⟨Nat.le_refl _, ?_, ?_, World.ownsRow_nil _ _ _ _, World.ownsRow_nil _ _ _ _, by simp, by simp, by simp⟩, Nat.le_refl _, by simp, fib h, fib h', hM⟩
    · unfold BoxW
      rw [heap_alloc_old _ _ (by rw [size_alloc', size_alloc']; omega), heap_alloc_old _ _ (by rw [size_alloc']; omega)]
      exact heap_alloc_new _ _
    · unfold BoxW
      rw [heap_alloc_old _ _ (by rw [size_alloc', size_alloc']; omega)]
      have := heap_alloc_new (w.alloc (.cells #[.string v.a, .int .i64 v.y, .int .i64 v.k, .int .i64 v.n, .string v.s] 51)) (.cells #[.string x.a, .int .i64 x.y, .int .i64 x.k, .int .i64 x.n, .string x.s] 51)
      rw [size_alloc'] at this
      exact this
    · rw [size_alloc', size_alloc', size_alloc']; omega
    · have := heap_alloc_new ((w.alloc (.cells #[.string v.a, .int .i64 v.y, .int .i64 v.k, .int .i64 v.n, .string v.s] 51)).alloc (.cells #[.string x.a, .int .i64 x.y, .int .i64 x.k, .int .i64 x.n, .string x.s] 51)) (.cells #[.slice none 0 0, .slice none 0 0, .slice none 0 0, .slice none 0 0] 29)
      rw [size_alloc', size_alloc'] at this
      exact this
  clear hv hx hwf hwf' hl hl' h h'
  go_enter Try.func4, Try.ntmps4
  go_wp2_with fail
  refine (above_any _ _).mono ?_
  rintro e w1 ⟨rfl, g1⟩
  have K1 := Hid.mk' (K0.out.step g1)
  clear K0 g1
  go_wp2_with fail
  refine (lawWant_any _ _ _ _ _ _).mono ?_
  rintro e w2 ⟨rfl, g2⟩
  have K2 := Hid.mk' (K1.out.step g2)
  clear K1 g2
  go_wp2_with fail
  refine (above_any _ _).mono ?_
  rintro e w3 ⟨rfl, g3⟩
  have K3 := Hid.mk' (K2.out.step g3)
  clear K2 g3
  go_wp2_with fail
  refine (lawWant_any _ _ _ _ _ _).mono ?_
  rintro e w4 ⟨rfl, g4⟩
  have K4 := Hid.mk' (K3.out.step g4)
  clear K3 g4
  go_wp2_with fail
  refine (Implies_any _ _ _ _ _ _ _ _ _ _ m _ (by decide) (by decide) (by decide) (by decide) K4.out.ml).mono ?_
  rw [imp_up]
  rintro e w5 ⟨rfl, g5⟩
  have K5 := Hid.mk' (K4.out.step g5)
  clear K4 g5
  go_wp2_with fail
  refine (above_any _ _).mono ?_
  rintro e w6 ⟨rfl, g6⟩
  have K6 := Hid.mk' (K5.out.step g6)
  clear K5 g6
  go_wp2_with fail
  refine (lawWant_any _ _ _ _ _ _).mono ?_
  rintro e w7 ⟨rfl, g7⟩
  have K7 := Hid.mk' (K6.out.step g7)
  clear K6 g7
  go_wp2_with fail
  refine (above_any _ _).mono ?_
  rintro e w8 ⟨rfl, g8⟩
  have K8 := Hid.mk' (K7.out.step g8)
  clear K7 g8
  go_wp2_with fail
  refine (lawWant_any _ _ _ _ _ _).mono ?_
  rintro e w9 ⟨rfl, g9⟩
  have K9 := Hid.mk' (K8.out.step g9)
  clear K8 g9
  go_wp2_with fail
  refine (Implies_any _ _ _ _ _ _ _ _ _ _ m _ (by decide) (by decide) (by decide) (by decide) K9.out.ml).mono ?_
  rw [imp_down]
  rintro e w10 ⟨rfl, g10⟩
  have K10 := Hid.mk' (K9.out.step g10)
  clear K9 g10
  go_wp2_with fail
  have T10 := Hid.mk' K10.out.held
  have M10 := K10.out.ml
  go_region_held3 (fun w' => Gr w10 w' ∧ w'.cell? ⟨w.heap.size, 0, none⟩ = some (.string v.a) ∧ w'.cell? ⟨w.heap.size, 1, none⟩ = some (.int .i64 v.y) ∧ w'.cell? ⟨w.heap.size, 2, none⟩ = some (.int .i64 v.k) ∧ w'.cell? ⟨w.heap.size, 3, none⟩ = some (.int .i64 v.n) ∧ w'.cell? ⟨w.heap.size, 4, none⟩ = some (.string v.s) ∧ w'.cell? ⟨w.heap.size + 1, 0, none⟩ = some (.string x.a) ∧ w'.cell? ⟨w.heap.size + 1, 1, none⟩ = some (.int .i64 x.y) ∧ w'.cell? ⟨w.heap.size + 1, 2, none⟩ = some (.int .i64 x.k) ∧ w'.cell? ⟨w.heap.size + 1, 3, none⟩ = some (.int .i64 x.n) ∧ w'.cell? ⟨w.heap.size + 1, 4, none⟩ = some (.string x.s))
    (exact T10.out _ (by first | exact Gr.refl _ | assumption | exact Gr.drew (Gr.refl _) | exact Gr.drew (by assumption))) (first | (go_at_call 22; refine (lawWant_s w10 _ _ _ _ _ _ (by exact (show Gr w10 _ ∧ _ by assumption).1)).mono ?_; rintro e w11 ⟨rfl, g11⟩) | (go_at_call 21; refine (Implies_s w10 m _ _ _ _ _ _ _ _ _ _ _ (by exact HV.out.a) (by exact HX.out.a) (by exact HV.out.n1) (by exact HV.out.n2) M10 (by exact (show Gr w10 _ ∧ _ by assumption).1)).mono ?_; rintro e w11 ⟨rfl, g11⟩))
  have K11 := Hid.mk' (K10.out.step g11)
  clear K10 T10 M10
  go_wp2_with fail
  have T11 := Hid.mk' K11.out.held
  have M11 := K11.out.ml
  go_region_held3 (fun w' => Gr w11 w' ∧ w'.cell? ⟨w.heap.size, 0, none⟩ = some (.string v.a) ∧ w'.cell? ⟨w.heap.size, 1, none⟩ = some (.int .i64 v.y) ∧ w'.cell? ⟨w.heap.size, 2, none⟩ = some (.int .i64 v.k) ∧ w'.cell? ⟨w.heap.size, 3, none⟩ = some (.int .i64 v.n) ∧ w'.cell? ⟨w.heap.size, 4, none⟩ = some (.string v.s) ∧ w'.cell? ⟨w.heap.size + 1, 0, none⟩ = some (.string x.a) ∧ w'.cell? ⟨w.heap.size + 1, 1, none⟩ = some (.int .i64 x.y) ∧ w'.cell? ⟨w.heap.size + 1, 2, none⟩ = some (.int .i64 x.k) ∧ w'.cell? ⟨w.heap.size + 1, 3, none⟩ = some (.int .i64 x.n) ∧ w'.cell? ⟨w.heap.size + 1, 4, none⟩ = some (.string x.s))
    (exact T11.out _ (by first | exact Gr.refl _ | assumption | exact Gr.drew (Gr.refl _) | exact Gr.drew (by assumption))) (first | (go_at_call 22; refine (lawWant_s w11 _ _ _ _ _ _ (by exact (show Gr w11 _ ∧ _ by assumption).1)).mono ?_; rintro e w12 ⟨rfl, g12⟩) | (go_at_call 21; refine (Implies_s w11 m _ _ _ _ _ _ _ _ _ _ _ (by exact HX.out.a) (by exact HV.out.a) (by exact HX.out.n1) (by exact HX.out.n2) M11 (by exact (show Gr w11 _ ∧ _ by assumption).1)).mono ?_; rintro e w12 ⟨rfl, g12⟩))
  have K12 := Hid.mk' (K11.out.step g12)
  clear K11 T11 M11
  go_wp2_with fail
  refine (lend_any f _ _ _ _ _ _ _ _ _ _ HL.out K12.out.ff HF.out (by have := K12.out.n; omega) K12.out.b K12.out.len).mono ?_
  rintro e w13 ⟨a13, c13, vf13, vw13, Fs13, rfl, b13, L13, m13, n13, k13, o13⟩
  have K13 := Hid.mk' (K12.out.lend b13 L13 n13 k13)
  have O13 := Hid.mk' o13
  have U13 := Hid.mk' m13
  clear b13 L13 n13 k13 o13 m13 K12
  go_wp2_with fail
  refine (lend_any g _ _ _ _ _ _ _ _ _ _ HL'.out K13.out.fg HG.out (by have := K13.out.n; omega) K13.out.b K13.out.len).mono ?_
  rintro e w14 ⟨a14, c14, vf14, vw14, Fs14, rfl, b14, L14, m14, n14, k14, o14⟩
  have K14 := Hid.mk' (K13.out.lend b14 L14 n14 k14)
  have O14 := Hid.mk' o14
  have U14 := Hid.mk' m14
  clear b14 L14 n14 k14 o14 m14 K13
  go_wp2_with fail
  refine (Covers_all f g _ _ _ _ m _ (by have := HL.out; unfold maxLen; omega) ((O13.out.mono U14.out).fi K14.out.len) HF.out (by have := HL'.out; unfold maxLen; omega) (O14.out.fi K14.out.len) HG.out K14.out.ml).mono ?_
  rintro e w15 ⟨rfl, g15⟩
  have K15 := Hid.mk' (K14.out.step g15)
  clear K14 g15
  go_wp2_with fail
  refine (lend_any g _ _ _ _ _ _ _ _ _ _ HL'.out K15.out.fg HG.out (by have := K15.out.n; omega) K15.out.b K15.out.len).mono ?_
  rintro e w16 ⟨a16, c16, vf16, vw16, Fs16, rfl, b16, L16, m16, n16, k16, o16⟩
  have K16 := Hid.mk' (K15.out.lend b16 L16 n16 k16)
  have O16 := Hid.mk' o16
  have U16 := Hid.mk' m16
  clear b16 L16 n16 k16 o16 m16 K15
  go_wp2_with fail
  refine (lend_any f _ _ _ _ _ _ _ _ _ _ HL.out K16.out.ff HF.out (by have := K16.out.n; omega) K16.out.b K16.out.len).mono ?_
  rintro e w17 ⟨a17, c17, vf17, vw17, Fs17, rfl, b17, L17, m17, n17, k17, o17⟩
  have K17 := Hid.mk' (K16.out.lend b17 L17 n17 k17)
  have O17 := Hid.mk' o17
  have U17 := Hid.mk' m17
  clear b17 L17 n17 k17 o17 m17 K16
  go_wp2_with fail
  refine (Covers_all g f _ _ _ _ m _ (by have := HL'.out; unfold maxLen; omega) ((O16.out.mono U17.out).fi K17.out.len) HG.out (by have := HL.out; unfold maxLen; omega) (O17.out.fi K17.out.len) HF.out K17.out.ml).mono ?_
  rintro e w18 ⟨rfl, g18⟩
  have K18 := Hid.mk' (K17.out.step g18)
  clear K17 g18
  go_wp2_with fail
  refine (lend_any f _ _ _ _ _ _ _ _ _ _ HL.out K18.out.ff HF.out (by have := K18.out.n; omega) K18.out.b K18.out.len).mono ?_
  rintro e w19 ⟨a19, c19, vf19, vw19, Fs19, rfl, b19, L19, m19, n19, k19, o19⟩
  have K19 := Hid.mk' (K18.out.lend b19 L19 n19 k19)
  have O19 := Hid.mk' o19
  have U19 := Hid.mk' m19
  clear b19 L19 n19 k19 o19 m19 K18
  go_wp2_with fail
  refine (lend_any f _ _ _ _ _ _ _ _ _ _ HL.out K19.out.ff HF.out (by have := K19.out.n; omega) K19.out.b K19.out.len).mono ?_
  rintro e w20 ⟨a20, c20, vf20, vw20, Fs20, rfl, b20, L20, m20, n20, k20, o20⟩
  have K20 := Hid.mk' (K19.out.lend b20 L20 n20 k20)
  have O20 := Hid.mk' o20
  have U20 := Hid.mk' m20
  clear b20 L20 n20 k20 o20 m20 K19
  go_wp2_with fail
  refine (Covers_all f f _ _ _ _ m _ (by have := HL.out; unfold maxLen; omega) ((O19.out.mono U20.out).fi K20.out.len) HF.out (by have := HL.out; unfold maxLen; omega) (O20.out.fi K20.out.len) HF.out K20.out.ml).mono ?_
  rintro e w21 ⟨rfl, g21⟩
  have K21 := Hid.mk' (K20.out.step g21)
  clear K20 g21
  go_wp2_with fail
  refine (still_any _ _ _ _ _ _ (by have := K21.out.n; omega) K21.out.b K21.out.len).mono ?_
  rintro e w22 ⟨rfl, b22, _⟩
  have Q22 := Hid.mk' (K21.out.done b22)
  clear K21 b22
  have ML : Hid (f.length ≤ maxLen) := by
    have := HL.out
    show _ ≤ _
    unfold maxLen; omega
  have ML' : Hid (g.length ≤ maxLen) := by
    have := HL'.out
    show _ ≤ _
    unfold maxLen; omega
  obtain ⟨_, a1, a2, a3, a4, a5, b1, b2, b3, b4, b5⟩ := Q22.out.held _ (Gr.refl _)
  go_wp2_with fail
  refine (refImplies_s w22 _ _ _ _ _ _ _ _ _ _ _ HV.out.a HX.out.a HV.out.n1 HV.out.n2 HX.out.n1 HX.out.n2 (Gr.refl _)).mono ?_
  rintro e w23 ⟨rfl, g23⟩
  have G23 := Hid.mk' g23
  clear a1 a2 a3 a4 a5 b1 b2 b3 b4 b5 g23
  obtain ⟨_, a1, a2, a3, a4, a5, b1, b2, b3, b4, b5⟩ := Q22.out.held _ (G23.out)
  go_wp2_with fail
  refine (refImplies_s w22 _ _ _ _ _ _ _ _ _ _ _ HX.out.a HV.out.a HX.out.n1 HX.out.n2 HV.out.n1 HV.out.n2 G23.out).mono ?_
  rintro e w24 ⟨rfl, g24⟩
  have G24 := Hid.mk' g24
  clear a1 a2 a3 a4 a5 b1 b2 b3 b4 b5 g24
  obtain ⟨_, a1, a2, a3, a4, a5, b1, b2, b3, b4, b5⟩ := Q22.out.held _ (G24.out)
  go_wp2_with fail
  refine (refCovers_s w22 f g _ _ _ _ _ ML.out Q22.out.ff HF.out ML'.out Q22.out.fg HG.out G24.out).mono ?_
  rintro e w25 ⟨rfl, g25⟩
  have G25 := Hid.mk' g25
  clear a1 a2 a3 a4 a5 b1 b2 b3 b4 b5 g25
  obtain ⟨_, a1, a2, a3, a4, a5, b1, b2, b3, b4, b5⟩ := Q22.out.held _ (G25.out)
  go_wp2_with fail
  refine (refCovers_s w22 g f _ _ _ _ _ ML'.out Q22.out.fg HG.out ML.out Q22.out.ff HF.out G25.out).mono ?_
  rintro e w26 ⟨rfl, g26⟩
  have G26 := Hid.mk' g26
  clear a1 a2 a3 a4 a5 b1 b2 b3 b4 b5 g26
  obtain ⟨_, a1, a2, a3, a4, a5, b1, b2, b3, b4, b5⟩ := Q22.out.held _ (G26.out)
  go_wp2_with fail
  refine (refCovers_s w22 f f _ _ _ _ _ ML.out Q22.out.ff HF.out ML.out Q22.out.ff HF.out G26.out).mono ?_
  rintro e w27 ⟨rfl, g27⟩
  have G27 := Hid.mk' g27
  clear a1 a2 a3 a4 a5 b1 b2 b3 b4 b5 g27
  go_wp2_with fail
  go_ret
  exact ⟨rfl, Gr.call Q22.out.gr G27.out⟩
end Go.Proofs.Ytecnfgikbmcgoaa
