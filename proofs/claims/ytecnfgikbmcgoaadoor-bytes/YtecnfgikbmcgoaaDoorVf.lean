import Derived.Test.YtecnfgikbmcgoaaDoorLW
import Derived.Test.YtecnfgikbmcgoaaDoorMA
import Derived.Test.YtecnfgikbmcgoaaDoorUp
import Derived.Test.YtecnfgikbmcgoaaDoorUq
import Derived.Test.YtecnfgikbmcgoaaDoorVc
import Derived.Test.YtecnfgikbmcgoaaDoorVd
import Derived.Test.YtecnfgikbmcgoaaDoorVe
namespace Go.Proofs.YtecnfgikbmcgoaaDoor
open Go.RowKit

theorem getE_put {l : List Atr} (h : evOk l = true) (hw : ∀ z ∈ l, Atr.Wf z) : getE (encE l) = some l := by
  have := pE_enc [] h hw
  rw [List.append_nil] at this
  simp [getE, this, h]
theorem getF_put {l : List Wnt} (h : filterOk l = true) (hw : ∀ z ∈ l, Wnt.Wf z) : getF (encF l) = some l := by
  have := pF_enc [] h hw
  rw [List.append_nil] at this
  simp [getF, this, h]
structure WB (w0 w : World) (Es : List EE) (Fs : List FE) : Prop where
  gr : Gr w0 w
  lb : Lb w w0.heap.size w0.heap.size Es Fs
theorem WB.step {w0 w w' : World} {Es : List EE} {Fs : List FE} (h : WB w0 w Es Fs) (g : Gr w w') : WB w0 w' Es Fs := ⟨Gr.call h.gr g, h.lb.gr g⟩
theorem WB.kp {ts : List TypeId} {w0 w w' : World} {Es Es' : List EE} {Fs Fs' : List FE} (h : WB w0 w Es Fs) (k : Kp ts w0.heap.size w w') (hl : Lb w' w0.heap.size w0.heap.size Es' Fs') : WB w0 w' Es' Fs' := ⟨Below.trans h.gr k.be, hl⟩
theorem ev_lend {w0 w : World} {ad : Option Addr} {l : List Atr} (h : EvAt w0 ad l) (g : Gr w0 w) : l = [] ∨ EvK w0.heap.size w ad l := by
  rcases h.gr g with h' | ⟨b, off, h1, h2, h3⟩
  · exact Or.inl h'
  · rcases h with h' | ⟨b', off', h1', h2', _⟩
    · exact Or.inl h'
    · rw [h1] at h1'
      obtain ⟨rfl, rfl⟩ : b = b' ∧ off = off' := by simpa using h1'
      exact Or.inr ⟨b, off, h1, h2, Or.inl h2', h3⟩
theorem fi_lend {w0 w : World} {ad : Option Addr} {l : List Wnt} (h : FiAt w0 ad l) (g : Gr w0 w) : l = [] ∨ FiK w0.heap.size w ad l := by
  rcases h.gr g with h' | ⟨b, off, h1, h2, h3⟩
  · exact Or.inl h'
  · rcases h with h' | ⟨b', off', h1', h2', _⟩
    · exact Or.inl h'
    · rw [h1] at h1'
      obtain ⟨rfl, rfl⟩ : b = b' ∧ off = off' := by simpa using h1'
      exact Or.inr ⟨b, off, h1, h2, Or.inl h2', h3⟩

def upA : Atr := ⟨⟨#[117, 112]⟩, 3, 1, ⟨#[]⟩⟩
theorem upA_wf : ∀ x ∈ [upA], Atr.Wf x := by
  intro x hx
  simp only [List.mem_singleton] at hx
  subst hx
  exact ⟨by decide, by decide, by decide, by decide⟩
theorem upA_put : putE [upA] = ⟨#[69, 1, 2, 117, 112, 3, 1]⟩ := by kernel_rfl
theorem upA_chk : chkE [upA] = 0 := by kernel_rfl
theorem upA_ev {w : World} : EvAt (w.alloc (.cells #[.string ⟨#[117, 112]⟩, .int .i64 3, .int .i64 1, .string ⟨#[]⟩] 37)) (some ⟨w.heap.size, 0, none⟩) [upA] := by
  refine Or.inr ⟨w.heap.size, 0, rfl, by simp, fun i hi => ?_⟩
  have : i = 0 := by simp at hi; omega
  subst this
  simp [aat, upA]
set_option maxRecDepth 100000 in
set_option maxHeartbeats 8000000 in
theorem Bytes_any (u : TypeId) (pv : Value) (l : List Atr) (f : List Wnt) (ad ad' : Option Addr) (cap cap' : Nat) (w : World) (hl : l.length ≤ 2932031007402) (hE : EvAt w ad l) (hwf : ∀ x ∈ l, Atr.Wf x)
    (hl' : f.length ≤ 2513169434845) (hF : FiAt w ad' f) (hwf' : ∀ x ∈ f, Wnt.Wf x) (ht : Te u pv w) :
    Calls Tryd.prog 3 #[.slice ad l.length cap, .slice ad' f.length cap'] w fun e w' => e = .returned (.bool true) ∧ Gr w w' := by
  have HE := Hid.mk' hE
  have HF := Hid.mk' hF
  have HW := Hid.mk' hwf
  have HW' := Hid.mk' hwf'
  have HT := Hid.mk' ht
  have K0 : Hid (WB w (w.alloc (.cells #[.slice none 0 0, .slice none 0 0, .slice none 0 0, .slice none 0 0] 30)) [] []) := by
    have gg : Gr w (w.alloc (.cells #[.slice none 0 0, .slice none 0 0, .slice none 0 0, .slice none 0 0] 30)) := (Gr.refl w).alloc _
    have hb := heap_alloc_new w (.cells #[.slice none 0 0, .slice none 0 0, .slice none 0 0, .slice none 0 0] 30)
    exact ⟨gg, ⟨⟨_, _, _, _, ⟨Nat.le_refl _, gg.size, hb, World.ownsRow_nil _ _ _ _, World.ownsRow_nil _ _ _ _, by simp, by simp, by simp⟩, ⟨Nat.le_refl _, gg.size, hb, World.ownsRow_nil _ _ _ _, World.ownsRow_nil _ _ _ _, by simp, by simp, by simp⟩⟩, by simp, by simp⟩⟩
  clear hE hF hwf hwf' ht
  go_enter Tryd.func3, Tryd.ntmps3
  go_wp2_with fail
  have X0 := Hid.mk' (upA_ev (w := w.alloc (.cells #[.slice none 0 0, .slice none 0 0, .slice none 0 0, .slice none 0 0] 30)))
  rw [size_alloc'] at X0
  have K1 := Hid.mk' (K0.out.step ((Gr.refl _).alloc (.cells #[.string ⟨#[117, 112]⟩, .int .i64 3, .int .i64 1, .string ⟨#[]⟩] 37)))
  refine (PutEvent_any [upA] _ 1 _ (by simp [maxLen]) X0.out upA_wf).mono ?_
  rw [upA_put, upA_chk]
  rintro e w1 ⟨rfl, g1⟩
  have K2 := Hid.mk' (K1.out.step g1)
  clear K0 K1 X0 g1
  go_wp2_with fail
  refine (lendE l ad cap w.heap.size w.heap.size [] [] _ (by omega) (ev_lend HE.out K2.out.gr) HW.out (by simp) K2.out.lb).mono ?_
  rintro e w2 ⟨a2, c2, Es2, rfl, k2, L2, _, n2, o2⟩
  have K3 := Hid.mk' (K2.out.kp k2 L2)
  have O2 := Hid.mk' o2
  have N2 := Hid.mk' n2
  clear K2 k2 L2 o2 n2
  go_wp2_with fail
  refine (PutEvent_any l a2 c2 _ (by unfold maxLen; omega) (O2.out.ev K3.out.lb) HW.out).mono ?_
  rintro e w3 ⟨rfl, g3⟩
  have K4 := Hid.mk' (K3.out.step g3)
  clear K3 g3
  go_wp2_with fail
  refine (lendF f ad' cap' w.heap.size w.heap.size Es2 [] _ (by omega) (fi_lend HF.out K4.out.gr) HW'.out (by simp) K4.out.lb).mono ?_
  rintro e w4 ⟨a4, c4, Fs4, rfl, k4, L4, _, n4, o4⟩
  have K5 := Hid.mk' (K4.out.kp k4 L4)
  have O4 := Hid.mk' o4
  have N4 := Hid.mk' n4
  clear K4 k4 L4 o4 n4
  go_wp2_with fail
  refine (PutFilter_any f a4 c4 _ (by unfold maxLen; omega) (O4.out.fi K5.out.lb) HW'.out).mono ?_
  rintro e w5 ⟨rfl, g5⟩
  have K6 := Hid.mk' (K5.out.step g5)
  clear K5 g5
  go_wp2_with fail
  refine (stillL w.heap.size w.heap.size Es2 Fs4 _ (by have := N2.out; simp at this; omega) (by have := N4.out; simp at this; omega) K6.out.lb).mono ?_
  rintro e w6 ⟨rfl, k6, L6⟩
  have G6 := Hid.mk' (K6.out.kp k6 L6).gr
  clear K6 k6 L6 O2 O4 N2 N4
  go_wp2_with fail
  refine (num_any _ _).mono ?_
  rintro e w' ⟨rfl, hw'⟩
  subst w'
  go_wp2_with fail
  refine (refCheckEvent_ad l ad cap _ (by unfold maxLen; omega) (HE.out.gr G6.out) HW.out).mono ?_
  rintro e w7 ⟨rfl, g7⟩
  have G7 := Hid.mk' (Gr.call G6.out g7)
  clear G6 g7
  go_wp2_with fail
  refine (num_any _ _).mono ?_
  rintro e w' ⟨rfl, hw'⟩
  subst w'
  go_wp2_with fail
  refine (refCheckF_ad f ad' cap' _ (by unfold maxLen; omega) (HF.out.gr G7.out) HW'.out).mono ?_
  rintro e w8 ⟨rfl, g8⟩
  have G8 := Hid.mk' (Gr.call G7.out g8)
  clear G7 g8
  cases h1 : evOk l
  · have hc : chkE l = 1 := by simp [chkE, h1]
    have hp : putE l = ⟨#[]⟩ := by simp [putE, h1]
    have H1 := Hid.mk' h1
    clear h1
    cases h2 : filterOk f
    · have hc2 : chk f = 2 := by simp [chk, h2]
      have hp2 : putF f = ⟨#[]⟩ := by simp [putF, h2]
      clear h2
      go_wp2_with fail
      go_ret
      exact ⟨rfl, G8.out⟩
    · have hc2 : chk f = 0 := by simp [chk, h2]
      have hp2 : putF f = str (encF f) := by simp [putF, h2, str]
      have H2 := Hid.mk' h2
      clear h2
      go_wp2_with fail
      refine (GetFilter_any u pv (encF f) _ (HT.out.gr G8.out)).mono ?_
      intro e wa qa
      rw [getF_put H2.out HW'.out] at qa
      obtain ⟨ga, va, rfl, oa⟩ := qa
      obtain ⟨xa, xk, rfl, hxa⟩ := owns_wants oa
      have GA := Hid.mk' (Gr.call G8.out ga)
      have XA := Hid.mk' hxa
      clear ga oa hxa
      go_wp2_with fail
      refine (sameFilter_any f _ ad' _ cap' _ (by unfold maxLen; omega) XA.out (HF.out.gr GA.out)).mono ?_
      rintro e wb ⟨rfl, gb⟩
      have GB := Hid.mk' (Gr.call GA.out gb)
      clear gb XA
      go_wp2_with fail
      refine (refPutFilter_any f ad' cap' _ (HF.out.gr GB.out) H2.out).mono ?_
      rintro e wc ⟨rfl, gc⟩
      have GC := Hid.mk' (Gr.call GB.out gc)
      clear gc
      go_wp2_with fail
      go_ret
      exact ⟨rfl, GC.out⟩
  · have hc : chkE l = 0 := by simp [chkE, h1]
    have hp : putE l = str (encE l) := by simp [putE, h1, str]
    have H1 := Hid.mk' h1
    clear h1
    cases h2 : filterOk f
    · have hc2 : chk f = 2 := by simp [chk, h2]
      have hp2 : putF f = ⟨#[]⟩ := by simp [putF, h2]
      clear h2
      go_wp2_with fail
      refine (GetEvent_any u pv (encE l) _ (HT.out.gr G8.out)).mono ?_
      intro e w9 q9
      rw [getE_put H1.out HW.out] at q9
      obtain ⟨g9, v9, rfl, o9⟩ := q9
      obtain ⟨x9, k9, rfl, hx9⟩ := owns_attrs o9
      have G9 := Hid.mk' (Gr.call G8.out g9)
      have X9 := Hid.mk' hx9
      clear g9 o9 hx9 G8
      go_wp2_with fail
      refine (sameEvent_any l _ ad _ cap _ (by unfold maxLen; omega) X9.out (HE.out.gr G9.out)).mono ?_
      rintro e w10 ⟨rfl, g10⟩
      have G10 := Hid.mk' (Gr.call G9.out g10)
      clear g10 X9 G9
      go_wp2_with fail
      refine (refPutEvent_any l ad cap _ (HE.out.gr G10.out) H1.out).mono ?_
      rintro e w11 ⟨rfl, g11⟩
      have G11 := Hid.mk' (Gr.call G10.out g11)
      clear g11 G10
      go_wp2_with fail
      go_ret
      exact ⟨rfl, G11.out⟩
    · have hc2 : chk f = 0 := by simp [chk, h2]
      have hp2 : putF f = str (encF f) := by simp [putF, h2, str]
      have H2 := Hid.mk' h2
      clear h2
      go_wp2_with fail
      refine (GetEvent_any u pv (encE l) _ (HT.out.gr G8.out)).mono ?_
      intro e w9 q9
      rw [getE_put H1.out HW.out] at q9
      obtain ⟨g9, v9, rfl, o9⟩ := q9
      obtain ⟨x9, k9, rfl, hx9⟩ := owns_attrs o9
      have G9 := Hid.mk' (Gr.call G8.out g9)
      have X9 := Hid.mk' hx9
      clear g9 o9 hx9 G8
      go_wp2_with fail
      refine (sameEvent_any l _ ad _ cap _ (by unfold maxLen; omega) X9.out (HE.out.gr G9.out)).mono ?_
      rintro e w10 ⟨rfl, g10⟩
      have G10 := Hid.mk' (Gr.call G9.out g10)
      clear g10 X9 G9
      go_wp2_with fail
      refine (refPutEvent_any l ad cap _ (HE.out.gr G10.out) H1.out).mono ?_
      rintro e w11 ⟨rfl, g11⟩
      have G11 := Hid.mk' (Gr.call G10.out g11)
      clear g11 G10
      go_wp2_with fail
      refine (GetFilter_any u pv (encF f) _ (HT.out.gr G11.out)).mono ?_
      intro e wa qa
      rw [getF_put H2.out HW'.out] at qa
      obtain ⟨ga, va, rfl, oa⟩ := qa
      obtain ⟨xa, xk, rfl, hxa⟩ := owns_wants oa
      have GA := Hid.mk' (Gr.call G11.out ga)
      have XA := Hid.mk' hxa
      clear ga oa hxa
      go_wp2_with fail
      refine (sameFilter_any f _ ad' _ cap' _ (by unfold maxLen; omega) XA.out (HF.out.gr GA.out)).mono ?_
      rintro e wb ⟨rfl, gb⟩
      have GB := Hid.mk' (Gr.call GA.out gb)
      clear gb XA
      go_wp2_with fail
      refine (refPutFilter_any f ad' cap' _ (HF.out.gr GB.out) H2.out).mono ?_
      rintro e wc ⟨rfl, gc⟩
      have GC := Hid.mk' (Gr.call GB.out gc)
      clear gc
      go_wp2_with fail
      go_ret
      exact ⟨rfl, GC.out⟩
end Go.Proofs.YtecnfgikbmcgoaaDoor
