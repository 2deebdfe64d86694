import Derived.Test.YtecnfgikbmcgoaaWP
import Derived.Test.YtecnfgikbmcgoaaWK
namespace Go.Proofs.Ytecnfgikbmcgoaa
open Go.RowKit

def moreW : Wnt := ⟨⟨#[97]⟩, 6, 1, 3, ⟨#[]⟩⟩
def threeA : Atr := ⟨⟨#[97]⟩, 1, 3, ⟨#[]⟩⟩
theorem moreW_ok : wOk moreW = true := by
  simp only [wOk, wantOk, moreW, name97, Bool.true_and]
  rw [wayOk_mid _ _ _ _ (by omega) (by omega)]; simp [valOk]
theorem live_fi : filterOk [anyW] = true ∧ filterOk [moreW] = true := by simp [filterOk, anyW_ok, moreW_ok]
theorem live_ev : evOk [threeA] = true := one_ok threeA name97 (by simp [threeA, valOk])
theorem live_mat : mat [threeA] [anyW] = true ∧ mat [threeA] [moreW] = false := by simp [mat, ans, threeA, anyW, moreW, lets]
theorem live_cov : cov [anyW] [moreW] = true ∧ cov [moreW] [anyW] = false := by
  have h1 := anyW_ok
  have h2 := moreW_ok
  simp only [wOk, anyW, moreW] at h1 h2
  refine ⟨?_, ?_⟩
  · rw [cov, live_fi.1, live_fi.2]; simp [impW, impB, anyW, moreW, h1, h2, withinB]
  · rw [cov, live_fi.1, live_fi.2]; simp [impW, impB, anyW, moreW, h1, h2, withinB, nothingB]
theorem live_wf : (∀ x ∈ [anyW], Wnt.Wf x) ∧ (∀ x ∈ [moreW], Wnt.Wf x) ∧ (∀ x ∈ [threeA], Atr.Wf x) := by
  refine ⟨?_, ?_, ?_⟩
  all_goals
    intro x hx
    simp at hx; subst hx
    constructor <;> decide

def liveW (w : World) : World := (((w.alloc (.cells #[.string ⟨#[97]⟩, .int .i64 1, .int .i64 0, .int .i64 0, .string ⟨#[]⟩] 67)).alloc (.cells #[.string ⟨#[97]⟩, .int .i64 6, .int .i64 1, .int .i64 3, .string ⟨#[]⟩] 67)).alloc (.cells #[.string ⟨#[97]⟩, .int .i64 1, .int .i64 3, .string ⟨#[]⟩] 81))
theorem live_gr (w : World) : Gr w (liveW w) := (((Gr.refl w).alloc _).alloc _).alloc _
theorem live_any (w : World) : FiAt (liveW w) (some ⟨w.heap.size, 0, none⟩) [anyW] := by
  refine Or.inr ⟨w.heap.size, 0, rfl, by simp [liveW]; omega, fun i hi => ?_⟩
  have e : i = 0 := by simpa using hi
  subst e
  simp [liveW, go_sem, wat, anyW]
theorem live_more (w : World) : FiAt (liveW w) (some ⟨w.heap.size + 1, 0, none⟩) [moreW] := by
  refine Or.inr ⟨w.heap.size + 1, 0, rfl, by simp [liveW], fun i hi => ?_⟩
  have e : i = 0 := by simpa using hi
  subst e
  simp [liveW, go_sem, wat, moreW]
theorem live_three (w : World) : EvAt (liveW w) (some ⟨w.heap.size + 1 + 1, 0, none⟩) [threeA] := by
  refine Or.inr ⟨w.heap.size + 1 + 1, 0, rfl, by simp [liveW], fun i hi => ?_⟩
  have e : i = 0 := by simpa using hi
  subst e
  simp [liveW, go_sem, aat, threeA]
theorem one_len {α : Type} (x : α) : [x].length ≤ maxLen := by simp [maxLen]
theorem Covers_ad (f g : List Wnt) (ad ad' : Option Addr) (cap cap' : Nat) (m : Int) (w : World) (hl : f.length ≤ maxLen) (h : FiAt w ad f) (hwf : ∀ x ∈ f, Wnt.Wf x) (hne : f ≠ [])
    (hl' : g.length ≤ maxLen) (h' : FiAt w ad' g) (hwf' : ∀ x ∈ g, Wnt.Wf x) (hne' : g ≠ []) (hM : Ml m w) :
    Calls Try.prog 23 #[.slice ad f.length cap, .slice ad' g.length cap'] w fun e w' => e = .returned (.bool (cov f g)) ∧ Gr w w' := by
  rcases h with h | ⟨b, off, rfl, hb, hat⟩
  · exact absurd h hne
  rcases h' with h' | ⟨b', off', rfl, hb', hat'⟩
  · exact absurd h' hne'
  exact Covers_any f g b off cap b' off' cap' m w hl hb hat hwf hl' hb' hat' hwf' hM

set_option maxHeartbeats 2000000 in
theorem lives_any (m : Int) (w : World) (hM : Ml m w) : Calls Try.prog 26 #[] w fun e w' => e = .returned (.bool true) ∧ Gr w w' := by
  have HW : Hid ((∀ x ∈ [anyW], Wnt.Wf x) ∧ (∀ x ∈ [moreW], Wnt.Wf x) ∧ (∀ x ∈ [threeA], Atr.Wf x)) := live_wf
  have HF : Hid (filterOk [anyW] = true ∧ filterOk [moreW] = true) := live_fi
  have HE : Hid (evOk [threeA] = true) := live_ev
  have HM : Hid (mat [threeA] [anyW] = true ∧ mat [threeA] [moreW] = false) := live_mat
  have HC : Hid (cov [anyW] [moreW] = true ∧ cov [moreW] [anyW] = false) := live_cov
  go_enter Try.func26, Try.ntmps26
  go_wp2_with fail
  have hMl : Ml m (liveW w) := (live_gr w).ml hM
  refine (one_any [threeA] [anyW] _ _ 1 1 m (liveW w) (one_len _) (live_three w) HW.out.2.2 (one_len _) (live_any w) HW.out.1 HE.out HF.out.1 hMl).mono ?_
  rw [HM.out.1]
  rintro e w1 ⟨rfl, hb1⟩
  have g1 : Gr (liveW w) w1 := hb1
  clear hb1
  go_wp2_with fail
  refine (one_any [threeA] [moreW] _ _ 1 1 m w1 (one_len _) ((live_three w).gr g1) HW.out.2.2 (one_len _) ((live_more w).gr g1) HW.out.2.1 HE.out HF.out.2 (g1.ml hMl)).mono ?_
  rw [HM.out.2]
  rintro e w2 ⟨rfl, hb2⟩
  have g2 : Gr (liveW w) w2 := Gr.call g1 hb2
  clear hb2
  go_wp2_with fail
  refine (Covers_ad [anyW] [moreW] _ _ 1 1 m w2 (one_len _) ((live_any w).gr g2) HW.out.1 (by simp) (one_len _) ((live_more w).gr g2) HW.out.2.1 (by simp) (g2.ml hMl)).mono ?_
  rw [HC.out.1]
  rintro e w3 ⟨rfl, hb3⟩
  have g3 : Gr (liveW w) w3 := Gr.call g2 hb3
  clear hb3
  go_wp2_with fail
  refine (Covers_ad [moreW] [anyW] _ _ 1 1 m w3 (one_len _) ((live_more w).gr g3) HW.out.2.1 (by simp) (one_len _) ((live_any w).gr g3) HW.out.1 (by simp) (g3.ml hMl)).mono ?_
  rw [HC.out.2]
  rintro e w4 ⟨rfl, hb4⟩
  have g4 : Gr (liveW w) w4 := Gr.call g3 hb4
  clear hb4
  go_wp2_with fail
  go_ret
  exact ⟨rfl, Gr.call (live_gr w) g4⟩
end Go.Proofs.Ytecnfgikbmcgoaa
