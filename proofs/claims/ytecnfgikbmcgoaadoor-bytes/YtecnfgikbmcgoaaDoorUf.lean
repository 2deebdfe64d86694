import Derived.Test.YtecnfgikbmcgoaaDoorUe
namespace Go.Proofs.YtecnfgikbmcgoaaDoor
open Go.RowKit

/-- What is put of a filter. -/
def putF (l : List Wnt) : ByteArray := if filterOk l then ⟨(encF l).toArray⟩ else ⟨#[]⟩
set_option maxRecDepth 100000 in
set_option maxHeartbeats 4000000 in
theorem PutFilter_any (l : List Wnt) (ad : Option Addr) (cap : Nat) (w : World) (hl : l.length ≤ maxLen) (h : FiAt w ad l) (hwf : ∀ x ∈ l, Wnt.Wf x) :
    Calls Tryd.prog 8 #[.slice ad l.length cap] w fun e w' => e = .returned (.tuple #[.string (putF l), .int .i64 (chk l)]) ∧ Gr w w' := by
  have HE := Hid.mk' h
  have HW := Hid.mk' hwf
  have HL := Hid.mk' hl
  clear h hwf hl
  cases h1 : filterOk l
  · have hc : chk l = 2 := by simp [chk, h1]
    have hp : putF l = ⟨#[]⟩ := by simp [putF, h1]
    rw [hp]
    go_enter Tryd.func8, Tryd.ntmps8
    go_wp2_with fail
    refine (CheckF l ad cap _ HL.out HE.out HW.out).mono ?_
    rw [hc]
    rintro e w1 ⟨rfl, g1⟩
    go_wp2_with fail
    go_ret2
    exact ⟨by rw [hc]; rfl, g1⟩
  · have hc : chk l = 0 := by simp [chk, h1]
    have hp : putF l = ⟨(encF l).toArray⟩ := by simp [putF, h1]
    rw [hp, hc]
    go_enter Tryd.func8, Tryd.ntmps8
    go_wp2_with fail
    refine (CheckF l ad cap _ HL.out HE.out HW.out).mono ?_
    rw [hc]
    rintro e w1 ⟨rfl, g1⟩
    go_wp2_with fail
    refine (putFilter_any l ad cap w1.heap.size w1 (Nat.le_refl _) (HE.out.gr g1) ?_ h1).mono ?_
    · intro b off hb
      rcases HE.out.gr g1 with h2 | ⟨b', off', e1, e2, _⟩
      · rw [h2] at h1; simp [filterOk] at h1
      · rw [hb] at e1
        obtain ⟨rfl, rfl⟩ : b = b' ∧ off = off' := by simpa using e1
        exact e2
    rintro e w2 ⟨v2, rfl, k2, o2⟩
    have K2 := Hid.mk' k2
    have O2 := Hid.mk' o2
    obtain ⟨xa, xm, xk, rfl⟩ := owns_slice o2
    have hcv := Br.conv o2 (by simp [encF])
    clear k2 o2
    go_wp2_with fail
    go_ret2
    exact ⟨rfl, Gr.call g1 K2.out.be⟩
end Go.Proofs.YtecnfgikbmcgoaaDoor
