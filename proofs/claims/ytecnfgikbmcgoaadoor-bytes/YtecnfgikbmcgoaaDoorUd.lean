import Derived.Test.YtecnfgikbmcgoaaDoorUc
import Derived.Test.YtecnfgikbmcgoaaDoorWI
import Derived.Laws.IdiomStrings
namespace Go.Proofs.YtecnfgikbmcgoaaDoor
open Go.RowKit

set_option maxHeartbeats 1000000 in
theorem Check_nil' (ad : Option Addr) (cap : Nat) (w : World) : Calls Tryd.prog 29 #[.slice ad 0 cap] w fun e w' => e = .returned (.int .i64 2) ∧ w' = w := by
  go_enter Tryd.func29, Tryd.ntmps29
  go_wp2
  go_ret
  exact ⟨rfl, rfl⟩
set_option maxHeartbeats 1000000 in
theorem CheckEvent_nil' (ad : Option Addr) (cap : Nat) (w : World) : Calls Tryd.prog 26 #[.slice ad 0 cap] w fun e w' => e = .returned (.int .i64 1) ∧ w' = w := by
  go_enter Tryd.func26, Tryd.ntmps26
  go_wp2
  go_ret
  exact ⟨rfl, rfl⟩
theorem CheckF (l : List Wnt) (ad : Option Addr) (cap : Nat) (w : World) (hl : l.length ≤ maxLen) (h : FiAt w ad l) (hwf : ∀ x ∈ l, Wnt.Wf x) :
    Calls Tryd.prog 29 #[.slice ad l.length cap] w fun e w' => e = .returned (.int .i64 (chk l)) ∧ Gr w w' := by
  rcases h with rfl | ⟨b, off, rfl, hb, hat⟩
  · exact (Check_nil' ad cap w).mono fun e w' ⟨h1, h2⟩ => ⟨h1, by rw [h2]; exact Gr.refl _⟩
  · exact Check_any l b off cap w hl hb hat hwf
theorem CheckE (l : List Atr) (ad : Option Addr) (cap : Nat) (w : World) (hl : l.length ≤ maxLen) (h : EvAt w ad l) (hwf : ∀ x ∈ l, Atr.Wf x) :
    Calls Tryd.prog 26 #[.slice ad l.length cap] w fun e w' => e = .returned (.int .i64 (chkE l)) ∧ Gr w w' := by
  rcases h with rfl | ⟨b, off, rfl, hb, hat⟩
  · exact (CheckEvent_nil' ad cap w).mono fun e w' ⟨h1, h2⟩ => ⟨h1, by rw [h2]; exact Gr.refl _⟩
  · exact CheckEvent_any l b off cap w hl hb hat hwf
set_option maxRecDepth 100000 in
theorem Br.conv {base : Nat} {w : World} {a : Option Addr} {m c : Nat} {l : List UInt8} (h : Br base w (.slice a m c) l) (h0 : 0 < l.length) : (convert 80 9 (.slice a m c)).run Tryd.prog w = .ok (.string ⟨l.toArray⟩) w := by
  obtain ⟨a', c', he, hs⟩ := owns_shape h
  obtain ⟨g, rfl⟩ := hs h0
  injection he with e1 e2 e3
  subst e1 e2 e3
  refine run_convert_bytes_back w 80 9 5 ⟨g, 0, none⟩ c l Tryd.underlying80 Tryd.underlying5 Tryd.underlying9 (fun j hj => ?_)
  rw [Addr.add_lit, Nat.zero_add, World.ownsRow.cellAt h j (by omega)]
  simp [bcs, hj]
/-- What is put of an event. -/
def putE (l : List Atr) : ByteArray := if evOk l then ⟨(encE l).toArray⟩ else ⟨#[]⟩
set_option maxRecDepth 100000 in
set_option maxHeartbeats 4000000 in
theorem PutEvent_any (l : List Atr) (ad : Option Addr) (cap : Nat) (w : World) (hl : l.length ≤ maxLen) (h : EvAt w ad l) (hwf : ∀ x ∈ l, Atr.Wf x) :
    Calls Tryd.prog 6 #[.slice ad l.length cap] w fun e w' => e = .returned (.tuple #[.string (putE l), .int .i64 (chkE l)]) ∧ Gr w w' := by
  have HE := Hid.mk' h
  have HW := Hid.mk' hwf
  have HL := Hid.mk' hl
  clear h hwf hl
  cases h1 : evOk l
  · have hc : chkE l = 1 := by simp [chkE, h1]
    have hp : putE l = ⟨#[]⟩ := by simp [putE, h1]
    rw [hp]
    go_enter Tryd.func6, Tryd.ntmps6
    go_wp2_with fail
    refine (CheckE l ad cap _ HL.out HE.out HW.out).mono ?_
    rw [hc]
    rintro e w1 ⟨rfl, g1⟩
    go_wp2_with fail
    go_ret2
    exact ⟨by rw [hc]; rfl, g1⟩
  · have hc : chkE l = 0 := by simp [chkE, h1]
    have hp : putE l = ⟨(encE l).toArray⟩ := by simp [putE, h1]
    rw [hp, hc]
    go_enter Tryd.func6, Tryd.ntmps6
    go_wp2_with fail
    refine (CheckE l ad cap _ HL.out HE.out HW.out).mono ?_
    rw [hc]
    rintro e w1 ⟨rfl, g1⟩
    go_wp2_with fail
    refine (putEvent_any l ad cap w1.heap.size w1 (Nat.le_refl _) (HE.out.gr g1) ?_ h1).mono ?_
    · intro b off hb
      rcases HE.out.gr g1 with h2 | ⟨b', off', e1, e2, _⟩
      · rw [h2] at h1; simp [evOk] at h1
      · rw [hb] at e1
        obtain ⟨rfl, rfl⟩ : b = b' ∧ off = off' := by simpa using e1
        exact e2
    rintro e w2 ⟨v2, rfl, k2, o2⟩
    have K2 := Hid.mk' k2
    have O2 := Hid.mk' o2
    obtain ⟨xa, xm, xk, rfl⟩ := owns_slice o2
    have hcv := Br.conv o2 (by simp [encE])
    clear k2 o2
    go_wp2_with fail
    go_ret2
    exact ⟨rfl, Gr.call g1 K2.out.be⟩
end Go.Proofs.YtecnfgikbmcgoaaDoor
