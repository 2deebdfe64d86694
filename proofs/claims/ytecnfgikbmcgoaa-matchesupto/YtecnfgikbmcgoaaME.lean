import Derived.Test.YtecnfgikbmcgoaaMS
import Derived.Test.YtecnfgikbmcgoaaOrd
namespace Go.Proofs.Ytecnfgikbmcgoaa
open Go.RowKit

theorem mErr_nil (l : List Atr) : mErr l [] = chkE l := by simp [mErr, chkE]
theorem mErr_step {l : List Atr} {fs : List (List Wnt)} {k : Nat} (h : k < fs.length) : mErr l (fs.take (k + 1)) = if mErr l (fs.take k) = 0 then chk (fat fs k) else mErr l (fs.take k) := by
  have e : fat fs k = fs[k] := by simp [fat, List.getD_eq_getElem?_getD, List.getElem?_eq_getElem h]
  rw [e]
  simp only [mErr, List.take_succ_eq_append_getElem h, List.all_append, List.all_cons, List.all_nil, Bool.and_true, chk]
  by_cases hc : evOk l = true
  · by_cases hb : (List.take k fs).all filterOk = true
    · by_cases ha : filterOk fs[k] = true
      · simp [hc, hb, ha]
      · simp [hc, hb, ha]
    · simp [hc, hb]
  · simp [hc]
theorem mErr_ok {l : List Atr} {fs : List (List Wnt)} (h : mErr l fs = 0) : evOk l = true ∧ fs.all filterOk = true := by
  unfold mErr at h
  cases h1 : evOk l <;> rw [h1] at h
  · simp at h
  · cases h2 : fs.all filterOk <;> rw [h2] at h
    · simp at h
    · exact ⟨rfl, rfl⟩
/-- What has been found among the first k. -/
def wsk (l : List Atr) (fs : List (List Wnt)) (k : Nat) : List Nat := if mErr l fs = 0 then hits l fs k else []
theorem wsk_zero (l : List Atr) (fs : List (List Wnt)) : wsk l fs 0 = [] := by simp [wsk, hits]
theorem wsk_end {l : List Atr} {fs : List (List Wnt)} {k : Nat} (hk : k ≤ fs.length) (h : ¬ (k < fs.length ∧ mErr l fs = 0)) : wsk l fs k = mRes l fs := by
  unfold wsk mRes
  by_cases h1 : mErr l fs = 0
  · rw [if_pos h1, if_pos h1, show k = fs.length by omega]
  · rw [if_neg h1, if_neg h1]
theorem wsk_le (l : List Atr) (fs : List (List Wnt)) (k : Nat) : (wsk l fs k).length ≤ k := by
  unfold wsk
  split
  · exact hits_le l fs k
  · simp
theorem wsk_yes {l : List Atr} {fs : List (List Wnt)} {k : Nat} (h0 : mErr l fs = 0) (h : mat l (fat fs k) = true) : wsk l fs (k + 1) = wsk l fs k ++ [k] := by
  unfold wsk; rw [if_pos h0, if_pos h0]; exact hits_yes h
theorem wsk_no {l : List Atr} {fs : List (List Wnt)} {k : Nat} (h0 : mErr l fs = 0) (h : mat l (fat fs k) = false) : wsk l fs (k + 1) = wsk l fs k := by
  unfold wsk; rw [if_pos h0, if_pos h0]; exact hits_no h
/-- The document's matching, of an event and a filter. -/
theorem refMatches_ok (l : List Atr) (f : List Wnt) (ad ad' : Option Addr) (cap cap' : Nat) (w : World) (hl : l.length ≤ 1048576) (h : EvAt w ad l) (hl' : f.length ≤ 1048576) (h' : FiAt w ad' f) (he : evOk l = true) (hf : filterOk f = true) :
    Calls Try.prog 17 #[.slice ad l.length cap, .slice ad' f.length cap'] w fun e w' => e = .returned (.bool (mat l f)) ∧ Gr w w' := by
  obtain ⟨hv, hne⟩ := ev_ok_of he
  obtain ⟨hw, hne'⟩ := fi_ok_of hf
  rcases h with h | ⟨b, off, rfl, hb, hat⟩
  · exact absurd h hne
  rcases h' with h' | ⟨b', off', rfl, hb', hat'⟩
  · exact absurd h' hne'
  rw [mat_hit he f]
  exact refMatches_any l f b off cap b' off' cap' w (by unfold maxLen; omega) hb hat (fun z hz => Nat.le_succ_of_le (val_size (hv z hz))) (by unfold maxLen; omega) hb' hat' (fun x hx => ⟨way_of (hw x hx), by have := way_size (way_of (hw x hx)); omega⟩)

set_option maxHeartbeats 2000000 in
theorem Match_none (l : List Atr) (ad : Option Addr) (cap : Nat) (adl : Option Addr) (capl : Nat) (w : World) (hl : l.length ≤ maxLen) (h : EvAt w ad l) (hwf : ∀ x ∈ l, Atr.Wf x) :
    Calls Try.prog 7 #[.slice ad l.length cap, .slice adl 0 capl] w
      fun e w' => ∃ v, e = .returned (.tuple #[v, .int .i64 (mErr l [])]) ∧ Gr w w' ∧ w'.ownsRow w.heap.size 3 1 v (mRes l []).length (ints (mRes l [])) := by
  have HE := Hid.mk' h
  have HF := Hid.mk' hwf
  have HL := Hid.mk' hl
  clear h hwf hl
  cases h1 : evOk l
  · have Hr : Hid (mErr l [] = 1) := by
      show _ = _
      simp [mErr, h1]
    go_enter Try.func7, Try.ntmps7
    go_wp2_with fail
    refine (CheckEvent_ad _ _ _ _ HL.out HE.out HF.out).mono ?_
    rw [show chkE l = 1 by simp [chkE, h1]]
    rintro e w1 ⟨rfl, hb1⟩
    go_wp2_with fail
    go_ret2
    refine ⟨_, ret_tup Hr.out.symm, hb1, ?_⟩
    rw [show mRes l [] = [] by simp [mRes, Hr.out]]
    exact World.ownsRow_nil _ _ _ _
  · have Hr : Hid (mErr l [] = 0) := by
      show _ = _
      simp [mErr, h1]
    go_enter Try.func7, Try.ntmps7
    go_wp2_with fail
    refine (CheckEvent_ad _ _ _ _ HL.out HE.out HF.out).mono ?_
    rw [show chkE l = 0 by simp [chkE, h1]]
    rintro e w1 ⟨rfl, hb1⟩
    go_wp2_with fail
    go_loopw [7, 18] (fun v i wr => v = .slice none 0 0 ∧ i = .int .i64 0 ∧ wr = w1) (fun _ _ _ => 0)
    case atStart => exact ⟨rfl, rfl, rfl⟩
    case round =>
      obtain ⟨rfl, rfl, rfl⟩ := hrel
      go_wp2_with fail
      go_ret2
      refine ⟨_, ret_tup Hr.out.symm, hb1, ?_⟩
      rw [show mRes l [] = [] by simp [mRes, Hr.out, hits]]
      exact World.ownsRow_nil _ _ _ _
theorem Match_all (l : List Atr) (fs : List (List Wnt)) (ad adl : Option Addr) (cap capl : Nat) (m : Int) (w : World) (hl : l.length ≤ maxLen) (h : EvAt w ad l) (hwf : ∀ x ∈ l, Atr.Wf x)
    (hn : fs.length ≤ 8796093022208) (hfs : fs = [] ∨ ∃ b off, adl = some ⟨b, off, none⟩ ∧ b < w.heap.size ∧ FisAt w b off fs) (hlen : ∀ f ∈ fs, f.length ≤ maxLen) (hwfs : ∀ f ∈ fs, ∀ x ∈ f, Wnt.Wf x) (hM : Ml m w) :
    Calls Try.prog 7 #[.slice ad l.length cap, .slice adl fs.length capl] w
      fun e w' => ∃ v, e = .returned (.tuple #[v, .int .i64 (mErr l fs)]) ∧ Gr w w' ∧ w'.ownsRow w.heap.size 3 1 v (mRes l fs).length (ints (mRes l fs)) := by
  rcases hfs with rfl | ⟨b, off, rfl, hb, hat⟩
  · exact Match_none l ad cap adl capl w hl h hwf
  · exact Match_any l fs ad cap b off capl m w hl h hwf hn hb hat hlen hwfs hM
end Go.Proofs.Ytecnfgikbmcgoaa
