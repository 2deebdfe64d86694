import Derived.Test.YtecnfgikbmcgoaaXA
import Derived.Test.YtecnfgikbmcgoaaXB
import Derived.Test.YtecnfgikbmcgoaaWB
import Derived.Test.YtecnfgikbmcgoaaOrd
import Derived.Deep.RegionWith
namespace Go.Proofs.Ytecnfgikbmcgoaa
open Go.RowKit

/-- A want lies in a box of its own. -/
structure Bx (w : World) (b : Nat) (a : ByteArray) (y k n : Int) (s : ByteArray) : Prop where
  lt : b < w.heap.size
  c0 : w.cell? ⟨b, 0, none⟩ = some (.string a)
  c1 : w.cell? ⟨b, 1, none⟩ = some (.int .i64 y)
  c2 : w.cell? ⟨b, 1 + 1, none⟩ = some (.int .i64 k)
  c3 : w.cell? ⟨b, 1 + 1 + 1, none⟩ = some (.int .i64 n)
  c4 : w.cell? ⟨b, 1 + 1 + 1 + 1, none⟩ = some (.string s)
theorem Bx.gr {w w' : World} {b : Nat} {a : ByteArray} {y k n : Int} {s : ByteArray} (h : Bx w b a y k n s) (g : Gr w w') : Bx w' b a y k n s := by
  obtain ⟨hc, _⟩ := bcell g
  exact ⟨Gr.lt g h.lt, by rw [hc _ _ h.lt]; exact h.c0, by rw [hc _ _ h.lt]; exact h.c1, by rw [hc _ _ h.lt]; exact h.c2, by rw [hc _ _ h.lt]; exact h.c3, by rw [hc _ _ h.lt]; exact h.c4⟩
theorem Bx.new (w : World) (a : ByteArray) (y k n : Int) (s : ByteArray) (t : TypeId) : Bx (w.alloc (.cells #[.string a, .int .i64 y, .int .i64 k, .int .i64 n, .string s] t)) w.heap.size a y k n s := by
  constructor <;> simp [go_sem]

def tat (l : List (Int × Int × ByteArray)) (i : Nat) : Int × Int × ByteArray := l.getD i (0, 0, noText)
theorem tat_mem {l : List (Int × Int × ByteArray)} {i : Nat} (h : i < l.length) : tat l i ∈ l := getD_mem h _
/-- Values that the call owns: where they lie. -/
theorem owns_vals {w : World} {base : Nat} {e : TypeId} {g cap : Nat} {l : List (Int × Int × ByteArray)} (h : w.ownsRow base e 3 (.slice (some ⟨g, 0, none⟩) l.length cap) l.length (vcells l)) (i : Nat) (hi : i < l.length) :
    w.cell? ⟨g, i * 3, none⟩ = some (.int .i64 (tat l i).1) ∧ w.cell? ⟨g, i * 3 + 1, none⟩ = some (.int .i64 (tat l i).2.1) ∧ w.cell? ⟨g, i * 3 + 1 + 1, none⟩ = some (.string (tat l i).2.2) := by
  have e : l[i]? = some (tat l i) := by simp [tat, List.getD_eq_getElem?_getD, List.getElem?_eq_getElem hi]
  obtain ⟨h1, h2, h3⟩ := vals_at l i _ e
  rw [World.ownsRow.cellAt h (i * 3) (by omega), World.ownsRow.cellAt h (i * 3 + 1) (by omega), World.ownsRow.cellAt h (i * 3 + 1 + 1) (by omega)]
  exact ⟨h1, h2, h3⟩
theorem tried_size {n : Int} {s : ByteArray} {n' : Int} {s' : ByteArray} (hs : s.size ≤ 32) (hs' : s'.size ≤ 32) : ∀ v ∈ triedL n s n' s', v.2.2.size ≤ 33 := by
  have piece_sz : ∀ (n : Int) (s : ByteArray), s.size ≤ 32 → ∀ v ∈ piece n s, v.2.2.size ≤ 33 := fun n s hs v hv => by
    have a1 : aT.size = 1 := rfl
    have z1 : zT.size = 1 := rfl
    have o1 : oT.size = 1 := rfl
    have f1 : fT.size = 1 := rfl
    have e1 : noText.size = 0 := rfl
    unfold piece at hv
    rcases List.mem_append.1 hv with hv | hv
    · simp only [List.mem_cons, List.not_mem_nil, or_false] at hv
      rcases hv with rfl | rfl | rfl | rfl <;> simp only <;> omega
    · split at hv
      · simp only [List.mem_cons, List.not_mem_nil, or_false] at hv
        rcases hv with rfl | rfl | rfl | rfl | rfl | rfl | rfl | rfl <;> simp only [app_size] <;> omega
      · simp at hv
  intro v hv
  unfold triedL at hv
  rcases List.mem_append.1 hv with hv | hv
  · rcases List.mem_append.1 hv with hv | hv
    · rcases List.mem_append.1 hv with hv | hv
      · simp only [List.mem_cons, List.not_mem_nil, or_false] at hv
        rcases hv with rfl | rfl | rfl | rfl <;> decide
      · exact piece_sz n noText (by decide) v hv
    · exact piece_sz n' s hs v hv
  · exact piece_sz 0 s' hs' v hv

set_option maxRecDepth 100000 in
set_option maxHeartbeats 8000000 in
theorem refImplies_any (a : ByteArray) (y k n : Int) (s a' : ByteArray) (y' k' n' : Int) (s' : ByteArray) (w : World) (ha : a.size ≤ maxLen) (ha' : a'.size ≤ maxLen) (hlo : minI ≤ n) (hhi : n ≤ maxI) (hlo' : minI ≤ n') (hhi' : n' ≤ maxI) :
    Calls Try.prog 24 #[.agg #[.string a, .int .i64 y, .int .i64 k, .int .i64 n, .string s], .agg #[.string a', .int .i64 y', .int .i64 k', .int .i64 n', .string s']] w
      fun e w' => e = .returned (.bool (impB a y k n s a' y' k' n' s')) ∧ Gr w w' := by
  have Hlo : Hid (minI ≤ n ∧ n ≤ maxI ∧ minI ≤ n' ∧ n' ≤ maxI) := ⟨hlo, hhi, hlo', hhi'⟩
  clear hlo hhi hlo' hhi'
  cases h1 : wantOk a y k n s
  · have Hr : Hid (impB a y k n s a' y' k' n' s' = false) := by
      show _ = _
      simp [impB, h1]
    go_enter Try.func24, Try.ntmps24
    go_wp2_with fail
    refine (WantOf_any _ _ _ _ _ _ ha).mono ?_
    rw [h1]
    rintro e w1 ⟨rfl, hb1⟩
    obtain ⟨hc1, hf1⟩ := bcell hb1
    go_wp2_with fail
    refine (WantOf_any _ _ _ _ _ _ ha').mono ?_
    rintro e w2 ⟨rfl, hb2⟩
    go_wp2_with fail
    go_ret
    exact ⟨ret_bool (by rw [Hr.out]), Gr.call (Gr.call (((Gr.refl w).alloc _).alloc _) hb1) hb2⟩
  cases h2 : wantOk a' y' k' n' s'
  · have Hr : Hid (impB a y k n s a' y' k' n' s' = false) := by
      show _ = _
      simp [impB, h2]
    go_enter Try.func24, Try.ntmps24
    go_wp2_with fail
    refine (WantOf_any _ _ _ _ _ _ ha).mono ?_
    rw [h1]
    rintro e w1 ⟨rfl, hb1⟩
    obtain ⟨hc1, hf1⟩ := bcell hb1
    go_wp2_with fail
    refine (WantOf_any _ _ _ _ _ _ ha').mono ?_
    rw [h2]
    rintro e w2 ⟨rfl, hb2⟩
    go_wp2_with fail
    go_ret
    exact ⟨ret_bool (by rw [Hr.out]), Gr.call (Gr.call (((Gr.refl w).alloc _).alloc _) hb1) hb2⟩
  have Hw : Hid (wayOk y k n s = true) := by
    show _ = _
    simp [wantOk] at h1; exact h1.2
  have Hw' : Hid (wayOk y' k' n' s' = true) := by
    show _ = _
    simp [wantOk] at h2; exact h2.2
  have hs := way_size Hw.out
  have hs' := way_size Hw'.out
  cases h3 : (a.toList == a'.toList)
  · have Hr : Hid (impB a y k n s a' y' k' n' s' = false) := by
      show _ = _
      simp [impB, h3]
    go_enter Try.func24, Try.ntmps24
    go_wp2_with fail
    refine (WantOf_any _ _ _ _ _ _ ha).mono ?_
    rw [h1]
    rintro e w1 ⟨rfl, hb1⟩
    have b1 := (Bx.new w a y k n s 51).gr (Gr.call ((Gr.refl _).alloc _) hb1)
    have b2 := (Bx.new (w.alloc (.cells #[.string a, .int .i64 y, .int .i64 k, .int .i64 n, .string s] 51)) a' y' k' n' s' 51).gr hb1
    rw [show (w.alloc (.cells #[.string a, .int .i64 y, .int .i64 k, .int .i64 n, .string s] 51)).heap.size = w.heap.size + 1 by simp] at b2
    have B1 : Hid (Bx w1 w.heap.size a y k n s) := b1
    have q0 := b2.c0
    have q1 := b2.c1
    have q2 := b2.c2
    have q3 := b2.c3
    have q4 := b2.c4
    have B2 : Hid (Bx w1 (w.heap.size + 1) a' y' k' n' s') := b2
    clear b1 b2
    go_wp2_with fail
    refine (WantOf_any _ _ _ _ _ _ ha').mono ?_
    rw [h2]
    rintro e w2 ⟨rfl, hb2⟩
    clear q0 q1 q2 q3 q4
    have r0 := (B1.out.gr hb2).c0
    have r1 := (B2.out.gr hb2).c0
    go_wp2_with fail
    go_ret
    exact ⟨ret_bool (by rw [Hr.out]), Gr.call (Gr.call (((Gr.refl w).alloc _).alloc _) hb1) hb2⟩
  have HT : Hid (impB a y k n s a' y' k' n' s' = triedB y k n s y' k' n' s') := by
    show _ = _
    rw [tried_eq Hw.out Hw'.out Hlo.out.1 Hlo.out.2.1 Hlo.out.2.2.1 Hlo.out.2.2.2]
    simp [impB, h1, h2, h3]
  go_enter Try.func24, Try.ntmps24
  go_wp2_with fail
  refine (WantOf_any _ _ _ _ _ _ ha).mono ?_
  rw [h1]
  rintro e w1 ⟨rfl, hb1⟩
  have b1 := (Bx.new w a y k n s 51).gr (Gr.call ((Gr.refl _).alloc _) hb1)
  have b2 := (Bx.new (w.alloc (.cells #[.string a, .int .i64 y, .int .i64 k, .int .i64 n, .string s] 51)) a' y' k' n' s' 51).gr hb1
  rw [show (w.alloc (.cells #[.string a, .int .i64 y, .int .i64 k, .int .i64 n, .string s] 51)).heap.size = w.heap.size + 1 by simp] at b2
  have g1 : Gr w w1 := Gr.call (((Gr.refl w).alloc _).alloc _) hb1
  have B1 : Hid (Bx w1 w.heap.size a y k n s) := b1
  have B2 : Hid (Bx w1 (w.heap.size + 1) a' y' k' n' s') := b2
  clear b1 b2 hb1
  have q0 := B2.out.c0
  have q1 := B2.out.c1
  have q2 := B2.out.c2
  have q3 := B2.out.c3
  have q4 := B2.out.c4
  go_wp2_with fail
  refine (WantOf_any _ _ _ _ _ _ ha').mono ?_
  rw [h2]
  rintro e w2 ⟨rfl, hb2⟩
  have g2 : Gr w w2 := Gr.call g1 hb2
  have B12 : Hid (Bx w2 w.heap.size a y k n s) := B1.out.gr hb2
  have B22 : Hid (Bx w2 (w.heap.size + 1) a' y' k' n' s') := B2.out.gr hb2
  clear q0 q1 q2 q3 q4 B1 B2 hb2 g1
  have p0 := B12.out.c0
  have p1 := B12.out.c1
  have p2 := B12.out.c2
  have p3 := B12.out.c3
  have p4 := B12.out.c4
  have q0 := B22.out.c0
  have q1 := B22.out.c1
  have q2 := B22.out.c2
  have q3 := B22.out.c3
  have q4 := B22.out.c4
  go_wp2_with fail
  refine (tried_any _ _ _ _ _ _ _ _ _ _ _ hs hs').mono ?_
  rintro e w3 ⟨v3, rfl, hb3, hown⟩
  have g3 : Gr w w3 := Gr.call g2 hb3
  have B13 : Hid (Bx w3 w.heap.size a y k n s) := B12.out.gr hb3
  have B23 : Hid (Bx w3 (w.heap.size + 1) a' y' k' n' s') := B22.out.gr hb3
  clear p0 p1 p2 p3 p4 q0 q1 q2 q3 q4 B12 B22 hb3 g2
  obtain ⟨gl, cl, rfl⟩ : ∃ g cap, v3 = .slice (some ⟨g, 0, none⟩) (triedL n s n' s').length cap := by
    rcases hown.2 with ⟨_, hn⟩ | ⟨g, cap, cur, hv, _⟩
    · simp [triedL] at hn
    · exact ⟨g, cap, hv⟩
  have HO : Hid (w3.ownsRow _ 49 3 (.slice (some ⟨gl, 0, none⟩) (triedL n s n' s').length cl) (triedL n s n' s').length (vcells (triedL n s n' s'))) := hown
  have HS : Hid (∀ v ∈ triedL n s n' s', v.2.2.size ≤ 33) := tried_size hs hs'
  have hlen : (triedL n s n' s').length ≤ 60 := by
    have := TL_len n s n' s' 3
    rw [TL_eq] at this; omega
  clear hown
  go_wp2_with fail
  go_loopw [8] (fun i wr => ∃ q : Nat, q ≤ (triedL n s n' s').length ∧ i = .int .i64 q ∧ Gr w3 wr ∧ Hid (((triedL n s n' s').take q).all (fun v => !(lets y k n s v.1 v.2.1 v.2.2 && !lets y' k' n' s' v.1 v.2.1 v.2.2)) = true)) (fun i _ => (triedL n s n' s').length - (intOf i).toNat)
  case atStart => exact ⟨0, Nat.zero_le _, rfl, Gr.refl _, rfl⟩
  case round =>
    obtain ⟨q, hq, rfl, gr, HA⟩ := hrel
    by_cases hlt : q < (triedL n s n' s').length
    · obtain ⟨t0, t1, t2⟩ := owns_vals (ownsGr HO.out gr) q hlt
      have HSq := HS.out _ (tat_mem hlt)
      have p0 := (B13.out.gr gr).c0
      have p1 := (B13.out.gr gr).c1
      have p2 := (B13.out.gr gr).c2
      have p3 := (B13.out.gr gr).c3
      have p4 := (B13.out.gr gr).c4
      have hq0 : (0 : Int) ≤ (q : Int) := by omega
      have hq1 : (q : Int) < ((triedL n s n' s').length : Int) := by omega
      cases hl1 : lets y k n s (tat (triedL n s n' s') q).1 (tat (triedL n s n' s') q).2.1 (tat (triedL n s n' s') q).2.2
      · have HN : Hid (((triedL n s n' s').take (q + 1)).all (fun v => !(lets y k n s v.1 v.2.1 v.2.2 && !lets y' k' n' s' v.1 v.2.1 v.2.2)) = true) := all_snoc _ _ q (0, 0, noText) hlt HA.out (by show (!(lets y k n s (tat (triedL n s n' s') q).1 (tat (triedL n s n' s') q).2.1 (tat (triedL n s n' s') q).2.2 && !lets y' k' n' s' (tat (triedL n s n' s') q).1 (tat (triedL n s n' s') q).2.1 (tat (triedL n s n' s') q).2.2)) = true; rw [hl1]; rfl)
        go_wp2_with fail
        first | go_region_with (go_at_call 39; refine (Lets_any _ _ _ _ _ _ _ _ _ Hw.out (by omega) HSq).mono ?_; rw [hl1]; rintro e w4 ⟨rfl, hb4⟩) | fail
        all_goals
          have g4 : Gr w3 w4 := Gr.call gr.drew hb4
          clear hb4
          go_wp2
          first | go_region_with fail | fail
          all_goals
            go_wp2
            go_roundw
            case rel => exact ⟨q + 1, by omega, by go_num, g4.drew, HN⟩
            case measure => simp [intOf]; omega
      · cases hl2 : lets y' k' n' s' (tat (triedL n s n' s') q).1 (tat (triedL n s n' s') q).2.1 (tat (triedL n s n' s') q).2.2
        · have HR : Hid (impB a y k n s a' y' k' n' s' = false) := by
            show _ = _
            rw [HT.out]
            exact all_stop _ _ q (0, 0, noText) hlt (by show (!(lets y k n s (tat (triedL n s n' s') q).1 (tat (triedL n s n' s') q).2.1 (tat (triedL n s n' s') q).2.2 && !lets y' k' n' s' (tat (triedL n s n' s') q).1 (tat (triedL n s n' s') q).2.1 (tat (triedL n s n' s') q).2.2)) = false; rw [hl1, hl2]; rfl)
          go_wp2_with fail
          first | go_region_with (go_at_call 39; refine (Lets_any _ _ _ _ _ _ _ _ _ Hw.out (by omega) HSq).mono ?_; rw [hl1]; rintro e w4 ⟨rfl, hb4⟩) | fail
          all_goals
            have g4 : Gr w3 w4 := Gr.call gr.drew hb4
            clear hb4 t0 t1 t2 p0 p1 p2 p3 p4
            obtain ⟨t0, t1, t2⟩ := owns_vals (ownsGr HO.out g4) q hlt
            have p0 := (B23.out.gr g4).c0
            have p1 := (B23.out.gr g4).c1
            have p2 := (B23.out.gr g4).c2
            have p3 := (B23.out.gr g4).c3
            have p4 := (B23.out.gr g4).c4
            go_wp2
            first | go_region_with (go_at_call 39; refine (Lets_any _ _ _ _ _ _ _ _ _ Hw'.out (by omega) HSq).mono ?_; rw [hl2]; rintro e w5 ⟨rfl, hb5⟩) | fail
            all_goals
              go_wp2
              go_ret
              exact ⟨ret_bool (by rw [HR.out]), Gr.call g3 (Gr.call g4.drew hb5)⟩
        · have HN : Hid (((triedL n s n' s').take (q + 1)).all (fun v => !(lets y k n s v.1 v.2.1 v.2.2 && !lets y' k' n' s' v.1 v.2.1 v.2.2)) = true) := all_snoc _ _ q (0, 0, noText) hlt HA.out (by show (!(lets y k n s (tat (triedL n s n' s') q).1 (tat (triedL n s n' s') q).2.1 (tat (triedL n s n' s') q).2.2 && !lets y' k' n' s' (tat (triedL n s n' s') q).1 (tat (triedL n s n' s') q).2.1 (tat (triedL n s n' s') q).2.2)) = true; rw [hl1, hl2]; rfl)
          go_wp2_with fail
          first | go_region_with (go_at_call 39; refine (Lets_any _ _ _ _ _ _ _ _ _ Hw.out (by omega) HSq).mono ?_; rw [hl1]; rintro e w4 ⟨rfl, hb4⟩) | fail
          all_goals
            have g4 : Gr w3 w4 := Gr.call gr.drew hb4
            clear hb4 t0 t1 t2 p0 p1 p2 p3 p4
            obtain ⟨t0, t1, t2⟩ := owns_vals (ownsGr HO.out g4) q hlt
            have p0 := (B23.out.gr g4).c0
            have p1 := (B23.out.gr g4).c1
            have p2 := (B23.out.gr g4).c2
            have p3 := (B23.out.gr g4).c3
            have p4 := (B23.out.gr g4).c4
            go_wp2
            first | go_region_with (go_at_call 39; refine (Lets_any _ _ _ _ _ _ _ _ _ Hw'.out (by omega) HSq).mono ?_; rw [hl2]; rintro e w5 ⟨rfl, hb5⟩) | fail
            all_goals
              have g5 : Gr w3 w5 := Gr.call g4.drew hb5
              go_wp2
              go_roundw
              case rel => exact ⟨q + 1, by omega, by go_num, g5, HN⟩
              case measure => simp [intOf]; omega
    · have HR : Hid (impB a y k n s a' y' k' n' s' = true) := by
        show _ = _
        rw [HT.out]
        exact all_end _ _ q hlt HA.out
      go_wp2
      go_ret
      exact ⟨ret_bool (by rw [HR.out]), Gr.call g3 gr⟩
end Go.Proofs.Ytecnfgikbmcgoaa
