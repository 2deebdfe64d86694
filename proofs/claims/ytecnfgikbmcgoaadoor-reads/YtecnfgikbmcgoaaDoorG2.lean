import Derived.Test.YtecnfgikbmcgoaaDoorRows
import Derived.Test.YtecnfgikbmcgoaaDoorG0
import Derived.WalkKit
import Derived.WalkSpells
import Derived.WalkLawsBesides
import Derived.Deep.Light
import Derived.Test.YtecnfgikbmcgoaaDoorG1
import Derived.Deep.QuietTactic
import Derived.BigQuiet
namespace Go.Proofs.YtecnfgikbmcgoaaDoor
open Go.RowKit

set_option maxHeartbeats 400000 in
theorem goodName_any (s : ByteArray) (w : World) (hs : s.size ≤ maxLen) :
    Calls Tryd.prog 50 #[.string s] w fun e w' => e = .returned (.bool (nameOk s)) ∧ w' = w := by
  unfold maxLen at hs
  go_enter Tryd.func50, Tryd.ntmps50
  go_wp2
  · go_ret; exact ⟨ret_bool (name_short s ‹_›), rfl⟩
  · go_loop [14] (fun i => ∃ k : Nat, k ≤ s.size ∧ i = .int .i64 k ∧ Hid ((s.data.toList.take k).all letter = true)) (fun i => s.size - (intOf i).toNat)
    case atStart => exact ⟨0, Nat.zero_le _, rfl, rfl⟩
    case round =>
      obtain ⟨k, hk, rfl, HA⟩ := hrel
      by_cases hlt : k < s.size
      · go_wp2
        · go_ret; exact ⟨ret_bool (name_stop s k hlt ‹_›), rfl⟩
        · go_round
          case rel => exact ⟨k + 1, by omega, by go_num, letters_go s k hlt HA.out (by omega) (by omega)⟩
          case measure => simp [intOf]; omega
        · go_ret; exact ⟨ret_bool (name_stop s k hlt (Or.inl ‹_›)), rfl⟩
      · go_wp2
        go_ret
        refine ⟨ret_bool ?_, rfl⟩
        rw [name_end s k hlt HA.out]; symm; simp; omega
  · go_ret; exact ⟨ret_bool (name_short s (Or.inl ‹_›)), rfl⟩

set_option maxHeartbeats 400000 in
theorem name_any (s : ByteArray) (w : World) (hs : s.size ≤ maxLen) :
    Calls Tryd.prog 32 #[.string s] w fun e w' => e = .returned (.bool (nameOk s)) ∧ w' = w := by
  unfold maxLen at hs
  go_enter Tryd.func32, Tryd.ntmps32
  go_wp2
  go_loop [3] (fun i => ∃ k : Nat, k ≤ s.size ∧ i = .int .i64 k ∧ Hid ((s.data.toList.take k).all letter = true)) (fun i => s.size - (intOf i).toNat)
  case atStart => exact ⟨0, Nat.zero_le _, rfl, rfl⟩
  case round =>
    obtain ⟨k, hk, rfl, HA⟩ := hrel
    by_cases hlt : k < s.size
    · go_wp2
      · go_ret; exact ⟨ret_bool (name_stop s k hlt ‹_›), rfl⟩
      · go_round
        case rel => exact ⟨k + 1, by omega, by go_num, letters_go s k hlt HA.out (by omega) (by omega)⟩
        case measure => simp [intOf]; omega
      · go_ret; exact ⟨ret_bool (name_stop s k hlt (Or.inl ‹_›)), rfl⟩
    · go_wp2
      all_goals
        go_ret
        refine ⟨ret_bool ?_, rfl⟩
        rw [name_end s k hlt HA.out]
        go_light
        first | (simp [*]; done) | (simp; omega)

set_option maxHeartbeats 400000 in
theorem goodValue_any (k n : Int) (s : ByteArray) (w : World) :
    Calls Tryd.prog 51 #[.agg #[.int .i64 k, .int .i64 n, .string s]] w fun e w' => e = .returned (.bool (valOk k n s)) ∧ Below w.heap.size w w' := by
  go_enter Tryd.func51, Tryd.ntmps51
  go_wp2
  all_goals
    go_ret
    refine ⟨ret_bool ?_, (Below.refl _ _).alloc (Nat.le_refl _) _⟩
    go_light
    simp_all [valOk]

set_option maxHeartbeats 400000 in
theorem value_any (k n : Int) (s : ByteArray) (w : World) :
    Calls Tryd.prog 33 #[.agg #[.int .i64 k, .int .i64 n, .string s]] w fun e w' => e = .returned (.bool (valOk k n s)) ∧ Below w.heap.size w w' := by
  go_enter Tryd.func33, Tryd.ntmps33
  go_wp2
  all_goals
    go_ret
    refine ⟨ret_bool ?_, (Below.refl _ _).alloc (Nat.le_refl _) _⟩
    go_light
    simp_all [valOk]

end Go.Proofs.YtecnfgikbmcgoaaDoor
namespace Go.Proofs.YtecnfgikbmcgoaaDoor
open Go.RowKit

set_option maxHeartbeats 1000000 in
theorem goodWant_any (a : ByteArray) (y k n : Int) (s : ByteArray) (w : World) (ha : a.size ≤ maxLen) :
    Calls Tryd.prog 55 #[.agg #[.string a, .int .i64 y, .int .i64 k, .int .i64 n, .string s]] w fun e w' => e = .returned (.bool (wantOk a y k n s)) ∧ Below w.heap.size w w' := by
  go_enter Tryd.func55, Tryd.ntmps55
  go_wp2_with (first | (go_at_call 50; refine (goodName_any _ _ ha).mono ?_; rintro e w' ⟨rfl, rfl⟩) | (go_at_call 51; refine (goodValue_any _ _ _ _).mono ?_; rintro e w1 ⟨rfl, hb⟩))
  all_goals
    go_ret
    refine ⟨ret_bool ?_, ?_⟩
    · go_light
      first | (simp_all [wantOk, wayOk]; done) | (simp_all [wantOk, wayOk]; omega)
    · first | exact (Below.refl _ _).alloc (Nat.le_refl _) _ | exact ((Below.refl _ _).alloc (Nat.le_refl _) _).trans (hb.mono (by simp))

set_option maxHeartbeats 1000000 in
theorem WantOf_any (a : ByteArray) (y k n : Int) (s : ByteArray) (w : World) (ha : a.size ≤ maxLen) :
    Calls Tryd.prog 34 #[.agg #[.string a, .int .i64 y, .int .i64 k, .int .i64 n, .string s]] w fun e w' => e = .returned (.bool (wantOk a y k n s)) ∧ Below w.heap.size w w' := by
  go_enter Tryd.func34, Tryd.ntmps34
  go_wp2_with (first | (go_at_call 32; refine (name_any _ _ ha).mono ?_; rintro e w' ⟨rfl, rfl⟩) | (go_at_call 33; refine (value_any _ _ _ _).mono ?_; rintro e w1 ⟨rfl, hb⟩; obtain ⟨hc, hf⟩ := bcell hb))
  all_goals
    go_ret
    refine ⟨ret_bool ?_, ?_⟩
    · go_light
      try clear hc hf
      try clear hb
      unfold wantOk
      first | (rw [wayOk_out y k n s (by omega)]; simp; done) | (rw [wayOk_hi y k n s (by omega) (by omega)]; simp_all; done) | (rw [wayOk_mid y k n s (by omega) (by omega)]; simp_all; done) | (simp_all [wayOk_any]; done) | (have hne : ¬ y = 1 := (by simp_all); rw [wayOk_low y k n s (by omega) (by omega)]; simp_all; done) | (simp_all; done)
    · first | exact (Below.refl _ _).alloc (Nat.le_refl _) _ | exact ((Below.refl _ _).alloc (Nat.le_refl _) _).trans (hb.mono (by simp))
end Go.Proofs.YtecnfgikbmcgoaaDoor
namespace Go.Proofs.YtecnfgikbmcgoaaDoor
open Go.RowKit

set_option maxHeartbeats 1000000 in
theorem refCheck_any (l : List Wnt) (b off cap : Nat) (w : World) (hl : l.length ≤ maxLen) (hb : b < w.heap.size) (hat : WantsAt w b off l) (hwf : ∀ x ∈ l, Wnt.Wf x) :
    Calls Tryd.prog 13 #[.slice (some ⟨b, off, none⟩) l.length cap] w fun e w' => e = .returned (.int .i64 (chk l)) ∧ Gr w w' := by
  unfold maxLen at hl
  have HC : Hid (WantsAt w b off l) := hat
  have HF : Hid (∀ x ∈ l, Wnt.Wf x) := hwf
  clear hat hwf
  go_enter Tryd.func13, Tryd.ntmps13
  go_wp2
  · go_ret; exact ⟨ret_int (chk_size ‹_›).symm, Gr.refl _⟩
  · go_loopw [3] (fun i wr => ∃ k : Nat, k ≤ l.length ∧ i = .int .i64 k ∧ Gr w wr ∧ Hid ((l.take k).all wOk = true)) (fun i _ => l.length - (intOf i).toNat)
    case atStart => exact ⟨0, Nat.zero_le _, rfl, Gr.refl _, rfl⟩
    case round =>
      obtain ⟨k, hk, rfl, g, HA⟩ := hrel
      by_cases hlt : k < l.length
      · obtain ⟨c1, c2, c3, c4, c5⟩ := (HC.out.gr g hb) k hlt
        go_wp2_with fail
        refine (WantOf_any _ _ _ _ _ _ (HF.out _ (wat_mem hlt)).a).mono ?_
        rintro e w1 ⟨rfl, hb1⟩
        have g1 : Gr w w1 := Gr.call g hb1
        clear c1 c2 c3 c4 c5
        go_wp2
        · go_ret
          refine ⟨ret_int (chk_stop k hlt ?_).symm, g1⟩
          simpa [wOk] using ‹(!wantOk _ _ _ _ _) = true›
        · go_roundw
          case rel =>
            refine ⟨k + 1, by omega, by go_num, g1, all_snoc wOk l k dW hlt HA.out ?_⟩
            simpa [wOk, wat] using ‹(!wantOk _ _ _ _ _) = false›
          case measure => simp [intOf]; omega
      · go_wp2
        go_ret
        exact ⟨ret_int (chk_end k hlt (by omega) (by omega) HA.out).symm, g⟩
  · go_ret; exact ⟨ret_int (chk_size (Or.inl ‹_›)).symm, Gr.refl _⟩

set_option maxHeartbeats 2000000 in
theorem CheckEvent_any (l : List Atr) (b off cap : Nat) (w : World) (hl : l.length ≤ maxLen) (hb : b < w.heap.size) (hat : AttrsAt w b off l) (hwf : ∀ x ∈ l, Atr.Wf x) :
    Calls Tryd.prog 26 #[.slice (some ⟨b, off, none⟩) l.length cap] w fun e w' => e = .returned (.int .i64 (chkE l)) ∧ Gr w w' := by
  unfold maxLen at hl
  have HC : Hid (AttrsAt w b off l) := hat
  have HF : Hid (∀ x ∈ l, Atr.Wf x) := hwf
  clear hat hwf
  go_enter Tryd.func26, Tryd.ntmps26
  go_wp2
  · go_ret; exact ⟨ret_int (chkE_size ‹_›).symm, Gr.refl _⟩
  · go_loopw [15] (fun i wr => ∃ k : Nat, k ≤ l.length ∧ i = .int .i64 k ∧ Gr w wr ∧ Hid ((List.range k).all (okAt l) = true)) (fun i _ => l.length - (intOf i).toNat)
    case atStart => exact ⟨0, Nat.zero_le _, rfl, Gr.refl _, rfl⟩
    case round =>
      obtain ⟨k, hk, rfl, g, HA⟩ := hrel
      by_cases hlt : k < l.length
      · obtain ⟨c1, c2, c3, c4⟩ := (HC.out.gr g hb) k hlt
        have hb' := g.lt hb
        cases hn : nameOk (aat l k).a
        · go_wp2_with (go_at_call 50; refine (goodName_any _ _ (HF.out _ (aat_mem hlt)).a).mono ?_; rw [hn]; rintro e w' ⟨rfl, rfl⟩)
          go_ret
          exact ⟨ret_int (chkE_stop k hlt (by simp [okAt, hn])).symm, g.alloc _⟩
        · cases hv : valOk (aat l k).k (aat l k).n (aat l k).s
          · go_wp2_with (first | (go_at_call 50; refine (goodName_any _ _ (HF.out _ (aat_mem hlt)).a).mono ?_; rw [hn]; rintro e w' ⟨rfl, rfl⟩) | (go_at_call 51; refine (goodValue_any _ _ _ _).mono ?_; rw [hv]; rintro e w1 ⟨rfl, hb1⟩))
            go_ret
            exact ⟨ret_int (chkE_stop k hlt (by simp [okAt, hv])).symm, Gr.call (g.alloc _) hb1⟩
          · go_wp2_with (first | (go_at_call 50; refine (goodName_any _ _ (HF.out _ (aat_mem hlt)).a).mono ?_; rw [hn]; rintro e w' ⟨rfl, rfl⟩) | (go_at_call 51; refine (goodValue_any _ _ _ _).mono ?_; rw [hv]; rintro e w1 ⟨rfl, hb1⟩; obtain ⟨hc1, hf1⟩ := bcell hb1))
            have gz : Gr w w1 := Gr.call (g.alloc _) hb1
            have hbz := gz.lt hb
            have q1 : w1.cell? ⟨wr.heap.size, 0, none⟩ = some (.string (aat l k).a) := by rw [hc1 _ _ (by simp)]; simp [go_sem]
            clear hc1 hf1 c1 c2 c3 c4
            by_cases hk0 : k = 0
            · have hd : decide (0 < (k : Int)) = false := by simp; omega
              have HO : Hid (okAt l k = true) := by
                show _ = _
                simp only [okAt, hn, hv, show (k == 0) = true by simpa using hk0, Bool.true_or, Bool.and_self]
              go_quiet (fail)
              go_wp2
              go_roundw
              case rel => exact ⟨k + 1, by omega, by subst hk0; rfl, gz.drewN _, range_snoc k HA.out HO.out⟩
              case measure => simp [intOf]; omega
            · obtain ⟨p1, p2, p3, p4⟩ := (HC.out.gr gz hb) (k - 1) (by omega)
              have hi0 : 0 < k := by omega
              have hd : decide (0 < k) = true := by simpa using hi0
              clear hk0
              have hw1 : IntKind.i64.wrap ((k : Int) - 1) = ((k - 1 : Nat) : Int) := by rw [IntWalk.i64_in _ (by omega)]; omega
              have hi1 : (0 : Int) < (k : Int) := by omega
              have hi4 : ((k - 1 : Nat) : Int) < (l.length : Int) := by omega
              have hi5 : k - 1 < l.length := by omega
              have hi2 : (0 : Int) ≤ (k : Int) - 1 := by omega
              have hi3 : (k : Int) - 1 < (l.length : Int) := by omega
              have HO : Hid (okAt l k = Op.bytesLess (aat l (k - 1)).a.toList (aat l k).a.toList) := by
                show _ = _
                simp [okAt, hn, hv, show (k == 0) = false by simp; omega]
              go_quiet (fail)
              go_wp2
              · go_ret
                refine ⟨ret_int (chkE_stop k hlt ?_).symm, gz.drewN _⟩
                rw [HO.out]
                simpa using ‹(!Op.bytesLess _ _) = true›
              · go_roundw
                case rel =>
                  refine ⟨k + 1, by omega, by go_num, gz.drewN _, range_snoc k HA.out ?_⟩
                  rw [HO.out]
                  simpa using ‹(!Op.bytesLess _ _) = false›
                case measure => simp [intOf]; omega
      · go_wp2
        go_ret
        exact ⟨ret_int (chkE_end k hlt hk (by omega) (by omega) HA.out).symm, g⟩
  · go_ret; exact ⟨ret_int (chkE_size (Or.inl ‹_›)).symm, Gr.refl _⟩
end Go.Proofs.YtecnfgikbmcgoaaDoor
namespace Go.Proofs.YtecnfgikbmcgoaaDoor
open Go.RowKit

/-- Every value that the first lets by the second does. -/
def implP (y k n : Int) (s : ByteArray) (y' k' n' : Int) (s' : ByteArray) : Prop :=
  ∀ kv nv sv, valOk kv nv sv = true → minI ≤ nv → nv ≤ maxI → lets y k n s kv nv sv = true → lets y' k' n' s' kv nv sv = true

theorem lets_any (k n : Int) (s : ByteArray) (k' n' : Int) (s' : ByteArray) : lets 1 k n s k' n' s' = true := by simp [lets]
theorem lets_kind {y k n : Int} {s : ByteArray} {k' n' : Int} {s' : ByteArray} (hy : y ≠ 1) (h : lets y k n s k' n' s' = true) : k = k' := by
  by_cases hk : k = k'
  · exact hk
  · have hk' : (k != k') = true := by simpa using hk
    simp [lets, hy, hk'] at h
theorem lets_off {y k n : Int} {s : ByteArray} {k' n' : Int} {s' : ByteArray} (hy : y ≠ 1) (h : k ≠ k') : lets y k n s k' n' s' = false := by
  cases hl : lets y k n s k' n' s'
  · rfl
  · exact absurd (lets_kind hy hl) h

/-- Numbers. -/
def letsN (y n v : Int) : Prop := (y = 2 ∧ v = n) ∨ (y = 3 ∧ v ≠ n) ∨ (y = 4 ∧ v < n) ∨ (y = 5 ∧ v ≤ n) ∨ (y = 6 ∧ n < v) ∨ (y = 7 ∧ n ≤ v)
theorem lets_num {y n v : Int} {s sv : ByteArray} (h2 : 2 ≤ y) (h7 : y ≤ 7) (hs : s.toList = []) (hv : sv.toList = []) : lets y 1 n s 1 v sv = true ↔ letsN y n v := by
  have hy : y = 2 ∨ y = 3 ∨ y = 4 ∨ y = 5 ∨ y = 6 ∨ y = 7 := by omega
  rcases hy with rfl | rfl | rfl | rfl | rfl | rfl <;> simp [lets, letsN, hs, hv]
theorem num_empty {y n : Int} {s : ByteArray} (h : wayOk y 1 n s = true) (h1 : y ≠ 1) : s.toList = [] := val_int (way_val h h1)

theorem endLo_let {y n : Int} (h2 : 2 ≤ y) (h7 : y ≤ 7) (hlo : minI ≤ n) (hhi : n ≤ maxI) (hn : nothingB y n = false) : letsN y n (endLo y n) ∧ minI ≤ endLo y n ∧ endLo y n ≤ maxI ∧ (endLo y n = minI ∨ endLo y n = n ∨ endLo y n = n + 1) := by
  have hy : y = 2 ∨ y = 3 ∨ y = 4 ∨ y = 5 ∨ y = 6 ∨ y = 7 := by omega
  rcases hy with rfl | rfl | rfl | rfl | rfl | rfl <;> simp [nothingB] at hn <;> simp [endLo, letsN]
  · omega
  · split <;> simp_all [minI, maxI] <;> omega
  · simp only [minI, maxI] at *; omega
  · simp only [minI, maxI] at *; omega
  · simp only [minI, maxI] at *; omega
  · simp only [minI, maxI] at *; omega
theorem endHi_let {y n : Int} (h2 : 2 ≤ y) (h7 : y ≤ 7) (hlo : minI ≤ n) (hhi : n ≤ maxI) (hn : nothingB y n = false) : letsN y n (endHi y n) ∧ minI ≤ endHi y n ∧ endHi y n ≤ maxI ∧ (endHi y n = maxI ∨ endHi y n = n ∨ endHi y n = n - 1) := by
  have hy : y = 2 ∨ y = 3 ∨ y = 4 ∨ y = 5 ∨ y = 6 ∨ y = 7 := by omega
  rcases hy with rfl | rfl | rfl | rfl | rfl | rfl <;> simp [nothingB] at hn <;> simp [endHi, letsN]
  · omega
  · split <;> simp_all [minI, maxI] <;> omega
  · simp only [minI, maxI] at *; omega
  · simp only [minI, maxI] at *; omega
  · simp only [minI, maxI] at *; omega
  · simp only [minI, maxI] at *; omega
theorem ends_span {y n v : Int} (h : letsN y n v) (hlo : minI ≤ v) (hhi : v ≤ maxI) : endLo y n ≤ v ∧ v ≤ endHi y n := by
  rcases h with ⟨rfl, h⟩ | ⟨rfl, h⟩ | ⟨rfl, h⟩ | ⟨rfl, h⟩ | ⟨rfl, h⟩ | ⟨rfl, h⟩
  · simp [endLo, endHi]; omega
  · refine ⟨?_, ?_⟩
    · simp [endLo]; split <;> omega
    · simp [endHi]; split <;> omega
  · simp [endLo, endHi]; omega
  · simp [endLo, endHi]; omega
  · simp [endLo, endHi]; omega
  · simp [endLo, endHi]; omega
theorem span_in {y' n' a b v : Int} (h3 : y' ≠ 3) (ha : letsN y' n' a) (hb : letsN y' n' b) (h1 : a ≤ v) (h2 : v ≤ b) : letsN y' n' v := by
  unfold letsN at *; omega

/-- Texts. -/
def letsT (y : Int) (s v : List UInt8) : Prop := (y = 2 ∧ v = s) ∨ (y = 3 ∧ v ≠ s) ∨ (y = 8 ∧ s <+: v) ∨ (y = 9 ∧ s <:+ v) ∨ (y = 10 ∧ s <:+: v)
theorem contains_iff (s p : List UInt8) : Lib.contains s p = true ↔ p <:+: s := by
  constructor
  · intro h
    rcases Lib.index_spec s p with ⟨h1, _⟩ | ⟨i, h1, h2, h3, _⟩
    · simp [Lib.contains, h1] at h
    · simp only [Lib.occAt, List.isPrefixOf_iff_prefix] at h3
      obtain ⟨t, ht⟩ := h3
      exact ⟨s.take i, t, by rw [List.append_assoc, ht, List.take_append_drop]⟩
  · rintro ⟨a, b, rfl⟩
    rcases Lib.index_spec (a ++ p ++ b) p with ⟨_, h2⟩ | ⟨i, h1, _⟩
    · have := h2 a.length (by simp)
      simp [Lib.occAt] at this
      rw [List.isPrefixOf_iff_prefix.2 (List.prefix_append p b)] at this
      cases this
    · unfold Lib.contains; rw [h1]; simp
theorem toList_data (s : ByteArray) : s.toList = s.data.toList := ByteArray.toList_eq s
theorem lets_text {y : Int} {s v : ByteArray} (hy : y = 2 ∨ y = 3 ∨ y = 8 ∨ y = 9 ∨ y = 10) : lets y 2 0 s 2 0 v = true ↔ letsT y s.data.toList v.data.toList := by
  rcases hy with rfl | rfl | rfl | rfl | rfl
  · simp [lets, letsT, toList_data]
  · simp [lets, letsT, toList_data]
  · rw [show lets 8 2 0 s 2 0 v = Lib.hasPrefix v.data.toList s.data.toList by simp [lets], Lib.hasPrefix, List.isPrefixOf_iff_prefix]; simp [letsT]
  · rw [show lets 9 2 0 s 2 0 v = Lib.hasSuffix v.data.toList s.data.toList by simp [lets], Lib.hasSuffix, List.isSuffixOf_iff_suffix]; simp [letsT]
  · simp [lets, letsT, contains_iff]
theorem way_texts {y : Int} {s : ByteArray} (h : wayOk y 2 0 s = true) : y = 2 ∨ y = 3 ∨ y = 8 ∨ y = 9 ∨ y = 10 := by
  have hc := way_cases h
  by_cases h1 : y = 1
  · subst h1; simp [wayOk_any] at h
  · by_cases h4 : 4 ≤ y ∧ y ≤ 7
    · have := way_mid h h4.1 h4.2; omega
    · omega

end Go.Proofs.YtecnfgikbmcgoaaDoor
