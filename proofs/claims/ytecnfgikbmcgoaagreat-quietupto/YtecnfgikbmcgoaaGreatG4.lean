import Derived.Test.YtecnfgikbmcgoaaGreatG1
namespace Go.Proofs.YtecnfgikbmcgoaaGreat
open Go.RowKit

/-- Every value that the first lets by the second does. -/
def implP (y k n : Int) (s : ByteArray) (y' k' n' : Int) (s' : ByteArray) : Prop :=
  ∀ kv nv sv, valOk kv nv sv = true → minI ≤ nv → nv ≤ maxI → lets y k n s kv nv sv = true → lets y' k' n' s' kv nv sv = true

theorem lets_any (k n : Int) (s : ByteArray) (k' n' : Int) (s' : ByteArray) : lets 1 k n s k' n' s' = true := by simp [lets]
theorem lets_kind {y k n : Int} {s : ByteArray} {k' n' : Int} {s' : ByteArray} (hy : y ≠ 1) (h : lets y k n s k' n' s' = true) : k = k' := by
  by_cases hk : k = k'
  · exact hk
  · have hk' : (k != k') = true := by simpa using hk
    simp [lets, hy, hk'] at h
theorem lets_off {y k n : Int} {s : ByteArray} {k' n' : Int} {s' : ByteArray} (hy : y ≠ 1) (h : k ≠ k') : lets y k n s k' n' s' = false := by
  cases hl : lets y k n s k' n' s'
  · rfl
  · exact absurd (lets_kind hy hl) h

/-- Numbers. -/
def letsN (y n v : Int) : Prop := (y = 2 ∧ v = n) ∨ (y = 3 ∧ v ≠ n) ∨ (y = 4 ∧ v < n) ∨ (y = 5 ∧ v ≤ n) ∨ (y = 6 ∧ n < v) ∨ (y = 7 ∧ n ≤ v)
theorem lets_num {y n v : Int} {s sv : ByteArray} (h2 : 2 ≤ y) (h7 : y ≤ 7) (hs : s.toList = []) (hv : sv.toList = []) : lets y 1 n s 1 v sv = true ↔ letsN y n v := by
  have hy : y = 2 ∨ y = 3 ∨ y = 4 ∨ y = 5 ∨ y = 6 ∨ y = 7 := by omega
  rcases hy with rfl | rfl | rfl | rfl | rfl | rfl <;> simp [lets, letsN, hs, hv]
theorem num_empty {y n : Int} {s : ByteArray} (h : wayOk y 1 n s = true) (h1 : y ≠ 1) : s.toList = [] := val_int (way_val h h1)

theorem endLo_let {y n : Int} (h2 : 2 ≤ y) (h7 : y ≤ 7) (hlo : minI ≤ n) (hhi : n ≤ maxI) (hn : nothingB y n = false) : letsN y n (endLo y n) ∧ minI ≤ endLo y n ∧ endLo y n ≤ maxI ∧ (endLo y n = minI ∨ endLo y n = n ∨ endLo y n = n + 1) := by
  have hy : y = 2 ∨ y = 3 ∨ y = 4 ∨ y = 5 ∨ y = 6 ∨ y = 7 := by omega
  rcases hy with rfl | rfl | rfl | rfl | rfl | rfl <;> simp [nothingB] at hn <;> simp [endLo, letsN]
  · omega
  · split <;> simp_all [minI, maxI] <;> omega
  · simp only [minI, maxI] at *; omega
  · simp only [minI, maxI] at *; omega
  · simp only [minI, maxI] at *; omega
  · simp only [minI, maxI] at *; omega
theorem endHi_let {y n : Int} (h2 : 2 ≤ y) (h7 : y ≤ 7) (hlo : minI ≤ n) (hhi : n ≤ maxI) (hn : nothingB y n = false) : letsN y n (endHi y n) ∧ minI ≤ endHi y n ∧ endHi y n ≤ maxI ∧ (endHi y n = maxI ∨ endHi y n = n ∨ endHi y n = n - 1) := by
  have hy : y = 2 ∨ y = 3 ∨ y = 4 ∨ y = 5 ∨ y = 6 ∨ y = 7 := by omega
  rcases hy with rfl | rfl | rfl | rfl | rfl | rfl <;> simp [nothingB] at hn <;> simp [endHi, letsN]
  · omega
  · split <;> simp_all [minI, maxI] <;> omega
  · simp only [minI, maxI] at *; omega
  · simp only [minI, maxI] at *; omega
  · simp only [minI, maxI] at *; omega
  · simp only [minI, maxI] at *; omega
theorem ends_span {y n v : Int} (h : letsN y n v) (hlo : minI ≤ v) (hhi : v ≤ maxI) : endLo y n ≤ v ∧ v ≤ endHi y n := by
  rcases h with ⟨rfl, h⟩ | ⟨rfl, h⟩ | ⟨rfl, h⟩ | ⟨rfl, h⟩ | ⟨rfl, h⟩ | ⟨rfl, h⟩
  · simp [endLo, endHi]; omega
  · refine ⟨?_, ?_⟩
    · simp [endLo]; split <;> omega
    · simp [endHi]; split <;> omega
  · simp [endLo, endHi]; omega
  · simp [endLo, endHi]; omega
  · simp [endLo, endHi]; omega
  · simp [endLo, endHi]; omega
theorem span_in {y' n' a b v : Int} (h3 : y' ≠ 3) (ha : letsN y' n' a) (hb : letsN y' n' b) (h1 : a ≤ v) (h2 : v ≤ b) : letsN y' n' v := by
  unfold letsN at *; omega

/-- Texts. -/
def letsT (y : Int) (s v : List UInt8) : Prop := (y = 2 ∧ v = s) ∨ (y = 3 ∧ v ≠ s) ∨ (y = 8 ∧ s <+: v) ∨ (y = 9 ∧ s <:+ v) ∨ (y = 10 ∧ s <:+: v)
theorem contains_iff (s p : List UInt8) : Lib.contains s p = true ↔ p <:+: s := by
  constructor
  · intro h
    rcases Lib.index_spec s p with ⟨h1, _⟩ | ⟨i, h1, h2, h3, _⟩
    · simp [Lib.contains, h1] at h
    · simp only [Lib.occAt, List.isPrefixOf_iff_prefix] at h3
      obtain ⟨t, ht⟩ := h3
      exact ⟨s.take i, t, by rw [List.append_assoc, ht, List.take_append_drop]⟩
  · rintro ⟨a, b, rfl⟩
    rcases Lib.index_spec (a ++ p ++ b) p with ⟨_, h2⟩ | ⟨i, h1, _⟩
    · have := h2 a.length (by simp)
      simp [Lib.occAt] at this
      rw [List.isPrefixOf_iff_prefix.2 (List.prefix_append p b)] at this
      cases this
    · unfold Lib.contains; rw [h1]; simp
theorem toList_data (s : ByteArray) : s.toList = s.data.toList := ByteArray.toList_eq s
theorem lets_text {y : Int} {s v : ByteArray} (hy : y = 2 ∨ y = 3 ∨ y = 8 ∨ y = 9 ∨ y = 10) : lets y 2 0 s 2 0 v = true ↔ letsT y s.data.toList v.data.toList := by
  rcases hy with rfl | rfl | rfl | rfl | rfl
  · simp [lets, letsT, toList_data]
  · simp [lets, letsT, toList_data]
  · rw [show lets 8 2 0 s 2 0 v = Lib.hasPrefix v.data.toList s.data.toList by simp [lets], Lib.hasPrefix, List.isPrefixOf_iff_prefix]; simp [letsT]
  · rw [show lets 9 2 0 s 2 0 v = Lib.hasSuffix v.data.toList s.data.toList by simp [lets], Lib.hasSuffix, List.isSuffixOf_iff_suffix]; simp [letsT]
  · simp [lets, letsT, contains_iff]
theorem way_texts {y : Int} {s : ByteArray} (h : wayOk y 2 0 s = true) : y = 2 ∨ y = 3 ∨ y = 8 ∨ y = 9 ∨ y = 10 := by
  have hc := way_cases h
  by_cases h1 : y = 1
  · subst h1; simp [wayOk_any] at h
  · by_cases h4 : 4 ≤ y ∧ y ≤ 7
    · have := way_mid h h4.1 h4.2; omega
    · omega

end Go.Proofs.YtecnfgikbmcgoaaGreat
namespace Go.Proofs.YtecnfgikbmcgoaaGreat
open Go.RowKit

theorem noText_data : noText.data.toList = [] := rfl
theorem empty_data {s : ByteArray} (h : s.toList = []) : s.data.toList = [] := by rw [← toList_data]; exact h
theorem data_empty {s : ByteArray} (h : s.data.toList = []) : s.toList = [] := by rw [toList_data]; exact h
theorem isEmpty_data (s : ByteArray) : s.toList.isEmpty = true ↔ s.data.toList = [] := by rw [toList_data]; simp

theorem texts_sound {y : Int} {s : ByteArray} {y' : Int} {s' v : ByteArray} (hw : wayOk y 2 0 s = true) (hw' : wayOk y' 2 0 s' = true) (h3 : y' ≠ 3) (h : textsB y s y' s' = true) (hv : v.size ≤ 32)
    (hl : letsT y s.data.toList v.data.toList) : letsT y' s'.data.toList v.data.toList := by
  have hy := way_texts hw
  have hy' := way_texts hw'
  have hs : s.data.toList.length = s.size := by simp
  have hvs : v.data.toList.length = v.size := by simp
  unfold textsB at h
  by_cases e3 : y = 3
  · subst e3
    simp only [beq_self_eq_true, if_true, Bool.and_eq_true, bne_iff_ne, isEmpty_data] at h
    obtain ⟨h2, he⟩ := h
    rw [he]
    unfold letsT
    have : y' = 8 ∨ y' = 9 ∨ y' = 10 := by omega
    rcases this with rfl | rfl | rfl <;> simp
  · have e3' : (y == 3) = false := by simpa using e3
    simp only [e3', Bool.false_eq_true, if_false] at h
    cases hb : lets y' 2 0 s' 2 0 s
    · simp [hb] at h
    · simp only [hb, Bool.not_true, Bool.false_eq_true, if_false] at h
      have hb' := (lets_text hy').1 hb
      have same : v.data.toList = s.data.toList → letsT y' s'.data.toList v.data.toList := fun e => by rw [e]; exact hb'
      by_cases e2 : y = 2
      · subst e2; exact same (by simpa [letsT] using hl)
      · by_cases h32 : s.size = 32
        · refine same ?_
          unfold letsT at hl
          have hlen : v.data.toList.length ≤ s.data.toList.length := by omega
          rcases hl with ⟨e, _⟩ | ⟨e, _⟩ | ⟨_, hl⟩ | ⟨_, hl⟩ | ⟨_, hl⟩
          · exact absurd e e2
          · exact absurd e e3
          · exact (hl.eq_of_length (Nat.le_antisymm hl.length_le hlen)).symm
          · exact (hl.eq_of_length (Nat.le_antisymm hl.length_le hlen)).symm
          · exact (hl.eq_of_length (Nat.le_antisymm hl.length_le hlen)).symm
        · have e2' : (y == 2 || ((s.size : Int) == 32)) = false := by simp; omega
          simp only [e2', Bool.false_eq_true, if_false] at h
          by_cases e2'' : y' = 2
          · subst e2''; simp at h
          · have e4 : (y' == 2) = false := by simpa using e2''
            simp only [e4, Bool.false_eq_true, if_false, Bool.or_eq_true, beq_iff_eq, isEmpty_data] at h
            have hl8 : y = 8 ∨ y = 9 ∨ y = 10 := by omega
            have hy8 : y' = 8 ∨ y' = 9 ∨ y' = 10 := by omega
            have hin : s.data.toList <:+: v.data.toList := by
              unfold letsT at hl
              rcases hl with ⟨e, _⟩ | ⟨e, _⟩ | ⟨_, hl⟩ | ⟨_, hl⟩ | ⟨_, hl⟩
              · omega
              · omega
              · exact hl.isInfix
              · exact hl.isInfix
              · exact hl
            rcases h with (h | h) | h
            · subst h
              unfold letsT at hb' ⊢
              have : s'.data.toList <:+: s.data.toList := by simpa using hb'
              simp
              exact List.IsInfix.trans this hin
            · subst h
              unfold letsT at hb' hl ⊢
              rcases hl8 with rfl | rfl | rfl
              · simp at hb' hl ⊢; exact hb'.trans hl
              · simp at hb' hl ⊢; exact hb'.trans hl
              · simp at hb' hl ⊢; exact hb'.trans hl
            · rw [h]; unfold letsT
              rcases hy8 with rfl | rfl | rfl <;> simp

theorem within_sound {y k n : Int} {s : ByteArray} {y' k' n' : Int} {s' : ByteArray} (hw : wayOk y k n s = true) (hw' : wayOk y' k' n' s' = true) (_hlo : minI ≤ n) (_hhi : n ≤ maxI)
    (h : withinB y k n s y' k' n' s' = true) : implP y k n s y' k' n' s' := by
  intro kv nv sv hv hn1 hn2 hl
  by_cases hy' : y' = 1
  · subst hy'; exact lets_any ..
  have hy1' : (y' == 1) = false := by simpa using hy'
  by_cases hno : nothingB y n = true
  · simp only [nothingB, Bool.or_eq_true, Bool.and_eq_true, beq_iff_eq] at hno
    rcases hno with ⟨rfl, rfl⟩ | ⟨rfl, rfl⟩
    · obtain ⟨rfl, he⟩ := way_mid hw (by omega) (by omega)
      obtain rfl := lets_kind (by omega) hl
      have := (lets_num (by omega) (by omega) he (val_int hv)).1 hl
      unfold letsN at this; omega
    · obtain ⟨rfl, he⟩ := way_mid hw (by omega) (by omega)
      obtain rfl := lets_kind (by omega) hl
      have := (lets_num (by omega) (by omega) he (val_int hv)).1 hl
      unfold letsN at this; omega
  have hno' : nothingB y n = false := by simpa using hno
  unfold withinB at h
  simp only [hy1', hno', Bool.or_self, Bool.false_eq_true, if_false] at h
  by_cases hyk : y = 1 ∨ k ≠ k'
  · have : (y == 1 || k != k') = true := by simpa using hyk
    simp [this] at h
  obtain ⟨hy, rfl⟩ : y ≠ 1 ∧ k = k' := by omega
  have e1 : (y == 1 || k != k) = false := by simpa using hy
  simp only [e1, Bool.false_eq_true, if_false] at h
  obtain rfl := lets_kind hy hl
  by_cases hy3 : y' = 3
  · subst hy3
    simp only [beq_self_eq_true, if_true] at h
    cases hb : lets 3 k n' s' k nv sv
    · have : nv = n' ∧ sv.toList = s'.toList := by simpa [lets] using hb
      have e : lets y k n s k nv sv = lets y k n s k n' s' := by
        have e2 : sv.data.toList = s'.data.toList := by rw [← toList_data, ← toList_data]; exact this.2
        unfold lets
        rw [this.1, this.2, e2]
      rw [← e, hl] at h; simp at h
    · rfl
  have e3 : (y' == 3) = false := by simpa using hy3
  simp only [e3, Bool.false_eq_true, if_false] at h
  rcases val_kind hv with rfl | rfl | rfl
  · simp only [beq_self_eq_true, if_true, numbersB, Bool.and_eq_true] at h
    have he := num_empty hw hy
    have he' := num_empty hw' hy'
    obtain ⟨a1, a2⟩ := way_num hw hy
    obtain ⟨b1, b2⟩ := way_num hw' hy'
    have l1 := (lets_num b1 b2 he' noText_list).1 h.1
    have l2 := (lets_num b1 b2 he' noText_list).1 h.2
    have hl' := (lets_num a1 a2 he (val_int hv)).1 hl
    obtain ⟨s1, s2⟩ := ends_span hl' hn1 hn2
    exact (lets_num b1 b2 he' (val_int hv)).2 (span_in hy3 l1 l2 s1 s2)
  · have e2 : ((2 : Int) == 1) = false := rfl
    simp only [e2, Bool.false_eq_true, if_false, beq_self_eq_true, if_true] at h
    obtain rfl := val_text (way_val hw hy)
    obtain rfl := val_text (way_val hw' hy')
    obtain rfl := val_text hv
    exact (lets_text (way_texts hw')).2 (texts_sound hw hw' hy3 h (val_size hv) ((lets_text (way_texts hw)).1 hl))
  · have e2 : ((3 : Int) == 1) = false := rfl
    have e4 : ((3 : Int) == 2) = false := rfl
    simp only [e2, e4, Bool.false_eq_true, if_false, flagsB] at h
    obtain ⟨hnv, hsv⟩ := val_flag hv
    have hd : sv.data.toList = noText.data.toList := by rw [noText_data]; exact empty_data hsv
    have e : ∀ y n s, lets y 3 n s 3 nv sv = lets y 3 n s 3 nv noText := fun y n s => by
      unfold lets; rw [hsv, noText_list, hd]
    rw [e] at hl ⊢
    rcases hnv with rfl | rfl
    · simp only [hl, Bool.true_and, Bool.not_not, Bool.and_eq_true] at h; exact h.1
    · simp only [hl, Bool.true_and, Bool.not_not, Bool.and_eq_true] at h; exact h.2

end Go.Proofs.YtecnfgikbmcgoaaGreat
