import Derived.Test.YtecnfgikbmcgoaaDoorG2
namespace Go.Proofs.YtecnfgikbmcgoaaDoor
open Go.RowKit

theorem noText_data : noText.data.toList = [] := rfl
theorem empty_data {s : ByteArray} (h : s.toList = []) : s.data.toList = [] := by rw [← toList_data]; exact h
theorem data_empty {s : ByteArray} (h : s.data.toList = []) : s.toList = [] := by rw [toList_data]; exact h
theorem isEmpty_data (s : ByteArray) : s.toList.isEmpty = true ↔ s.data.toList = [] := by rw [toList_data]; simp

theorem texts_sound {y : Int} {s : ByteArray} {y' : Int} {s' v : ByteArray} (hw : wayOk y 2 0 s = true) (hw' : wayOk y' 2 0 s' = true) (h3 : y' ≠ 3) (h : textsB y s y' s' = true) (hv : v.size ≤ 32)
    (hl : letsT y s.data.toList v.data.toList) : letsT y' s'.data.toList v.data.toList := by
  have hy := way_texts hw
  have hy' := way_texts hw'
  have hs : s.data.toList.length = s.size := by simp
  have hvs : v.data.toList.length = v.size := by simp
  unfold textsB at h
  by_cases e3 : y = 3
  · subst e3
    simp only [beq_self_eq_true, if_true, Bool.and_eq_true, bne_iff_ne, isEmpty_data] at h
    obtain ⟨h2, he⟩ := h
    rw [he]
    unfold letsT
    have : y' = 8 ∨ y' = 9 ∨ y' = 10 := by omega
    rcases this with rfl | rfl | rfl <;> simp
  · have e3' : (y == 3) = false := by simpa using e3
    simp only [e3', Bool.false_eq_true, if_false] at h
    cases hb : lets y' 2 0 s' 2 0 s
    · simp [hb] at h
    · simp only [hb, Bool.not_true, Bool.false_eq_true, if_false] at h
      have hb' := (lets_text hy').1 hb
      have same : v.data.toList = s.data.toList → letsT y' s'.data.toList v.data.toList := fun e => by rw [e]; exact hb'
      by_cases e2 : y = 2
      · subst e2; exact same (by simpa [letsT] using hl)
      · by_cases h32 : s.size = 32
        · refine same ?_
          unfold letsT at hl
          have hlen : v.data.toList.length ≤ s.data.toList.length := by omega
          rcases hl with ⟨e, _⟩ | ⟨e, _⟩ | ⟨_, hl⟩ | ⟨_, hl⟩ | ⟨_, hl⟩
          · exact absurd e e2
          · exact absurd e e3
          · exact (hl.eq_of_length (Nat.le_antisymm hl.length_le hlen)).symm
          · exact (hl.eq_of_length (Nat.le_antisymm hl.length_le hlen)).symm
          · exact (hl.eq_of_length (Nat.le_antisymm hl.length_le hlen)).symm
        · have e2' : (y == 2 || ((s.size : Int) == 32)) = false := by simp; omega
          simp only [e2', Bool.false_eq_true, if_false] at h
          by_cases e2'' : y' = 2
          · subst e2''; simp at h
          · have e4 : (y' == 2) = false := by simpa using e2''
            simp only [e4, Bool.false_eq_true, if_false, Bool.or_eq_true, beq_iff_eq, isEmpty_data] at h
            have hl8 : y = 8 ∨ y = 9 ∨ y = 10 := by omega
            have hy8 : y' = 8 ∨ y' = 9 ∨ y' = 10 := by omega
            have hin : s.data.toList <:+: v.data.toList := by
              unfold letsT at hl
              rcases hl with ⟨e, _⟩ | ⟨e, _⟩ | ⟨_, hl⟩ | ⟨_, hl⟩ | ⟨_, hl⟩
              · omega
              · omega
              · exact hl.isInfix
              · exact hl.isInfix
              · exact hl
            rcases h with (h | h) | h
            · subst h
              unfold letsT at hb' ⊢
              have : s'.data.toList <:+: s.data.toList := by simpa using hb'
              simp
              exact List.IsInfix.trans this hin
            · subst h
              unfold letsT at hb' hl ⊢
              rcases hl8 with rfl | rfl | rfl
              · simp at hb' hl ⊢; exact hb'.trans hl
              · simp at hb' hl ⊢; exact hb'.trans hl
              · simp at hb' hl ⊢; exact hb'.trans hl
            · rw [h]; unfold letsT
              rcases hy8 with rfl | rfl | rfl <;> simp

theorem within_sound {y k n : Int} {s : ByteArray} {y' k' n' : Int} {s' : ByteArray} (hw : wayOk y k n s = true) (hw' : wayOk y' k' n' s' = true) (_hlo : minI ≤ n) (_hhi : n ≤ maxI)
    (h : withinB y k n s y' k' n' s' = true) : implP y k n s y' k' n' s' := by
  intro kv nv sv hv hn1 hn2 hl
  by_cases hy' : y' = 1
  · subst hy'; exact lets_any ..
  have hy1' : (y' == 1) = false := by simpa using hy'
  by_cases hno : nothingB y n = true
  · simp only [nothingB, Bool.or_eq_true, Bool.and_eq_true, beq_iff_eq] at hno
    rcases hno with ⟨rfl, rfl⟩ | ⟨rfl, rfl⟩
    · obtain ⟨rfl, he⟩ := way_mid hw (by omega) (by omega)
      obtain rfl := lets_kind (by omega) hl
      have := (lets_num (by omega) (by omega) he (val_int hv)).1 hl
      unfold letsN at this; omega
    · obtain ⟨rfl, he⟩ := way_mid hw (by omega) (by omega)
      obtain rfl := lets_kind (by omega) hl
      have := (lets_num (by omega) (by omega) he (val_int hv)).1 hl
      unfold letsN at this; omega
  have hno' : nothingB y n = false := by simpa using hno
  unfold withinB at h
  simp only [hy1', hno', Bool.or_self, Bool.false_eq_true, if_false] at h
  by_cases hyk : y = 1 ∨ k ≠ k'
  · have : (y == 1 || k != k') = true := by simpa using hyk
    simp [this] at h
  obtain ⟨hy, rfl⟩ : y ≠ 1 ∧ k = k' := by omega
  have e1 : (y == 1 || k != k) = false := by simpa using hy
  simp only [e1, Bool.false_eq_true, if_false] at h
  obtain rfl := lets_kind hy hl
  by_cases hy3 : y' = 3
  · subst hy3
    simp only [beq_self_eq_true, if_true] at h
    cases hb : lets 3 k n' s' k nv sv
    · have : nv = n' ∧ sv.toList = s'.toList := by simpa [lets] using hb
      have e : lets y k n s k nv sv = lets y k n s k n' s' := by
        have e2 : sv.data.toList = s'.data.toList := by rw [← toList_data, ← toList_data]; exact this.2
        unfold lets
        rw [this.1, this.2, e2]
      rw [← e, hl] at h; simp at h
    · rfl
  have e3 : (y' == 3) = false := by simpa using hy3
  simp only [e3, Bool.false_eq_true, if_false] at h
  rcases val_kind hv with rfl | rfl | rfl
  · simp only [beq_self_eq_true, if_true, numbersB, Bool.and_eq_true] at h
    have he := num_empty hw hy
    have he' := num_empty hw' hy'
    obtain ⟨a1, a2⟩ := way_num hw hy
    obtain ⟨b1, b2⟩ := way_num hw' hy'
    have l1 := (lets_num b1 b2 he' noText_list).1 h.1
    have l2 := (lets_num b1 b2 he' noText_list).1 h.2
    have hl' := (lets_num a1 a2 he (val_int hv)).1 hl
    obtain ⟨s1, s2⟩ := ends_span hl' hn1 hn2
    exact (lets_num b1 b2 he' (val_int hv)).2 (span_in hy3 l1 l2 s1 s2)
  · have e2 : ((2 : Int) == 1) = false := rfl
    simp only [e2, Bool.false_eq_true, if_false, beq_self_eq_true, if_true] at h
    obtain rfl := val_text (way_val hw hy)
    obtain rfl := val_text (way_val hw' hy')
    obtain rfl := val_text hv
    exact (lets_text (way_texts hw')).2 (texts_sound hw hw' hy3 h (val_size hv) ((lets_text (way_texts hw)).1 hl))
  · have e2 : ((3 : Int) == 1) = false := rfl
    have e4 : ((3 : Int) == 2) = false := rfl
    simp only [e2, e4, Bool.false_eq_true, if_false, flagsB] at h
    obtain ⟨hnv, hsv⟩ := val_flag hv
    have hd : sv.data.toList = noText.data.toList := by rw [noText_data]; exact empty_data hsv
    have e : ∀ y n s, lets y 3 n s 3 nv sv = lets y 3 n s 3 nv noText := fun y n s => by
      unfold lets; rw [hsv, noText_list, hd]
    rw [e] at hl ⊢
    rcases hnv with rfl | rfl
    · simp only [hl, Bool.true_and, Bool.not_not, Bool.and_eq_true] at h; exact h.1
    · simp only [hl, Bool.true_and, Bool.not_not, Bool.and_eq_true] at h; exact h.2

end Go.Proofs.YtecnfgikbmcgoaaDoor
