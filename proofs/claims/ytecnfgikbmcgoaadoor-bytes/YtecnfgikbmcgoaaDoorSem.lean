import Derived.Test.YtecnfgikbmcgoaaDoorImp2
namespace Go.Proofs.YtecnfgikbmcgoaaDoor
open Go.RowKit

/-- Every value that the first lets by the second does. -/
def implP (y k n : Int) (s : ByteArray) (y' k' n' : Int) (s' : ByteArray) : Prop :=
  ∀ kv nv sv, valOk kv nv sv = true → minI ≤ nv → nv ≤ maxI → lets y k n s kv nv sv = true → lets y' k' n' s' kv nv sv = true

theorem lets_any (k n : Int) (s : ByteArray) (k' n' : Int) (s' : ByteArray) : lets 1 k n s k' n' s' = true := by simp [lets]
theorem lets_kind {y k n : Int} {s : ByteArray} {k' n' : Int} {s' : ByteArray} (hy : y ≠ 1) (h : lets y k n s k' n' s' = true) : k = k' := by
  by_cases hk : k = k'
  · exact hk
  · have hk' : (k != k') = true := by simpa using hk
    simp [lets, hy, hk'] at h
theorem lets_off {y k n : Int} {s : ByteArray} {k' n' : Int} {s' : ByteArray} (hy : y ≠ 1) (h : k ≠ k') : lets y k n s k' n' s' = false := by
  cases hl : lets y k n s k' n' s'
  · rfl
  · exact absurd (lets_kind hy hl) h

/-- Numbers. -/
def letsN (y n v : Int) : Prop := (y = 2 ∧ v = n) ∨ (y = 3 ∧ v ≠ n) ∨ (y = 4 ∧ v < n) ∨ (y = 5 ∧ v ≤ n) ∨ (y = 6 ∧ n < v) ∨ (y = 7 ∧ n ≤ v)
theorem lets_num {y n v : Int} {s sv : ByteArray} (h2 : 2 ≤ y) (h7 : y ≤ 7) (hs : s.toList = []) (hv : sv.toList = []) : lets y 1 n s 1 v sv = true ↔ letsN y n v := by
  have hy : y = 2 ∨ y = 3 ∨ y = 4 ∨ y = 5 ∨ y = 6 ∨ y = 7 := by omega
  rcases hy with rfl | rfl | rfl | rfl | rfl | rfl <;> simp [lets, letsN, hs, hv]
theorem num_empty {y n : Int} {s : ByteArray} (h : wayOk y 1 n s = true) (h1 : y ≠ 1) : s.toList = [] := val_int (way_val h h1)

theorem endLo_let {y n : Int} (h2 : 2 ≤ y) (h7 : y ≤ 7) (hlo : minI ≤ n) (hhi : n ≤ maxI) (hn : nothingB y n = false) : letsN y n (endLo y n) ∧ minI ≤ endLo y n ∧ endLo y n ≤ maxI ∧ (endLo y n = minI ∨ endLo y n = n ∨ endLo y n = n + 1) := by
  have hy : y = 2 ∨ y = 3 ∨ y = 4 ∨ y = 5 ∨ y = 6 ∨ y = 7 := by omega
  rcases hy with rfl | rfl | rfl | rfl | rfl | rfl <;> simp [nothingB] at hn <;> simp [endLo, letsN]
  · omega
  · split <;> simp_all [minI, maxI] <;> omega
  · simp only [minI, maxI] at *; omega
  · simp only [minI, maxI] at *; omega
  · simp only [minI, maxI] at *; omega
  · simp only [minI, maxI] at *; omega
theorem endHi_let {y n : Int} (h2 : 2 ≤ y) (h7 : y ≤ 7) (hlo : minI ≤ n) (hhi : n ≤ maxI) (hn : nothingB y n = false) : letsN y n (endHi y n) ∧ minI ≤ endHi y n ∧ endHi y n ≤ maxI ∧ (endHi y n = maxI ∨ endHi y n = n ∨ endHi y n = n - 1) := by
  have hy : y = 2 ∨ y = 3 ∨ y = 4 ∨ y = 5 ∨ y = 6 ∨ y = 7 := by omega
  rcases hy with rfl | rfl | rfl | rfl | rfl | rfl <;> simp [nothingB] at hn <;> simp [endHi, letsN]
  · omega
  · split <;> simp_all [minI, maxI] <;> omega
  · simp only [minI, maxI] at *; omega
  · simp only [minI, maxI] at *; omega
  · simp only [minI, maxI] at *; omega
  · simp only [minI, maxI] at *; omega
theorem ends_span {y n v : Int} (h : letsN y n v) (hlo : minI ≤ v) (hhi : v ≤ maxI) : endLo y n ≤ v ∧ v ≤ endHi y n := by
  rcases h with ⟨rfl, h⟩ | ⟨rfl, h⟩ | ⟨rfl, h⟩ | ⟨rfl, h⟩ | ⟨rfl, h⟩ | ⟨rfl, h⟩
  · simp [endLo, endHi]; omega
  · refine ⟨?_, ?_⟩
    · simp [endLo]; split <;> omega
    · simp [endHi]; split <;> omega
  · simp [endLo, endHi]; omega
  · simp [endLo, endHi]; omega
  · simp [endLo, endHi]; omega
  · simp [endLo, endHi]; omega
theorem span_in {y' n' a b v : Int} (h3 : y' ≠ 3) (ha : letsN y' n' a) (hb : letsN y' n' b) (h1 : a ≤ v) (h2 : v ≤ b) : letsN y' n' v := by
  unfold letsN at *; omega

/-- Texts. -/
def letsT (y : Int) (s v : List UInt8) : Prop := (y = 2 ∧ v = s) ∨ (y = 3 ∧ v ≠ s) ∨ (y = 8 ∧ s <+: v) ∨ (y = 9 ∧ s <:+ v) ∨ (y = 10 ∧ s <:+: v)
theorem contains_iff (s p : List UInt8) : Lib.contains s p = true ↔ p <:+: s := by
  constructor
  · intro h
    rcases Lib.index_spec s p with ⟨h1, _⟩ | ⟨i, h1, h2, h3, _⟩
    · simp [Lib.contains, h1] at h
    · simp only [Lib.occAt, List.isPrefixOf_iff_prefix] at h3
      obtain ⟨t, ht⟩ := h3
      exact ⟨s.take i, t, by rw [List.append_assoc, ht, List.take_append_drop]⟩
  · rintro ⟨a, b, rfl⟩
    rcases Lib.index_spec (a ++ p ++ b) p with ⟨_, h2⟩ | ⟨i, h1, _⟩
    · have := h2 a.length (by simp)
      simp [Lib.occAt] at this
      rw [List.isPrefixOf_iff_prefix.2 (List.prefix_append p b)] at this
      cases this
    · unfold Lib.contains; rw [h1]; simp
theorem toList_data (s : ByteArray) : s.toList = s.data.toList := ByteArray.toList_eq s
theorem lets_text {y : Int} {s v : ByteArray} (hy : y = 2 ∨ y = 3 ∨ y = 8 ∨ y = 9 ∨ y = 10) : lets y 2 0 s 2 0 v = true ↔ letsT y s.data.toList v.data.toList := by
  rcases hy with rfl | rfl | rfl | rfl | rfl
  · simp [lets, letsT, toList_data]
  · simp [lets, letsT, toList_data]
  · rw [show lets 8 2 0 s 2 0 v = Lib.hasPrefix v.data.toList s.data.toList by simp [lets], Lib.hasPrefix, List.isPrefixOf_iff_prefix]; simp [letsT]
  · rw [show lets 9 2 0 s 2 0 v = Lib.hasSuffix v.data.toList s.data.toList by simp [lets], Lib.hasSuffix, List.isSuffixOf_iff_suffix]; simp [letsT]
  · simp [lets, letsT, contains_iff]
theorem way_texts {y : Int} {s : ByteArray} (h : wayOk y 2 0 s = true) : y = 2 ∨ y = 3 ∨ y = 8 ∨ y = 9 ∨ y = 10 := by
  have hc := way_cases h
  by_cases h1 : y = 1
  · subst h1; simp [wayOk_any] at h
  · by_cases h4 : 4 ≤ y ∧ y ≤ 7
    · have := way_mid h h4.1 h4.2; omega
    · omega

end Go.Proofs.YtecnfgikbmcgoaaDoor
