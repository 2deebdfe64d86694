import Derived.Test.YtecnfgikbmcgoaaDoorImp
namespace Go.Proofs.YtecnfgikbmcgoaaDoor
open Go.RowKit

theorem way_val {y k n : Int} {s : ByteArray} (h : wayOk y k n s = true) (h1 : y ≠ 1) : valOk k n s = true := by
  have hc := way_cases h
  by_cases h3 : y ≤ 3
  · exact way_low h (by omega) h3
  · by_cases h7 : y ≤ 7
    · rw [wayOk_mid y k n s (by omega) h7] at h; simp at h; exact h.2
    · rw [wayOk_hi y k n s (by omega) (by omega)] at h; simp at h; exact h.2
theorem val_kind {k n : Int} {s : ByteArray} (h : valOk k n s = true) : k = 1 ∨ k = 2 ∨ k = 3 := by
  simp [valOk] at h; omega
theorem val_text {n : Int} {s : ByteArray} (h : valOk 2 n s = true) : n = 0 := by
  simp [valOk] at h; omega
theorem val_flag {n : Int} {s : ByteArray} (h : valOk 3 n s = true) : (n = 0 ∨ n = 1) ∧ s.toList = [] := by
  simp [valOk] at h; exact ⟨h.2, h.1⟩
theorem way_num {y n : Int} {s : ByteArray} (h : wayOk y 1 n s = true) (h1 : y ≠ 1) : 2 ≤ y ∧ y ≤ 7 := by
  have hc := way_cases h
  by_cases h7 : y ≤ 7
  · omega
  · have := way_hi h (by omega) (by omega); omega

end Go.Proofs.YtecnfgikbmcgoaaDoor
