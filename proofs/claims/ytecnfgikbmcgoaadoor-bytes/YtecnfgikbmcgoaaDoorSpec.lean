import Derived.WalkKit
import Derived.Lib.IndexMore
import Derived.Lib.Strings
import Derived.Lib.IndexBytes
namespace Go.Proofs.YtecnfgikbmcgoaaDoor
open Go.RowKit

theorem ret_bool {a b : Bool} (h : a = b) : Ending.returned (.bool a) = .returned (.bool b) := by rw [h]
theorem ret_int {k : IntKind} {a b : Int} (h : a = b) : Ending.returned (.int k a) = .returned (.int k b) := by rw [h]
theorem bcell {W w1 : World} (hb : Below W.heap.size W w1) : (∀ b o, b < W.heap.size → w1.cell? ⟨b, o, none⟩ = W.cell? ⟨b, o, none⟩) ∧ (∀ b o, b < W.heap.size → w1.frozen? ⟨b, o, none⟩ = W.frozen? ⟨b, o, none⟩) :=
  ⟨fun b o h => hb.cell (p := ⟨b, o, none⟩) h, fun b o h => hb.frozen (p := ⟨b, o, none⟩) h⟩

/-- A small letter. -/
def letter (c : UInt8) : Bool := decide (97 ≤ (c.toNat : Int)) && decide ((c.toNat : Int) ≤ 122)

/-- The name of an attribute. -/
def nameOk (a : ByteArray) : Bool := decide (1 ≤ (a.size : Int)) && decide ((a.size : Int) ≤ 16) && a.data.toList.all letter

theorem take_snoc (s : ByteArray) (k : Nat) (h : k < s.size) : s.data.toList.take (k + 1) = s.data.toList.take k ++ [s[k]] := by
  rw [List.take_succ_eq_append_getElem (by simpa using h)]; rfl

theorem letters_go (s : ByteArray) (k : Nat) (h : k < s.size) (hk : (s.data.toList.take k).all letter = true) (h1 : 97 ≤ (s[k].toNat : Int)) (h2 : (s[k].toNat : Int) ≤ 122) :
    (s.data.toList.take (k + 1)).all letter = true := by
  rw [take_snoc s k h, List.all_append, hk]; simp [letter]; omega

theorem name_short (s : ByteArray) (h : (s.size : Int) < 1 ∨ 16 < (s.size : Int)) : false = nameOk s := by
  rcases h with h | h
  · have : decide (1 ≤ (s.size : Int)) = false := by simp; omega
    simp [nameOk, this]
  · have : decide ((s.size : Int) ≤ 16) = false := by simp; omega
    simp [nameOk, this]

theorem name_stop (s : ByteArray) (k : Nat) (h : k < s.size) (hb : (s[k].toNat : Int) < 97 ∨ 122 < (s[k].toNat : Int)) : false = nameOk s := by
  have hl : letter s[k] = false := by
    rcases hb with hb | hb
    · have : decide (97 ≤ (s[k].toNat : Int)) = false := by simp; omega
      simp only [letter, this, Bool.false_and]
    · have : decide ((s[k].toNat : Int) ≤ 122) = false := by simp; omega
      simp only [letter, this, Bool.and_false]
  have : s.data.toList.all letter = false := by
    rw [List.all_eq_false]
    exact ⟨s[k], by simp [ByteArray.getElem_eq_getElem_data], by simp [hl]⟩
  simp [nameOk, this]

theorem name_end (s : ByteArray) (k : Nat) (h : ¬ k < s.size) (hk : (s.data.toList.take k).all letter = true) : nameOk s = (decide (1 ≤ (s.size : Int)) && decide ((s.size : Int) ≤ 16)) := by
  rw [List.take_of_length_le (by simp; omega)] at hk
  simp [nameOk, hk]

/-- A value. -/
def valOk (k n : Int) (s : ByteArray) : Bool :=
  (k == 1 && s.toList.isEmpty) || (k == 2 && n == 0 && decide ((s.size : Int) ≤ 32)) || (k == 3 && s.toList.isEmpty && (n == 0 || n == 1))

/-- What may stand beside a way. -/
def wayOk (y k n : Int) (s : ByteArray) : Bool :=
  (y == 1 && (k == 0 && n == 0 && s.toList.isEmpty)) || ((y == 2 || y == 3) && valOk k n s) ||
    (decide (4 ≤ y) && decide (y ≤ 7) && k == 1 && valOk k n s) || (decide (8 ≤ y) && decide (y ≤ 10) && k == 2 && valOk k n s)

/-- A want. -/
def wantOk (a : ByteArray) (y k n : Int) (s : ByteArray) : Bool := nameOk a && wayOk y k n s

theorem wayOk_out (y k n : Int) (s : ByteArray) (h : y < 1 ∨ 10 < y) : wayOk y k n s = false := by
  have e1 : (y == 1) = false := by simp; omega
  have e2 : (y == 2) = false := by simp; omega
  have e3 : (y == 3) = false := by simp; omega
  have e4 : (decide (4 ≤ y) && decide (y ≤ 7)) = false := by simp; omega
  have e5 : (decide (8 ≤ y) && decide (y ≤ 10)) = false := by simp; omega
  simp only [wayOk, e1, e2, e3, e4, e5, Bool.false_and, Bool.or_false]
theorem wayOk_hi (y k n : Int) (s : ByteArray) (h : 8 ≤ y) (h' : y ≤ 10) : wayOk y k n s = (k == 2 && valOk k n s) := by
  have e1 : (y == 1) = false := by simp; omega
  have e2 : (y == 2) = false := by simp; omega
  have e3 : (y == 3) = false := by simp; omega
  have e4 : (decide (4 ≤ y) && decide (y ≤ 7)) = false := by simp; omega
  have e5 : (decide (8 ≤ y) && decide (y ≤ 10)) = true := by simp; omega
  simp only [wayOk, e1, e2, e3, e4, e5, Bool.false_and, Bool.or_false, Bool.false_or, Bool.true_and]
theorem wayOk_mid (y k n : Int) (s : ByteArray) (h : 4 ≤ y) (h' : y ≤ 7) : wayOk y k n s = (k == 1 && valOk k n s) := by
  have e1 : (y == 1) = false := by simp; omega
  have e2 : (y == 2) = false := by simp; omega
  have e3 : (y == 3) = false := by simp; omega
  have e4 : (decide (4 ≤ y) && decide (y ≤ 7)) = true := by simp; omega
  have e5 : (decide (8 ≤ y) && decide (y ≤ 10)) = false := by simp; omega
  simp only [wayOk, e1, e2, e3, e4, e5, Bool.false_and, Bool.or_false, Bool.false_or, Bool.true_and]
theorem wayOk_low (y k n : Int) (s : ByteArray) (h : 2 ≤ y) (h' : y ≤ 3) : wayOk y k n s = valOk k n s := by
  have e1 : (y == 1) = false := by simp; omega
  have e2 : (y == 2 || y == 3) = true := by simp; omega
  have e4 : (decide (4 ≤ y) && decide (y ≤ 7)) = false := by simp; omega
  have e5 : (decide (8 ≤ y) && decide (y ≤ 10)) = false := by simp; omega
  simp only [wayOk, e1, e2, e4, e5, Bool.false_and, Bool.or_false, Bool.false_or, Bool.true_and]
theorem wayOk_any (k n : Int) (s : ByteArray) : wayOk 1 k n s = (k == 0 && n == 0 && s.toList.isEmpty) := by
  simp [wayOk]

/-- Does a want (its way, its value) let a value by? -/
def lets (y k n : Int) (s : ByteArray) (k' n' : Int) (s' : ByteArray) : Bool :=
  if y == 1 then true
  else if k != k' then false
  else if y == 2 then n' == n && s'.toList == s.toList
  else if y == 3 then !(n' == n && s'.toList == s.toList)
  else if y == 4 then decide (n' < n)
  else if y == 5 then decide (n' ≤ n)
  else if y == 6 then decide (n < n')
  else if y == 7 then decide (n ≤ n')
  else if y == 8 then Lib.hasPrefix s'.data.toList s.data.toList
  else if y == 9 then Lib.hasSuffix s'.data.toList s.data.toList
  else Lib.contains s'.data.toList s.data.toList

theorem way_cases {y k n : Int} {s : ByteArray} (h : wayOk y k n s = true) : y = 1 ∨ y = 2 ∨ y = 3 ∨ y = 4 ∨ y = 5 ∨ y = 6 ∨ y = 7 ∨ y = 8 ∨ y = 9 ∨ y = 10 := by
  by_cases h1 : y < 1 ∨ 10 < y
  · rw [wayOk_out y k n s h1] at h; cases h
  · omega
theorem way_mid {y k n : Int} {s : ByteArray} (h : wayOk y k n s = true) (h4 : 4 ≤ y) (h7 : y ≤ 7) : k = 1 ∧ s.toList = [] := by
  rw [wayOk_mid y k n s h4 h7] at h
  simp [valOk] at h
  obtain ⟨rfl, h⟩ := h
  simpa using h
theorem way_hi {y k n : Int} {s : ByteArray} (h : wayOk y k n s = true) (h4 : 8 ≤ y) (h7 : y ≤ 10) : k = 2 ∧ n = 0 ∧ s.size ≤ 32 := by
  rw [wayOk_hi y k n s h4 h7] at h
  simp [valOk] at h
  obtain ⟨rfl, h⟩ := h
  simp at h
  omega
theorem way_low {y k n : Int} {s : ByteArray} (h : wayOk y k n s = true) (h4 : 2 ≤ y) (h7 : y ≤ 3) : valOk k n s = true := by
  rwa [wayOk_low y k n s h4 h7] at h
theorem val_size {k n : Int} {s : ByteArray} (h : valOk k n s = true) : s.size ≤ 32 := by
  have he : s.toList = [] → s.size = 0 := fun e => by
    rw [ByteArray.toList_eq] at e
    have := congrArg List.length e
    simpa using this
  simp [valOk] at h
  rcases h with (h | h) | h
  · rw [he h.2]; omega
  · omega
  · rw [he h.1.2]; omega
theorem val_int {n : Int} {s : ByteArray} (h : valOk 1 n s = true) : s.toList = [] := by
  simpa [valOk] using h

/-- Does a text stand in another one from a place on? -/
def atB (s : ByteArray) (i : Int) (t : ByteArray) : Bool := decide (0 ≤ i) && decide (i + t.size ≤ s.size) && ((s.extract i.toNat (i.toNat + t.size)).toList == t.toList)

theorem atB_no (s : ByteArray) (i : Int) (t : ByteArray) (h : i < 0 ∨ (s.size : Int) < i + t.size) : atB s i t = false := by
  rcases h with h | h
  · have : decide (0 ≤ i) = false := by simp; omega
    simp [atB, this]
  · have : decide (i + t.size ≤ s.size) = false := by simp; omega
    simp [atB, this]
theorem atB_in (s : ByteArray) (j : Nat) (t : ByteArray) (h : j + t.size ≤ s.size) : atB s (j : Int) t = ((s.extract j (j + t.size)).toList == t.toList) := by
  have h1 : decide (0 ≤ (j : Int)) = true := by simp
  have h2 : decide ((j : Int) + t.size ≤ s.size) = true := by simp; omega
  simp only [atB, h1, h2, Bool.true_and, Int.toNat_natCast]
theorem atB_occ (s : ByteArray) (j : Nat) (t : ByteArray) (hj : j ≤ s.size) : atB s (j : Int) t = Lib.occAt s.data.toList t.data.toList j := by
  by_cases h : j + t.size ≤ s.size
  · rw [atB_in s j t h, Lib.occ_of_piece s t j h]
  · rw [atB_no s j t (by omega)]
    cases ho : Lib.occAt s.data.toList t.data.toList j with
    | false => rfl
    | true =>
      rcases Lib.occAt_room ho with h' | h'
      · simp at h'; omega
      · have e : t.size = t.data.toList.length := by simp
        rw [h', List.length_nil] at e
        omega
theorem atB_prefix (s t : ByteArray) : atB s 0 t = Lib.hasPrefix s.data.toList t.data.toList := by
  rw [show (0 : Int) = ((0 : Nat) : Int) from rfl, atB_occ s 0 t (Nat.zero_le _)]
  unfold Lib.occAt Lib.hasPrefix
  rw [List.drop_zero]
theorem atB_suffix (s t : ByteArray) : atB s ((s.size : Int) - t.size) t = Lib.hasSuffix s.data.toList t.data.toList := by
  rw [← Lib.hasSuffix_raw]
  by_cases h : t.size ≤ s.size
  · have e : ((s.size : Int) - t.size) = ((s.size - t.size : Nat) : Int) := by omega
    rw [e, atB_in s (s.size - t.size) t (by omega)]
    have e2 : s.size - t.size + t.size = s.size := by omega
    simp [e2, h]
  · rw [atB_no s _ t (by omega)]; simp [h]
theorem contains_yes (s t : ByteArray) (j : Nat) (hj : j ≤ s.size) (h : atB s (j : Int) t = true) : Lib.contains s.data.toList t.data.toList = true := by
  rw [atB_occ s j t hj] at h
  rcases Lib.index_spec s.data.toList t.data.toList with ⟨_, h'⟩ | ⟨i, h', _⟩
  · rw [h' j (by simpa using hj)] at h; cases h
  · simp [Lib.contains, h']
theorem contains_no (s t : ByteArray) (h : ∀ j : Nat, j ≤ s.size → atB s (j : Int) t = false) : Lib.contains s.data.toList t.data.toList = false := by
  have : Lib.index s.data.toList t.data.toList = -1 := Lib.index_none fun j hj => by
    rw [← atB_occ s j t (by simpa using hj)]; exact h j (by simpa using hj)
  simp [Lib.contains, this]

end Go.Proofs.YtecnfgikbmcgoaaDoor
