import Derived.Test.YtecnfgikbmcgoaaDoorSpec
namespace Go.Proofs.YtecnfgikbmcgoaaDoor
open Go.RowKit

def minI : Int := -9223372036854775808
def maxI : Int := 9223372036854775807
def noText : ByteArray := ⟨#[]⟩
theorem noText_list : noText.toList = [] := by rw [ByteArray.toList_eq]; rfl

def nothingB (y n : Int) : Bool := (y == 4 && n == minI) || (y == 6 && n == maxI)

def endLo (y n : Int) : Int :=
  if y == 2 then n else if y == 3 then (if n == minI then minI + 1 else minI) else if y == 6 then n + 1 else if y == 7 then n else minI
def endHi (y n : Int) : Int :=
  if y == 2 then n else if y == 3 then (if n == maxI then maxI - 1 else maxI) else if y == 4 then n - 1 else if y == 5 then n else maxI

def numbersB (y n y' n' : Int) (s' : ByteArray) : Bool := lets y' 1 n' s' 1 (endLo y n) noText && lets y' 1 n' s' 1 (endHi y n) noText

def textsB (y : Int) (s : ByteArray) (y' : Int) (s' : ByteArray) : Bool :=
  if y == 3 then y' != 2 && s'.toList.isEmpty
  else if !lets y' 2 0 s' 2 0 s then false
  else if y == 2 || ((s.size : Int) == 32) then true
  else if y' == 2 then false
  else y' == 10 || y' == y || s'.toList.isEmpty

def flagsB (y n : Int) (s : ByteArray) (y' n' : Int) (s' : ByteArray) : Bool :=
  !(lets y 3 n s 3 0 noText && !lets y' 3 n' s' 3 0 noText) && !(lets y 3 n s 3 1 noText && !lets y' 3 n' s' 3 1 noText)

def withinB (y k n : Int) (s : ByteArray) (y' k' n' : Int) (s' : ByteArray) : Bool :=
  if y' == 1 || nothingB y n then true
  else if y == 1 || k != k' then false
  else if y' == 3 then !lets y k n s k' n' s'
  else if k == 1 then numbersB y n y' n' s'
  else if k == 2 then textsB y s y' s'
  else flagsB y n s y' n' s'

/-- Implies, as the program has it. -/
def impB (a : ByteArray) (y k n : Int) (s a' : ByteArray) (y' k' n' : Int) (s' : ByteArray) : Bool :=
  wantOk a y k n s && wantOk a' y' k' n' s' && (a.toList == a'.toList) && withinB y k n s y' k' n' s'

theorem way_text {y : Int} {s : ByteArray} (h : wayOk y 2 0 s = true) : valOk 2 0 s = true := by
  have hc := way_cases h
  by_cases h1 : y = 1
  · subst h1; simp [wayOk_any] at h
  · by_cases h3 : y ≤ 3
    · exact way_low h (by omega) h3
    · by_cases h7 : y ≤ 7
      · have := way_mid h (by omega) h7; omega
      · rw [wayOk_hi y 2 0 s (by omega) (by omega)] at h; simpa using h
theorem ret_ii {a b c d : Int} (h1 : a = c) (h2 : b = d) : Ending.returned (.tuple #[.int .i64 a, .int .i64 b]) = .returned (.tuple #[.int .i64 c, .int .i64 d]) := by rw [h1, h2]

end Go.Proofs.YtecnfgikbmcgoaaDoor
