import Derived.Test.YtecnfgikbmcgoaaDoorSem3
import Derived.Test.YtecnfgikbmcgoaaDoorWants
namespace Go.Proofs.YtecnfgikbmcgoaaDoor
open Go.RowKit

def cT (k : Nat) : ByteArray := (⟨#[97, 122, 0, 255]⟩ : ByteArray).extract k (k + 1)
theorem cT0 : cT 0 = aT := by decide
theorem cT1 : cT 1 = zT := by decide
theorem cT2 : cT 2 = oT := by decide
theorem cT3 : cT 3 = fT := by decide
theorem cT_size (k : Nat) (h : k < 4) : (cT k).size = 1 := by
  have : k = 0 ∨ k = 1 ∨ k = 2 ∨ k = 3 := by omega
  rcases this with rfl | rfl | rfl | rfl <;> decide

def tnum (n n' : Int) (i : Nat) : Int := if i = 0 then n else if i = 1 then n' else 0
def ttxt (s s' : ByteArray) (i : Nat) : ByteArray := if i = 0 then noText else if i = 1 then s else s'
def nums (n : Int) : List (Int × Int × ByteArray) := [(1, n, noText), (1, wrap64 (n + 1), noText), (1, wrap64 (n - 1), noText)]
def ext (s : ByteArray) (k : Nat) : List (Int × Int × ByteArray) := [(2, 0, s ++ cT k), (2, 0, cT k ++ s)]
def extsTo (s : ByteArray) : Nat → List (Int × Int × ByteArray)
  | 0 => []
  | k + 1 => if s.size < 32 then extsTo s k ++ ext s k else extsTo s k
def head4 : List (Int × Int × ByteArray) := [(3, 0, noText), (3, 1, noText), (1, minI, noText), (1, maxI, noText)]
def TL (n : Int) (s : ByteArray) (n' : Int) (s' : ByteArray) : Nat → List (Int × Int × ByteArray)
  | 0 => head4
  | i + 1 => TL n s n' s' i ++ nums (tnum n n' i) ++ [(2, 0, ttxt s s' i)] ++ extsTo (ttxt s s' i) 4

def T1 (n : Int) (s : ByteArray) (n' : Int) (s' : ByteArray) (j : Nat) : List (Int × Int × ByteArray) := TL n s n' s' j ++ nums (tnum n n' j)
def T2 (n : Int) (s : ByteArray) (n' : Int) (s' : ByteArray) (j : Nat) : List (Int × Int × ByteArray) := T1 n s n' s' j ++ [(2, 0, ttxt s s' j)]
def T3 (n : Int) (s : ByteArray) (n' : Int) (s' : ByteArray) (j q : Nat) : List (Int × Int × ByteArray) := T2 n s n' s' j ++ extsTo (ttxt s s' j) q
theorem T3_zero (n : Int) (s : ByteArray) (n' : Int) (s' : ByteArray) (j : Nat) : T3 n s n' s' j 0 = T2 n s n' s' j := by simp [T3, extsTo]
theorem T3_four (n : Int) (s : ByteArray) (n' : Int) (s' : ByteArray) (j : Nat) : T3 n s n' s' j 4 = TL n s n' s' (j + 1) := rfl
theorem T3_yes {n : Int} {s : ByteArray} {n' : Int} {s' : ByteArray} {j q : Nat} (h : (ttxt s s' j).size < 32) : T3 n s n' s' j (q + 1) = T3 n s n' s' j q ++ ext (ttxt s s' j) q := by
  simp [T3, extsTo, h]
theorem T3_no {n : Int} {s : ByteArray} {n' : Int} {s' : ByteArray} {j q : Nat} (h : ¬ (ttxt s s' j).size < 32) : T3 n s n' s' j (q + 1) = T3 n s n' s' j q := by
  simp [T3, extsTo, h]

theorem piece_eq (n : Int) (s : ByteArray) : nums n ++ [(2, 0, s)] ++ extsTo s 4 = piece n s := by
  unfold piece
  by_cases h : s.size < 32 <;> simp [nums, extsTo, ext, h, cT0, cT1, cT2, cT3]
theorem TL_eq (n : Int) (s : ByteArray) (n' : Int) (s' : ByteArray) : TL n s n' s' 3 = triedL n s n' s' := by
  have h0 : TL n s n' s' 3 = head4 ++ (nums (tnum n n' 0) ++ [(2, 0, ttxt s s' 0)] ++ extsTo (ttxt s s' 0) 4) ++ (nums (tnum n n' 1) ++ [(2, 0, ttxt s s' 1)] ++ extsTo (ttxt s s' 1) 4) ++ (nums (tnum n n' 2) ++ [(2, 0, ttxt s s' 2)] ++ extsTo (ttxt s s' 2) 4) := by
    simp only [TL, List.append_assoc]
  rw [h0, piece_eq, piece_eq, piece_eq]
  simp [tnum, ttxt, triedL, head4]

def vcell (v : Int × Int × ByteArray) : List Value := [.int .i64 v.1, .int .i64 v.2.1, .string v.2.2]
def vcells (l : List (Int × Int × ByteArray)) : List Value := l.flatMap vcell
theorem vcells_app (a b : List (Int × Int × ByteArray)) : vcells (a ++ b) = vcells a ++ vcells b := by simp [vcells]
theorem extsTo_len (s : ByteArray) : ∀ k, (extsTo s k).length ≤ 2 * k
  | 0 => by simp [extsTo]
  | k + 1 => by
    have := extsTo_len s k
    unfold extsTo; split
    · simp [ext]; omega
    · omega
theorem TL_len (n : Int) (s : ByteArray) (n' : Int) (s' : ByteArray) : ∀ i, (TL n s n' s' i).length ≤ 4 + 12 * i
  | 0 => by simp [TL, head4]
  | i + 1 => by
    have := TL_len n s n' s' i
    have := extsTo_len (ttxt s s' i) 4
    simp [TL, nums]; omega

theorem T3_len (n : Int) (s : ByteArray) (n' : Int) (s' : ByteArray) (j q : Nat) (hj : j ≤ 3) (hq : q ≤ 4) : (T1 n s n' s' j).length ≤ 60 ∧ (T3 n s n' s' j q).length ≤ 60 := by
  have := TL_len n s n' s' j
  have := extsTo_len (ttxt s s' j) q
  simp only [T3, T2, T1, nums, List.length_append, List.length_cons, List.length_nil]
  omega

theorem grown_block {w w' : World} {row : Option Nat} {k : Nat} {o : Obj} (hg : w.grownBy w' row) (h : w.heap[k]? = some o) (hr : row ≠ some k) : w'.heap[k]? = some o := by
  have hlt : k < w.heap.size := by
    rcases Nat.lt_or_ge k w.heap.size with h' | h'
    · exact h'
    · rw [Array.getElem?_eq_none (by omega)] at h; cases h
  rw [hg.block k hlt (fun e => hr e.symm)]; exact h
theorem own_ne {w : World} {base : Nat} {e t : TypeId} {size : Nat} {v : Value} {n : Nat} {xs : List Value} {k : Nat} {cs : Array Value} {fr : Nat × Nat} (h : w.ownsRow base e size v n xs) (hk : w.heap[k]? = some (.cells cs t fr)) (hne : t ≠ e) : v.ownBlock ≠ some k := by
  rcases h.2 with ⟨hv, _⟩ | ⟨q, cap, cur, hv, hq, hh, _⟩
  · rw [hv]; simp [Value.ownBlock]
  · rw [hv]; simp only [Value.ownBlock]
    intro e'
    have : q = k := by simpa using e'
    subst this
    rw [hh] at hk
    simp at hk
    exact hne hk.2.1.symm

theorem vals_at : ∀ (l : List (Int × Int × ByteArray)) (i : Nat) (v : Int × Int × ByteArray), l[i]? = some v → (vcells l)[i * 3]? = some (.int .i64 v.1) ∧ (vcells l)[i * 3 + 1]? = some (.int .i64 v.2.1) ∧ (vcells l)[i * 3 + 2]? = some (.string v.2.2)
  | [], i, v, h => by simp at h
  | x :: l, 0, v, h => by
    simp at h; subst h; simp [vcells, vcell]
  | x :: l, i + 1, v, h => by
    have ih := vals_at l i v (by simpa using h)
    have e : ∀ j, (vcells (x :: l))[(i + 1) * 3 + j]? = (vcells l)[i * 3 + j]? := fun j => by
      have : (i + 1) * 3 + j = (i * 3 + j) + 3 := by omega
      rw [this]; simp [vcells, vcell, List.getElem?_cons_succ]
    have e0 := e 0
    simp only [Nat.add_zero] at e0
    rw [e0, e 1, e 2]
    exact ih

end Go.Proofs.YtecnfgikbmcgoaaDoor
