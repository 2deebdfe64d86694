import Derived.Test.YtecnfgikbmcgoaaDoorMem
import Derived.WalkSmall
namespace Go.Proofs.YtecnfgikbmcgoaaDoor
open Go.RowKit

theorem Gr.drewN {a w : World} (h : Gr a w) (n : Nat) : Gr a (w.drewN n) := below_drewN h n

def okAt (l : List Atr) (i : Nat) : Bool :=
  nameOk (aat l i).a && valOk (aat l i).k (aat l i).n (aat l i).s && (i == 0 || Op.bytesLess (aat l (i - 1)).a.toList (aat l i).a.toList)
def evOk (l : List Atr) : Bool := decide (1 ≤ (l.length : Int)) && decide ((l.length : Int) ≤ 8) && (List.range l.length).all (okAt l)
def chkE (l : List Atr) : Int := if evOk l then 0 else 1

theorem chkE_size {l : List Atr} (h : (l.length : Int) < 1 ∨ 8 < (l.length : Int)) : chkE l = 1 := by
  have : evOk l = false := by
    rcases h with h | h
    · have e : decide (1 ≤ (l.length : Int)) = false := by simp; omega
      simp only [evOk, e, Bool.false_and]
    · have e : decide ((l.length : Int) ≤ 8) = false := by simp; omega
      simp only [evOk, e, Bool.false_and, Bool.and_false]
  simp [chkE, this]
theorem chkE_stop {l : List Atr} (k : Nat) (h : k < l.length) (hp : okAt l k = false) : chkE l = 1 := by
  have : (List.range l.length).all (okAt l) = false := by
    rw [List.all_eq_false]
    exact ⟨k, by simpa using h, by simp [hp]⟩
  simp [chkE, evOk, this]
theorem range_snoc {l : List Atr} (k : Nat) (hk : (List.range k).all (okAt l) = true) (hp : okAt l k = true) : (List.range (k + 1)).all (okAt l) = true := by
  rw [List.range_succ, List.all_append, hk]; simp [hp]
theorem chkE_end {l : List Atr} (k : Nat) (h : ¬ k < l.length) (hk' : k ≤ l.length) (h1 : 1 ≤ (l.length : Int)) (h2 : (l.length : Int) ≤ 8) (hk : (List.range k).all (okAt l) = true) : chkE l = 0 := by
  have e : k = l.length := by omega
  subst e
  have e1 : decide (1 ≤ (l.length : Int)) = true := by simpa using h1
  have e2 : decide ((l.length : Int) ≤ 8) = true := by simpa using h2
  simp only [chkE, evOk, e1, e2, hk, Bool.and_self, if_true]

theorem bytes_total : ∀ x y : List UInt8, (Op.bytesLess x y || x == y) = !Op.bytesLess y x
  | [], [] => by simp [Op.bytesLess]
  | [], _ :: _ => by simp [Op.bytesLess]
  | _ :: _, [] => by simp [Op.bytesLess]
  | a :: x, b :: y => by
    have ih := bytes_total x y
    by_cases h : a = b
    · subst h
      have e1 : Op.bytesLess (a :: x) (a :: y) = Op.bytesLess x y := by simp [Op.bytesLess]
      have e2 : Op.bytesLess (a :: y) (a :: x) = Op.bytesLess y x := by simp [Op.bytesLess]
      have e3 : ((a :: x) == (a :: y)) = (x == y) := by simp
      rw [e1, e2, e3, ih]
    · have h' : ¬ b = a := fun e => h e.symm
      have e3 : ((a :: x) == (b :: y)) = false := by simp [h]
      by_cases hl : a < b
      · have hl' : ¬ b < a := by rw [UInt8.lt_iff_toNat_lt] at *; omega
        simp [Op.bytesLess, h', hl, hl']
      · have hl' : b < a := by
          rw [UInt8.lt_iff_toNat_lt] at *
          have : a.toNat ≠ b.toNat := fun e => h (UInt8.toNat_inj.1 e)
          omega
        simp [Op.bytesLess, h, hl, hl']

/-- What the first attribute of that name answers. -/
def ans : List Atr → Wnt → Bool
  | [], _ => false
  | a :: r, x => if a.a.toList == x.a.toList then lets x.y x.k x.n x.s a.k a.n a.s else ans r x
theorem ans_here {l : List Atr} {x : Wnt} (k : Nat) (h : k < l.length) (hn : ((aat l k).a.toList == x.a.toList) = true) : ans (l.drop k) x = lets x.y x.k x.n x.s (aat l k).k (aat l k).n (aat l k).s := by
  have e : l.drop k = aat l k :: l.drop (k + 1) := by
    rw [List.drop_eq_getElem_cons h]; simp [aat, List.getD_eq_getElem?_getD, List.getElem?_eq_getElem h]
  rw [e, ans, if_pos hn]
theorem ans_next {l : List Atr} {x : Wnt} (k : Nat) (h : k < l.length) (hn : ((aat l k).a.toList == x.a.toList) = false) : ans (l.drop k) x = ans (l.drop (k + 1)) x := by
  have e : l.drop k = aat l k :: l.drop (k + 1) := by
    rw [List.drop_eq_getElem_cons h]; simp [aat, List.getD_eq_getElem?_getD, List.getElem?_eq_getElem h]
  rw [e, ans, if_neg (by simp [hn])]
theorem ans_end {l : List Atr} {x : Wnt} (k : Nat) (h : ¬ k < l.length) : ans (l.drop k) x = false := by
  rw [List.drop_of_length_le (by omega)]; rfl
def mat (e : List Atr) (f : List Wnt) : Bool := f.all (ans e)

end Go.Proofs.YtecnfgikbmcgoaaDoor
