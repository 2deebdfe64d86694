import Derived.Test.YtecnfgikbmcgoaaDoorMl
import Derived.Test.YtecnfgikbmcgoaaDoorImp2
namespace Go.Proofs.YtecnfgikbmcgoaaDoor
open Go.RowKit

structure Wnt where
  a : ByteArray
  y : Int
  k : Int
  n : Int
  s : ByteArray
structure Atr where
  a : ByteArray
  k : Int
  n : Int
  s : ByteArray
def dW : Wnt := ⟨⟨#[]⟩, 0, 0, 0, ⟨#[]⟩⟩
def dA : Atr := ⟨⟨#[]⟩, 0, 0, ⟨#[]⟩⟩

def wat (l : List Wnt) (i : Nat) : Wnt := l.getD i dW
def aat (l : List Atr) (i : Nat) : Atr := l.getD i dA

/-- The numbers are int's, the texts no longer than a string may be. -/
structure Wnt.Wf (x : Wnt) : Prop where
  a : x.a.size ≤ maxLen
  s : x.s.size ≤ maxLen
  n1 : minI ≤ x.n
  n2 : x.n ≤ maxI
structure Atr.Wf (x : Atr) : Prop where
  a : x.a.size ≤ maxLen
  s : x.s.size ≤ maxLen
  n1 : minI ≤ x.n
  n2 : x.n ≤ maxI

/-- Wants lie in a block, from a place on. -/
def WantsAt (w : World) (b off : Nat) (l : List Wnt) : Prop :=
  ∀ i, i < l.length → w.cell? ⟨b, off + i * 5, none⟩ = some (.string (wat l i).a) ∧ w.cell? ⟨b, off + i * 5 + 1, none⟩ = some (.int .i64 (wat l i).y) ∧
    w.cell? ⟨b, off + i * 5 + 1 + 1, none⟩ = some (.int .i64 (wat l i).k) ∧ w.cell? ⟨b, off + i * 5 + 1 + 1 + 1, none⟩ = some (.int .i64 (wat l i).n) ∧
    w.cell? ⟨b, off + i * 5 + 1 + 1 + 1 + 1, none⟩ = some (.string (wat l i).s)
def AttrsAt (w : World) (b off : Nat) (l : List Atr) : Prop :=
  ∀ i, i < l.length → w.cell? ⟨b, off + i * 4, none⟩ = some (.string (aat l i).a) ∧
    w.cell? ⟨b, off + i * 4 + 1, none⟩ = some (.int .i64 (aat l i).k) ∧ w.cell? ⟨b, off + i * 4 + 1 + 1, none⟩ = some (.int .i64 (aat l i).n) ∧
    w.cell? ⟨b, off + i * 4 + 1 + 1 + 1, none⟩ = some (.string (aat l i).s)

theorem WantsAt.gr {w w' : World} {b off : Nat} {l : List Wnt} (h : WantsAt w b off l) (g : Gr w w') (hb : b < w.heap.size) : WantsAt w' b off l := fun i hi => by
  obtain ⟨h1, h2, h3, h4, h5⟩ := h i hi
  obtain ⟨hc, _⟩ := bcell g
  rw [hc b _ hb, hc b _ hb, hc b _ hb, hc b _ hb, hc b _ hb]
  exact ⟨h1, h2, h3, h4, h5⟩
theorem AttrsAt.gr {w w' : World} {b off : Nat} {l : List Atr} (h : AttrsAt w b off l) (g : Gr w w') (hb : b < w.heap.size) : AttrsAt w' b off l := fun i hi => by
  obtain ⟨h1, h2, h3, h4⟩ := h i hi
  obtain ⟨hc, _⟩ := bcell g
  rw [hc b _ hb, hc b _ hb, hc b _ hb, hc b _ hb]
  exact ⟨h1, h2, h3, h4⟩

theorem getD_mem {α : Type} {l : List α} {i : Nat} (h : i < l.length) (d : α) : l.getD i d ∈ l := by
  simp [List.getD_eq_getElem?_getD, List.getElem?_eq_getElem h]

theorem wat_mem {l : List Wnt} {i : Nat} (h : i < l.length) : wat l i ∈ l := getD_mem h dW
theorem aat_mem {l : List Atr} {i : Nat} (h : i < l.length) : aat l i ∈ l := getD_mem h dA

def wOk (x : Wnt) : Bool := wantOk x.a x.y x.k x.n x.s
def filterOk (l : List Wnt) : Bool := decide (1 ≤ (l.length : Int)) && decide ((l.length : Int) ≤ 6) && l.all wOk
def chk (l : List Wnt) : Int := if filterOk l then 0 else 2

theorem chk_size {l : List Wnt} (h : (l.length : Int) < 1 ∨ 6 < (l.length : Int)) : chk l = 2 := by
  have : filterOk l = false := by
    rcases h with h | h
    · have e : decide (1 ≤ (l.length : Int)) = false := by simp; omega
      simp only [filterOk, e, Bool.false_and]
    · have e : decide ((l.length : Int) ≤ 6) = false := by simp; omega
      simp only [filterOk, e, Bool.false_and, Bool.and_false]
  simp [chk, this]
theorem all_snoc {α : Type} (p : α → Bool) (l : List α) (k : Nat) (d : α) (h : k < l.length) (hk : (l.take k).all p = true) (hp : p (l.getD k d) = true) : (l.take (k + 1)).all p = true := by
  rw [List.take_succ_eq_append_getElem h, List.all_append, hk]
  simp [List.getD_eq_getElem?_getD, List.getElem?_eq_getElem h] at hp
  simp [hp]
theorem all_stop {α : Type} (p : α → Bool) (l : List α) (k : Nat) (d : α) (h : k < l.length) (hp : p (l.getD k d) = false) : l.all p = false := by
  rw [List.all_eq_false]
  exact ⟨_, getD_mem h d, by rw [hp]; simp⟩
theorem all_end {α : Type} (p : α → Bool) (l : List α) (k : Nat) (h : ¬ k < l.length) (hk : (l.take k).all p = true) : l.all p = true := by
  rwa [List.take_of_length_le (by omega)] at hk
theorem chk_stop {l : List Wnt} (k : Nat) (h : k < l.length) (hp : wOk (wat l k) = false) : chk l = 2 := by
  simp [chk, filterOk, all_stop wOk l k dW h hp]
theorem chk_end {l : List Wnt} (k : Nat) (h : ¬ k < l.length) (h1 : 1 ≤ (l.length : Int)) (h2 : (l.length : Int) ≤ 6) (hk : (l.take k).all wOk = true) : chk l = 0 := by
  have e1 : decide (1 ≤ (l.length : Int)) = true := by simpa using h1
  have e2 : decide ((l.length : Int) ≤ 6) = true := by simpa using h2
  simp [chk, filterOk, e1, e2, all_end wOk l k h hk]

end Go.Proofs.YtecnfgikbmcgoaaDoor
