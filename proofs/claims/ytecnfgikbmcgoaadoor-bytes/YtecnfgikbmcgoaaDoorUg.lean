import Derived.Test.YtecnfgikbmcgoaaDoorUf
import Derived.Test.YtecnfgikbmcgoaaDoorShelf
import Derived.Recover
import Derived.Defers
namespace Go.Proofs.YtecnfgikbmcgoaaDoor
open Go.RowKit

def str (l : List UInt8) : ByteArray := ⟨l.toArray⟩
theorem str_size (l : List UInt8) : (str l).size = l.length := by simp [str, ByteArray.size]
theorem str_take (l : List UInt8) (n : Nat) : (str l).extract 0 n = str (l.take n) := by
  apply ByteArray.ext
  simp [str, ByteArray.data_extract]
theorem str_drop (l : List UInt8) (n : Nat) : (str l).extract n l.length = str (l.drop n) := by
  apply ByteArray.ext
  simp [str, ByteArray.data_extract]
  exact List.take_of_length_le (by simp)
/-- The reader's box holds what is left. -/
def Rd (w : World) (R : Nat) (l : List UInt8) : Prop := w.heap[R]? = some (.cells #[.string (str l)] 91 (0, 0))
/-- The program's one error variable. -/
structure Te (u : TypeId) (pv : Value) (w : World) : Prop where
  cell : w.cell? ⟨0, 0, none⟩ = some (.iface u pv)
  pos : 0 < w.heap.size
def PP (u : TypeId) (pv : Value) : List PanicEntry := [{ v := .iface u pv, recovered := false }]
theorem grown_refl (w : World) (r : Option Nat) : w.grownBy w r := ⟨rfl, rfl, rfl, Nat.le_refl _, fun _ _ _ => rfl⟩
theorem grown_trans {a b c : World} {r : Option Nat} (h : a.grownBy b r) (k : b.grownBy c r) : a.grownBy c r :=
  ⟨k.os.trans h.os, k.tape.trans h.tape, k.output.trans h.output, Nat.le_trans h.size k.size, fun i hi hr => (k.block i (Nat.lt_of_lt_of_le hi h.size) hr).trans (h.block i hi hr)⟩
theorem grown_gr {a b : World} {r : Option Nat} (g : Gr a b) : a.grownBy b r := ⟨g.os, g.tape, g.output, g.size, fun i hi _ => g.block i hi⟩
theorem grown_set {w : World} {R j : Nat} (u : Value) : w.grownBy (w.setCell ⟨R, j, none⟩ u) (some R) :=
  ⟨rfl, rfl, rfl, by simp [World.setCell], fun i _ hr => Below.heap_setCell w ⟨R, j, none⟩ u i (fun (he : i = R) => hr (by rw [he]))⟩
theorem Te.grown {u : TypeId} {pv : Value} {w w' : World} {R : Nat} (h : Te u pv w) (g : w.grownBy w' (some R)) (hR : 0 < R) : Te u pv w' :=
  ⟨by rw [← h.cell]; exact World.cell?_of_block (w := w) (g.block 0 h.pos (by simp; omega)), Nat.lt_of_lt_of_le h.pos g.size⟩
theorem Te.gr {u : TypeId} {pv : Value} {w w' : World} (h : Te u pv w) (g : Gr w w') : Te u pv w' :=
  ⟨by rw [← h.cell]; exact g.cell (p := ⟨0, 0, none⟩) h.pos, Nat.lt_of_lt_of_le h.pos g.size⟩
theorem Rd.gr {w w' : World} {R : Nat} {l : List UInt8} (h : Rd w R l) (g : Gr w w') : Rd w' R l := blk_gr g h
theorem wr_byte (x : Nat) (h : x < 256) : wrap64 (x : Int) = x := by unfold wrap64; omega
/-- n bytes, if there are so many. -/
def pT (n : Nat) (l : List UInt8) : Option (List UInt8 × List UInt8) := if n ≤ l.length then some (l.take n, l.drop n) else none
def pB : List UInt8 → Option (Nat × List UInt8)
  | [] => none
  | b :: r => some (b.toNat, r)
/-- What a reader's call leaves: its answer and what is left; or it gives up. -/
def Rs {α : Type} (u : TypeId) (pv : Value) (R : Nat) (w : World) (val : α → Value) (p : Option (α × List UInt8)) (e : Ending) (w' : World) : Prop :=
  w.grownBy w' (some R) ∧ match p with
    | some (x, r) => e = .returned (val x) ∧ Rd w' R r
    | none => e = .panicked (PP u pv)
set_option maxRecDepth 100000 in
set_option maxHeartbeats 4000000 in
theorem take_any (u : TypeId) (pv : Value) (R : Nat) (l : List UInt8) (n : Nat) (w : World) (hr : Rd w R l) (ht : Te u pv w) :
    Calls Tryd.prog 66 #[.pointer (some ⟨R, 0, none⟩), .int .i64 n] w (Rs u pv R w (fun x => .string (str x)) (pT n l)) := by
  have c0 : w.cell? ⟨R, 0, none⟩ = some (.string (str l)) := by rw [cell_of_row _ _ _ _ _ _ hr]; rfl
  have f0 : w.frozen? ⟨R, 0, none⟩ = false := frozen_of_row _ _ _ _ _ hr
  have t0 := ht.cell
  have hz := str_size l
  by_cases hok : n ≤ l.length
  · have hp : pT n l = some (l.take n, l.drop n) := by simp [pT, hok]
    have HS := Hid.mk' (blk_set_same (j := 0) hr (.string (str (l.drop n))))
    have h1 : (n : Int) ≤ ((str l).size : Int) := by rw [hz]; omega
    have h2 : n ≤ (str l).size := by omega
    rw [hp]
    go_enter Tryd.func66, Tryd.ntmps66
    go_wp2_with fail
    go_ret
    refine ⟨grown_set _, ?_, ?_⟩
    · show Ending.returned (.string _) = _
      rw [str_take]
    · rw [str_drop]; exact HS.out
  · have hp : pT n l = none := by simp [pT, hok]
    have h1 : ¬ (n : Int) ≤ ((str l).size : Int) := by rw [hz]; omega
    have h2 : ((str l).size : Int) < (n : Int) := by omega
    rw [hp]
    go_enter Tryd.func66, Tryd.ntmps66
    go_wp2_with fail
    exact ⟨rfl, grown_refl _ _, rfl⟩
set_option maxRecDepth 100000 in
set_option maxHeartbeats 4000000 in
theorem oneByte_any (u : TypeId) (pv : Value) (R : Nat) (l : List UInt8) (w : World) (hr : Rd w R l) (ht : Te u pv w) :
    Calls Tryd.prog 56 #[.pointer (some ⟨R, 0, none⟩)] w (Rs u pv R w (fun x : Nat => .int .i64 x) (pB l)) := by
  cases l with
  | nil =>
    go_enter Tryd.func56, Tryd.ntmps56
    go_wp2_with fail
    refine (take_any u pv R [] 1 w hr ht).mono ?_
    rintro e w1 ⟨g1, h1⟩
    have h1 : e = .panicked (PP u pv) := h1
    subst h1
    go_wp2_with fail
    exact ⟨rfl, g1, rfl⟩
  | cons b r =>
    go_enter Tryd.func56, Tryd.ntmps56
    go_wp2_with fail
    refine (take_any u pv R (b :: r) 1 w hr ht).mono ?_
    rintro e w1 ⟨g1, h1⟩
    obtain ⟨h1, r1⟩ : e = .returned (.string (str [b])) ∧ Rd w1 R r := h1
    subst h1
    have hz := str_size [b]
    go_wp2_with fail
    go_ret
    refine ⟨g1, ?_, r1⟩
    show Ending.returned (.int .i64 (wrap64 ((b.toNat : Nat) : Int))) = .returned (.int .i64 ((b.toNat : Nat) : Int))
    have h8 : b.toNat < 256 := b.toNat_lt
    generalize b.toNat = x at h8
    rw [wr_byte x h8]
def pS (l : List UInt8) : Option (List UInt8 × List UInt8) := (pB l).bind fun x => pT x.1 x.2
theorem Rs.none {α : Type} {u : TypeId} {pv : Value} {R : Nat} {w w' : World} {val : α → Value} {e : Ending} {p : Option (α × List UInt8)} (h : Rs u pv R w val p e w') (hp : p = Option.none) : w.grownBy w' (some R) ∧ e = .panicked (PP u pv) := by
  subst hp; exact h
theorem Rs.some {α : Type} {u : TypeId} {pv : Value} {R : Nat} {w w' : World} {val : α → Value} {e : Ending} {p : Option (α × List UInt8)} {x : α} {r : List UInt8} (h : Rs u pv R w val p e w') (hp : p = Option.some (x, r)) : w.grownBy w' (some R) ∧ e = .returned (val x) ∧ Rd w' R r := by
  subst hp; exact h
theorem Rs.mkNone {α : Type} {u : TypeId} {pv : Value} {R : Nat} {w w' : World} {val : α → Value} {p : Option (α × List UInt8)} (g : w.grownBy w' (Option.some R)) (hp : p = Option.none) : Rs u pv R w val p (.panicked (PP u pv)) w' := by
  subst hp; exact ⟨g, rfl⟩
theorem Rs.mkSome {α : Type} {u : TypeId} {pv : Value} {R : Nat} {w w' : World} {val : α → Value} {e : Ending} {p : Option (α × List UInt8)} {x : α} {r : List UInt8} (g : w.grownBy w' (Option.some R)) (hp : p = Option.some (x, r)) (he : e = .returned (val x)) (hr : Rd w' R r) : Rs u pv R w val p e w' := by
  subst hp; exact ⟨g, he, hr⟩
theorem pT_len {n : Nat} {l x r : List UInt8} (h : pT n l = some (x, r)) : x.length = n := by
  unfold pT at h
  split at h
  · injection h with h; injection h with h1 _; rw [← h1]; simp; omega
  · cases h
theorem pB_lt {n : Nat} {l r : List UInt8} (h : pB l = some (n, r)) : n < 256 := by
  cases l with
  | nil => cases h
  | cons b t => simp [pB] at h; rw [← h.1]; exact b.toNat_lt
set_option maxRecDepth 100000 in
set_option maxHeartbeats 4000000 in
theorem Clone_any (s : ByteArray) (w : World) (hs : s.size ≤ 255) : Calls Tryd.prog 67 #[.string s] w fun e w' => e = .returned (.string s) ∧ Gr w w' := by
  go_enter Tryd.func67, Tryd.ntmps67
  go_wp2_with fail
  refine (Tryd.stringslite_Clone s w (by omega)).mono ?_
  rintro e w1 ⟨rfl, g1⟩
  go_wp2_with fail
  go_ret
  exact ⟨rfl, g1⟩
set_option maxRecDepth 100000 in
set_option maxHeartbeats 4000000 in
theorem string_any (u : TypeId) (pv : Value) (R : Nat) (l : List UInt8) (w : World) (hR : 0 < R) (hr : Rd w R l) (ht : Te u pv w) :
    Calls Tryd.prog 57 #[.pointer (some ⟨R, 0, none⟩)] w (Rs u pv R w (fun x => .string (str x)) (pS l)) := by
  cases h1 : pB l with
  | none =>
    have hp : pS l = none := by simp [pS, h1]
    rw [hp]
    go_enter Tryd.func57, Tryd.ntmps57
    go_wp2_with fail
    refine (oneByte_any u pv R l w hr ht).mono ?_
    intro e w1 q1
    obtain ⟨g1, rfl⟩ := q1.none h1
    go_wp2_with fail
    exact ⟨rfl, g1, rfl⟩
  | some x =>
    obtain ⟨n, r⟩ := x
    have hp : pS l = pT n r := by simp [pS, h1]
    have hn := pB_lt h1
    rw [hp]
    go_enter Tryd.func57, Tryd.ntmps57
    go_wp2_with fail
    refine (oneByte_any u pv R l w hr ht).mono ?_
    intro e w1 q1
    obtain ⟨g1, rfl, r1⟩ := q1.some h1
    go_wp2_with fail
    refine (take_any u pv R r n w1 r1 (ht.grown g1 hR)).mono ?_
    intro e w2 q2
    cases h2 : pT n r with
    | none =>
      obtain ⟨g2, rfl⟩ := q2.none h2
      go_wp2_with fail
      exact ⟨rfl, Rs.mkNone (grown_trans g1 g2) h2⟩
    | some y =>
      obtain ⟨t, r'⟩ := y
      obtain ⟨g2, rfl, r2⟩ := q2.some h2
      have ht2 := pT_len h2
      go_wp2_with fail
      refine (Clone_any (str t) w2 (by rw [str_size]; omega)).mono ?_
      rintro e w3 ⟨rfl, g3⟩
      go_wp2_with fail
      go_ret
      exact Rs.mkSome (grown_trans (grown_trans g1 g2) (grown_gr g3)) h2 rfl (r2.gr g3)
end Go.Proofs.YtecnfgikbmcgoaaDoor
