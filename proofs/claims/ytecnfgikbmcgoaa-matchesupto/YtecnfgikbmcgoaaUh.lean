import Derived.Test.YtecnfgikbmcgoaaKpI
namespace Go.Proofs.Ytecnfgikbmcgoaa
open Go.RowKit

def lat (ls : List Value) (i : Nat) : Value := ls.getD i undef
theorem lat_get {ls : List Value} {i : Nat} (h : i < ls.length) : ls[i]? = some (lat ls i) := by simp [lat, List.getD_eq_getElem?_getD, List.getElem?_eq_getElem h]
/-- Lists that came out, each as its owner wrote it. -/
structure BkL (T TS : TypeId) (sz base : Nat) (mkf : Nat → List Value) (w : World) (v : Value) (ls : List Value) : Prop where
  own : w.ownsRow base TS 1 v ls.length ls
  ok : ∀ i, i < ls.length → ∃ ad n cap, lat ls i = .slice ad n cap ∧ n ≤ 1099511627779 ∧ w.ownsRow base T sz (.slice ad n cap) n (rep n (mkf (i / 4)))
def mkI (j : Nat) : List Value := [.int .i64 (-1 - (j : Int) * 4)]
theorem rep1_at (n k : Nat) (x : Value) (h : k < n) : (rep n [x])[k]? = some x := by
  have e : rep n [x] = List.replicate n x := by
    induction n with
    | zero => rfl
    | succ n ih =>
      by_cases hk : k < n
      · rw [rep_add, ih hk, rep_one, List.replicate_succ']
      · cases n with
        | zero => rfl
        | succ m =>
          have := ih
          clear this ih
          have : ∀ p, rep p [x] = List.replicate p x := by
            intro p
            induction p with
            | zero => rfl
            | succ p ihp => rw [rep_add, ihp, rep_one, List.replicate_succ']
          exact this _
  rw [e, List.getElem?_replicate, if_pos h]

set_option maxRecDepth 100000 in
set_option maxHeartbeats 4000000 in
theorem listsI_any (BB base : Nat) (a3 a4 a5 : Value) (lad : Option Addr) (lc : Nat) (ls : List Value) (w : World) (hln : ls.length ≤ 1099511627776)
    (hbx : w.heap[BB]? = some (.cells #[.slice lad ls.length lc, .slice none 0 0, .slice none 0 0, a3, a4, a5] 36 (0, 0)))
    (hvi : BkL 3 37 1 base mkI w (.slice lad ls.length lc) ls) :
    Calls Try.prog 40 #[.pointer (some ⟨BB, 0, none⟩)] w fun e w' => e = .returned (.bool true) ∧ Gr w w' := by
  have HVI := Hid.mk' hvi
  have HBX := Hid.mk' hbx
  clear hvi hbx
  have c0 : w.cell? ⟨BB, 0, none⟩ = some (.slice lad ls.length lc) := by rw [cell_of_row _ _ _ _ _ _ HBX.out]; rfl
  go_enter Try.func40, Try.ntmps40
  go_wp2_with fail
  go_loopw [3] (fun i wr => ∃ q : Nat, q ≤ ls.length ∧ i = .int .i64 q ∧ Gr w wr) (fun i _ => ls.length - (intOf i).toNat)
  case atStart => exact ⟨0, Nat.zero_le _, rfl, Gr.refl _⟩
  case round =>
    obtain ⟨q, hq, rfl, g⟩ := hrel
    clear c0
    have BX := Hid.mk' (blk_gr g HBX.out)
    have c0 : wr.cell? ⟨BB, 0, none⟩ = some (.slice lad ls.length lc) := by rw [cell_of_row _ _ _ _ _ _ BX.out]; rfl
    by_cases hlt : q < ls.length
    · obtain ⟨ad, n, cap, he, hn, ho⟩ := HVI.out.ok q hlt
      have HO := Hid.mk' ho
      have HE := Hid.mk' he
      have HR := Hid.mk' (ownsGr HVI.out.own g)
      obtain ⟨lad', lc', hx, hla⟩ := owns_shape HVI.out.own
      obtain ⟨lb, rfl⟩ : ∃ b, lad = some ⟨b, 0, none⟩ := by
        obtain ⟨b, hb⟩ := hla (by omega)
        injection hx with h1 _ _
        exact ⟨b, by rw [h1]; exact hb⟩
      have c1 : wr.cell? ⟨lb, q, none⟩ = some (.slice ad n cap) := by rw [World.ownsRow.cellAt HR.out q (by omega), lat_get hlt, he]
      clear hx hla ho he
      go_wp2_with fail
      go_loopw [4] (fun i w1 => ∃ p : Nat, p ≤ n ∧ i = .int .i64 p ∧ Gr w w1) (fun i _ => n - (intOf i).toNat)
      case atStart => exact ⟨0, Nat.zero_le _, rfl, g⟩
      case round =>
        obtain ⟨p, hp, rfl, g1⟩ := hrel
        clear c0 c1 BX HR g
        have BX := Hid.mk' (blk_gr g1 HBX.out)
        have c0 : wr.cell? ⟨BB, 0, none⟩ = some (.slice (some ⟨lb, 0, none⟩) ls.length lc) := by rw [cell_of_row _ _ _ _ _ _ BX.out]; rfl
        have c1 : wr.cell? ⟨lb, q, none⟩ = some (.slice ad n cap) := by rw [World.ownsRow.cellAt (ownsGr HVI.out.own g1) q (by omega), lat_get hlt]; exact congrArg some HE.out
        by_cases hpl : p < n
        · obtain ⟨ad', cap', hx, hla⟩ := owns_shape HO.out
          obtain ⟨gb, rfl⟩ : ∃ b, ad = some ⟨b, 0, none⟩ := by
            obtain ⟨b, hb⟩ := hla (by omega)
            injection hx with h1 _ _
            exact ⟨b, by rw [h1]; exact hb⟩
          have c2 : wr.cell? ⟨gb, p, none⟩ = some (.int .i64 (-1 - ((q / 4 : Nat) : Int) * 4)) := by rw [World.ownsRow.cellAt (ownsGr HO.out g1) p (by omega)]; exact rep1_at _ _ _ hpl
          clear hx hla
          go_wp2_with fail
          refine ⟨⟨p + 1, by omega, by go_num, g1⟩, ?_⟩
          simp [intOf]; omega
        · go_wp2_with fail
          go_roundw
          case rel => exact ⟨q + 1, by omega, by go_num, g1⟩
          case measure => simp [intOf]; omega
    · have c1 : wr.cell? ⟨BB, 1, none⟩ = some (.slice none 0 0) := by rw [cell_of_row _ _ _ _ _ _ BX.out]; rfl
      have c2 : wr.cell? ⟨BB, 2, none⟩ = some (.slice none 0 0) := by rw [cell_of_row _ _ _ _ _ _ BX.out]; rfl
      go_wp2_with fail
      go_loopw [5] (fun i w1 => i = .int .i64 0 ∧ w1 = wr) (fun _ _ => 0)
      case atStart => exact ⟨rfl, rfl⟩
      case round =>
        obtain ⟨rfl, rfl⟩ := hrel
        go_wp2_with fail
        go_loopw [7] (fun i w1 => i = .int .i64 0 ∧ w1 = wr) (fun _ _ => 0)
        case atStart => exact ⟨rfl, rfl⟩
        case round =>
          obtain ⟨rfl, rfl⟩ := hrel
          go_wp2_with fail
          go_ret
          exact ⟨rfl, g⟩
set_option maxRecDepth 100000 in
set_option maxHeartbeats 4000000 in
theorem wholeI_any (BB base : Nat) (lad : Option Addr) (lc : Nat) (ls : List Value) (w : World) (hln : ls.length ≤ 1099511627776)
    (hbx : w.heap[BB]? = some (.cells #[.slice lad ls.length lc, .slice none 0 0, .slice none 0 0, .slice none 0 0, .slice none 0 0, .slice none 0 0] 36 (0, 0)))
    (hvi : BkL 3 37 1 base mkI w (.slice lad ls.length lc) ls) :
    Calls Try.prog 20 #[.pointer (some ⟨BB, 0, none⟩)] w fun e w' => e = .returned (.bool true) ∧ Gr w w' := by
  have HVI := Hid.mk' hvi
  have HBX := Hid.mk' hbx
  clear hvi hbx
  have c3 : w.cell? ⟨BB, 3, none⟩ = some (.slice none 0 0) := by rw [cell_of_row _ _ _ _ _ _ HBX.out]; rfl
  have c4 : w.cell? ⟨BB, 4, none⟩ = some (.slice none 0 0) := by rw [cell_of_row _ _ _ _ _ _ HBX.out]; rfl
  have c5 : w.cell? ⟨BB, 5, none⟩ = some (.slice none 0 0) := by rw [cell_of_row _ _ _ _ _ _ HBX.out]; rfl
  go_enter Try.func20, Try.ntmps20
  go_wp2_with fail
  go_loopw [3] (fun i w1 => i = .int .i64 0 ∧ w1 = w) (fun _ _ => 0)
  case atStart => exact ⟨rfl, rfl⟩
  case round =>
    obtain ⟨rfl, rfl⟩ := hrel
    go_wp2_with fail
    go_loopw [6] (fun i w1 => i = .int .i64 0 ∧ w1 = wr) (fun _ _ => 0)
    case atStart => exact ⟨rfl, rfl⟩
    case round =>
      obtain ⟨rfl, rfl⟩ := hrel
      go_wp2_with fail
      go_loopw [8] (fun i w1 => i = .int .i64 0 ∧ w1 = wr) (fun _ _ => 0)
      case atStart => exact ⟨rfl, rfl⟩
      case round =>
        obtain ⟨rfl, rfl⟩ := hrel
        go_wp2_with fail
        refine (listsI_any BB base _ _ _ lad lc ls _ hln HBX.out HVI.out).mono ?_
        rintro e w1 ⟨rfl, g1⟩
        go_wp2_with fail
        go_ret
        exact ⟨rfl, g1⟩
end Go.Proofs.Ytecnfgikbmcgoaa
