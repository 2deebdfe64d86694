import Derived.Test.YtecnfgikbmcgoaaDoorG25
import Derived.Test.YtecnfgikbmcgoaaDoorG5
import Derived.Test.YtecnfgikbmcgoaaDoorG1
import Derived.Test.YtecnfgikbmcgoaaDoorG6
import Derived.Deep.RegionHeld3
namespace Go.Proofs.YtecnfgikbmcgoaaDoor
open Go.RowKit

def lat (ls : List Value) (i : Nat) : Value := ls.getD i undef
theorem lat_get {ls : List Value} {i : Nat} (h : i < ls.length) : ls[i]? = some (lat ls i) := by simp [lat, List.getD_eq_getElem?_getD, List.getElem?_eq_getElem h]
/-- Lists that came out, each as its owner wrote it. -/
structure BkL (T TS : TypeId) (sz base : Nat) (mkf : Nat → List Value) (w : World) (v : Value) (ls : List Value) : Prop where
  own : w.ownsRow base TS 1 v ls.length ls
  ok : ∀ i, i < ls.length → ∃ ad n cap, lat ls i = .slice ad n cap ∧ n ≤ 1099511627779 ∧ w.ownsRow base T sz (.slice ad n cap) n (rep n (mkf (i / 4)))
def mkA (j : Nat) : List Value := mkE (-1 - (j : Int) * 4)
def mkW (j : Nat) : List Value := mkF (-1 - (j : Int) * 4)
theorem rep_at (n p j : Nat) (mk : List Value) (x : Value) (h : p < n) (hx : mk[j]? = some x) : (rep n mk)[p * mk.length + j]? = some x := by
  obtain ⟨m, rfl⟩ := Nat.exists_eq_add_of_le (show p + 1 ≤ n by omega)
  have hj : j < mk.length := (List.getElem?_eq_some_iff.1 hx).1
  rw [rep_add, rep_add, rep_one, List.append_assoc, List.getElem?_append_right (by rw [rep_len]; omega), rep_len, Nat.add_sub_cancel_left, List.getElem?_append_left hj, hx]

set_option maxRecDepth 100000 in
set_option maxHeartbeats 4000000 in
theorem listsR_any (BB base : Nat) (a3 a4 a5 : Value) (lad wad : Option Addr) (lc wc : Nat) (la lw : List Value) (w : World) (hla : la.length ≤ 1099511627776) (hlw : lw.length ≤ 1099511627776)
    (hbx : w.heap[BB]? = some (.cells #[.slice none 0 0, .slice lad la.length lc, .slice wad lw.length wc, a3, a4, a5] 64 (0, 0)))
    (hA : BkL 37 38 4 base mkA w (.slice lad la.length lc) la) (hW : BkL 76 42 5 base mkW w (.slice wad lw.length wc) lw) :
    Calls Tryd.prog 63 #[.pointer (some ⟨BB, 0, none⟩)] w fun e w' => e = .returned (.bool true) ∧ Gr w w' := by
  have HA := Hid.mk' hA
  have HW := Hid.mk' hW
  have HBX := Hid.mk' hbx
  clear hA hW hbx
  have c0 : w.cell? ⟨BB, 0, none⟩ = some (.slice none 0 0) := by rw [cell_of_row _ _ _ _ _ _ HBX.out]; rfl
  have c1 : w.cell? ⟨BB, 1, none⟩ = some (.slice lad la.length lc) := by rw [cell_of_row _ _ _ _ _ _ HBX.out]; rfl
  have c2 : w.cell? ⟨BB, 2, none⟩ = some (.slice wad lw.length wc) := by rw [cell_of_row _ _ _ _ _ _ HBX.out]; rfl
  go_enter Tryd.func63, Tryd.ntmps63
  go_wp2_with fail
  go_loopw [3] (fun i w1 => i = .int .i64 0 ∧ w1 = w) (fun _ _ => 0)
  case atStart => exact ⟨rfl, rfl⟩
  case round =>
    obtain ⟨rfl, hwe⟩ := hrel
    have hwe' := hwe.symm
    clear hwe
    subst hwe'
    go_wp2_with fail
    go_loopw [5] (fun i wr => ∃ q : Nat, q ≤ la.length ∧ i = .int .i64 q ∧ Hid (Gr w wr)) (fun i _ => la.length - (intOf i).toNat)
    case atStart => exact ⟨0, Nat.zero_le _, rfl, Gr.refl _⟩
    case round =>
      obtain ⟨q, hq, rfl, G⟩ := hrel
      clear c0 c1 c2
      have BX := Hid.mk' (blk_gr G.out HBX.out)
      have c0 : wr.cell? ⟨BB, 0, none⟩ = some (.slice none 0 0) := by rw [cell_of_row _ _ _ _ _ _ BX.out]; rfl
      have c1 : wr.cell? ⟨BB, 1, none⟩ = some (.slice lad la.length lc) := by rw [cell_of_row _ _ _ _ _ _ BX.out]; rfl
      have c2 : wr.cell? ⟨BB, 2, none⟩ = some (.slice wad lw.length wc) := by rw [cell_of_row _ _ _ _ _ _ BX.out]; rfl
      by_cases hlt : q < la.length
      · obtain ⟨ad, n, cap, he, hn, ho⟩ := HA.out.ok q hlt
        have HO := Hid.mk' ho
        have HE := Hid.mk' he
        have HR := Hid.mk' (ownsGr HA.out.own G.out)
        obtain ⟨lad', lc', hx, hla⟩ := owns_shape HA.out.own
        obtain ⟨lb, hlb⟩ : ∃ b, lad = some ⟨b, 0, none⟩ := by
          obtain ⟨b, hb⟩ := hla (by omega)
          injection hx with h1 _ _
          exact ⟨b, by rw [h1]; exact hb⟩
        subst hlb
        have d1 : wr.cell? ⟨lb, q, none⟩ = some (.slice ad n cap) := by rw [World.ownsRow.cellAt HR.out q (by omega), lat_get hlt, he]
        clear hx hla ho he
        go_wp2_with fail
        go_loopw [6] (fun i w1 => ∃ p : Nat, p ≤ n ∧ i = .int .i64 p ∧ Hid (Gr w w1)) (fun i _ => n - (intOf i).toNat)
        case atStart => exact ⟨0, Nat.zero_le _, rfl, G⟩
        case round =>
          obtain ⟨p, hp, rfl, G1⟩ := hrel
          clear c0 c1 c2 d1 BX HR G
          have BX := Hid.mk' (blk_gr G1.out HBX.out)
          have c0 : wr.cell? ⟨BB, 0, none⟩ = some (.slice none 0 0) := by rw [cell_of_row _ _ _ _ _ _ BX.out]; rfl
          have c1 : wr.cell? ⟨BB, 1, none⟩ = some (.slice (some ⟨lb, 0, none⟩) la.length lc) := by rw [cell_of_row _ _ _ _ _ _ BX.out]; rfl
          have c2 : wr.cell? ⟨BB, 2, none⟩ = some (.slice wad lw.length wc) := by rw [cell_of_row _ _ _ _ _ _ BX.out]; rfl
          have d1 : wr.cell? ⟨lb, q, none⟩ = some (.slice ad n cap) := by rw [World.ownsRow.cellAt (ownsGr HA.out.own G1.out) q (by omega), lat_get hlt]; exact congrArg some HE.out
          by_cases hpl : p < n
          · obtain ⟨ad', cap', hx, hla⟩ := owns_shape HO.out
            obtain ⟨gb, rfl⟩ : ∃ b, ad = some ⟨b, 0, none⟩ := by
              obtain ⟨b, hb⟩ := hla (by omega)
              injection hx with h1 _ _
              exact ⟨b, by rw [h1]; exact hb⟩
            have e0 : wr.cell? ⟨gb, p * 4, none⟩ = some (.string ⟨#[]⟩) := by rw [World.ownsRow.cellAt (ownsGr HO.out G1.out) _ (by omega)]; exact rep_at n p 0 (mkE (-1 - ((q / 4 : Nat) : Int) * 4)) _ hpl rfl
            have e1 : wr.cell? ⟨gb, p * 4 + 1, none⟩ = some (.int .i64 0) := by rw [World.ownsRow.cellAt (ownsGr HO.out G1.out) _ (by omega)]; exact rep_at n p 1 (mkE (-1 - ((q / 4 : Nat) : Int) * 4)) _ hpl rfl
            have e2 : wr.cell? ⟨gb, p * 4 + 1 + 1, none⟩ = some (.int .i64 (-1 - ((q / 4 : Nat) : Int) * 4)) := by rw [World.ownsRow.cellAt (ownsGr HO.out G1.out) _ (by omega)]; exact rep_at n p 2 (mkE (-1 - ((q / 4 : Nat) : Int) * 4)) _ hpl rfl
            have e3 : wr.cell? ⟨gb, p * 4 + 1 + 1 + 1, none⟩ = some (.string ⟨#[]⟩) := by rw [World.ownsRow.cellAt (ownsGr HO.out G1.out) _ (by omega)]; exact rep_at n p 3 (mkE (-1 - ((q / 4 : Nat) : Int) * 4)) _ hpl rfl
            clear hx hla
            go_wp2_with fail
            refine ⟨⟨p + 1, by omega, by go_num, G1⟩, ?_⟩
            simp [intOf]; omega
          · go_wp2_with fail
            go_roundw
            case rel => exact ⟨q + 1, by omega, by go_num, G1⟩
            case measure => simp [intOf]; omega
      · go_wp2_with fail
        go_loopw [7] (fun i wr => ∃ q : Nat, q ≤ lw.length ∧ i = .int .i64 q ∧ Hid (Gr w wr)) (fun i _ => lw.length - (intOf i).toNat)
        case atStart => exact ⟨0, Nat.zero_le _, rfl, G⟩
        case round =>
          obtain ⟨q, hq, rfl, G⟩ := hrel
          clear c0 c1 c2
          have BX := Hid.mk' (blk_gr G.out HBX.out)
          have c0 : wr.cell? ⟨BB, 0, none⟩ = some (.slice none 0 0) := by rw [cell_of_row _ _ _ _ _ _ BX.out]; rfl
          have c1 : wr.cell? ⟨BB, 1, none⟩ = some (.slice lad la.length lc) := by rw [cell_of_row _ _ _ _ _ _ BX.out]; rfl
          have c2 : wr.cell? ⟨BB, 2, none⟩ = some (.slice wad lw.length wc) := by rw [cell_of_row _ _ _ _ _ _ BX.out]; rfl
          by_cases hlt : q < lw.length
          · obtain ⟨ad, n, cap, he, hn, ho⟩ := HW.out.ok q hlt
            have HO := Hid.mk' ho
            have HE := Hid.mk' he
            have HR := Hid.mk' (ownsGr HW.out.own G.out)
            obtain ⟨lad', lc', hx, hla⟩ := owns_shape HW.out.own
            obtain ⟨lb, hlb⟩ : ∃ b, wad = some ⟨b, 0, none⟩ := by
              obtain ⟨b, hb⟩ := hla (by omega)
              injection hx with h1 _ _
              exact ⟨b, by rw [h1]; exact hb⟩
            subst hlb
            have d1 : wr.cell? ⟨lb, q, none⟩ = some (.slice ad n cap) := by rw [World.ownsRow.cellAt HR.out q (by omega), lat_get hlt, he]
            clear hx hla ho he
            go_wp2_with fail
            go_loopw [8] (fun i w1 => ∃ p : Nat, p ≤ n ∧ i = .int .i64 p ∧ Hid (Gr w w1)) (fun i _ => n - (intOf i).toNat)
            case atStart => exact ⟨0, Nat.zero_le _, rfl, G⟩
            case round =>
              obtain ⟨p, hp, rfl, G1⟩ := hrel
              clear c0 c1 c2 d1 BX HR G
              have BX := Hid.mk' (blk_gr G1.out HBX.out)
              have c0 : wr.cell? ⟨BB, 0, none⟩ = some (.slice none 0 0) := by rw [cell_of_row _ _ _ _ _ _ BX.out]; rfl
              have c1 : wr.cell? ⟨BB, 1, none⟩ = some (.slice lad la.length lc) := by rw [cell_of_row _ _ _ _ _ _ BX.out]; rfl
              have c2 : wr.cell? ⟨BB, 2, none⟩ = some (.slice (some ⟨lb, 0, none⟩) lw.length wc) := by rw [cell_of_row _ _ _ _ _ _ BX.out]; rfl
              have d1 : wr.cell? ⟨lb, q, none⟩ = some (.slice ad n cap) := by rw [World.ownsRow.cellAt (ownsGr HW.out.own G1.out) q (by omega), lat_get hlt]; exact congrArg some HE.out
              by_cases hpl : p < n
              · obtain ⟨ad', cap', hx, hla⟩ := owns_shape HO.out
                obtain ⟨gb, rfl⟩ : ∃ b, ad = some ⟨b, 0, none⟩ := by
                  obtain ⟨b, hb⟩ := hla (by omega)
                  injection hx with h1 _ _
                  exact ⟨b, by rw [h1]; exact hb⟩
                have e0 : wr.cell? ⟨gb, p * 5, none⟩ = some (.string ⟨#[]⟩) := by rw [World.ownsRow.cellAt (ownsGr HO.out G1.out) _ (by omega)]; exact rep_at n p 0 (mkF (-1 - ((q / 4 : Nat) : Int) * 4)) _ hpl rfl
                have e1 : wr.cell? ⟨gb, p * 5 + 1, none⟩ = some (.int .i64 (-1 - ((q / 4 : Nat) : Int) * 4)) := by rw [World.ownsRow.cellAt (ownsGr HO.out G1.out) _ (by omega)]; exact rep_at n p 1 (mkF (-1 - ((q / 4 : Nat) : Int) * 4)) _ hpl rfl
                have e2 : wr.cell? ⟨gb, p * 5 + 1 + 1, none⟩ = some (.int .i64 0) := by rw [World.ownsRow.cellAt (ownsGr HO.out G1.out) _ (by omega)]; exact rep_at n p 2 (mkF (-1 - ((q / 4 : Nat) : Int) * 4)) _ hpl rfl
                have e3 : wr.cell? ⟨gb, p * 5 + 1 + 1 + 1, none⟩ = some (.int .i64 0) := by rw [World.ownsRow.cellAt (ownsGr HO.out G1.out) _ (by omega)]; exact rep_at n p 3 (mkF (-1 - ((q / 4 : Nat) : Int) * 4)) _ hpl rfl
                have e4 : wr.cell? ⟨gb, p * 5 + 1 + 1 + 1 + 1, none⟩ = some (.string ⟨#[]⟩) := by rw [World.ownsRow.cellAt (ownsGr HO.out G1.out) _ (by omega)]; exact rep_at n p 4 (mkF (-1 - ((q / 4 : Nat) : Int) * 4)) _ hpl rfl
                clear hx hla
                go_wp2_with fail
                refine ⟨⟨p + 1, by omega, by go_num, G1⟩, ?_⟩
                simp [intOf]; omega
              · go_wp2_with fail
                go_roundw
                case rel => exact ⟨q + 1, by omega, by go_num, G1⟩
                case measure => simp [intOf]; omega
          · go_wp2_with fail
            go_ret
            exact ⟨rfl, G.out⟩
end Go.Proofs.YtecnfgikbmcgoaaDoor
namespace Go.Proofs.YtecnfgikbmcgoaaDoor
open Go.RowKit

theorem lawAttr_s' (wz : World) (a : ByteArray) (k n : Int) (s : ByteArray) (w : World) (h : Gr wz w) :
    Calls Tryd.prog 28 #[.agg #[.string a, .int .i64 k, .int .i64 n, .string s]] w fun e w' => e = .returned (.agg #[.string a, .int .i64 k, .int .i64 n, .string s]) ∧ Gr wz w' :=
  (lawAttr_any a k n s w).mono fun _ _ ⟨h1, h2⟩ => ⟨h1, Gr.call h h2⟩
set_option maxHeartbeats 1000000 in
theorem sameEvent_nil (ad ad' : Option Addr) (cap cap' : Nat) (w : World) : Calls Tryd.prog 15 #[.slice ad 0 cap, .slice ad' 0 cap'] w fun e w' => e = .returned (.bool true) ∧ Gr w w' := by
  go_enter Tryd.func15, Tryd.ntmps15
  go_wp2_with fail
  go_loopw [5] (fun kv wr => kv = .int .i64 0 ∧ wr = w) (fun _ _ => 0)
  case atStart => exact ⟨rfl, rfl⟩
  case round =>
    obtain ⟨rfl, rfl⟩ := hrel
    go_wp2_with fail
    go_ret
    exact ⟨rfl, Gr.refl _⟩
set_option maxRecDepth 100000 in
set_option maxHeartbeats 4000000 in
theorem sameEvent_any (l : List Atr) (ad ad' : Option Addr) (cap cap' : Nat) (w : World) (hl : l.length ≤ maxLen) (h : EvAt w ad l) (h' : EvAt w ad' l) :
    Calls Tryd.prog 15 #[.slice ad l.length cap, .slice ad' l.length cap'] w fun e w' => e = .returned (.bool true) ∧ Gr w w' := by
  by_cases hn : l = []
  · subst hn
    exact sameEvent_nil _ _ _ _ _
  rcases h with h | ⟨b, off, rfl, hb, hat⟩
  · exact absurd h hn
  rcases h' with h | ⟨b', off', rfl, hb', hat'⟩
  · exact absurd h hn
  have HAT := Hid.mk' hat
  have HAT' := Hid.mk' hat'
  clear hat hat' hn
  go_enter Tryd.func15, Tryd.ntmps15
  go_wp2_with fail
  go_loopw [5] (fun kv wr => ∃ q : Nat, q ≤ l.length ∧ kv = .int .i64 q ∧ Hid (Gr w wr)) (fun kv _ => l.length - (intOf kv).toNat)
  case atStart => exact ⟨0, by omega, rfl, Gr.refl _⟩
  case round =>
    obtain ⟨q, hq, rfl, G⟩ := hrel
    by_cases hlt : q < l.length
    · obtain ⟨d1, d2, d3, d4⟩ := HAT.out q hlt
      obtain ⟨e1, e2, e3, e4⟩ := HAT'.out q hlt
      have hbw : b < wr.heap.size := G.out.lt hb
      have hbw' : b' < wr.heap.size := G.out.lt hb'
      have ee : ∀ o, wr.cell? ⟨b, o, none⟩ = w.cell? ⟨b, o, none⟩ := fun o => G.out.cell (p := ⟨b, o, none⟩) hb
      have ee' : ∀ o, wr.cell? ⟨b', o, none⟩ = w.cell? ⟨b', o, none⟩ := fun o => G.out.cell (p := ⟨b', o, none⟩) hb'
      rw [← ee] at d1 d2 d3 d4
      rw [← ee'] at e1 e2 e3 e4
      clear ee ee'
      have hq1 : (q : Int) + 1 ≤ 9223372036854775807 := by unfold maxLen at hl; omega
      have hw1 : wrap64 ((q : Int) + 1) = (q : Int) + 1 := by unfold wrap64; omega
      have T : Hid (∀ w', Gr wr w' → Gr wr w' ∧ (w'.cell? ⟨b, off + q * 4, none⟩ = some (.string (aat l q).a) ∧ w'.cell? ⟨b, off + q * 4 + 1, none⟩ = some (.int .i64 (aat l q).k) ∧ w'.cell? ⟨b, off + q * 4 + 1 + 1, none⟩ = some (.int .i64 (aat l q).n) ∧ w'.cell? ⟨b, off + q * 4 + 1 + 1 + 1, none⟩ = some (.string (aat l q).s)) ∧ w'.cell? ⟨b', off' + q * 4, none⟩ = some (.string (aat l q).a) ∧ w'.cell? ⟨b', off' + q * 4 + 1, none⟩ = some (.int .i64 (aat l q).k) ∧ w'.cell? ⟨b', off' + q * 4 + 1 + 1, none⟩ = some (.int .i64 (aat l q).n) ∧ w'.cell? ⟨b', off' + q * 4 + 1 + 1 + 1, none⟩ = some (.string (aat l q).s)) := by
        intro w' g'
        have e := fun o => g'.cell (p := ⟨b, o, none⟩) hbw
        have e' := fun o => g'.cell (p := ⟨b', o, none⟩) hbw'
        rw [e, e, e, e, e', e', e', e']
        exact ⟨g', ⟨d1, d2, d3, d4⟩, e1, e2, e3, e4⟩
      go_wp2_with fail
      go_region_held3 (fun w' => Gr wr w' ∧ (w'.cell? ⟨b, off + q * 4, none⟩ = some (.string (aat l q).a) ∧ w'.cell? ⟨b, off + q * 4 + 1, none⟩ = some (.int .i64 (aat l q).k) ∧ w'.cell? ⟨b, off + q * 4 + 1 + 1, none⟩ = some (.int .i64 (aat l q).n) ∧ w'.cell? ⟨b, off + q * 4 + 1 + 1 + 1, none⟩ = some (.string (aat l q).s)) ∧ w'.cell? ⟨b', off' + q * 4, none⟩ = some (.string (aat l q).a) ∧ w'.cell? ⟨b', off' + q * 4 + 1, none⟩ = some (.int .i64 (aat l q).k) ∧ w'.cell? ⟨b', off' + q * 4 + 1 + 1, none⟩ = some (.int .i64 (aat l q).n) ∧ w'.cell? ⟨b', off' + q * 4 + 1 + 1 + 1, none⟩ = some (.string (aat l q).s))
        (exact T.out _ (by first | exact Gr.refl _ | assumption | exact Gr.drew (Gr.refl _) | exact Gr.drew (by assumption)))
        (first | (go_at_call 28; refine (lawAttr_s' wr _ _ _ _ _ (by exact (show Gr wr _ ∧ _ by assumption).1)).mono ?_; rintro e w4 ⟨rfl, g4⟩))
      all_goals
        have G5 := Hid.mk' (Gr.call G.out g4)
        clear g4
        go_wp2_with fail
        go_roundw
      case rel => exact ⟨q + 1, by omega, by go_num, G5⟩
      case measure => simp [intOf]; omega
    · have hq8 : q = l.length := by omega
      subst hq8
      go_wp2_with fail
      go_ret
      exact ⟨rfl, G.out⟩
end Go.Proofs.YtecnfgikbmcgoaaDoor
namespace Go.Proofs.YtecnfgikbmcgoaaDoor
open Go.RowKit

theorem lawWant_s' (wz : World) (a : ByteArray) (y k n : Int) (s : ByteArray) (w : World) (h : Gr wz w) :
    Calls Tryd.prog 31 #[.agg #[.string a, .int .i64 y, .int .i64 k, .int .i64 n, .string s]] w fun e w' => e = .returned (.agg #[.string a, .int .i64 y, .int .i64 k, .int .i64 n, .string s]) ∧ Gr wz w' :=
  (lawWant_any a y k n s w).mono fun _ _ ⟨h1, h2⟩ => ⟨h1, Gr.call h h2⟩
set_option maxHeartbeats 1000000 in
theorem sameFilter_nil (ad ad' : Option Addr) (cap cap' : Nat) (w : World) : Calls Tryd.prog 18 #[.slice ad 0 cap, .slice ad' 0 cap'] w fun e w' => e = .returned (.bool true) ∧ Gr w w' := by
  go_enter Tryd.func18, Tryd.ntmps18
  go_wp2_with fail
  go_loopw [5] (fun kv wr => kv = .int .i64 0 ∧ wr = w) (fun _ _ => 0)
  case atStart => exact ⟨rfl, rfl⟩
  case round =>
    obtain ⟨rfl, rfl⟩ := hrel
    go_wp2_with fail
    go_ret
    exact ⟨rfl, Gr.refl _⟩
set_option maxRecDepth 100000 in
set_option maxHeartbeats 4000000 in
theorem sameFilter_any (l : List Wnt) (ad ad' : Option Addr) (cap cap' : Nat) (w : World) (hl : l.length ≤ maxLen) (h : FiAt w ad l) (h' : FiAt w ad' l) :
    Calls Tryd.prog 18 #[.slice ad l.length cap, .slice ad' l.length cap'] w fun e w' => e = .returned (.bool true) ∧ Gr w w' := by
  by_cases hn : l = []
  · subst hn
    exact sameFilter_nil _ _ _ _ _
  rcases h with h | ⟨b, off, rfl, hb, hat⟩
  · exact absurd h hn
  rcases h' with h | ⟨b', off', rfl, hb', hat'⟩
  · exact absurd h hn
  have HAT := Hid.mk' hat
  have HAT' := Hid.mk' hat'
  clear hat hat' hn
  go_enter Tryd.func18, Tryd.ntmps18
  go_wp2_with fail
  go_loopw [5] (fun kv wr => ∃ q : Nat, q ≤ l.length ∧ kv = .int .i64 q ∧ Hid (Gr w wr)) (fun kv _ => l.length - (intOf kv).toNat)
  case atStart => exact ⟨0, by omega, rfl, Gr.refl _⟩
  case round =>
    obtain ⟨q, hq, rfl, G⟩ := hrel
    by_cases hlt : q < l.length
    · obtain ⟨d1, d2, d3, d4, d5⟩ := HAT.out q hlt
      obtain ⟨e1, e2, e3, e4, e5⟩ := HAT'.out q hlt
      have hbw : b < wr.heap.size := G.out.lt hb
      have hbw' : b' < wr.heap.size := G.out.lt hb'
      have ee : ∀ o, wr.cell? ⟨b, o, none⟩ = w.cell? ⟨b, o, none⟩ := fun o => G.out.cell (p := ⟨b, o, none⟩) hb
      have ee' : ∀ o, wr.cell? ⟨b', o, none⟩ = w.cell? ⟨b', o, none⟩ := fun o => G.out.cell (p := ⟨b', o, none⟩) hb'
      rw [← ee] at d1 d2 d3 d4 d5
      rw [← ee'] at e1 e2 e3 e4 e5
      clear ee ee'
      have hq1 : (q : Int) + 1 ≤ 9223372036854775807 := by unfold maxLen at hl; omega
      have hw1 : wrap64 ((q : Int) + 1) = (q : Int) + 1 := by unfold wrap64; omega
      have T : Hid (∀ w', Gr wr w' → Gr wr w' ∧ (w'.cell? ⟨b, off + q * 5, none⟩ = some (.string (wat l q).a) ∧ w'.cell? ⟨b, off + q * 5 + 1, none⟩ = some (.int .i64 (wat l q).y) ∧ w'.cell? ⟨b, off + q * 5 + 1 + 1, none⟩ = some (.int .i64 (wat l q).k) ∧ w'.cell? ⟨b, off + q * 5 + 1 + 1 + 1, none⟩ = some (.int .i64 (wat l q).n) ∧ w'.cell? ⟨b, off + q * 5 + 1 + 1 + 1 + 1, none⟩ = some (.string (wat l q).s)) ∧ w'.cell? ⟨b', off' + q * 5, none⟩ = some (.string (wat l q).a) ∧ w'.cell? ⟨b', off' + q * 5 + 1, none⟩ = some (.int .i64 (wat l q).y) ∧ w'.cell? ⟨b', off' + q * 5 + 1 + 1, none⟩ = some (.int .i64 (wat l q).k) ∧ w'.cell? ⟨b', off' + q * 5 + 1 + 1 + 1, none⟩ = some (.int .i64 (wat l q).n) ∧ w'.cell? ⟨b', off' + q * 5 + 1 + 1 + 1 + 1, none⟩ = some (.string (wat l q).s)) := by
        intro w' g'
        have e := fun o => g'.cell (p := ⟨b, o, none⟩) hbw
        have e' := fun o => g'.cell (p := ⟨b', o, none⟩) hbw'
        rw [e, e, e, e, e, e', e', e', e', e']
        exact ⟨g', ⟨d1, d2, d3, d4, d5⟩, e1, e2, e3, e4, e5⟩
      go_wp2_with fail
      go_region_held3 (fun w' => Gr wr w' ∧ (w'.cell? ⟨b, off + q * 5, none⟩ = some (.string (wat l q).a) ∧ w'.cell? ⟨b, off + q * 5 + 1, none⟩ = some (.int .i64 (wat l q).y) ∧ w'.cell? ⟨b, off + q * 5 + 1 + 1, none⟩ = some (.int .i64 (wat l q).k) ∧ w'.cell? ⟨b, off + q * 5 + 1 + 1 + 1, none⟩ = some (.int .i64 (wat l q).n) ∧ w'.cell? ⟨b, off + q * 5 + 1 + 1 + 1 + 1, none⟩ = some (.string (wat l q).s)) ∧ w'.cell? ⟨b', off' + q * 5, none⟩ = some (.string (wat l q).a) ∧ w'.cell? ⟨b', off' + q * 5 + 1, none⟩ = some (.int .i64 (wat l q).y) ∧ w'.cell? ⟨b', off' + q * 5 + 1 + 1, none⟩ = some (.int .i64 (wat l q).k) ∧ w'.cell? ⟨b', off' + q * 5 + 1 + 1 + 1, none⟩ = some (.int .i64 (wat l q).n) ∧ w'.cell? ⟨b', off' + q * 5 + 1 + 1 + 1 + 1, none⟩ = some (.string (wat l q).s))
        (exact T.out _ (by first | exact Gr.refl _ | assumption | exact Gr.drew (Gr.refl _) | exact Gr.drew (by assumption)))
        (first | (go_at_call 31; refine (lawWant_s' wr _ _ _ _ _ _ (by exact (show Gr wr _ ∧ _ by assumption).1)).mono ?_; rintro e w4 ⟨rfl, g4⟩))
      all_goals
        have G5 := Hid.mk' (Gr.call G.out g4)
        clear g4
        go_wp2_with fail
        go_roundw
      case rel => exact ⟨q + 1, by omega, by go_num, G5⟩
      case measure => simp [intOf]; omega
    · have hq8 : q = l.length := by omega
      subst hq8
      go_wp2_with fail
      go_ret
      exact ⟨rfl, G.out⟩
end Go.Proofs.YtecnfgikbmcgoaaDoor
