import Derived.Test.YtecnfgikbmcgoaaDoorG24
import Derived.Test.YtecnfgikbmcgoaaDoorG26
import Derived.Test.YtecnfgikbmcgoaaDoorG8
import Derived.Test.YtecnfgikbmcgoaaDoorG9
import Derived.Laws.BitsLemmas
namespace Go.Proofs.YtecnfgikbmcgoaaDoor
open Go.RowKit

set_option maxRecDepth 100000 in
set_option maxHeartbeats 4000000 in
theorem wholeR_any (BB base : Nat) (lad wad : Option Addr) (lc wc : Nat) (la lw : List Value) (w : World) (hla : la.length ≤ 1099511627776) (hlw : lw.length ≤ 1099511627776)
    (hbx : w.heap[BB]? = some (.cells #[.slice none 0 0, .slice lad la.length lc, .slice wad lw.length wc, .slice none 0 0, .slice none 0 0, .slice none 0 0] 64 (0, 0)))
    (hA : BkL 37 38 4 base mkA w (.slice lad la.length lc) la) (hW : BkL 76 42 5 base mkW w (.slice wad lw.length wc) lw) :
    Calls Tryd.prog 46 #[.pointer (some ⟨BB, 0, none⟩)] w fun e w' => e = .returned (.bool true) ∧ Gr w w' := by
  have HA := Hid.mk' hA
  have HW := Hid.mk' hW
  have HBX := Hid.mk' hbx
  clear hA hW hbx
  have c3 : w.cell? ⟨BB, 3, none⟩ = some (.slice none 0 0) := by rw [cell_of_row _ _ _ _ _ _ HBX.out]; rfl
  have c4 : w.cell? ⟨BB, 4, none⟩ = some (.slice none 0 0) := by rw [cell_of_row _ _ _ _ _ _ HBX.out]; rfl
  have c5 : w.cell? ⟨BB, 5, none⟩ = some (.slice none 0 0) := by rw [cell_of_row _ _ _ _ _ _ HBX.out]; rfl
  go_enter Tryd.func46, Tryd.ntmps46
  go_wp2_with fail
  go_loopw [3] (fun i w1 => i = .int .i64 0 ∧ w1 = w) (fun _ _ => 0)
  case atStart => exact ⟨rfl, rfl⟩
  case round =>
    obtain ⟨rfl, rfl⟩ := hrel
    go_wp2_with fail
    go_loopw [6] (fun i w1 => i = .int .i64 0 ∧ w1 = wr) (fun _ _ => 0)
    case atStart => exact ⟨rfl, rfl⟩
    case round =>
      obtain ⟨rfl, rfl⟩ := hrel
      go_wp2_with fail
      go_loopw [8] (fun i w1 => i = .int .i64 0 ∧ w1 = wr) (fun _ _ => 0)
      case atStart => exact ⟨rfl, rfl⟩
      case round =>
        obtain ⟨rfl, rfl⟩ := hrel
        go_wp2_with fail
        refine (listsR_any BB base _ _ _ lad wad lc wc la lw _ hla hlw HBX.out HA.out HW.out).mono ?_
        rintro e w1 ⟨rfl, g1⟩
        go_wp2_with fail
        go_ret
        exact ⟨rfl, g1⟩
theorem Ge.all {α : Type} {w w' : World} {T : TypeId} {sz : Nat} {cells : List α → List Value} {p : Option (List α)} {e : Ending} (hc : cells [] = []) (h : Ge w T sz cells p e w') :
    ∃ v, e = .returned (.tuple #[v, .int .i64 (if p.isSome then 0 else 3)]) ∧ Gr w w' ∧ w'.ownsRow w.heap.size T sz v (p.getD []).length (cells (p.getD [])) := by
  obtain ⟨g, h⟩ := h
  cases p with
  | none => exact ⟨_, h, g, by rw [Option.getD_none, hc]; exact World.ownsRow_nil _ _ _ _⟩
  | some x => obtain ⟨v, h1, h2⟩ := h; exact ⟨v, h1, g, h2⟩
theorem Gf.all {α : Type} {w w' : World} {T : TypeId} {sz : Nat} {cells : List α → List Value} {p : Option (List α)} {e : Ending} (hc : cells [] = []) (h : Gf w T sz cells p e w') :
    ∃ v, e = .returned (.tuple #[v, .bool p.isSome]) ∧ Gr w w' ∧ w'.ownsRow w.heap.size T sz v (p.getD []).length (cells (p.getD [])) := by
  obtain ⟨g, h⟩ := h
  cases p with
  | none => exact ⟨_, h, g, by rw [Option.getD_none, hc]; exact World.ownsRow_nil _ _ _ _⟩
  | some x => obtain ⟨v, h1, h2⟩ := h; exact ⟨v, h1, g, h2⟩
theorem getE_len (l : List UInt8) : ((getE l).getD []).length ≤ 8 := by
  rw [getE_eq]
  split
  · rename_i h
    have := h.2.2
    simp only [evOk, Bool.and_eq_true, decide_eq_true_eq] at this
    simp only [Option.getD_some]; omega
  · simp
theorem getF_len (l : List UInt8) : ((getF l).getD []).length ≤ 6 := by
  rw [getF_eq]
  split
  · rename_i h
    have := h.2.2
    simp only [filterOk, Bool.and_eq_true, decide_eq_true_eq] at this
    simp only [Option.getD_some]; omega
  · simp
theorem BkL.kvT {T TS T' : TypeId} {sz base b2 s n : Nat} {mkf : Nat → List Value} {wa wb : World} {v x : Value} {ls xs : List Value} {ts : List TypeId} (h : BkL T TS sz base mkf wa v ls) (k : Kv ts x.ownBlock base wa wb) (hf : wa.ownsRow b2 T' s x n xs) (h1 : T ≠ T') (h2 : TS ≠ T') (hT : ¬ T ∈ ts) (hTS : ¬ TS ∈ ts) : BkL T TS sz base mkf wb v ls := by
  refine ⟨k.owns h.own hTS (own_apart hf h.own h2), fun i hi => ?_⟩
  obtain ⟨ad, n, cap, e1, e2, e3⟩ := h.ok i hi
  exact ⟨ad, n, cap, e1, e2, k.owns e3 hT (own_apart hf e3 h1)⟩
theorem BkL.apart {T TS : TypeId} {sz base : Nat} {mkf : Nat → List Value} {w : World} {v : Value} {ls : List Value} {own : Option Nat} (h : BkL T TS sz base mkf w v ls) (ho : ∀ q, own = some q → w.heap.size ≤ q) : ∀ i, i < ls.length → ∀ q, (lat ls i).ownBlock = some q → own ≠ some q := by
  intro i hi q hq he
  obtain ⟨ad, n, cap, e1, _, hu⟩ := h.ok i hi
  rw [e1] at hq
  have h1 := ho q he
  rcases hu.2 with ⟨hv, _⟩ | ⟨b, cap, cur, hv, _, hh, _⟩
  · rw [hv] at hq; simp [Value.ownBlock] at hq
  · rw [hv] at hq
    have : b = q := by simpa [Value.ownBlock] using hq
    have := blk_lt hh; omega
theorem BkL.gr {T TS : TypeId} {sz base : Nat} {mkf : Nat → List Value} {w wa : World} {v : Value} {ls : List Value} (h : BkL T TS sz base mkf w v ls) (g : Gr w wa) : BkL T TS sz base mkf wa v ls :=
  ⟨ownsGr h.own g, fun i hi => by obtain ⟨ad, n, cap, h1, h2, h3⟩ := h.ok i hi; exact ⟨ad, n, cap, h1, h2, ownsGr h3 g⟩⟩
/-- 'keep' adds four. -/
theorem BkL.kept {T TS : TypeId} {base : Nat} {mkf : Nat → List Value} {wa wb : World} {v vi' x : Value} {ls us : List Value} {n : Nat} {sz : Nat} {own : Option Nat} (h : BkL T TS sz base mkf wa v ls) (hsz : (mkf (ls.length / 4)).length = sz)
    (k : Kept T TS own base wa wb (mkf (ls.length / 4)) n x vi' ls us) (hTT : T ≠ TS) (hTB : T ≠ 64) (hap : ∀ i, i < ls.length → ∀ q, (lat ls i).ownBlock = some q → own ≠ some q) (hn : n ≤ 1099511627776) (h4 : ls.length % 4 = 0) : us.length = ls.length + 4 ∧ BkL T TS sz base mkf wb vi' us := by
  obtain ⟨v1, v2, v3, rfl, o0, o1, o2, o3⟩ := k.ex
  rw [hsz] at o0 o1 o2 o3
  refine ⟨by simp, k.vi, fun i hi => ?_⟩
  by_cases hl : i < ls.length
  · obtain ⟨ad, n, cap, h1, h2, h3⟩ := h.ok i hl
    have hap' := hap i hl
    rw [h1] at hap'
    refine ⟨ad, n, cap, ?_, h2, k.fr.owns h3 (by simp [hTT, hTB]) hap'⟩
    rw [← h1]; unfold lat; rw [List.getD_eq_getElem?_getD, List.getD_eq_getElem?_getD, List.getElem?_append_left hl]
  · have hi4 : i < ls.length + 4 := by simpa using hi
    have e4 : i / 4 = ls.length / 4 := by omega
    rw [e4]
    have one : ∀ (j m : Nat) (u : Value), i = ls.length + j → [x, v1, v2, v3][j]? = some u → m ≤ 1099511627779 → wb.ownsRow base T sz u m (rep m (mkf (ls.length / 4))) → ∃ ad n cap, lat (ls ++ [x, v1, v2, v3]) i = .slice ad n cap ∧ n ≤ 1099511627779 ∧ wb.ownsRow base T sz (.slice ad n cap) n (rep n (mkf (ls.length / 4))) := by
      intro j m u hj hu hm ho
      obtain ⟨ad, cap, rfl, _⟩ := owns_shape ho
      refine ⟨ad, m, cap, ?_, hm, ho⟩
      unfold lat; rw [List.getD_eq_getElem?_getD, List.getElem?_append_right (by omega), hj, Nat.add_sub_cancel_left, hu]; rfl
    obtain ⟨j, hj, hj4⟩ : ∃ j, i = ls.length + j ∧ j < 4 := ⟨i - ls.length, by omega, by omega⟩
    match j, hj4 with
    | 0, _ => exact one 0 n x hj rfl (by omega) o0
    | 1, _ => exact one 1 _ v1 hj rfl (by omega) o1
    | 2, _ => exact one 2 _ v2 hj rfl (by omega) o2
    | 3, _ => exact one 3 _ v3 hj rfl (by omega) o3
end Go.Proofs.YtecnfgikbmcgoaaDoor
namespace Go.Proofs.YtecnfgikbmcgoaaDoor
open Go.RowKit

/-- The law's book. -/
structure BkS (w : World) (base BB : Nat) (la lw : List Value) : Prop where
  ex : ∃ lad lc wad wc, w.heap[BB]? = some (.cells #[.slice none 0 0, .slice lad la.length lc, .slice wad lw.length wc, .slice none 0 0, .slice none 0 0, .slice none 0 0] 64 (0, 0)) ∧
    BkL 37 38 4 base mkA w (.slice lad la.length lc) la ∧ BkL 76 42 5 base mkW w (.slice wad lw.length wc) lw
  a4 : la.length % 4 = 0
  w4 : lw.length % 4 = 0
theorem BkS.gr {w w' : World} {base BB : Nat} {la lw : List Value} (h : BkS w base BB la lw) (g : Gr w w') : BkS w' base BB la lw := by
  obtain ⟨lad, lc, wad, wc, h1, h2, h3⟩ := h.ex
  exact ⟨⟨lad, lc, wad, wc, blk_gr g h1, h2.gr g, h3.gr g⟩, h.a4, h.w4⟩
/-- What both readings of the same bytes answer. -/
theorem ev_l (u : TypeId) (pv : Value) (L : List UInt8) (hL : L.length ≤ 1152921504606846976) : ∃ (x : List Atr) (b : Bool) (k : Int), x.length ≤ 8 ∧ Hid (k = if b then 0 else 3) ∧
    Hid (∀ w, Te u pv w → Calls Tryd.prog 14 #[.string (str L)] w fun e w' => ∃ ad c, e = .returned (.tuple #[.slice ad x.length c, .int .i64 k]) ∧ Gr w w' ∧ w'.ownsRow w.heap.size 37 4 (.slice ad x.length c) x.length (acells x)) ∧
    Hid (∀ w, Calls Tryd.prog 42 #[.string (str L)] w fun e w' => ∃ ad c, e = .returned (.tuple #[.slice ad x.length c, .bool b]) ∧ Gr w w' ∧ w'.ownsRow w.heap.size 84 4 (.slice ad x.length c) x.length (acells x)) := by
  refine ⟨(getE L).getD [], (getE L).isSome, _, getE_len L, rfl, fun w ht => (GetEvent_any u pv L w ht).mono fun e w' q => ?_, fun w => (refGetEvent_any L w hL).mono fun e w' q => ?_⟩
  · obtain ⟨v, h1, h2, h3⟩ := q.all rfl
    obtain ⟨ad, c, rfl, _⟩ := owns_attrs h3
    exact ⟨ad, c, h1, h2, h3⟩
  · obtain ⟨v, h1, h2, h3⟩ := q.all rfl
    obtain ⟨ad, c, rfl, _⟩ := owns_attrs h3
    exact ⟨ad, c, h1, h2, h3⟩
theorem fi_l (u : TypeId) (pv : Value) (L : List UInt8) (hL : L.length ≤ 1152921504606846976) : ∃ (x : List Wnt) (b : Bool) (k : Int), x.length ≤ 6 ∧ Hid (k = if b then 0 else 3) ∧
    Hid (∀ w, Te u pv w → Calls Tryd.prog 17 #[.string (str L)] w fun e w' => ∃ ad c, e = .returned (.tuple #[.slice ad x.length c, .int .i64 k]) ∧ Gr w w' ∧ w'.ownsRow w.heap.size 76 5 (.slice ad x.length c) x.length (wcells x)) ∧
    Hid (∀ w, Calls Tryd.prog 43 #[.string (str L)] w fun e w' => ∃ ad c, e = .returned (.tuple #[.slice ad x.length c, .bool b]) ∧ Gr w w' ∧ w'.ownsRow w.heap.size 69 5 (.slice ad x.length c) x.length (wcells x)) := by
  refine ⟨(getF L).getD [], (getF L).isSome, _, getF_len L, rfl, fun w ht => (GetFilter_any u pv L w ht).mono fun e w' q => ?_, fun w => (refGetFilter_any L w hL).mono fun e w' q => ?_⟩
  · obtain ⟨v, h1, h2, h3⟩ := q.all rfl
    obtain ⟨ad, c, rfl, _⟩ := owns_wants h3
    exact ⟨ad, c, h1, h2, h3⟩
  · obtain ⟨v, h1, h2, h3⟩ := q.all rfl
    obtain ⟨ad, c, rfl, _⟩ := owns_wants h3
    exact ⟨ad, c, h1, h2, h3⟩
theorem evAt_of {w : World} {base : Nat} {e : TypeId} {ad : Option Addr} {c : Nat} {l : List Atr} (h : w.ownsRow base e 4 (.slice ad l.length c) l.length (acells l)) : EvAt w ad l := by
  obtain ⟨ad', c', he, h'⟩ := owns_attrs h
  injection he with he _ _
  rw [he]; exact h'
theorem fiAt_of {w : World} {base : Nat} {e : TypeId} {ad : Option Addr} {c : Nat} {l : List Wnt} (h : w.ownsRow base e 5 (.slice ad l.length c) l.length (wcells l)) : FiAt w ad l := by
  obtain ⟨ad', c', he, h'⟩ := owns_wants h
  injection he with he _ _
  rw [he]; exact h'
theorem mk_half (n : Nat) (h : n % 4 = 0) : (-1 - (n : Int)) = -1 - ((n / 4 : Nat) : Int) * 4 := by omega
set_option maxRecDepth 100000 in
set_option maxHeartbeats 4000000 in
theorem read_any (u : TypeId) (pv : Value) (L : List UInt8) (base BB : Nat) (la lw : List Value) (w : World) (hL : L.length ≤ 1152921504606846976) (ht : Te u pv w) (hbb : base ≤ BB) (hle : base ≤ w.heap.size)
    (hb : BkS w base BB la lw) (hla : la.length ≤ 1000) (hlw : lw.length ≤ 1000) :
    Calls Tryd.prog 20 #[.string (str L), .pointer (some ⟨BB, 0, none⟩)] w fun e w' => e = .returned (.bool true) ∧ Below base w w' ∧ ∃ la' lw', BkS w' base BB la' lw' ∧ la'.length = la.length + 4 ∧ lw'.length = lw.length + 4 := by
  have HT := Hid.mk' ht
  have HB := Hid.mk' hb
  have HLE := Hid.mk' hle
  clear ht hb hle
  obtain ⟨xe, be, ke, hxe, KE, CE, RE⟩ := ev_l u pv L hL
  obtain ⟨xf, bf, kf, hxf, KF, CF, RF⟩ := fi_l u pv L hL
  have hxe' := Hid.mk' hxe
  have hxf' := Hid.mk' hxf
  clear hxe hxf
  have hme := Hid.mk' (show xe.length ≤ maxLen by unfold maxLen; have := hxe'.out; omega)
  have hmf := Hid.mk' (show xf.length ≤ maxLen by unfold maxLen; have := hxf'.out; omega)
  go_enter Tryd.func20, Tryd.ntmps20
  go_wp2_with fail
  refine (CE.out w HT.out).mono ?_
  rintro e w1 ⟨ad1, c1, rfl, g1, o1⟩
  have G1 := Hid.mk' g1
  have O1 := Hid.mk' o1
  clear g1 o1
  go_wp2_with fail
  refine (CF.out w1 (HT.out.gr G1.out)).mono ?_
  rintro e w2 ⟨ad2, c2, rfl, g2, o2⟩
  have G2 := Hid.mk' (Gr.call G1.out g2)
  have O12 := Hid.mk' (ownsGr O1.out g2)
  have O2 := Hid.mk' (owns_base2 o2 G1.out.size)
  clear g2 o2 O1
  go_wp2_with fail
  refine (RE.out w2).mono ?_
  rintro e w3 ⟨ad3, c3, rfl, g3, o3⟩
  have G3 := Hid.mk' (Gr.call G2.out g3)
  have O13 := Hid.mk' (ownsGr O12.out g3)
  have O23 := Hid.mk' (ownsGr O2.out g3)
  have O3 := Hid.mk' o3
  clear g3 o3 O12 O2
  go_wp2_with fail
  refine (RF.out w3).mono ?_
  rintro e w4 ⟨ad4, c4, rfl, g4, o4⟩
  have G4 := Hid.mk' (Gr.call G3.out g4)
  have O14 := Hid.mk' (ownsGr O13.out g4)
  have O24 := Hid.mk' (ownsGr O23.out g4)
  have V1 := Hid.mk' (evAt_of O14.out)
  have V2 := Hid.mk' (fiAt_of O24.out)
  have V3 := Hid.mk' (evAt_of (ownsGr O3.out g4))
  have V4 := Hid.mk' (fiAt_of o4)
  clear g4 o4 O13 O23 O3
  go_wp2_with fail
  refine (sameEvent_any xe _ _ _ _ w4 hme.out V1.out V3.out).mono ?_
  rintro e w5 ⟨rfl, g5⟩
  have G5 := Hid.mk' (Gr.call G4.out g5)
  have O15 := Hid.mk' (ownsGr O14.out g5)
  have O25 := Hid.mk' (ownsGr O24.out g5)
  have V25 := Hid.mk' (V2.out.gr g5)
  have V45 := Hid.mk' (V4.out.gr g5)
  clear g5 O14 O24 V1 V3 V2 V4 G4
  go_wp2_with fail
  refine (sameFilter_any xf _ _ _ _ w5 hmf.out V25.out V45.out).mono ?_
  rintro e w6 ⟨rfl, g6⟩
  have G6 := Hid.mk' (Gr.call G5.out g6)
  have O16 := Hid.mk' (ownsGr O15.out g6)
  have O26 := Hid.mk' (ownsGr O25.out g6)
  clear g6 O15 O25 V25 V45 G5
  obtain ⟨lad, lc, wad, wc, B0, A0, W0⟩ := HB.out.ex
  have B6 := Hid.mk' (blk_gr G6.out B0)
  have A0' := Hid.mk' A0
  have W0' := Hid.mk' W0
  have low1 := Hid.mk' (own_low O16.out)
  have low2 := Hid.mk' (own_low O26.out)
  clear B0 A0 W0
  go_wp2_with fail
  refine (keepEvent_any BB base _ _ _ _ _ _ lad _ _ lc _ la w6 (by have := hxe'.out; omega) (by omega) B6.out hbb (Nat.le_trans HLE.out G6.out.size) (ownsGr A0'.out.own G6.out) (owns_base2 O16.out HLE.out)).mono ?_
  rintro e w7 ⟨rfl, vi7, us, B7, K7⟩
  have em : mkE (-1 - (la.length : Int)) = mkA (la.length / 4) := by unfold mkA; rw [← mk_half _ HB.out.a4]
  rw [em] at K7
  obtain ⟨hul, A7⟩ := BkL.kept (A0'.out.gr G6.out) rfl K7 (by decide) (by decide) (A0'.out.apart low1.out) (by have := hxe'.out; omega) HB.out.a4
  have W7 := Hid.mk' ((W0'.out.gr G6.out).kvT K7.fr O16.out (by decide) (by decide) (by decide) (by decide))
  have O27 := Hid.mk' (K7.fr.owns (owns_base2 O26.out HLE.out) (by decide) (own_apart O16.out O26.out (by decide)))
  obtain ⟨ad7, cap7, rfl, -⟩ := owns_shape K7.vi
  have BE7 := Hid.mk' (Below.trans (Below.mono G6.out HLE.out) K7.fr.be)
  have B7' := Hid.mk' B7
  have A7' := Hid.mk' A7
  have HUL := Hid.mk' hul
  have hle7 := Hid.mk' (Nat.le_trans HLE.out BE7.out.size)
  clear em K7 A7 B7 hul O16 B6 G6
  go_wp2_with fail
  refine (keepFilter_any BB base _ _ _ _ _ _ wad _ _ wc _ lw w7 (by have := hxf'.out; omega) (by omega) B7'.out hbb hle7.out W7.out.own O27.out).mono ?_
  rintro e w8 ⟨rfl, vi8, us8, B8, K8⟩
  have em : mkF (-1 - (lw.length : Int)) = mkW (lw.length / 4) := by unfold mkW; rw [← mk_half _ HB.out.w4]
  rw [em] at K8
  obtain ⟨hul8, W8⟩ := BkL.kept W7.out rfl K8 (by decide) (by decide) (W0'.out.apart low2.out) (by have := hxf'.out; omega) HB.out.w4
  have A8 := Hid.mk' (A7'.out.kvT K8.fr O27.out (by decide) (by decide) (by decide) (by decide))
  obtain ⟨ad8, cap8, rfl, -⟩ := owns_shape K8.vi
  have BE8 := Hid.mk' (Below.trans BE7.out K8.fr.be)
  have B8' := Hid.mk' B8
  have W8' := Hid.mk' W8
  have HUL8 := Hid.mk' hul8
  clear em K8 W8 B8 hul8 O27 B7' BE7 W7 A7'
  go_wp2_with fail
  refine (wholeR_any BB base ad7 ad8 cap7 cap8 us us8 w8 (by have := HUL.out; omega) (by have := HUL8.out; omega) B8'.out A8.out W8'.out).mono ?_
  rintro e w9 ⟨rfl, g9⟩
  have S9 : Hid (BkS w9 base BB us us8) := ⟨⟨ad7, cap7, ad8, cap8, blk_gr g9 B8'.out, A8.out.gr g9, W8'.out.gr g9⟩, by have := HB.out.a4; have := HUL.out; omega, by have := HB.out.w4; have := HUL8.out; omega⟩
  have BE9 := Hid.mk' (Below.trans BE8.out (Below.mono g9 (Nat.le_trans HLE.out BE8.out.size)))
  have FIN : Hid (∀ w', Below base w w' → BkS w' base BB us us8 → Below base w w' ∧ ∃ la' lw', BkS w' base BB la' lw' ∧ la'.length = la.length + 4 ∧ lw'.length = lw.length + 4) := fun w' h1 h2 => ⟨h1, us, us8, h2, HUL.out, HUL8.out⟩
  have hke := KE.out
  have hkf := KF.out
  clear g9 B8' A8 W8' BE8 hle7 KE KF CE CF RE RF
  cases be <;> cases bf <;> (simp only [if_true, Bool.false_eq_true, if_false] at hke hkf; subst hke hkf)
  all_goals
    go_wp2_with fail
    go_ret
    exact ⟨rfl, FIN.out _ BE9.out S9.out⟩
end Go.Proofs.YtecnfgikbmcgoaaDoor
namespace Go.Proofs.YtecnfgikbmcgoaaDoor
open Go.RowKit

/-- A number's lowest byte. -/
def b1 (n : Int) : UInt8 := UInt8.ofNat (n % 256).toNat
theorem b1_cell (n : Int) : ((b1 n).toNat : Int) = n % 256 := by
  unfold b1
  have h1 : 0 ≤ n % 256 := Int.emod_nonneg _ (by decide)
  have h2 : n % 256 < 256 := Int.emod_lt_of_pos _ (by decide)
  rw [UInt8.toNat_ofNat']
  omega
theorem conv1 (w : World) (n : Int) : (convert 80 9 (.slice (some ⟨w.heap.size, 0, none⟩) 1 1)).run Tryd.prog (w.alloc (.cells #[.int .u8 (n % 256)] 5)) = .ok (.string (str [b1 n])) (w.alloc (.cells #[.int .u8 (n % 256)] 5)) := by
  refine run_convert_bytes_back _ 80 9 5 ⟨w.heap.size, 0, none⟩ 1 [b1 n] Tryd.underlying80 Tryd.underlying5 Tryd.underlying9 (fun j hj => ?_)
  have : j = 0 := by simp at hj; omega
  subst this
  rw [Addr.add_lit, Nat.add_zero]
  simp [b1_cell]
set_option maxRecDepth 100000 in
set_option maxHeartbeats 1000000 in
theorem byteOf_any (n : Int) (w : World) : Calls Tryd.prog 37 #[.int .i64 n] w fun e w' => e = .returned (.string (str [b1 n])) ∧ Gr w w' := by
  have hc := conv1 w n
  go_enter Tryd.func37, Tryd.ntmps37
  go_wp2_with fail
  go_ret
  exact ⟨rfl, (Gr.refl w).alloc _⟩
theorem str_app (a b : List UInt8) : str a ++ str b = str (a ++ b) := by
  apply ByteArray.ext
  simp [str, ByteArray.data_append]
theorem str_app' (a : List UInt8) (s : ByteArray) : str a ++ s = str (a ++ s.data.toList) := by
  apply ByteArray.ext
  simp [str, ByteArray.data_append]
set_option maxRecDepth 100000 in
set_option maxHeartbeats 1000000 in
theorem text_any (s : ByteArray) (w : World) (hs : s.size ≤ 255) : Calls Tryd.prog 38 #[.string s] w fun e w' => e = .returned (.string (str (encS s))) ∧ Gr w w' := by
  have h0 : s.size + 1 ≤ maxLen := by unfold maxLen; omega
  have h1 := str_size [b1 (s.size : Int)]
  go_enter Tryd.func38, Tryd.ntmps38
  go_wp2_with fail
  refine (byteOf_any s.size w).mono ?_
  rintro e w1 ⟨rfl, g1⟩
  go_wp2_with fail
  go_ret
  refine ⟨?_, g1⟩
  rw [str_app']
  have hb : b1 (s.size : Int) = UInt8.ofNat s.size := by
    unfold b1
    congr 1
    omega
  rw [hb]
  rfl
theorem nb_b1 (n : Int) (q : Nat) (x : Int) (hx : x = n / 2 ^ (56 - 8 * q) % 256) : b1 x = nb n q := by
  subst hx
  unfold b1 nb
  rw [Int.emod_emod_of_dvd _ (Int.dvd_refl 256)]
theorem i64_and255 (n : Int) : bits .and .i64 n 255 = n % 256 := by
  have h255 : (BitVec.ofInt 64 255).toNat = 2 ^ 8 - 1 := by decide
  have key : (BitVec.ofInt 64 n &&& BitVec.ofInt 64 255).toNat = (n % ((2 ^ 64 : Nat) : Int)).toNat % 2 ^ 8 := by
    rw [BitVec.toNat_and, BitVec.toNat_ofInt, h255, Nat.and_two_pow_sub_one_eq_mod]
  show IntKind.i64.wrap ((BitVec.ofInt 64 n &&& BitVec.ofInt 64 255).toNat : Nat) = n % 256
  rw [key, IntKind.wrap_i64]
  omega
theorem rv_cells {w w' : World} {k n : Int} {s : ByteArray} (g : Gr (w.alloc (.cells #[.int .i64 k, .int .i64 n, .string s] 67)) w') :
    w'.cell? ⟨w.heap.size, 0, none⟩ = some (.int .i64 k) ∧ w'.cell? ⟨w.heap.size, 1, none⟩ = some (.int .i64 n) ∧ w'.cell? ⟨w.heap.size, 2, none⟩ = some (.string s) := by
  have h := fun j => g.cell (p := ⟨w.heap.size, j, none⟩) (by simp)
  rw [h, h, h]
  simp
def wN (n : Int) (q : Nat) : List UInt8 := b1 1 :: (List.range q).map (nb n)
theorem wN_size (n : Int) (q : Nat) : (str (wN n q)).size = q + 1 := by rw [str_size]; simp [wN]
theorem wN_snoc (n : Int) (q : Nat) : str (wN n q) ++ str [nb n q] = str (wN n (q + 1)) := by rw [str_app]; simp [wN, nb_snoc]
theorem one_size (b : UInt8) : (str [b]).size = 1 := rfl
set_option maxRecDepth 100000 in
set_option maxHeartbeats 4000000 in
theorem written1 (n : Int) (s : ByteArray) (w : World) : Calls Tryd.prog 39 #[.agg #[.int .i64 1, .int .i64 n, .string s]] w fun e w' => e = .returned (.string (str (encV 1 n s))) ∧ Gr w w' := by
  go_enter Tryd.func39, Tryd.ntmps39
  go_wp2_with fail
  refine (byteOf_any 1 _).mono ?_
  rintro e w1 ⟨rfl, g1⟩
  have G1 := Hid.mk' g1
  obtain ⟨c0, c1, c2⟩ := rv_cells g1
  clear g1
  go_wp2_with fail
  go_loopw [3, 4] (fun sv kv wr => ∃ q : Nat, q ≤ 8 ∧ sv = .string (str (wN n q)) ∧ kv = .int .i64 (7 - (q : Int)) ∧ Hid (Gr (w.alloc (.cells #[.int .i64 1, .int .i64 n, .string s] 67)) wr)) (fun _ kv _ => (intOf kv + 1).toNat)
  case atStart => exact ⟨0, by omega, rfl, rfl, G1⟩
  case round =>
    obtain ⟨q, hq, rfl, rfl, G⟩ := hrel
    obtain ⟨d0, d1, d2⟩ := rv_cells G.out
    by_cases hlt : q < 8
    · have h1 : (q : Int) ≤ 7 := by omega
      have h1' : q ≤ 7 := by omega
      have h2 : wrap64 (8 * (7 - (q : Int))) = ((56 - 8 * q : Nat) : Int) := by unfold wrap64; omega
      have h3 : (0 : Int) ≤ ((56 - 8 * q : Nat) : Int) := by omega
      go_wp2_with fail
      rw [i64_and255]
      have hb : b1 (n / 2 ^ (8 * (7 - q)) % 256) = nb n q := nb_b1 n q _ (by rw [show 8 * (7 - q) = 56 - 8 * q by omega])
      refine (byteOf_any _ _).mono ?_
      rintro e w2 ⟨rfl, g2⟩
      rw [hb]
      have G2 := Hid.mk' (Gr.call G.out g2)
      have hz1 := wN_size n q
      have hz2 := one_size (nb n q)
      have hm : q + 1 + 1 ≤ 9223372036854775807 := by omega
      have hap := wN_snoc n q
      clear g2
      go_wp2_with fail
      go_roundw
      case rel => exact ⟨q + 1, by omega, rfl, by go_num, G2⟩
      case measure => simp [intOf]; omega
    · have hq8 : q = 8 := by omega
      subst hq8
      go_wp2_with fail
      go_ret
      exact ⟨rfl, Gr.call ((Gr.refl w).alloc _) G.out⟩
end Go.Proofs.YtecnfgikbmcgoaaDoor
