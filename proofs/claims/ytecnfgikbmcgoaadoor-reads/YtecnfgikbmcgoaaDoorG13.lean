import Derived.Test.YtecnfgikbmcgoaaDoorG11
import Derived.Test.YtecnfgikbmcgoaaDoorG12
import Derived.Deep.QuietTactic
namespace Go.Proofs.YtecnfgikbmcgoaaDoor
open Go.RowKit

def pA (l : List UInt8) : Option (Atr × List UInt8) := (pS l).bind fun a => (pV a.2).map fun v => (⟨str a.1, v.1.k, v.1.n, str v.1.s⟩, v.2)
/-- So many, one behind the other. -/
def pMany {α : Type} (p : List UInt8 → Option (α × List UInt8)) : Nat → List UInt8 → Option (List α × List UInt8)
  | 0, l => some ([], l)
  | k + 1, l => (p l).bind fun x => (pMany p k x.2).map fun y => (x.1 :: y.1, y.2)
def pE (l : List UInt8) : Option (List Atr × List UInt8) := (pB l).bind fun m => if m.1 = 69 then (pB m.2).bind fun c => pMany pA c.1 c.2 else some ([], m.2)
/-- What a reader's call that makes a list leaves. -/
def Rl {α : Type} (u : TypeId) (pv : Value) (R : Nat) (w : World) (T : TypeId) (sz : Nat) (cells : List α → List Value) (p : Option (List α × List UInt8)) (e : Ending) (w' : World) : Prop :=
  w.grownBy w' (some R) ∧ match p with
    | some (x, r) => ∃ v, e = .returned v ∧ w'.ownsRow w.heap.size T sz v x.length (cells x) ∧ Rd w' R r
    | none => e = .panicked (PP u pv)
theorem Rl.mkNone {α : Type} {u : TypeId} {pv : Value} {R : Nat} {w w' : World} {T : TypeId} {sz : Nat} {cells : List α → List Value} {p : Option (List α × List UInt8)} (g : w.grownBy w' (some R)) (hp : p = none) : Rl u pv R w T sz cells p (.panicked (PP u pv)) w' := by
  subst hp; exact ⟨g, rfl⟩
theorem Rl.mkSome {α : Type} {u : TypeId} {pv v : Value} {R : Nat} {w w' : World} {T : TypeId} {sz : Nat} {cells : List α → List Value} {p : Option (List α × List UInt8)} {x : List α} {r : List UInt8} (g : w.grownBy w' (some R)) (hp : p = some (x, r)) (ho : w'.ownsRow w.heap.size T sz v x.length (cells x)) (hr : Rd w' R r) : Rl u pv R w T sz cells p (.returned v) w' := by
  subst hp; exact ⟨g, v, rfl, ho, hr⟩
set_option maxRecDepth 100000 in
set_option maxHeartbeats 4000000 in
theorem readEvent_any (u : TypeId) (pv : Value) (R : Nat) (l : List UInt8) (w : World) (hR : 0 < R) (hRw : R < w.heap.size) (hr : Rd w R l) (ht : Te u pv w) :
    Calls Tryd.prog 36 #[.pointer (some ⟨R, 0, none⟩)] w (Rl u pv R w 37 4 acells (pE l)) := by
  have HR := Hid.mk' hr
  have HT := Hid.mk' ht
  clear hr ht
  go_enter Tryd.func36, Tryd.ntmps36
  go_wp2_with fail
  refine (oneByte_any u pv R l _ HR.out HT.out).mono ?_
  intro e w1 q1
  cases h1 : pB l with
  | none =>
    obtain ⟨g1, rfl⟩ := q1.none h1
    have HP : Hid (pE l = none) := by
      show _ = _
      rw [pE, h1]; rfl
    go_wp2_with fail
    exact ⟨rfl, Rl.mkNone g1 HP.out⟩
  | some y =>
    obtain ⟨b, r⟩ := y
    obtain ⟨g1, rfl, r1⟩ := q1.some h1
    have hb := pB_lt h1
    have G1 := Hid.mk' g1
    have D1 := Hid.mk' r1
    clear g1 r1 q1
    by_cases hb1 : b = 69
    · subst hb1
      go_wp2_with fail
      refine (oneByte_any u pv R r _ D1.out (HT.out.grown G1.out hR)).mono ?_
      intro e w2 q2
      cases h2 : pB r with
      | none =>
        obtain ⟨g2, rfl⟩ := q2.none h2
        have HP : Hid (pE l = none) := by
          show _ = _
          rw [pE, h1]; simp [h2]
        go_wp2_with fail
        exact ⟨rfl, Rl.mkNone (grown_trans G1.out g2) HP.out⟩
      | some z =>
        obtain ⟨c, r'⟩ := z
        obtain ⟨g2, rfl, r2⟩ := q2.some h2
        have hc := pB_lt h2
        have HP : Hid (pE l = pMany pA c r') := by
          show _ = _
          rw [pE, h1]; simp [h2]
        have G2 := Hid.mk' (grown_trans G1.out g2)
        have D2 := Hid.mk' r2
        clear g2 r2 q2 G1 D1
        obtain ⟨i0, hi, hz0, hz1, hz2⟩ := info_parts Tryd.infoAttrA
        go_wp2_with fail
        go_loopw [3, 9] (fun v i wr => ∃ (q : Nat) (xs : List Atr) (lq : List UInt8), q ≤ c ∧ xs.length = q ∧ i = .int .i64 q ∧ Hid (w.grownBy wr (some R)) ∧ Hid (Rd wr R lq) ∧ Hid (wr.ownsRow w.heap.size 37 4 v xs.length (acells xs)) ∧ Hid (pE l = (pMany pA (c - q) lq).map fun y => (xs ++ y.1, y.2))) (fun _ i _ => c - (intOf i).toNat)
        case atStart => exact ⟨0, [], r', by omega, rfl, rfl, G2, D2, World.ownsRow_nil _ _ _ _, by
          show _ = _
          rw [HP.out]; simp⟩
        case round =>
          clear G2 D2 HP
          obtain ⟨q, xs, lq, hq, hxq, rfl, G, D, O, E⟩ := hrel
          obtain ⟨va, vm, vk, rfl⟩ := owns_slice O.out
          have hnR : ∀ k, Value.ownBlock (.slice va vm vk) = some k → (some R : Option Nat) ≠ some k := fun k hk he => by
            have h5 := own_low O.out k hk
            injection he with he
            omega
          have HNR := Hid.mk' hnR
          clear hnR
          by_cases hlt : q < c
          · have ec : c - q = (c - (q + 1)) + 1 := by omega
            have hwr : R < wr.heap.size := Nat.lt_of_lt_of_le hRw G.out.size
            go_wp2_with fail
            refine (string_any u pv R lq _ hR D.out (HT.out.grown G.out hR)).mono ?_
            intro e w3 q3
            cases h3 : pS lq with
            | none =>
              obtain ⟨g3, rfl⟩ := q3.none h3
              have HP : Hid (pE l = none) := by
                show _ = _
                rw [E.out, ec, pMany, pA, h3]; rfl
              go_wp2_with fail
              exact ⟨rfl, Rl.mkNone (grown_trans G.out g3) HP.out⟩
            | some z3 =>
              obtain ⟨a, r3⟩ := z3
              obtain ⟨g3, rfl, d3⟩ := q3.some h3
              have G3 := Hid.mk' (grown_trans G.out g3)
              have O3 := Hid.mk' (owns_kept O.out g3 HNR.out)
              have D3 := Hid.mk' d3
              have hw3 : R < w3.heap.size := Nat.lt_of_lt_of_le hwr g3.size
              clear g3 d3 q3 G O D
              go_wp2_with fail
              refine (readValue_any u pv R r3 _ hR hw3 D3.out (HT.out.grown G3.out hR)).mono ?_
              intro e w4 q4
              cases h4 : pV r3 with
              | none =>
                obtain ⟨g4, rfl⟩ := q4.none h4
                have HP : Hid (pE l = none) := by
                  show _ = _
                  rw [E.out, ec, pMany, pA, h3]; simp [h4]
                go_wp2_with fail
                exact ⟨rfl, Rl.mkNone (grown_trans G3.out g4) HP.out⟩
              | some z4 =>
                obtain ⟨vl, r4⟩ := z4
                obtain ⟨g4, he4, d4⟩ := q4.some h4
                unfold Vl.val at he4
                subst he4
                have E4 : Hid (pE l = (pMany pA (c - (q + 1)) r4).map fun y => ((xs ++ [⟨str a, vl.k, vl.n, str vl.s⟩]) ++ y.1, y.2)) := by
                  show _ = _
                  rw [E.out, ec, pMany, pA, h3]; simp [h4, Function.comp_def]
                have G4 := Hid.mk' (grown_trans G3.out g4)
                have O4 := Hid.mk' (owns_kept O3.out g4 HNR.out)
                have D4 := Hid.mk' d4
                have hs4 : w.heap.size ≤ w4.heap.size := G4.out.size
                clear g4 d4 q4 G3 O3 D3 E
                go_wp2_with (at_builtin; refine wpList_append_own _ rfl _ _ 39 rfl w.heap.size 37 i0 _ 4 48 Tryd.underlying39 hi hz0 hz1 hz2 rfl (by decide) _ _ _ rfl (World.ownsRow.alloc O4.out _) ⟨w4.heap.size, 0, none⟩ 1 1 [.string (str a), .int .i64 vl.k, .int .i64 vl.n, .string (str vl.s)] rfl rfl (World.news_of_block (new_at rfl)) ?c2 ?c3 ?c4 ?c5 ?_)
                case c2 => intro t ht; simp at ht; rcases ht with rfl | rfl | rfl | rfl <;> rfl
                case c3 => unfold maxLen; omega
                case c4 => omega
                case c5 => simp; omega
                intro v5 w5 ho5 hg5 _
                have G5 : Hid (w.grownBy w5 (some R)) := by
                  refine ⟨hg5.os.trans G4.out.os, hg5.tape.trans G4.out.tape, hg5.output.trans G4.out.output, Nat.le_trans hs4 (Nat.le_trans (by simp) hg5.size), fun k hk hr => ?_⟩
                  rw [hg5.block k (by simp; omega) (fun he => by have := own_low O4.out k he.symm; omega), Below.heap_alloc _ _ _ (by omega)]
                  exact G4.out.block k hk hr
                have D5 : Hid (Rd w5 R r4) := grown_block hg5 (blk_gr ((Gr.refl w4).alloc _) D4.out) (fun he => HNR.out R he rfl)
                have O5 : Hid (w5.ownsRow w.heap.size 37 4 v5 (xs ++ [(⟨str a, vl.k, vl.n, str vl.s⟩ : Atr)]).length (acells (xs ++ [(⟨str a, vl.k, vl.n, str vl.s⟩ : Atr)]))) := by
                  show World.ownsRow _ _ _ _ _ _ _
                  rw [acells_snoc, List.length_append, hxq]; exact ho5
                obtain ⟨ya, ym, yk, rfl⟩ := owns_slice ho5
                clear ho5 hg5 G4 O4 D4
                go_wp2_with fail
                go_roundw
                case rel => exact ⟨q + 1, _, r4, by omega, by simp [hxq], by go_num, G5, D5, O5, E4⟩
                case measure => simp [intOf]; omega
          · have hqc : q = c := by omega
            have HP : Hid (pE l = some (xs, lq)) := by
              show _ = _
              rw [E.out, hqc, Nat.sub_self]; simp [pMany]
            go_wp2_with fail
            go_ret
            exact Rl.mkSome G.out HP.out O.out D.out
    · have HP : Hid (pE l = some ([], r)) := by
        show _ = _
        rw [pE, h1]; simp [hb1]
      have e1 : ((b : Int) == 69) = false := by simp; omega
      go_wp2_with fail
      go_ret
      exact Rl.mkSome G1.out HP.out (World.ownsRow_nil _ _ _ _) D1.out
end Go.Proofs.YtecnfgikbmcgoaaDoor
namespace Go.Proofs.YtecnfgikbmcgoaaDoor
open Go.RowKit

/-- The document's scan: what is left, or that there were too few. -/
def Sn (w : World) (S : Nat) (L : List UInt8) (st : Option (List UInt8)) : Prop :=
  ∃ i : Nat, i ≤ L.length ∧ w.heap[S]? = some (.cells #[.string (str L), .int .i64 i, .bool st.isNone] 117 (0, 0)) ∧ ∀ r, st = some r → r = L.drop i
def sT (n : Nat) : Option (List UInt8) → List UInt8 × Option (List UInt8)
  | none => ([], none)
  | some r => if n ≤ r.length then (r.take n, some (r.drop n)) else ([], none)
def sB : Option (List UInt8) → Nat × Option (List UInt8)
  | some (b :: r) => (b.toNat, some r)
  | _ => (0, none)
def fN (l : List UInt8) : Int := l.foldl (fun a b => stp a b.toNat) 0
def sV (st : Option (List UInt8)) : Vl × Option (List UInt8) :=
  if (sB st).1 = 1 then (⟨1, fN (sT 8 (sB st).2).1, []⟩, (sT 8 (sB st).2).2)
  else if (sB st).1 = 2 then (⟨2, 0, (sT (sB (sB st).2).1 (sB (sB st).2).2).1⟩, (sT (sB (sB st).2).1 (sB (sB st).2).2).2)
  else if (sB st).1 = 3 then (⟨3, (sB (sB st).2).1, []⟩, (sB (sB st).2).2)
  else (⟨(sB st).1, 0, []⟩, (sB st).2)
theorem sB_lt (st : Option (List UInt8)) : (sB st).1 < 256 := by
  unfold sB
  split
  · exact UInt8.toNat_lt _
  · decide
theorem Sn.gr {w w' : World} {S : Nat} {L : List UInt8} {st : Option (List UInt8)} (h : Sn w S L st) (g : Gr w w') : Sn w' S L st := by
  obtain ⟨i, h1, h2, h3⟩ := h
  exact ⟨i, h1, blk_gr g h2, h3⟩
theorem Sn.set {w : World} {S B j : Nat} {L : List UInt8} {st : Option (List UInt8)} (h : Sn w S L st) (hB : S ≠ B) (u : Value) : Sn (w.setCell ⟨B, j, none⟩ u) S L st := by
  obtain ⟨i, h1, h2, h3⟩ := h
  exact ⟨i, h1, blk_set h2 (p := ⟨B, j, none⟩) hB u, h3⟩
theorem Sn.grown {w w' : World} {S : Nat} {R : Option Nat} {L : List UInt8} {st : Option (List UInt8)} (h : Sn w S L st) (g : w.grownBy w' R) (hR : R ≠ some S) : Sn w' S L st := by
  obtain ⟨i, h1, h2, h3⟩ := h
  exact ⟨i, h1, grown_block g h2 hR, h3⟩
theorem str_mid (L : List UInt8) (i n : Nat) : (str L).extract i (i + n) = str ((L.drop i).take n) := by
  apply ByteArray.ext
  simp [str, ByteArray.data_extract]
theorem grown_drewN {w w' : World} {r : Option Nat} (g : w.grownBy w' r) (n : Nat) : w.grownBy (w'.drewN n) r := ⟨g.os, g.tape, g.output, g.size, g.block⟩
theorem grown_setN {w : World} {R j : Nat} (n : Nat) (u : Value) : w.grownBy ((w.drewN n).setCell ⟨R, j, none⟩ u) (some R) :=
  grown_trans (grown_drewN (grown_refl w (some R)) n) (grown_set (w := w.drewN n) u)
set_option maxRecDepth 100000 in
set_option maxHeartbeats 4000000 in
theorem scTake_any (S : Nat) (L : List UInt8) (st : Option (List UInt8)) (n : Nat) (w : World) (hL : L.length ≤ 1152921504606846976) (hn : n ≤ 255) (h : Sn w S L st) :
    Calls Tryd.prog 61 #[.pointer (some ⟨S, 0, none⟩), .int .i64 n] w fun e w' => e = .returned (.string (str (sT n st).1)) ∧ Sn w' S L (sT n st).2 ∧ w.grownBy w' (some S) := by
  obtain ⟨i, hi, hb, hr⟩ := h
  have HB := Hid.mk' hb
  have HR := Hid.mk' hr
  clear hb hr
  have c0 : w.cell? ⟨S, 0, none⟩ = some (.string (str L)) := by rw [cell_of_row _ _ _ _ _ _ HB.out]; rfl
  have c1 : w.cell? ⟨S, 1, none⟩ = some (.int .i64 i) := by rw [cell_of_row _ _ _ _ _ _ HB.out]; rfl
  have c2 : w.cell? ⟨S, 2, none⟩ = some (.bool st.isNone) := by rw [cell_of_row _ _ _ _ _ _ HB.out]; rfl
  have f1 : w.frozen? ⟨S, 1, none⟩ = false := frozen_of_row _ _ _ _ _ HB.out
  have f2 : w.frozen? ⟨S, 2, none⟩ = false := frozen_of_row _ _ _ _ _ HB.out
  have hz := str_size L
  cases st with
  | none =>
    simp only [Option.isNone_none] at c2
    have BS := Hid.mk' (blk_set_same (j := 2) HB.out (.bool true))
    go_enter Tryd.func61, Tryd.ntmps61
    go_wp2_with fail
    go_quiet (fail)
    go_wp2_with fail

    go_ret
    exact ⟨rfl, ⟨i, hi, BS.out, fun r h => by cases h⟩, grown_setN _ _⟩
  | some r =>
    simp only [Option.isNone_some] at c2
    have hrl : r.length = L.length - i := by rw [HR.out r rfl]; simp
    have hw1 : wrap64 ((i : Int) + (n : Int)) = (i : Int) + (n : Int) := by unfold wrap64; omega
    by_cases hok : n ≤ r.length
    · have hlt : ¬ ((str L).size : Int) < (i : Int) + (n : Int) := by rw [hz]; omega
      have hw2 : wrap64 ((i : Int) + (n : Int) - (n : Int)) = (i : Int) := by unfold wrap64; omega
      have e1 : (sT n (some r)).1 = r.take n := by simp [sT, hok]
      have e2 : (sT n (some r)).2 = some (r.drop n) := by simp [sT, hok]
      have BS := Hid.mk' (blk_set_same (j := 1) HB.out (.int .i64 ((i : Int) + (n : Int))))
      rw [e1, e2]
      clear e1 e2
      go_enter Tryd.func61, Tryd.ntmps61
      go_wp2_with fail
      go_quiet (fail)
      go_wp2_with fail
      have hw3 : IntKind.i64.wrap ((i : Int) + (n : Int) - (n : Int)) = (i : Int) := by rw [IntKind.wrap_i64]; omega
      have hs1 : (i : Int) ≤ (i : Int) + (n : Int) := by omega
      have hs2 : (i : Int) + (n : Int) ≤ ((str L).size : Int) := by rw [hz]; omega
      have hs3 : i + n ≤ (str L).size := by omega
      go_quiet (fail)
      go_wp2_with fail
      go_ret
      refine ⟨?_, ⟨i + n, by omega, ?_, ?_⟩, grown_drewN (grown_setN _ _) _⟩
      · show Ending.returned (.string _) = _
        rw [HR.out r rfl, ← str_mid]
      · rw [Int.natCast_add]; exact BS.out
      · intro r' h
        injection h with h
        rw [← h, HR.out r rfl, List.drop_drop]
    · have hlt : ((str L).size : Int) < (i : Int) + (n : Int) := by rw [hz]; omega
      have e1 : (sT n (some r)).1 = [] := by simp [sT, hok]
      have e2 : (sT n (some r)).2 = none := by simp [sT, hok]
      have BS := Hid.mk' (blk_set_same (j := 2) HB.out (.bool true))
      rw [e1, e2]
      clear e1 e2
      go_enter Tryd.func61, Tryd.ntmps61
      go_wp2_with fail
      go_quiet (fail)
      go_wp2_with fail
      go_ret
      exact ⟨rfl, ⟨i, hi, BS.out, fun r h => by cases h⟩, grown_setN _ _⟩
theorem sB_eq (st : Option (List UInt8)) : sB st = (match (sT 1 st).1 with | [] => 0 | b :: _ => b.toNat, (sT 1 st).2) := by
  match st with
  | none => rfl
  | some [] => rfl
  | some (b :: r) => simp [sB, sT]
set_option maxRecDepth 100000 in
set_option maxHeartbeats 4000000 in
theorem scOne_any (S : Nat) (L : List UInt8) (st : Option (List UInt8)) (w : World) (hL : L.length ≤ 1152921504606846976) (h : Sn w S L st) :
    Calls Tryd.prog 60 #[.pointer (some ⟨S, 0, none⟩)] w fun e w' => e = .returned (.int .i64 (sB st).1) ∧ Sn w' S L (sB st).2 ∧ w.grownBy w' (some S) := by
  have HE := Hid.mk' (sB_eq st)
  go_enter Tryd.func60, Tryd.ntmps60
  go_wp2_with fail
  refine (scTake_any S L st 1 w hL (by omega) h).mono ?_
  rintro e w1 ⟨rfl, s1, g1⟩
  have HS := Hid.mk' s1
  have HG := Hid.mk' g1
  clear s1 g1 h
  cases hx : (sT 1 st).1 with
  | nil =>
    have hs : (str []).toList = [] := by rw [ByteArray.toList_eq]; rfl
    go_wp2_with fail
    go_ret
    refine ⟨?_, ?_, HG.out⟩
    · rw [HE.out, hx]; rfl
    · rw [HE.out]; exact HS.out
  | cons b t =>
    have ht : t = [] := by
      have hl : (sT 1 st).1.length ≤ 1 := by
        unfold sT
        split
        · simp
        · split
          · simp; omega
          · simp
      rw [hx] at hl
      cases t with
      | nil => rfl
      | cons _ _ => simp at hl
    subst ht
    have hs : (str [b]).toList = [b] := by rw [ByteArray.toList_eq]; rfl
    have hz := str_size [b]
    go_wp2_with fail
    go_ret
    refine ⟨?_, ?_, HG.out⟩
    · rw [HE.out, hx]
      show Ending.returned (.int .i64 (wrap64 ((b.toNat : Nat) : Int))) = .returned (.int .i64 ((b.toNat : Nat) : Int))
      have h8 : b.toNat < 256 := b.toNat_lt
      generalize b.toNat = x at h8
      rw [wr_byte x h8]
    · rw [HE.out]; exact HS.out
end Go.Proofs.YtecnfgikbmcgoaaDoor
