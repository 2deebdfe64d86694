import Derived.Test.YtecnfgikbmcgoaaDoorUk
import Derived.Test.YtecnfgikbmcgoaaDoorZF
namespace Go.Proofs.YtecnfgikbmcgoaaDoor
open Go.RowKit

def pF (l : List UInt8) : Option (List Wnt × List UInt8) := (pB l).bind fun m => if m.1 = 70 then (pB m.2).bind fun c => pMany pW c.1 c.2 else some ([], m.2)
set_option maxRecDepth 100000 in
set_option maxHeartbeats 4000000 in
theorem readFilter_any (u : TypeId) (pv : Value) (R : Nat) (l : List UInt8) (w : World) (hR : 0 < R) (hRw : R < w.heap.size) (hr : Rd w R l) (ht : Te u pv w) :
    Calls Tryd.prog 41 #[.pointer (some ⟨R, 0, none⟩)] w (Rl u pv R w 76 5 wcells (pF l)) := by
  have HR := Hid.mk' hr
  have HT := Hid.mk' ht
  clear hr ht
  go_enter Tryd.func41, Tryd.ntmps41
  go_wp2_with fail
  refine (oneByte_any u pv R l _ HR.out HT.out).mono ?_
  intro e w1 q1
  cases h1 : pB l with
  | none =>
    obtain ⟨g1, rfl⟩ := q1.none h1
    have HP : Hid (pF l = none) := by
      show _ = _
      rw [pF, h1]; rfl
    go_wp2_with fail
    exact ⟨rfl, Rl.mkNone g1 HP.out⟩
  | some y =>
    obtain ⟨b, r⟩ := y
    obtain ⟨g1, rfl, r1⟩ := q1.some h1
    have hb := pB_lt h1
    have G1 := Hid.mk' g1
    have D1 := Hid.mk' r1
    clear g1 r1 q1
    by_cases hb1 : b = 70
    · subst hb1
      go_wp2_with fail
      refine (oneByte_any u pv R r _ D1.out (HT.out.grown G1.out hR)).mono ?_
      intro e w2 q2
      cases h2 : pB r with
      | none =>
        obtain ⟨g2, rfl⟩ := q2.none h2
        have HP : Hid (pF l = none) := by
          show _ = _
          rw [pF, h1]; simp [h2]
        go_wp2_with fail
        exact ⟨rfl, Rl.mkNone (grown_trans G1.out g2) HP.out⟩
      | some z =>
        obtain ⟨c, r'⟩ := z
        obtain ⟨g2, rfl, r2⟩ := q2.some h2
        have hc := pB_lt h2
        have HP : Hid (pF l = pMany pW c r') := by
          show _ = _
          rw [pF, h1]; simp [h2]
        have G2 := Hid.mk' (grown_trans G1.out g2)
        have D2 := Hid.mk' r2
        clear g2 r2 q2 G1 D1
        obtain ⟨i0, hi, hz0, hz1, hz2⟩ := info_parts Tryd.infoWantA
        go_wp2_with fail
        go_loopw [3, 9] (fun v i wr => ∃ (q : Nat) (xs : List Wnt) (lq : List UInt8), q ≤ c ∧ xs.length = q ∧ i = .int .i64 q ∧ Hid (w.grownBy wr (some R)) ∧ Hid (Rd wr R lq) ∧ Hid (wr.ownsRow w.heap.size 76 5 v xs.length (wcells xs)) ∧ Hid (pF l = (pMany pW (c - q) lq).map fun y => (xs ++ y.1, y.2))) (fun _ i _ => c - (intOf i).toNat)
        case atStart => exact ⟨0, [], r', by omega, rfl, rfl, G2, D2, World.ownsRow_nil _ _ _ _, by
          show _ = _
          rw [HP.out]; simp⟩
        case round =>
          clear G2 D2 HP
          obtain ⟨q, xs, lq, hq, hxq, rfl, G, D, O, E⟩ := hrel
          obtain ⟨va, vm, vk, rfl⟩ := owns_slice O.out
          have hnR : ∀ k, Value.ownBlock (.slice va vm vk) = some k → (some R : Option Nat) ≠ some k := fun k hk he => by
            have h5 := own_low O.out k hk
            injection he with he
            omega
          have HNR := Hid.mk' hnR
          clear hnR
          by_cases hlt : q < c
          · have ec : c - q = (c - (q + 1)) + 1 := by omega
            have hwr : R < wr.heap.size := Nat.lt_of_lt_of_le hRw G.out.size
            go_wp2_with fail
            refine (readWant_any u pv R lq _ hR hwr D.out (HT.out.grown G.out hR)).mono ?_
            intro e w4 q4
            cases h4 : pW lq with
            | none =>
              obtain ⟨g4, rfl⟩ := q4.none h4
              have HP : Hid (pF l = none) := by
                show _ = _
                rw [E.out, ec, pMany, h4]; rfl
              go_wp2_with fail
              exact ⟨rfl, Rl.mkNone (grown_trans G.out g4) HP.out⟩
            | some z4 =>
                obtain ⟨x, r4⟩ := z4
                obtain ⟨g4, he4, d4⟩ := q4.some h4
                unfold Wnt.val at he4
                subst he4
                have E4 : Hid (pF l = (pMany pW (c - (q + 1)) r4).map fun y => ((xs ++ [x]) ++ y.1, y.2)) := by
                  show _ = _
                  rw [E.out, ec, pMany, h4]; simp [Function.comp_def]
                have G4 := Hid.mk' (grown_trans G.out g4)
                have O4 := Hid.mk' (owns_kept O.out g4 HNR.out)
                have D4 := Hid.mk' d4
                have hs4 : w.heap.size ≤ w4.heap.size := G4.out.size
                clear g4 d4 q4 E G O D
                go_wp2_with (at_builtin; refine wpList_append_own _ rfl _ _ 43 rfl w.heap.size 76 i0 _ 5 56 Tryd.underlying43 hi hz0 hz1 hz2 rfl (by decide) _ _ _ rfl (World.ownsRow.alloc O4.out _) ⟨w4.heap.size, 0, none⟩ 1 1 [.string x.a, .int .i64 x.y, .int .i64 x.k, .int .i64 x.n, .string x.s] rfl rfl (World.news_of_block (new_at rfl)) ?c2 ?c3 ?c4 ?c5 ?_)
                case c2 => intro t ht; simp at ht; rcases ht with rfl | rfl | rfl | rfl | rfl <;> rfl
                case c3 => unfold maxLen; omega
                case c4 => omega
                case c5 => simp; omega
                intro v5 w5 ho5 hg5 _
                have G5 : Hid (w.grownBy w5 (some R)) := by
                  refine ⟨hg5.os.trans G4.out.os, hg5.tape.trans G4.out.tape, hg5.output.trans G4.out.output, Nat.le_trans hs4 (Nat.le_trans (by simp) hg5.size), fun k hk hr => ?_⟩
                  rw [hg5.block k (by simp; omega) (fun he => by have := own_low O4.out k he.symm; omega), Below.heap_alloc _ _ _ (by omega)]
                  exact G4.out.block k hk hr
                have D5 : Hid (Rd w5 R r4) := grown_block hg5 (blk_gr ((Gr.refl w4).alloc _) D4.out) (fun he => HNR.out R he rfl)
                have O5 : Hid (w5.ownsRow w.heap.size 76 5 v5 (xs ++ [x]).length (wcells (xs ++ [x]))) := by
                  show World.ownsRow _ _ _ _ _ _ _
                  rw [wcells_snoc, List.length_append, hxq]; exact ho5
                obtain ⟨ya, ym, yk, rfl⟩ := owns_slice ho5
                clear ho5 hg5 G4 O4 D4
                go_wp2_with fail
                go_roundw
                case rel => exact ⟨q + 1, _, r4, by omega, by simp [hxq], by go_num, G5, D5, O5, E4⟩
                case measure => simp [intOf]; omega
          · have hqc : q = c := by omega
            have HP : Hid (pF l = some (xs, lq)) := by
              show _ = _
              rw [E.out, hqc, Nat.sub_self]; simp [pMany]
            go_wp2_with fail
            go_ret
            exact Rl.mkSome G.out HP.out O.out D.out
    · have HP : Hid (pF l = some ([], r)) := by
        show _ = _
        rw [pF, h1]; simp [hb1]
      have e1 : ((b : Int) == 70) = false := by simp; omega
      go_wp2_with fail
      go_ret
      exact Rl.mkSome G1.out HP.out (World.ownsRow_nil _ _ _ _) D1.out
end Go.Proofs.YtecnfgikbmcgoaaDoor
