import Derived.Test.YtecnfgikbmcgoaaDoorG13
import Derived.Test.YtecnfgikbmcgoaaDoorG14
namespace Go.Proofs.YtecnfgikbmcgoaaDoor
open Go.RowKit

def pF (l : List UInt8) : Option (List Wnt × List UInt8) := (pB l).bind fun m => if m.1 = 70 then (pB m.2).bind fun c => pMany pW c.1 c.2 else some ([], m.2)
set_option maxRecDepth 100000 in
set_option maxHeartbeats 4000000 in
theorem readFilter_any (u : TypeId) (pv : Value) (R : Nat) (l : List UInt8) (w : World) (hR : 0 < R) (hRw : R < w.heap.size) (hr : Rd w R l) (ht : Te u pv w) :
    Calls Tryd.prog 41 #[.pointer (some ⟨R, 0, none⟩)] w (Rl u pv R w 76 5 wcells (pF l)) := by
  have HR := Hid.mk' hr
  have HT := Hid.mk' ht
  clear hr ht
  go_enter Tryd.func41, Tryd.ntmps41
  go_wp2_with fail
  refine (oneByte_any u pv R l _ HR.out HT.out).mono ?_
  intro e w1 q1
  cases h1 : pB l with
  | none =>
    obtain ⟨g1, rfl⟩ := q1.none h1
    have HP : Hid (pF l = none) := by
      show _ = _
      rw [pF, h1]; rfl
    go_wp2_with fail
    exact ⟨rfl, Rl.mkNone g1 HP.out⟩
  | some y =>
    obtain ⟨b, r⟩ := y
    obtain ⟨g1, rfl, r1⟩ := q1.some h1
    have hb := pB_lt h1
    have G1 := Hid.mk' g1
    have D1 := Hid.mk' r1
    clear g1 r1 q1
    by_cases hb1 : b = 70
    · subst hb1
      go_wp2_with fail
      refine (oneByte_any u pv R r _ D1.out (HT.out.grown G1.out hR)).mono ?_
      intro e w2 q2
      cases h2 : pB r with
      | none =>
        obtain ⟨g2, rfl⟩ := q2.none h2
        have HP : Hid (pF l = none) := by
          show _ = _
          rw [pF, h1]; simp [h2]
        go_wp2_with fail
        exact ⟨rfl, Rl.mkNone (grown_trans G1.out g2) HP.out⟩
      | some z =>
        obtain ⟨c, r'⟩ := z
        obtain ⟨g2, rfl, r2⟩ := q2.some h2
        have hc := pB_lt h2
        have HP : Hid (pF l = pMany pW c r') := by
          show _ = _
          rw [pF, h1]; simp [h2]
        have G2 := Hid.mk' (grown_trans G1.out g2)
        have D2 := Hid.mk' r2
        clear g2 r2 q2 G1 D1
        obtain ⟨i0, hi, hz0, hz1, hz2⟩ := info_parts Tryd.infoWantA
        go_wp2_with fail
        go_loopw [3, 9] (fun v i wr => ∃ (q : Nat) (xs : List Wnt) (lq : List UInt8), q ≤ c ∧ xs.length = q ∧ i = .int .i64 q ∧ Hid (w.grownBy wr (some R)) ∧ Hid (Rd wr R lq) ∧ Hid (wr.ownsRow w.heap.size 76 5 v xs.length (wcells xs)) ∧ Hid (pF l = (pMany pW (c - q) lq).map fun y => (xs ++ y.1, y.2))) (fun _ i _ => c - (intOf i).toNat)
        case atStart => exact ⟨0, [], r', by omega, rfl, rfl, G2, D2, World.ownsRow_nil _ _ _ _, by
          show _ = _
          rw [HP.out]; simp⟩
        case round =>
          clear G2 D2 HP
          obtain ⟨q, xs, lq, hq, hxq, rfl, G, D, O, E⟩ := hrel
          obtain ⟨va, vm, vk, rfl⟩ := owns_slice O.out
          have hnR : ∀ k, Value.ownBlock (.slice va vm vk) = some k → (some R : Option Nat) ≠ some k := fun k hk he => by
            have h5 := own_low O.out k hk
            injection he with he
            omega
          have HNR := Hid.mk' hnR
          clear hnR
          by_cases hlt : q < c
          · have ec : c - q = (c - (q + 1)) + 1 := by omega
            have hwr : R < wr.heap.size := Nat.lt_of_lt_of_le hRw G.out.size
            go_wp2_with fail
            refine (readWant_any u pv R lq _ hR hwr D.out (HT.out.grown G.out hR)).mono ?_
            intro e w4 q4
            cases h4 : pW lq with
            | none =>
              obtain ⟨g4, rfl⟩ := q4.none h4
              have HP : Hid (pF l = none) := by
                show _ = _
                rw [E.out, ec, pMany, h4]; rfl
              go_wp2_with fail
              exact ⟨rfl, Rl.mkNone (grown_trans G.out g4) HP.out⟩
            | some z4 =>
                obtain ⟨x, r4⟩ := z4
                obtain ⟨g4, he4, d4⟩ := q4.some h4
                unfold Wnt.val at he4
                subst he4
                have E4 : Hid (pF l = (pMany pW (c - (q + 1)) r4).map fun y => ((xs ++ [x]) ++ y.1, y.2)) := by
                  show _ = _
                  rw [E.out, ec, pMany, h4]; simp [Function.comp_def]
                have G4 := Hid.mk' (grown_trans G.out g4)
                have O4 := Hid.mk' (owns_kept O.out g4 HNR.out)
                have D4 := Hid.mk' d4
                have hs4 : w.heap.size ≤ w4.heap.size := G4.out.size
                clear g4 d4 q4 E G O D
                go_wp2_with (at_builtin; refine wpList_append_own _ rfl _ _ 43 rfl w.heap.size 76 i0 _ 5 56 Tryd.underlying43 hi hz0 hz1 hz2 rfl (by decide) _ _ _ rfl (World.ownsRow.alloc O4.out _) ⟨w4.heap.size, 0, none⟩ 1 1 [.string x.a, .int .i64 x.y, .int .i64 x.k, .int .i64 x.n, .string x.s] rfl rfl (World.news_of_block (new_at rfl)) ?c2 ?c3 ?c4 ?c5 ?_)
                case c2 => intro t ht; simp at ht; rcases ht with rfl | rfl | rfl | rfl | rfl <;> rfl
                case c3 => unfold maxLen; omega
                case c4 => omega
                case c5 => simp; omega
                intro v5 w5 ho5 hg5 _
                have G5 : Hid (w.grownBy w5 (some R)) := by
                  refine ⟨hg5.os.trans G4.out.os, hg5.tape.trans G4.out.tape, hg5.output.trans G4.out.output, Nat.le_trans hs4 (Nat.le_trans (by simp) hg5.size), fun k hk hr => ?_⟩
                  rw [hg5.block k (by simp; omega) (fun he => by have := own_low O4.out k he.symm; omega), Below.heap_alloc _ _ _ (by omega)]
                  exact G4.out.block k hk hr
                have D5 : Hid (Rd w5 R r4) := grown_block hg5 (blk_gr ((Gr.refl w4).alloc _) D4.out) (fun he => HNR.out R he rfl)
                have O5 : Hid (w5.ownsRow w.heap.size 76 5 v5 (xs ++ [x]).length (wcells (xs ++ [x]))) := by
                  show World.ownsRow _ _ _ _ _ _ _
                  rw [wcells_snoc, List.length_append, hxq]; exact ho5
                obtain ⟨ya, ym, yk, rfl⟩ := owns_slice ho5
                clear ho5 hg5 G4 O4 D4
                go_wp2_with fail
                go_roundw
                case rel => exact ⟨q + 1, _, r4, by omega, by simp [hxq], by go_num, G5, D5, O5, E4⟩
                case measure => simp [intOf]; omega
          · have hqc : q = c := by omega
            have HP : Hid (pF l = some (xs, lq)) := by
              show _ = _
              rw [E.out, hqc, Nat.sub_self]; simp [pMany]
            go_wp2_with fail
            go_ret
            exact Rl.mkSome G.out HP.out O.out D.out
    · have HP : Hid (pF l = some ([], r)) := by
        show _ = _
        rw [pF, h1]; simp [hb1]
      have e1 : ((b : Int) == 70) = false := by simp; omega
      go_wp2_with fail
      go_ret
      exact Rl.mkSome G1.out HP.out (World.ownsRow_nil _ _ _ _) D1.out
end Go.Proofs.YtecnfgikbmcgoaaDoor
namespace Go.Proofs.YtecnfgikbmcgoaaDoor
open Go.RowKit

theorem pB_mono {l r t : List UInt8} {n : Nat} (h : pB l = some (n, r)) : pB (l ++ t) = some (n, r ++ t) := by
  cases l with
  | nil => cases h
  | cons b l => simp [pB] at h ⊢; exact ⟨h.1, by rw [h.2]⟩
theorem pT_mono {n : Nat} {l x r t : List UInt8} (h : pT n l = some (x, r)) : pT n (l ++ t) = some (x, r ++ t) := by
  unfold pT at h ⊢
  split at h
  · rename_i hl
    injection h with h; injection h with h1 h2
    rw [if_pos (by simp; omega), List.take_append_of_le_length hl, List.drop_append_of_le_length hl, h1, h2]
  · cases h
theorem pS_mono {l x r t : List UInt8} (h : pS l = some (x, r)) : pS (l ++ t) = some (x, r ++ t) := by
  unfold pS at h ⊢
  cases h1 : pB l with
  | none => rw [h1] at h; cases h
  | some y =>
    obtain ⟨n, q⟩ := y
    rw [h1] at h
    rw [pB_mono h1]
    exact pT_mono h
theorem pNk_mono : ∀ (k : Nat) {x n : Int} {l r t : List UInt8}, pNk k x l = some (n, r) → pNk k x (l ++ t) = some (n, r ++ t)
  | 0, x, n, l, r, t, h => by
    simp only [pNk, Option.some.injEq, Prod.mk.injEq] at h ⊢
    exact ⟨h.1, by rw [h.2]⟩
  | k + 1, x, n, l, r, t, h => by
    simp only [pNk] at h ⊢
    cases h1 : pB l with
    | none => rw [h1] at h; cases h
    | some y =>
      obtain ⟨b, q⟩ := y
      rw [h1] at h
      rw [pB_mono h1]
      exact pNk_mono k h
theorem pN_mono {n : Int} {l r t : List UInt8} (h : pN l = some (n, r)) : pN (l ++ t) = some (n, r ++ t) := pNk_mono 8 h
theorem pV_mono {v : Vl} {l r t : List UInt8} (h : pV l = some (v, r)) : pV (l ++ t) = some (v, r ++ t) := by
  unfold pV at h ⊢
  cases h1 : pB l with
  | none => rw [h1] at h; cases h
  | some y =>
    obtain ⟨b, q⟩ := y
    rw [h1] at h
    rw [pB_mono h1]
    simp only [Option.bind_some] at h ⊢
    split at h
    · rename_i hb
      rw [if_pos hb]
      cases h2 : pN q with
      | none => rw [h2] at h; cases h
      | some z => rw [h2] at h; rw [pN_mono (n := z.1) (r := z.2) h2]; simp at h ⊢; exact ⟨h.1, by rw [h.2]⟩
    · rename_i hb
      rw [if_neg hb]
      split at h
      · rename_i hb2
        rw [if_pos hb2]
        cases h2 : pS q with
        | none => rw [h2] at h; cases h
        | some z => rw [h2] at h; rw [pS_mono (x := z.1) (r := z.2) h2]; simp at h ⊢; exact ⟨h.1, by rw [h.2]⟩
      · rename_i hb2
        rw [if_neg hb2]
        split at h
        · rename_i hb3
          rw [if_pos hb3]
          cases h2 : pB q with
          | none => rw [h2] at h; cases h
          | some z => rw [h2] at h; rw [pB_mono (n := z.1) (r := z.2) h2]; simp at h ⊢; exact ⟨h.1, by rw [h.2]⟩
        · rename_i hb3
          rw [if_neg hb3]
          simp at h ⊢; exact ⟨h.1, by rw [h.2]⟩
theorem pA_mono {z : Atr} {l r t : List UInt8} (h : pA l = some (z, r)) : pA (l ++ t) = some (z, r ++ t) := by
  unfold pA at h ⊢
  cases h1 : pS l with
  | none => rw [h1] at h; cases h
  | some y =>
    rw [h1] at h
    rw [pS_mono (x := y.1) (r := y.2) h1]
    simp only [Option.bind_some] at h ⊢
    cases h2 : pV y.2 with
    | none => rw [h2] at h; cases h
    | some v => rw [h2] at h; rw [pV_mono (v := v.1) (r := v.2) h2]; simp at h ⊢; exact ⟨h.1, by rw [h.2]⟩
theorem pW_mono {z : Wnt} {l r t : List UInt8} (h : pW l = some (z, r)) : pW (l ++ t) = some (z, r ++ t) := by
  unfold pW at h ⊢
  cases h1 : pS l with
  | none => rw [h1] at h; cases h
  | some y =>
    rw [h1] at h
    rw [pS_mono (x := y.1) (r := y.2) h1]
    simp only [Option.bind_some] at h ⊢
    cases h2 : pB y.2 with
    | none => rw [h2] at h; cases h
    | some b =>
      rw [h2] at h
      rw [pB_mono (n := b.1) (r := b.2) h2]
      simp only [Option.bind_some] at h ⊢
      split at h
      · rename_i hb
        rw [if_pos hb]
        simp at h ⊢; exact ⟨h.1, by rw [h.2]⟩
      · rename_i hb
        rw [if_neg hb]
        cases h3 : pV b.2 with
        | none => rw [h3] at h; cases h
        | some v => rw [h3] at h; rw [pV_mono (v := v.1) (r := v.2) h3]; simp at h ⊢; exact ⟨h.1, by rw [h.2]⟩
theorem pMany_mono {α : Type} {p : List UInt8 → Option (α × List UInt8)} (hp : ∀ {z : α} {l r t : List UInt8}, p l = some (z, r) → p (l ++ t) = some (z, r ++ t)) : ∀ (k : Nat) {xs : List α} {l r t : List UInt8}, pMany p k l = some (xs, r) → pMany p k (l ++ t) = some (xs, r ++ t)
  | 0, xs, l, r, t, h => by
    simp only [pMany, Option.some.injEq, Prod.mk.injEq] at h ⊢
    exact ⟨h.1, by rw [h.2]⟩
  | k + 1, xs, l, r, t, h => by
    simp only [pMany] at h ⊢
    cases h1 : p l with
    | none => rw [h1] at h; cases h
    | some y =>
      rw [h1] at h
      rw [hp (z := y.1) (r := y.2) h1]
      simp only [Option.bind_some] at h ⊢
      cases h2 : pMany p k y.2 with
      | none => rw [h2] at h; cases h
      | some v => rw [h2] at h; rw [pMany_mono hp k (xs := v.1) (r := v.2) h2]; simp at h ⊢; exact ⟨h.1, by rw [h.2]⟩
theorem pE_mono {x : List Atr} {l r t : List UInt8} (h : pE l = some (x, r)) : pE (l ++ t) = some (x, r ++ t) := by
  unfold pE at h ⊢
  cases h1 : pB l with
  | none => rw [h1] at h; cases h
  | some m =>
    rw [h1] at h
    rw [pB_mono (n := m.1) (r := m.2) h1]
    simp only [Option.bind_some] at h ⊢
    split at h
    · rename_i hb
      rw [if_pos hb]
      cases h2 : pB m.2 with
      | none => rw [h2] at h; cases h
      | some c =>
        rw [h2] at h
        rw [pB_mono (n := c.1) (r := c.2) h2]
        exact pMany_mono pA_mono _ h
    · rename_i hb
      rw [if_neg hb]
      simp at h ⊢; exact ⟨h.1, by rw [h.2]⟩
theorem pF_mono {x : List Wnt} {l r t : List UInt8} (h : pF l = some (x, r)) : pF (l ++ t) = some (x, r ++ t) := by
  unfold pF at h ⊢
  cases h1 : pB l with
  | none => rw [h1] at h; cases h
  | some m =>
    rw [h1] at h
    rw [pB_mono (n := m.1) (r := m.2) h1]
    simp only [Option.bind_some] at h ⊢
    split at h
    · rename_i hb
      rw [if_pos hb]
      cases h2 : pB m.2 with
      | none => rw [h2] at h; cases h
      | some c =>
        rw [h2] at h
        rw [pB_mono (n := c.1) (r := c.2) h2]
        exact pMany_mono pW_mono _ h
    · rename_i hb
      rw [if_neg hb]
      simp at h ⊢; exact ⟨h.1, by rw [h.2]⟩
end Go.Proofs.YtecnfgikbmcgoaaDoor
namespace Go.Proofs.YtecnfgikbmcgoaaDoor
open Go.RowKit

theorem pS_len {l x r : List UInt8} (h : pS l = some (x, r)) : x.length ≤ 255 := by
  unfold pS at h
  cases h1 : pB l with
  | none => rw [h1] at h; cases h
  | some y =>
    rw [h1] at h
    have := pB_lt (n := y.1) (r := y.2) h1
    have := pT_len h
    omega
theorem wrap_bd (x : Int) : minI ≤ wrap64 x ∧ wrap64 x ≤ maxI := by
  unfold wrap64 minI maxI; omega
theorem pNk_bd : ∀ (k : Nat) {x n : Int} {l r : List UInt8}, (minI ≤ x ∧ x ≤ maxI) → pNk k x l = some (n, r) → minI ≤ n ∧ n ≤ maxI
  | 0, x, n, l, r, hx, h => by
    simp only [pNk, Option.some.injEq, Prod.mk.injEq] at h
    rw [← h.1]; exact hx
  | k + 1, x, n, l, r, _, h => by
    simp only [pNk] at h
    cases h1 : pB l with
    | none => rw [h1] at h; cases h
    | some y => rw [h1] at h; exact pNk_bd k (wrap_bd _) h
theorem pV_wf {v : Vl} {l r : List UInt8} (h : pV l = some (v, r)) : v.s.length ≤ 255 ∧ minI ≤ v.n ∧ v.n ≤ maxI := by
  unfold pV at h
  cases h1 : pB l with
  | none => rw [h1] at h; cases h
  | some y =>
    rw [h1] at h
    simp only [Option.bind_some] at h
    have hz : minI ≤ (0 : Int) ∧ (0 : Int) ≤ maxI := by unfold minI maxI; omega
    split at h
    · cases h2 : pN y.2 with
      | none => rw [h2] at h; cases h
      | some z =>
        rw [h2] at h
        have hb := pNk_bd 8 (n := z.1) (r := z.2) hz h2
        simp at h; rw [← h.1]; exact ⟨by simp, hb⟩
    · split at h
      · cases h2 : pS y.2 with
        | none => rw [h2] at h; cases h
        | some z =>
          rw [h2] at h
          have hb := pS_len (x := z.1) (r := z.2) h2
          simp at h; rw [← h.1]; exact ⟨hb, hz⟩
      · split at h
        · cases h2 : pB y.2 with
          | none => rw [h2] at h; cases h
          | some z =>
            rw [h2] at h
            have hb := pB_lt (n := z.1) (r := z.2) h2
            simp at h; rw [← h.1]
            refine ⟨by simp, ?_⟩
            show minI ≤ (z.1 : Int) ∧ (z.1 : Int) ≤ maxI
            unfold minI maxI; omega
        · simp at h; rw [← h.1]; exact ⟨by simp, hz⟩
theorem str_wf {x : List UInt8} (h : x.length ≤ 255) : (str x).size ≤ maxLen := by rw [str_size]; unfold maxLen; omega
theorem pA_wf {z : Atr} {l r : List UInt8} (h : pA l = some (z, r)) : z.Wf := by
  unfold pA at h
  cases h1 : pS l with
  | none => rw [h1] at h; cases h
  | some y =>
    rw [h1] at h
    simp only [Option.bind_some] at h
    cases h2 : pV y.2 with
    | none => rw [h2] at h; cases h
    | some v =>
      rw [h2] at h
      have a1 := pS_len (x := y.1) (r := y.2) h1
      have a2 := pV_wf (v := v.1) (r := v.2) h2
      simp at h; rw [← h.1]
      exact ⟨str_wf a1, str_wf a2.1, a2.2.1, a2.2.2⟩
theorem pW_wf {z : Wnt} {l r : List UInt8} (h : pW l = some (z, r)) : z.Wf := by
  unfold pW at h
  cases h1 : pS l with
  | none => rw [h1] at h; cases h
  | some y =>
    rw [h1] at h
    simp only [Option.bind_some] at h
    have a1 := pS_len (x := y.1) (r := y.2) h1
    cases h2 : pB y.2 with
    | none => rw [h2] at h; cases h
    | some b =>
      rw [h2] at h
      simp only [Option.bind_some] at h
      split at h
      · simp at h; rw [← h.1]
        exact ⟨str_wf a1, str_wf (by simp), by show minI ≤ (0 : Int); unfold minI; omega, by show (0 : Int) ≤ maxI; unfold maxI; omega⟩
      · cases h3 : pV b.2 with
        | none => rw [h3] at h; cases h
        | some v =>
          rw [h3] at h
          have a2 := pV_wf (v := v.1) (r := v.2) h3
          simp at h; rw [← h.1]
          exact ⟨str_wf a1, str_wf a2.1, a2.2.1, a2.2.2⟩
theorem pMany_wf {α : Type} {p : List UInt8 → Option (α × List UInt8)} {P : α → Prop} (hp : ∀ {z : α} {l r : List UInt8}, p l = some (z, r) → P z) : ∀ (k : Nat) {xs : List α} {l r : List UInt8}, pMany p k l = some (xs, r) → (∀ x ∈ xs, P x) ∧ xs.length = k
  | 0, xs, l, r, h => by
    simp only [pMany, Option.some.injEq, Prod.mk.injEq] at h
    rw [← h.1]; simp
  | k + 1, xs, l, r, h => by
    simp only [pMany] at h
    cases h1 : p l with
    | none => rw [h1] at h; cases h
    | some y =>
      rw [h1] at h
      simp only [Option.bind_some] at h
      cases h2 : pMany p k y.2 with
      | none => rw [h2] at h; cases h
      | some v =>
        rw [h2] at h
        obtain ⟨i1, i2⟩ := pMany_wf hp k (xs := v.1) (r := v.2) h2
        simp at h; rw [← h.1]
        refine ⟨fun x hx => ?_, by simp [i2]⟩
        rcases List.mem_cons.1 hx with rfl | hx
        · exact hp (z := y.1) (r := y.2) h1
        · exact i1 x hx
theorem pE_wf {x : List Atr} {l r : List UInt8} (h : pE l = some (x, r)) : (∀ z ∈ x, Atr.Wf z) ∧ x.length ≤ 255 := by
  unfold pE at h
  cases h1 : pB l with
  | none => rw [h1] at h; cases h
  | some m =>
    rw [h1] at h
    simp only [Option.bind_some] at h
    split at h
    · cases h2 : pB m.2 with
      | none => rw [h2] at h; cases h
      | some c =>
        rw [h2] at h
        have hc := pB_lt (n := c.1) (r := c.2) h2
        obtain ⟨i1, i2⟩ := pMany_wf (P := Atr.Wf) pA_wf _ h
        exact ⟨i1, by omega⟩
    · simp at h; rw [h.1]; simp
theorem pF_wf {x : List Wnt} {l r : List UInt8} (h : pF l = some (x, r)) : (∀ z ∈ x, Wnt.Wf z) ∧ x.length ≤ 255 := by
  unfold pF at h
  cases h1 : pB l with
  | none => rw [h1] at h; cases h
  | some m =>
    rw [h1] at h
    simp only [Option.bind_some] at h
    split at h
    · cases h2 : pB m.2 with
      | none => rw [h2] at h; cases h
      | some c =>
        rw [h2] at h
        have hc := pB_lt (n := c.1) (r := c.2) h2
        obtain ⟨i1, i2⟩ := pMany_wf (P := Wnt.Wf) pW_wf _ h
        exact ⟨i1, by omega⟩
    · simp at h; rw [h.1]; simp
end Go.Proofs.YtecnfgikbmcgoaaDoor
