import Derived.Test.YtecnfgikbmcgoaaDoorUd
namespace Go.Proofs.YtecnfgikbmcgoaaDoor
open Go.RowKit

def encW (x : Wnt) : List UInt8 := encS x.a ++ UInt8.ofNat x.y.toNat :: (if x.y = 1 then [] else encV x.k x.n x.s)
def encF (l : List Wnt) : List UInt8 := 70 :: UInt8.ofNat l.length :: l.flatMap encW
theorem fi_len {l : List Wnt} (h : filterOk l = true) : 1 ≤ l.length ∧ l.length ≤ 6 := by
  simp only [filterOk, Bool.and_eq_true, decide_eq_true_eq] at h
  omega
theorem fi_at {l : List Wnt} (h : filterOk l = true) {i : Nat} (hi : i < l.length) : nameOk (wat l i).a = true ∧ wayOk (wat l i).y (wat l i).k (wat l i).n (wat l i).s = true := by
  have := (fi_ok_of h).1 _ (wat_mem hi)
  simpa [wOk, wantOk] using this
theorem flatW_take (l : List Wnt) (i : Nat) (h : i < l.length) : (l.take (i + 1)).flatMap encW = (l.take i).flatMap encW ++ encW (wat l i) := by
  have e : wat l i = l[i] := by simp [wat, List.getD_eq_getElem?_getD, List.getElem?_eq_getElem h]
  rw [List.take_succ_eq_append_getElem h, List.flatMap_append, e]; simp
theorem drew_at {W : World} {o : Obj} {B : Nat} (h : W.heap[B]? = some o) : W.drew.heap[B]? = some o := h
theorem encW_le {x : Wnt} (h1 : nameOk x.a = true) (h3 : wayOk x.y x.k x.n x.s = true) : (encW x).length ≤ 52 := by
  have h2 := name_size' h1
  simp only [encW, List.length_append, encS_len, List.length_cons]
  by_cases hy : x.y = 1
  · simp [hy]; omega
  · have := encV_len (k := x.k) (n := x.n) (val_sz (way_val h3 hy))
    simp [hy]; omega
theorem way_bd {y k n : Int} {s : ByteArray} (h : wayOk y k n s = true) : 1 ≤ y ∧ y ≤ 10 := by
  by_cases hy : y < 1 ∨ 10 < y
  · rw [wayOk_out y k n s hy] at h; cases h
  · omega
set_option maxRecDepth 100000 in
set_option maxHeartbeats 4000000 in
theorem putFilter_any (l : List Wnt) (ad : Option Addr) (cap : Nat) (base : Nat) (w : World) (hle : base ≤ w.heap.size) (h : FiAt w ad l) (hE : ∀ b off, ad = some ⟨b, off, none⟩ → b < base) (hok : filterOk l = true) :
    Calls Tryd.prog 30 #[.slice none 0 0, .slice ad l.length cap] w fun e w' => ∃ v', e = .returned v' ∧ Kp tsU base w w' ∧ Br base w' v' (encF l) := by
  have HO := Hid.mk' hok
  obtain ⟨h1, h6⟩ := fi_len hok
  rcases h with rfl | ⟨b, off, rfl, hb, hat⟩
  · simp at h1
  have hbb := hE b off rfl
  have HAT := Hid.mk' hat
  clear hat hok hE
  go_enter Tryd.func30, Tryd.ntmps30
  go_wp2_with (at_builtin; refine wp_bytes _ rfl _ _ rfl base [] [70, UInt8.ofNat l.length] _ [.int .u8 70, .int .u8 l.length] w.heap.size 2 rfl rfl (heap_alloc_new _ _) ?c1 rfl (World.ownsRow_nil _ _ _ _) (by simp) (by simp; omega) ?_)
  case c1 => simp [bcs]; omega
  intro a1 k1 c1 w1 O1 B1
  have O2 := Hid.mk' O1
  have B2 := Hid.mk' (((Kp.refl tsU base w).alloc hle _).trans B1)
  clear O1 B1
  go_wp2_with fail
  go_loopw [0, 15] (fun v i wr => ∃ q : Nat, q ≤ l.length ∧ i = .int .i64 q ∧ Hid (Kp tsU base w wr) ∧ Hid (Br base wr v ([70, UInt8.ofNat l.length] ++ (l.take q).flatMap encW)) ∧ Hid (((l.take q).flatMap encW).length ≤ q * 52)) (fun _ i _ => l.length - (intOf i).toNat)
  case atStart => exact ⟨0, Nat.zero_le _, rfl, B2, O2, by simp [Hid]⟩
  case round =>
    clear O2 B2
    obtain ⟨q, hq, rfl, B, O, L⟩ := hrel
    obtain ⟨xa, xm, xk, rfl⟩ := owns_slice O.out
    by_cases hlt : q < l.length
    · have hbw : b < wr.heap.size := Nat.lt_of_lt_of_le hb B.out.size
      obtain ⟨d1, d2, d3, d4, d5⟩ := HAT.out q hlt
      have ee : ∀ o, wr.cell? ⟨b, o, none⟩ = w.cell? ⟨b, o, none⟩ := fun o => B.out.be.cell (p := ⟨b, o, none⟩) hbb
      rw [← ee] at d1 d2 d3 d4 d5
      obtain ⟨hn1, hv1⟩ := fi_at HO.out hlt
      have HV := Hid.mk' hv1
      have hsn := name_size' hn1
      have hyb := way_bd hv1
      have hle1 : base ≤ wr.heap.size := Nat.le_trans hle B.out.size
      clear ee hv1
      go_wp2_with fail
      obtain ⟨wz, hz⟩ : ∃ wz, wz = wr.alloc (.cells #[.string (wat l q).a, .int .i64 (wat l q).y, .int .i64 (wat l q).k, .int .i64 (wat l q).n, .string (wat l q).s] 76) := ⟨_, rfl⟩
      have NZ : Hid (wz.heap[wr.heap.size]? = some (.cells #[.string (wat l q).a, .int .i64 (wat l q).y, .int .i64 (wat l q).k, .int .i64 (wat l q).n, .string (wat l q).s] 76 (0, 0))) := by
        show _ = _
        rw [hz]; exact heap_alloc_new _ _
      have BZ : Hid (Kp tsU base w wz) := by
        show Kp _ _ _ _
        rw [hz]; exact B.out.alloc hle1 _
      have OZ : Hid (Br base wz (.slice xa xm xk) ([70, UInt8.ofNat l.length] ++ (l.take q).flatMap encW)) := by
        show Br _ _ _ _
        rw [hz]; exact O.out.alloc _
      have hlz : base ≤ wz.heap.size := Nat.le_trans hle BZ.out.size
      rw [← hz]
      have T : Hid (∀ w', Kp tsU base wz w' → (Kp tsU base wz w' ∧ w'.cell? ⟨wr.heap.size, 0, none⟩ = some (.string (wat l q).a) ∧ w'.cell? ⟨wr.heap.size, 1, none⟩ = some (.int .i64 (wat l q).y))) := by
        intro w' hk
        have hb' := hk.kp _ _ _ _ NZ.out (by decide)
        refine ⟨hk, ?_, ?_⟩ <;> rw [cell_of_row _ _ _ _ _ _ hb'] <;> rfl
      have hLq : ([70, UInt8.ofNat l.length] ++ (l.take q).flatMap encW).length ≤ 500 := by
        have := L.out
        simp only [List.length_append, List.length_cons, List.length_nil]
        omega
      have hL5 : ([70, UInt8.ofNat l.length] ++ (l.take q).flatMap encW ++ encS (wat l q).a).length ≤ 600 := by
        rw [List.length_append, encS_len]; omega
      have HWY : Hid (IntKind.u8.wrap (wat l q).y = (wat l q).y) := IntWalk.u8_in _ (by omega)
      have hyc0 : [.int .u8 (IntKind.u8.wrap (wat l q).y)] = bcs [UInt8.ofNat (wat l q).y.toNat] := by
        rw [HWY.out]; simp [bcs]; omega
      have HYC := Hid.mk' hyc0
      clear hyc0
      have hvb : ∀ k, Value.ownBlock (.slice xa xm xk) = some k → k < wz.heap.size := by
        intro k hk
        rcases OZ.out.2 with ⟨hv, _⟩ | ⟨g, c', cur, hv, _, hh, _⟩
        · rw [hv] at hk; simp [Value.ownBlock] at hk
        · rw [hv] at hk
          have : g = k := by simpa [Value.ownBlock] using hk
          have := blk_lt hh; omega
      have HVB := Hid.mk' hvb
      clear hz d1 d2 d3 d4 d5 O B hvb
      go_region_held3 (fun w' => Kp tsU base wz w' ∧ w'.cell? ⟨wr.heap.size, 0, none⟩ = some (.string (wat l q).a) ∧ w'.cell? ⟨wr.heap.size, 1, none⟩ = some (.int .i64 (wat l q).y))
        (exact T.out _ (by first | assumption | exact (Kp.refl _ _ _).drew | exact Kp.refl _ _ _ | exact ((Kp.refl _ _ _).drew).alloc hlz _ | exact ((Kp.refl _ _ _).alloc hlz _).drew | exact Kp.alloc (by assumption) (by exact Nat.le_trans hlz (Kp.size (by assumption))) _)) (first
          | (go_at_call 53; refine (putString_s wz ([70, UInt8.ofNat l.length] ++ (l.take q).flatMap encW) _ _ base _ (by exact Nat.le_trans hLq (by decide)) (by omega) hlz (by first | exact OZ.out.drew | exact (OZ.out.drew).alloc _ | exact (OZ.out.alloc _).drew) (by exact (show Kp tsU base wz _ ∧ _ by assumption).1)).mono ?_; rintro e w5 ⟨s1, s2, s3, rfl, k5, o5, p5⟩; have O5 := Hid.mk' o5; have P5 := Hid.mk' p5; clear o5 p5)
          | (refine step_bytes _ rfl (.tmp 22) (.tmp 26) rfl base ([70, UInt8.ofNat l.length] ++ (l.take q).flatMap encW ++ encS (wat l q).a) [UInt8.ofNat (wat l q).y.toNat] _ [.int .u8 (IntKind.u8.wrap (wat l q).y)] _ 1 rfl rfl ?sb HYC.out rfl (by decide) ?sO (by exact Nat.le_trans (Nat.add_le_add_right hL5 1) (by decide)) ?sl ?_
             case sb => first | exact new_at rfl | exact P5.out _ _ (drew_at (new_at rfl)) (fun he => Nat.lt_irrefl _ (HVB.out _ he))
             case sO => first | exact O5.out | exact O5.out.alloc _
             case sl => exact Nat.le_trans hlz (Kp.size (show Kp tsU base wz _ ∧ _ by assumption).1)
             intro s4 s5 s6 w6 o6 k6
             have O6 := Hid.mk' o6
             have K6 : Kp tsU base wz w6 := (show Kp tsU base wz _ ∧ _ by assumption).1.trans k6
             clear o6 k6))
      all_goals
        have hb6 := Hid.mk' (K6.kp _ _ _ _ NZ.out (by decide))
        have B6 := Hid.mk' (BZ.out.trans K6)
        have y1 : w6.cell? ⟨wr.heap.size, 1, none⟩ = some (.int .i64 (wat l q).y) := by rw [cell_of_row _ _ _ _ _ _ hb6.out]; rfl
        have y2 : w6.cell? ⟨wr.heap.size, 2, none⟩ = some (.int .i64 (wat l q).k) := by rw [cell_of_row _ _ _ _ _ _ hb6.out]; rfl
        have y3 : w6.cell? ⟨wr.heap.size, 3, none⟩ = some (.int .i64 (wat l q).n) := by rw [cell_of_row _ _ _ _ _ _ hb6.out]; rfl
        have y4 : w6.cell? ⟨wr.heap.size, 4, none⟩ = some (.string (wat l q).s) := by rw [cell_of_row _ _ _ _ _ _ hb6.out]; rfl
        have hle6 : base ≤ w6.heap.size := Nat.le_trans hle B6.out.size
        have L6 : Hid (([70, UInt8.ofNat l.length] ++ (l.take q).flatMap encW ++ encS (wat l q).a ++ [UInt8.ofNat (wat l q).y.toNat]).length ≤ 700) := by
          show _ ≤ _
          rw [List.length_append]; simp only [List.length_cons, List.length_nil]; omega
        have hW := encW_le hn1 HV.out
        clear K6 P5 O5 k5 T OZ BZ NZ HVB
        by_cases hy1 : (wat l q).y = 1
        · have O7 : Hid (Br base w6 (.slice s4 s5 s6) ([70, UInt8.ofNat l.length] ++ (l.take (q + 1)).flatMap encW)) := by
            have := O6.out
            show Br _ _ _ _
            simpa [flatW_take l q hlt, encW, hy1, List.append_assoc] using this
          have L7 : Hid (((l.take (q + 1)).flatMap encW).length ≤ (q + 1) * 52) := by
            have := L.out
            show _ ≤ _
            rw [flatW_take l q hlt, List.length_append]; omega
          go_wp2_with fail
          go_roundw
          case rel => exact ⟨q + 1, by omega, by go_num, B6, O7, L7⟩
          case measure => simp [intOf]; omega
        · have hvo := way_val HV.out hy1
          go_wp2_with fail
          refine (putValue_any _ _ _ _ _ base w6 (by have := L6.out; exact Nat.le_trans this (by decide)) hvo hle6 O6.out).mono ?_
          rintro e w7 ⟨v7, rfl, k7, o7⟩
          have B7 := Hid.mk' (B6.out.trans k7)
          have O7 : Hid (Br base w7 v7 ([70, UInt8.ofNat l.length] ++ (l.take (q + 1)).flatMap encW)) := by
            show Br _ _ _ _
            simpa [flatW_take l q hlt, encW, hy1, List.append_assoc] using o7
          obtain ⟨za, zm, zk, rfl⟩ := owns_slice o7
          have L7 : Hid (((l.take (q + 1)).flatMap encW).length ≤ (q + 1) * 52) := by
            have := L.out
            show _ ≤ _
            rw [flatW_take l q hlt, List.length_append]; omega
          clear k7 o7 B6
          go_wp2_with fail
          go_roundw
          case rel => exact ⟨q + 1, by omega, by go_num, B7, O7, L7⟩
          case measure => simp [intOf]; omega
    · have hql : q = l.length := by omega
      subst hql
      rw [List.take_length] at O
      go_wp2_with fail
      go_ret
      exact ⟨_, rfl, B.out, O.out⟩
end Go.Proofs.YtecnfgikbmcgoaaDoor
