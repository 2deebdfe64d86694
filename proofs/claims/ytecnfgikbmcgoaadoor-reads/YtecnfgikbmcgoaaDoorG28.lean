import Derived.Test.YtecnfgikbmcgoaaDoorG27
import Derived.Deep.RegionHeld3
import Derived.Test.YtecnfgikbmcgoaaDoorG15
namespace Go.Proofs.YtecnfgikbmcgoaaDoor
open Go.RowKit

theorem b1_small (n : Int) : b1 n = UInt8.ofNat (n % 256).toNat := rfl
set_option maxRecDepth 100000 in
set_option maxHeartbeats 4000000 in
theorem written2 (n : Int) (s : ByteArray) (w : World) (hs : s.size ≤ 32) : Calls Tryd.prog 39 #[.agg #[.int .i64 2, .int .i64 n, .string s]] w fun e w' => e = .returned (.string (str (encV 2 n s))) ∧ Gr w w' := by
  have hz := one_size (b1 2)
  have hz2 := str_size (encS s)
  rw [encS_len] at hz2
  have hm : 1 + (s.size + 1) ≤ 9223372036854775807 := by omega
  have hap := str_app [b1 2] (encS s)
  go_enter Tryd.func39, Tryd.ntmps39
  go_wp2_with fail
  refine (byteOf_any 2 _).mono ?_
  rintro e w1 ⟨rfl, g1⟩
  have G1 := Hid.mk' g1
  obtain ⟨c0, c1, c2⟩ := rv_cells g1
  clear g1
  go_wp2_with fail
  refine (text_any s _ (by omega)).mono ?_
  rintro e w2 ⟨rfl, g2⟩
  have G2 := Hid.mk' (Gr.call G1.out g2)
  clear g2
  go_wp2_with fail
  go_ret
  exact ⟨rfl, Gr.call ((Gr.refl w).alloc _) G2.out⟩
set_option maxRecDepth 100000 in
set_option maxHeartbeats 4000000 in
theorem written3 (n : Int) (s : ByteArray) (w : World) (h0 : 0 ≤ n) (h1 : n ≤ 1) : Calls Tryd.prog 39 #[.agg #[.int .i64 3, .int .i64 n, .string s]] w fun e w' => e = .returned (.string (str (encV 3 n s))) ∧ Gr w w' := by
  have hz := one_size (b1 3)
  have hz2 := one_size (b1 n)
  have hap := str_app [b1 3] [b1 n]
  have hb : b1 n = UInt8.ofNat n.toNat := by unfold b1; congr 2; omega
  go_enter Tryd.func39, Tryd.ntmps39
  go_wp2_with fail
  refine (byteOf_any 3 _).mono ?_
  rintro e w1 ⟨rfl, g1⟩
  have G1 := Hid.mk' g1
  obtain ⟨c0, c1, c2⟩ := rv_cells g1
  clear g1
  have HB := Hid.mk' hb
  clear hb
  go_wp2_with fail
  refine (byteOf_any n _).mono ?_
  rintro e w2 ⟨rfl, g2⟩
  have G2 := Hid.mk' (Gr.call G1.out g2)
  clear g2
  go_wp2_with fail
  go_ret
  refine ⟨?_, Gr.call ((Gr.refl w).alloc _) G2.out⟩
  show Ending.returned (.string (str [b1 3, b1 n])) = _
  rw [HB.out]
  rfl
theorem written_any (k n : Int) (s : ByteArray) (w : World) (hok : valOk k n s = true) : Calls Tryd.prog 39 #[.agg #[.int .i64 k, .int .i64 n, .string s]] w fun e w' => e = .returned (.string (str (encV k n s))) ∧ Gr w w' := by
  rcases val_kind hok with rfl | rfl | rfl
  · exact written1 n s w
  · exact written2 n s w (val_sz hok)
  · simp [valOk] at hok
    exact written3 n s w (by omega) (by omega)
/-- The first so many attributes' bytes. -/
def eP (l : List Atr) (q : Nat) : List UInt8 := 69 :: UInt8.ofNat l.length :: (l.take q).flatMap encA
theorem eP_all (l : List Atr) : eP l l.length = encE l := by simp [eP, encE]
theorem eP_snoc (l : List Atr) (q : Nat) (h : q < l.length) : str (eP l q) ++ str (encS (aat l q).a) ++ str (encV (aat l q).k (aat l q).n (aat l q).s) = str (eP l (q + 1)) := by
  rw [str_app, str_app]
  simp only [eP, flat_take l q h, encA, List.cons_append, List.append_assoc]
theorem eP_len {l : List Atr} (h : evOk l = true) (q : Nat) (hq : q ≤ l.length) : (eP l q).length ≤ 2 + q * 51 := by
  induction q with
  | zero => simp [eP]
  | succ q ih =>
    have hv := ev_at h (i := q) (by omega)
    have := encA_le hv.1 (val_sz hv.2)
    have := ih (by omega)
    simp only [eP, flat_take l q (by omega), List.length_cons, List.length_append] at this ⊢
    omega
theorem text_s (wz : World) (s : ByteArray) (w : World) (hs : s.size ≤ 255) (h : Gr wz w) : Calls Tryd.prog 38 #[.string s] w fun e w' => e = .returned (.string (str (encS s))) ∧ Gr wz w' :=
  (text_any s w hs).mono fun _ _ ⟨h1, h2⟩ => ⟨h1, Gr.call h h2⟩
theorem written_s (wz : World) (k n : Int) (s : ByteArray) (w : World) (hok : valOk k n s = true) (h : Gr wz w) : Calls Tryd.prog 39 #[.agg #[.int .i64 k, .int .i64 n, .string s]] w fun e w' => e = .returned (.string (str (encV k n s))) ∧ Gr wz w' :=
  (written_any k n s w hok).mono fun _ _ ⟨h1, h2⟩ => ⟨h1, Gr.call h h2⟩
set_option maxRecDepth 100000 in
set_option maxHeartbeats 4000000 in
theorem refPutEvent_any (l : List Atr) (ad : Option Addr) (cap : Nat) (w : World) (h : EvAt w ad l) (hok : evOk l = true) :
    Calls Tryd.prog 16 #[.slice ad l.length cap] w fun e w' => e = .returned (.string (str (encE l))) ∧ Gr w w' := by
  have HO := Hid.mk' hok
  obtain ⟨h1, h8⟩ := ev_len hok
  rcases h with rfl | ⟨b, off, rfl, hb, hat⟩
  · simp at h1
  have HAT := Hid.mk' hat
  clear hat hok
  have hz1 := one_size (b1 69)
  have hz2 := one_size (b1 l.length)
  have hap := str_app [b1 69] [b1 l.length]
  have E0 : Hid (eP l 0 = [b1 69, b1 l.length]) := by
    show _ = _
    have e : ((l.length : Int) % 256).toNat = l.length := by omega
    simp [eP, b1, e]
  go_enter Tryd.func16, Tryd.ntmps16
  go_wp2_with fail
  refine (byteOf_any 69 _).mono ?_
  rintro e w1 ⟨rfl, g1⟩
  go_wp2_with fail
  refine (byteOf_any l.length _).mono ?_
  rintro e w2 ⟨rfl, g2⟩
  have G2 := Hid.mk' (Gr.call g1 g2)
  clear g1 g2
  go_wp2_with fail
  go_loopw [3, 4] (fun sv kv wr => ∃ q : Nat, q ≤ l.length ∧ sv = .string (str (eP l q)) ∧ kv = .int .i64 q ∧ Hid (Gr w wr)) (fun _ kv _ => l.length - (intOf kv).toNat)
  case atStart => exact ⟨0, by omega, by rw [E0.out], rfl, G2⟩
  case round =>
    obtain ⟨q, hq, rfl, rfl, G⟩ := hrel
    by_cases hlt : q < l.length
    · obtain ⟨d1, d2, d3, d4⟩ := HAT.out q hlt
      have hbw : b < wr.heap.size := G.out.lt hb
      have ee : ∀ o, wr.cell? ⟨b, o, none⟩ = w.cell? ⟨b, o, none⟩ := fun o => G.out.cell (p := ⟨b, o, none⟩) hb
      rw [← ee] at d1 d2 d3 d4
      have HV := Hid.mk' (ev_at HO.out hlt)
      clear ee
      have HSN := Hid.mk' (eP_snoc l q hlt)
      have hsn := name_size' HV.out.1
      have p1 := str_size (eP l q)
      have p2 := str_size (encS (aat l q).a)
      have p3 := str_size (encV (aat l q).k (aat l q).n (aat l q).s)
      have p4 := eP_len HO.out q hq
      have p5 := encV_len (k := (aat l q).k) (n := (aat l q).n) (val_sz HV.out.2)
      rw [encS_len] at p2
      obtain ⟨lp, z1⟩ : ∃ lp, (str (eP l q)).size = lp := ⟨_, rfl⟩
      obtain ⟨la, z2⟩ : ∃ la, (str (encS (aat l q).a)).size = la := ⟨_, rfl⟩
      obtain ⟨lv, z3⟩ : ∃ lv, (str (encV (aat l q).k (aat l q).n (aat l q).s)).size = lv := ⟨_, rfl⟩
      have hm1 : ¬ 9223372036854775807 < lp + la := by omega
      have hm2 : ¬ 9223372036854775807 < lp + la + lv := by omega
      clear p1 p2 p3 p4 p5
      have T : Hid (∀ w', Gr wr w' → Gr wr w' ∧ w'.cell? ⟨b, off + q * 4, none⟩ = some (.string (aat l q).a) ∧ w'.cell? ⟨b, off + q * 4 + 1, none⟩ = some (.int .i64 (aat l q).k) ∧ w'.cell? ⟨b, off + q * 4 + 1 + 1, none⟩ = some (.int .i64 (aat l q).n) ∧ w'.cell? ⟨b, off + q * 4 + 1 + 1 + 1, none⟩ = some (.string (aat l q).s)) := by
        intro w' g'
        have e := fun o => g'.cell (p := ⟨b, o, none⟩) hbw
        rw [e, e, e, e]
        exact ⟨g', d1, d2, d3, d4⟩
      go_wp2_with fail
      go_region_held3 (fun w' => Gr wr w' ∧ w'.cell? ⟨b, off + q * 4, none⟩ = some (.string (aat l q).a) ∧ w'.cell? ⟨b, off + q * 4 + 1, none⟩ = some (.int .i64 (aat l q).k) ∧ w'.cell? ⟨b, off + q * 4 + 1 + 1, none⟩ = some (.int .i64 (aat l q).n) ∧ w'.cell? ⟨b, off + q * 4 + 1 + 1 + 1, none⟩ = some (.string (aat l q).s))
        (exact T.out _ (by first | exact Gr.refl _ | assumption | exact Gr.drew (Gr.refl _) | exact Gr.drew (by assumption)))
        (first
          | (go_at_call 38; refine (text_s wr _ _ (by omega) (by exact (show Gr wr _ ∧ _ by assumption).1)).mono ?_; rintro e w4 ⟨rfl, g4⟩)
          | (go_at_call 39; refine (written_s wr _ _ _ _ HV.out.2 (by exact (show Gr wr _ ∧ _ by assumption).1)).mono ?_; rintro e w4 ⟨rfl, g4⟩))
      have G5 := Hid.mk' (Gr.call G.out g4)
      clear g4
      go_wp2_with fail
      go_roundw
      case rel => exact ⟨q + 1, by omega, by rw [HSN.out], by go_num, G5⟩
      case measure => simp [intOf]; omega
    · have hq8 : q = l.length := by omega
      subst hq8
      go_wp2_with fail
      go_ret
      exact ⟨by rw [eP_all]; rfl, G.out⟩
end Go.Proofs.YtecnfgikbmcgoaaDoor
namespace Go.Proofs.YtecnfgikbmcgoaaDoor
open Go.RowKit

/-- The first so many wants' bytes. -/
def fP (l : List Wnt) (q : Nat) : List UInt8 := 70 :: UInt8.ofNat l.length :: (l.take q).flatMap encW
/-- .. and the next one's name and way. -/
def fM (l : List Wnt) (q : Nat) : List UInt8 := fP l q ++ encS (wat l q).a ++ [b1 (wat l q).y]
theorem fP_all (l : List Wnt) : fP l l.length = encF l := by simp [fP, encF]
theorem fM_eq (l : List Wnt) (q : Nat) : str (fP l q) ++ str (encS (wat l q).a) ++ str [b1 (wat l q).y] = str (fM l q) := by
  rw [str_app, str_app]; rfl
theorem way_b1 {y k n : Int} {s : ByteArray} (h : wayOk y k n s = true) : b1 y = UInt8.ofNat y.toNat := by
  have := way_bd h
  unfold b1
  congr 2
  omega
theorem fM_one (l : List Wnt) (q : Nat) (h : q < l.length) (hok : wayOk (wat l q).y (wat l q).k (wat l q).n (wat l q).s = true) (hy : (wat l q).y = 1) : fM l q = fP l (q + 1) := by
  simp only [fM, fP, flatW_take l q h, encW, way_b1 hok, if_pos hy, List.cons_append, List.append_assoc]
theorem fM_val (l : List Wnt) (q : Nat) (h : q < l.length) (hok : wayOk (wat l q).y (wat l q).k (wat l q).n (wat l q).s = true) (hy : ¬ (wat l q).y = 1) : str (fM l q) ++ str (encV (wat l q).k (wat l q).n (wat l q).s) = str (fP l (q + 1)) := by
  rw [str_app]
  simp only [fM, fP, flatW_take l q h, encW, way_b1 hok, if_neg hy, List.cons_append, List.append_assoc, List.nil_append]
theorem fP_len {l : List Wnt} (h : filterOk l = true) (q : Nat) (hq : q ≤ l.length) : (fP l q).length ≤ 2 + q * 52 := by
  induction q with
  | zero => simp [fP]
  | succ q ih =>
    have hv := fi_at h (i := q) (by omega)
    have := encW_le hv.1 hv.2
    have := ih (by omega)
    simp only [fP, flatW_take l q (by omega), List.length_cons, List.length_append] at this ⊢
    omega
theorem byteOf_s (wz : World) (n : Int) (w : World) (h : Gr wz w) : Calls Tryd.prog 37 #[.int .i64 n] w fun e w' => e = .returned (.string (str [b1 n])) ∧ Gr wz w' :=
  (byteOf_any n w).mono fun _ _ ⟨h1, h2⟩ => ⟨h1, Gr.call h h2⟩
set_option maxRecDepth 100000 in
set_option maxHeartbeats 4000000 in
theorem refPutFilter_any (l : List Wnt) (ad : Option Addr) (cap : Nat) (w : World) (h : FiAt w ad l) (hok : filterOk l = true) :
    Calls Tryd.prog 19 #[.slice ad l.length cap] w fun e w' => e = .returned (.string (str (encF l))) ∧ Gr w w' := by
  have HO := Hid.mk' hok
  obtain ⟨h1, h8⟩ := fi_len hok
  rcases h with rfl | ⟨b, off, rfl, hb, hat⟩
  · simp at h1
  have HAT := Hid.mk' hat
  clear hat hok
  have hz1 := one_size (b1 70)
  have hz2 := one_size (b1 l.length)
  have hap := str_app [b1 70] [b1 l.length]
  have E0 : Hid (fP l 0 = [b1 70, b1 l.length]) := by
    show _ = _
    have e : ((l.length : Int) % 256).toNat = l.length := by omega
    simp [fP, b1, e]
  go_enter Tryd.func19, Tryd.ntmps19
  go_wp2_with fail
  refine (byteOf_any 70 _).mono ?_
  rintro e w1 ⟨rfl, g1⟩
  go_wp2_with fail
  refine (byteOf_any l.length _).mono ?_
  rintro e w2 ⟨rfl, g2⟩
  have G2 := Hid.mk' (Gr.call g1 g2)
  clear g1 g2
  go_wp2_with fail
  go_loopw [3, 4] (fun sv kv wr => ∃ q : Nat, q ≤ l.length ∧ sv = .string (str (fP l q)) ∧ kv = .int .i64 q ∧ Hid (Gr w wr)) (fun _ kv _ => l.length - (intOf kv).toNat)
  case atStart => exact ⟨0, by omega, by rw [E0.out], rfl, G2⟩
  case round =>
    obtain ⟨q, hq, rfl, rfl, G⟩ := hrel
    by_cases hlt : q < l.length
    · obtain ⟨d1, d2, d3, d4, d5⟩ := HAT.out q hlt
      have hbw : b < wr.heap.size := G.out.lt hb
      have ee : ∀ o, wr.cell? ⟨b, o, none⟩ = w.cell? ⟨b, o, none⟩ := fun o => G.out.cell (p := ⟨b, o, none⟩) hb
      rw [← ee] at d1 d2 d3 d4 d5
      have HV := Hid.mk' (fi_at HO.out hlt)
      clear ee
      have HFM := Hid.mk' (fM_eq l q)
      have hsn := name_size' HV.out.1
      have p1 := str_size (fP l q)
      have p2 := str_size (encS (wat l q).a)
      have p4 := fP_len HO.out q hq
      rw [encS_len] at p2
      have z3 := one_size (b1 (wat l q).y)
      obtain ⟨lp, z1⟩ : ∃ lp, (str (fP l q)).size = lp := ⟨_, rfl⟩
      obtain ⟨la, z2⟩ : ∃ la, (str (encS (wat l q).a)).size = la := ⟨_, rfl⟩
      have hm1 : ¬ 9223372036854775807 < lp + la := by omega
      have hm2 : ¬ 9223372036854775807 < lp + la + 1 := by omega
      have hm5 : lp + la ≤ 400 := by omega
      have hfm : (str (fM l q)).size = lp + la + 1 := by rw [← HFM.out, ByteArray.size_append, ByteArray.size_append, z1, z2, z3]
      clear p1 p2 p4
      have T : Hid (∀ w', Gr wr w' → Gr wr w' ∧ w'.cell? ⟨b, off + q * 5, none⟩ = some (.string (wat l q).a) ∧ w'.cell? ⟨b, off + q * 5 + 1, none⟩ = some (.int .i64 (wat l q).y) ∧ w'.cell? ⟨b, off + q * 5 + 1 + 1, none⟩ = some (.int .i64 (wat l q).k) ∧ w'.cell? ⟨b, off + q * 5 + 1 + 1 + 1, none⟩ = some (.int .i64 (wat l q).n) ∧ w'.cell? ⟨b, off + q * 5 + 1 + 1 + 1 + 1, none⟩ = some (.string (wat l q).s)) := by
        intro w' g'
        have e := fun o => g'.cell (p := ⟨b, o, none⟩) hbw
        rw [e, e, e, e, e]
        exact ⟨g', d1, d2, d3, d4, d5⟩
      go_wp2_with fail
      go_region_held3 (fun w' => Gr wr w' ∧ w'.cell? ⟨b, off + q * 5, none⟩ = some (.string (wat l q).a) ∧ w'.cell? ⟨b, off + q * 5 + 1, none⟩ = some (.int .i64 (wat l q).y) ∧ w'.cell? ⟨b, off + q * 5 + 1 + 1, none⟩ = some (.int .i64 (wat l q).k) ∧ w'.cell? ⟨b, off + q * 5 + 1 + 1 + 1, none⟩ = some (.int .i64 (wat l q).n) ∧ w'.cell? ⟨b, off + q * 5 + 1 + 1 + 1 + 1, none⟩ = some (.string (wat l q).s))
        (exact T.out _ (by first | exact Gr.refl _ | assumption | exact Gr.drew (Gr.refl _) | exact Gr.drew (by assumption)))
        (first
          | (go_at_call 38; refine (text_s wr _ _ (by omega) (by exact (show Gr wr _ ∧ _ by assumption).1)).mono ?_; rintro e w4 ⟨rfl, g4⟩)
          | (go_at_call 37; refine (byteOf_s wr _ _ (by exact (show Gr wr _ ∧ _ by assumption).1)).mono ?_; rintro e w4 ⟨rfl, g4⟩))
      rw [HFM.out]
      obtain ⟨_, f1, f2, f3, f4, f5⟩ := T.out _ g4
      have G5 := Hid.mk' (Gr.call G.out g4)
      clear g4 hm1 hm2 z3
      by_cases hy : (wat l q).y = 1
      · have HM := Hid.mk' (fM_one l q hlt HV.out.2 hy)
        go_wp2_with fail
        go_roundw
        case rel => exact ⟨q + 1, by omega, by rw [HM.out], by go_num, G5⟩
        case measure => simp [intOf]; omega
      · have HM := Hid.mk' (fM_val l q hlt HV.out.2 hy)
        have HVV := Hid.mk' (way_val HV.out.2 hy)
        have p3 := str_size (encV (wat l q).k (wat l q).n (wat l q).s)
        have p5 := encV_len (k := (wat l q).k) (n := (wat l q).n) (val_sz HVV.out)
        obtain ⟨lv, z4⟩ : ∃ lv, (str (encV (wat l q).k (wat l q).n (wat l q).s)).size = lv := ⟨_, rfl⟩
        have hm3 : ¬ 9223372036854775807 < lp + la + 1 + lv := by omega
        clear p3 p5
        go_wp2_with fail
        refine (written_any _ _ _ _ HVV.out).mono ?_
        rintro e w6 ⟨rfl, g6⟩
        have G6 := Hid.mk' (Gr.call G5.out g6)
        clear g6
        go_wp2_with fail
        go_roundw
        case rel => exact ⟨q + 1, by omega, by rw [HM.out], by go_num, G6⟩
        case measure => simp [intOf]; omega
    · have hq8 : q = l.length := by omega
      subst hq8
      go_wp2_with fail
      go_ret
      exact ⟨by rw [fP_all]; rfl, G.out⟩
end Go.Proofs.YtecnfgikbmcgoaaDoor
namespace Go.Proofs.YtecnfgikbmcgoaaDoor
open Go.RowKit

theorem str_data (s : ByteArray) : str s.data.toList = s := by simp [str]
theorem pS_enc (s : ByteArray) (r : List UInt8) (h : s.size ≤ 255) : pS (encS s ++ r) = some (s.data.toList, r) := by
  have hz : s.size = s.data.toList.length := by simp
  have hb : pB (encS s ++ r) = some (s.size, s.data.toList ++ r) := by
    simp only [encS, List.cons_append, pB, UInt8.toNat_ofNat']
    congr 2
    omega
  rw [pS, hb]
  simp only [Option.bind_some, pT]
  rw [if_pos (by rw [List.length_append]; omega), hz, List.take_left, List.drop_left]
theorem pB_nb (n : Int) (q : Nat) (r : List UInt8) : pB (nb n q :: r) = some ((n / 2 ^ (56 - 8 * q) % 256).toNat, r) := by
  have h1 : 0 ≤ n / 2 ^ (56 - 8 * q) % 256 := Int.emod_nonneg _ (by decide)
  have h2 : n / 2 ^ (56 - 8 * q) % 256 < 256 := Int.emod_lt_of_pos _ (by decide)
  simp only [pB, nb, UInt8.toNat_ofNat']
  congr 2
  omega
theorem pN_enc (n : Int) (r : List UInt8) (h1 : minI ≤ n) (h2 : n ≤ maxI) : pN (encN n ++ r) = some (n, r) := by
  have e : encN n ++ r = nb n 0 :: nb n 1 :: nb n 2 :: nb n 3 :: nb n 4 :: nb n 5 :: nb n 6 :: nb n 7 :: r := rfl
  rw [e, pN]
  simp only [pNk, pB_nb, Option.bind_some]
  congr 2
  simp only [Nat.mul_zero, Nat.sub_zero, show 56 - 8 * 1 = 48 from rfl, show 56 - 8 * 2 = 40 from rfl, show 56 - 8 * 3 = 32 from rfl, show 56 - 8 * 4 = 24 from rfl, show 56 - 8 * 5 = 16 from rfl, show 56 - 8 * 6 = 8 from rfl, show 56 - 8 * 7 = 0 from rfl]
  unfold minI at h1
  unfold maxI at h2
  obtain ⟨M, hM⟩ : ∃ M : Int, M = n % 18446744073709551616 := ⟨_, rfl⟩
  have s1 : stp 0 ((n / 2 ^ 56 % 256).toNat) = M / 72057594037927936 := by unfold stp wrap64; omega
  have s2 : stp (M / 72057594037927936) ((n / 2 ^ 48 % 256).toNat) = M / 281474976710656 := by unfold stp wrap64; omega
  have s3 : stp (M / 281474976710656) ((n / 2 ^ 40 % 256).toNat) = M / 1099511627776 := by unfold stp wrap64; omega
  have s4 : stp (M / 1099511627776) ((n / 2 ^ 32 % 256).toNat) = M / 4294967296 := by unfold stp wrap64; omega
  have s5 : stp (M / 4294967296) ((n / 2 ^ 24 % 256).toNat) = M / 16777216 := by unfold stp wrap64; omega
  have s6 : stp (M / 16777216) ((n / 2 ^ 16 % 256).toNat) = M / 65536 := by unfold stp wrap64; omega
  have s7 : stp (M / 65536) ((n / 2 ^ 8 % 256).toNat) = M / 256 := by unfold stp wrap64; omega
  have s8 : stp (M / 256) ((n / 2 ^ 0 % 256).toNat) = n := by unfold stp wrap64; omega
  rw [s1, s2, s3, s4, s5, s6, s7, s8]
theorem pV_enc {k n : Int} {s : ByteArray} (r : List UInt8) (h : valOk k n s = true) (h1 : minI ≤ n) (h2 : n ≤ maxI) : pV (encV k n s ++ r) = some (⟨k, n, s.data.toList⟩, r) := by
  have hk := val_kind h
  rcases hk with rfl | rfl | rfl
  · have hs : s.toList = [] := by simpa [valOk] using h
    have hs' : s.data.toList = [] := by rw [← ByteArray.toList_eq]; exact hs
    simp only [encV, if_true, List.cons_append, pV, pB, Option.bind_some]
    rw [if_pos (by rfl), pN_enc n r h1 h2, hs']
    rfl
  · have hn := val_text h
    subst hn
    have hz : s.size ≤ 32 := val_size' h
    simp only [encV, List.cons_append, pV, pB, Option.bind_some]
    rw [if_neg (by decide), if_pos (by first | rfl | trivial), if_neg (by decide), if_pos (by first | rfl | trivial), pS_enc s r (by omega)]
    rfl
  · obtain ⟨hn, hs⟩ := val_flag h
    have hs' : s.data.toList = [] := by rw [← ByteArray.toList_eq]; exact hs
    rw [hs']
    rcases hn with rfl | rfl <;> rfl
theorem pA_enc {z : Atr} (r : List UInt8) (hn : nameOk z.a = true) (hv : valOk z.k z.n z.s = true) (h1 : minI ≤ z.n) (h2 : z.n ≤ maxI) : pA (encA z ++ r) = some (z, r) := by
  have := name_size' hn
  rw [pA, encA, List.append_assoc, pS_enc _ _ (by omega)]
  simp only [Option.bind_some]
  rw [pV_enc _ hv h1 h2]
  simp [str_data]
theorem pW_enc {x : Wnt} (r : List UInt8) (hn : nameOk x.a = true) (hv : wayOk x.y x.k x.n x.s = true) (h1 : minI ≤ x.n) (h2 : x.n ≤ maxI) : pW (encW x ++ r) = some (x, r) := by
  have := name_size' hn
  have hy := way_bd hv
  have hb : ∀ t, pB (UInt8.ofNat x.y.toNat :: t) = some (x.y.toNat, t) := fun t => by
    simp only [pB, UInt8.toNat_ofNat']
    congr 2
    omega
  rw [pW, encW, List.append_assoc, pS_enc _ _ (by omega)]
  simp only [Option.bind_some, List.cons_append, hb]
  by_cases hy1 : x.y = 1
  · have hw : x.k = 0 ∧ x.n = 0 ∧ x.s.toList = [] := by
      rw [hy1] at hv
      simpa [wayOk, and_assoc] using hv
    rw [if_pos (by omega), if_pos hy1]
    obtain ⟨a, y, k, n, s⟩ := x
    simp only at hy1 hw ⊢
    obtain ⟨rfl, rfl, hs⟩ := hw
    subst hy1
    have hs' : s = str [] := by rw [← str_data s]; congr 1; rw [← ByteArray.toList_eq]; exact hs
    rw [str_data, hs']; rfl
  · rw [if_neg (by omega), if_neg hy1, pV_enc _ (way_val hv hy1) h1 h2]
    have e : ((x.y.toNat : Nat) : Int) = x.y := by omega
    simp [str_data, e]
theorem pMany_enc {α : Type} {p : List UInt8 → Option (α × List UInt8)} {enc : α → List UInt8} (r : List UInt8) : ∀ (l : List α), (∀ z ∈ l, ∀ t, p (enc z ++ t) = some (z, t)) → pMany p l.length (l.flatMap enc ++ r) = some (l, r)
  | [], _ => rfl
  | z :: l, h => by
    rw [List.length_cons, pMany, List.flatMap_cons, List.append_assoc, h z (by simp)]
    simp only [Option.bind_some]
    rw [pMany_enc r l (fun y hy => h y (by simp [hy]))]
    rfl
theorem pE_enc {l : List Atr} (r : List UInt8) (h : evOk l = true) (hw : ∀ z ∈ l, Atr.Wf z) : pE (encE l ++ r) = some (l, r) := by
  obtain ⟨h1, h8⟩ := ev_len h
  have e : encE l ++ r = 69 :: UInt8.ofNat l.length :: (l.flatMap encA ++ r) := by simp [encE]
  rw [e, pE]
  simp only [pB, Option.bind_some]
  rw [if_pos (by rfl)]
  have e2 : (UInt8.ofNat l.length).toNat = l.length := by rw [UInt8.toNat_ofNat']; omega
  rw [e2]
  refine pMany_enc r l (fun z hz t => ?_)
  obtain ⟨i, hi, rfl⟩ := List.getElem_of_mem hz
  obtain ⟨n1, v1⟩ := ev_at h hi
  have ea : aat l i = l[i] := by simp [aat, List.getD_eq_getElem?_getD, List.getElem?_eq_getElem hi]
  rw [ea] at n1 v1
  exact pA_enc t n1 v1 (hw _ hz).n1 (hw _ hz).n2
theorem pF_enc {l : List Wnt} (r : List UInt8) (h : filterOk l = true) (hw : ∀ z ∈ l, Wnt.Wf z) : pF (encF l ++ r) = some (l, r) := by
  obtain ⟨h1, h8⟩ := fi_len h
  have e : encF l ++ r = 70 :: UInt8.ofNat l.length :: (l.flatMap encW ++ r) := by simp [encF]
  rw [e, pF]
  simp only [pB, Option.bind_some]
  rw [if_pos (by rfl)]
  have e2 : (UInt8.ofNat l.length).toNat = l.length := by rw [UInt8.toNat_ofNat']; omega
  rw [e2]
  refine pMany_enc r l (fun z hz t => ?_)
  obtain ⟨i, hi, rfl⟩ := List.getElem_of_mem hz
  obtain ⟨n1, v1⟩ := fi_at h hi
  have ea : wat l i = l[i] := by simp [wat, List.getD_eq_getElem?_getD, List.getElem?_eq_getElem hi]
  rw [ea] at n1 v1
  exact pW_enc t n1 v1 (hw _ hz).n1 (hw _ hz).n2
end Go.Proofs.YtecnfgikbmcgoaaDoor
