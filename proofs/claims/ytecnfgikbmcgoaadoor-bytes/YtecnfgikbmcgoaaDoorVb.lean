import Derived.Test.YtecnfgikbmcgoaaDoorVa
import Derived.Deep.RegionHeld3
namespace Go.Proofs.YtecnfgikbmcgoaaDoor
open Go.RowKit

theorem b1_small (n : Int) : b1 n = UInt8.ofNat (n % 256).toNat := rfl
set_option maxRecDepth 100000 in
set_option maxHeartbeats 4000000 in
theorem written2 (n : Int) (s : ByteArray) (w : World) (hs : s.size ≤ 32) : Calls Tryd.prog 39 #[.agg #[.int .i64 2, .int .i64 n, .string s]] w fun e w' => e = .returned (.string (str (encV 2 n s))) ∧ Gr w w' := by
  have hz := one_size (b1 2)
  have hz2 := str_size (encS s)
  rw [encS_len] at hz2
  have hm : 1 + (s.size + 1) ≤ 9223372036854775807 := by omega
  have hap := str_app [b1 2] (encS s)
  go_enter Tryd.func39, Tryd.ntmps39
  go_wp2_with fail
  refine (byteOf_any 2 _).mono ?_
  rintro e w1 ⟨rfl, g1⟩
  have G1 := Hid.mk' g1
  obtain ⟨c0, c1, c2⟩ := rv_cells g1
  clear g1
  go_wp2_with fail
  refine (text_any s _ (by omega)).mono ?_
  rintro e w2 ⟨rfl, g2⟩
  have G2 := Hid.mk' (Gr.call G1.out g2)
  clear g2
  go_wp2_with fail
  go_ret
  exact ⟨rfl, Gr.call ((Gr.refl w).alloc _) G2.out⟩
set_option maxRecDepth 100000 in
set_option maxHeartbeats 4000000 in
theorem written3 (n : Int) (s : ByteArray) (w : World) (h0 : 0 ≤ n) (h1 : n ≤ 1) : Calls Tryd.prog 39 #[.agg #[.int .i64 3, .int .i64 n, .string s]] w fun e w' => e = .returned (.string (str (encV 3 n s))) ∧ Gr w w' := by
  have hz := one_size (b1 3)
  have hz2 := one_size (b1 n)
  have hap := str_app [b1 3] [b1 n]
  have hb : b1 n = UInt8.ofNat n.toNat := by unfold b1; congr 2; omega
  go_enter Tryd.func39, Tryd.ntmps39
  go_wp2_with fail
  refine (byteOf_any 3 _).mono ?_
  rintro e w1 ⟨rfl, g1⟩
  have G1 := Hid.mk' g1
  obtain ⟨c0, c1, c2⟩ := rv_cells g1
  clear g1
  have HB := Hid.mk' hb
  clear hb
  go_wp2_with fail
  refine (byteOf_any n _).mono ?_
  rintro e w2 ⟨rfl, g2⟩
  have G2 := Hid.mk' (Gr.call G1.out g2)
  clear g2
  go_wp2_with fail
  go_ret
  refine ⟨?_, Gr.call ((Gr.refl w).alloc _) G2.out⟩
  show Ending.returned (.string (str [b1 3, b1 n])) = _
  rw [HB.out]
  rfl
theorem written_any (k n : Int) (s : ByteArray) (w : World) (hok : valOk k n s = true) : Calls Tryd.prog 39 #[.agg #[.int .i64 k, .int .i64 n, .string s]] w fun e w' => e = .returned (.string (str (encV k n s))) ∧ Gr w w' := by
  rcases val_kind hok with rfl | rfl | rfl
  · exact written1 n s w
  · exact written2 n s w (val_sz hok)
  · simp [valOk] at hok
    exact written3 n s w (by omega) (by omega)
/-- The first so many attributes' bytes. -/
def eP (l : List Atr) (q : Nat) : List UInt8 := 69 :: UInt8.ofNat l.length :: (l.take q).flatMap encA
theorem eP_all (l : List Atr) : eP l l.length = encE l := by simp [eP, encE]
theorem eP_snoc (l : List Atr) (q : Nat) (h : q < l.length) : str (eP l q) ++ str (encS (aat l q).a) ++ str (encV (aat l q).k (aat l q).n (aat l q).s) = str (eP l (q + 1)) := by
  rw [str_app, str_app]
  simp only [eP, flat_take l q h, encA, List.cons_append, List.append_assoc]
theorem eP_len {l : List Atr} (h : evOk l = true) (q : Nat) (hq : q ≤ l.length) : (eP l q).length ≤ 2 + q * 51 := by
  induction q with
  | zero => simp [eP]
  | succ q ih =>
    have hv := ev_at h (i := q) (by omega)
    have := encA_le hv.1 (val_sz hv.2)
    have := ih (by omega)
    simp only [eP, flat_take l q (by omega), List.length_cons, List.length_append] at this ⊢
    omega
theorem text_s (wz : World) (s : ByteArray) (w : World) (hs : s.size ≤ 255) (h : Gr wz w) : Calls Tryd.prog 38 #[.string s] w fun e w' => e = .returned (.string (str (encS s))) ∧ Gr wz w' :=
  (text_any s w hs).mono fun _ _ ⟨h1, h2⟩ => ⟨h1, Gr.call h h2⟩
theorem written_s (wz : World) (k n : Int) (s : ByteArray) (w : World) (hok : valOk k n s = true) (h : Gr wz w) : Calls Tryd.prog 39 #[.agg #[.int .i64 k, .int .i64 n, .string s]] w fun e w' => e = .returned (.string (str (encV k n s))) ∧ Gr wz w' :=
  (written_any k n s w hok).mono fun _ _ ⟨h1, h2⟩ => ⟨h1, Gr.call h h2⟩
set_option maxRecDepth 100000 in
set_option maxHeartbeats 4000000 in
theorem refPutEvent_any (l : List Atr) (ad : Option Addr) (cap : Nat) (w : World) (h : EvAt w ad l) (hok : evOk l = true) :
    Calls Tryd.prog 16 #[.slice ad l.length cap] w fun e w' => e = .returned (.string (str (encE l))) ∧ Gr w w' := by
  have HO := Hid.mk' hok
  obtain ⟨h1, h8⟩ := ev_len hok
  rcases h with rfl | ⟨b, off, rfl, hb, hat⟩
  · simp at h1
  have HAT := Hid.mk' hat
  clear hat hok
  have hz1 := one_size (b1 69)
  have hz2 := one_size (b1 l.length)
  have hap := str_app [b1 69] [b1 l.length]
  have E0 : Hid (eP l 0 = [b1 69, b1 l.length]) := by
    show _ = _
    have e : ((l.length : Int) % 256).toNat = l.length := by omega
    simp [eP, b1, e]
  go_enter Tryd.func16, Tryd.ntmps16
  go_wp2_with fail
  refine (byteOf_any 69 _).mono ?_
  rintro e w1 ⟨rfl, g1⟩
  go_wp2_with fail
  refine (byteOf_any l.length _).mono ?_
  rintro e w2 ⟨rfl, g2⟩
  have G2 := Hid.mk' (Gr.call g1 g2)
  clear g1 g2
  go_wp2_with fail
  go_loopw [3, 4] (fun sv kv wr => ∃ q : Nat, q ≤ l.length ∧ sv = .string (str (eP l q)) ∧ kv = .int .i64 q ∧ Hid (Gr w wr)) (fun _ kv _ => l.length - (intOf kv).toNat)
  case atStart => exact ⟨0, by omega, by rw [E0.out], rfl, G2⟩
  case round =>
    obtain ⟨q, hq, rfl, rfl, G⟩ := hrel
    by_cases hlt : q < l.length
    · obtain ⟨d1, d2, d3, d4⟩ := HAT.out q hlt
      have hbw : b < wr.heap.size := G.out.lt hb
      have ee : ∀ o, wr.cell? ⟨b, o, none⟩ = w.cell? ⟨b, o, none⟩ := fun o => G.out.cell (p := ⟨b, o, none⟩) hb
      rw [← ee] at d1 d2 d3 d4
      have HV := Hid.mk' (ev_at HO.out hlt)
      clear ee
      have HSN := Hid.mk' (eP_snoc l q hlt)
      have hsn := name_size' HV.out.1
      have p1 := str_size (eP l q)
      have p2 := str_size (encS (aat l q).a)
      have p3 := str_size (encV (aat l q).k (aat l q).n (aat l q).s)
      have p4 := eP_len HO.out q hq
      have p5 := encV_len (k := (aat l q).k) (n := (aat l q).n) (val_sz HV.out.2)
      rw [encS_len] at p2
      obtain ⟨lp, z1⟩ : ∃ lp, (str (eP l q)).size = lp := ⟨_, rfl⟩
      obtain ⟨la, z2⟩ : ∃ la, (str (encS (aat l q).a)).size = la := ⟨_, rfl⟩
      obtain ⟨lv, z3⟩ : ∃ lv, (str (encV (aat l q).k (aat l q).n (aat l q).s)).size = lv := ⟨_, rfl⟩
      have hm1 : ¬ 9223372036854775807 < lp + la := by omega
      have hm2 : ¬ 9223372036854775807 < lp + la + lv := by omega
      clear p1 p2 p3 p4 p5
      have T : Hid (∀ w', Gr wr w' → Gr wr w' ∧ w'.cell? ⟨b, off + q * 4, none⟩ = some (.string (aat l q).a) ∧ w'.cell? ⟨b, off + q * 4 + 1, none⟩ = some (.int .i64 (aat l q).k) ∧ w'.cell? ⟨b, off + q * 4 + 1 + 1, none⟩ = some (.int .i64 (aat l q).n) ∧ w'.cell? ⟨b, off + q * 4 + 1 + 1 + 1, none⟩ = some (.string (aat l q).s)) := by
        intro w' g'
        have e := fun o => g'.cell (p := ⟨b, o, none⟩) hbw
        rw [e, e, e, e]
        exact ⟨g', d1, d2, d3, d4⟩
      go_wp2_with fail
      go_region_held3 (fun w' => Gr wr w' ∧ w'.cell? ⟨b, off + q * 4, none⟩ = some (.string (aat l q).a) ∧ w'.cell? ⟨b, off + q * 4 + 1, none⟩ = some (.int .i64 (aat l q).k) ∧ w'.cell? ⟨b, off + q * 4 + 1 + 1, none⟩ = some (.int .i64 (aat l q).n) ∧ w'.cell? ⟨b, off + q * 4 + 1 + 1 + 1, none⟩ = some (.string (aat l q).s))
        (exact T.out _ (by first | exact Gr.refl _ | assumption | exact Gr.drew (Gr.refl _) | exact Gr.drew (by assumption)))
        (first
          | (go_at_call 38; refine (text_s wr _ _ (by omega) (by exact (show Gr wr _ ∧ _ by assumption).1)).mono ?_; rintro e w4 ⟨rfl, g4⟩)
          | (go_at_call 39; refine (written_s wr _ _ _ _ HV.out.2 (by exact (show Gr wr _ ∧ _ by assumption).1)).mono ?_; rintro e w4 ⟨rfl, g4⟩))
      have G5 := Hid.mk' (Gr.call G.out g4)
      clear g4
      go_wp2_with fail
      go_roundw
      case rel => exact ⟨q + 1, by omega, by rw [HSN.out], by go_num, G5⟩
      case measure => simp [intOf]; omega
    · have hq8 : q = l.length := by omega
      subst hq8
      go_wp2_with fail
      go_ret
      exact ⟨by rw [eP_all]; rfl, G.out⟩
end Go.Proofs.YtecnfgikbmcgoaaDoor
