import Derived.Test.YtecnfgikbmcgoaaDoorVb
namespace Go.Proofs.YtecnfgikbmcgoaaDoor
open Go.RowKit

/-- The first so many wants' bytes. -/
def fP (l : List Wnt) (q : Nat) : List UInt8 := 70 :: UInt8.ofNat l.length :: (l.take q).flatMap encW
/-- .. and the next one's name and way. -/
def fM (l : List Wnt) (q : Nat) : List UInt8 := fP l q ++ encS (wat l q).a ++ [b1 (wat l q).y]
theorem fP_all (l : List Wnt) : fP l l.length = encF l := by simp [fP, encF]
theorem fM_eq (l : List Wnt) (q : Nat) : str (fP l q) ++ str (encS (wat l q).a) ++ str [b1 (wat l q).y] = str (fM l q) := by
  rw [str_app, str_app]; rfl
theorem way_b1 {y k n : Int} {s : ByteArray} (h : wayOk y k n s = true) : b1 y = UInt8.ofNat y.toNat := by
  have := way_bd h
  unfold b1
  congr 2
  omega
theorem fM_one (l : List Wnt) (q : Nat) (h : q < l.length) (hok : wayOk (wat l q).y (wat l q).k (wat l q).n (wat l q).s = true) (hy : (wat l q).y = 1) : fM l q = fP l (q + 1) := by
  simp only [fM, fP, flatW_take l q h, encW, way_b1 hok, if_pos hy, List.cons_append, List.append_assoc]
theorem fM_val (l : List Wnt) (q : Nat) (h : q < l.length) (hok : wayOk (wat l q).y (wat l q).k (wat l q).n (wat l q).s = true) (hy : ¬ (wat l q).y = 1) : str (fM l q) ++ str (encV (wat l q).k (wat l q).n (wat l q).s) = str (fP l (q + 1)) := by
  rw [str_app]
  simp only [fM, fP, flatW_take l q h, encW, way_b1 hok, if_neg hy, List.cons_append, List.append_assoc, List.nil_append]
theorem fP_len {l : List Wnt} (h : filterOk l = true) (q : Nat) (hq : q ≤ l.length) : (fP l q).length ≤ 2 + q * 52 := by
  induction q with
  | zero => simp [fP]
  | succ q ih =>
    have hv := fi_at h (i := q) (by omega)
    have := encW_le hv.1 hv.2
    have := ih (by omega)
    simp only [fP, flatW_take l q (by omega), List.length_cons, List.length_append] at this ⊢
    omega
theorem byteOf_s (wz : World) (n : Int) (w : World) (h : Gr wz w) : Calls Tryd.prog 37 #[.int .i64 n] w fun e w' => e = .returned (.string (str [b1 n])) ∧ Gr wz w' :=
  (byteOf_any n w).mono fun _ _ ⟨h1, h2⟩ => ⟨h1, Gr.call h h2⟩
set_option maxRecDepth 100000 in
set_option maxHeartbeats 4000000 in
theorem refPutFilter_any (l : List Wnt) (ad : Option Addr) (cap : Nat) (w : World) (h : FiAt w ad l) (hok : filterOk l = true) :
    Calls Tryd.prog 19 #[.slice ad l.length cap] w fun e w' => e = .returned (.string (str (encF l))) ∧ Gr w w' := by
  have HO := Hid.mk' hok
  obtain ⟨h1, h8⟩ := fi_len hok
  rcases h with rfl | ⟨b, off, rfl, hb, hat⟩
  · simp at h1
  have HAT := Hid.mk' hat
  clear hat hok
  have hz1 := one_size (b1 70)
  have hz2 := one_size (b1 l.length)
  have hap := str_app [b1 70] [b1 l.length]
  have E0 : Hid (fP l 0 = [b1 70, b1 l.length]) := by
    show _ = _
    have e : ((l.length : Int) % 256).toNat = l.length := by omega
    simp [fP, b1, e]
  go_enter Tryd.func19, Tryd.ntmps19
  go_wp2_with fail
  refine (byteOf_any 70 _).mono ?_
  rintro e w1 ⟨rfl, g1⟩
  go_wp2_with fail
  refine (byteOf_any l.length _).mono ?_
  rintro e w2 ⟨rfl, g2⟩
  have G2 := Hid.mk' (Gr.call g1 g2)
  clear g1 g2
  go_wp2_with fail
  go_loopw [3, 4] (fun sv kv wr => ∃ q : Nat, q ≤ l.length ∧ sv = .string (str (fP l q)) ∧ kv = .int .i64 q ∧ Hid (Gr w wr)) (fun _ kv _ => l.length - (intOf kv).toNat)
  case atStart => exact ⟨0, by omega, by rw [E0.out], rfl, G2⟩
  case round =>
    obtain ⟨q, hq, rfl, rfl, G⟩ := hrel
    by_cases hlt : q < l.length
    · obtain ⟨d1, d2, d3, d4, d5⟩ := HAT.out q hlt
      have hbw : b < wr.heap.size := G.out.lt hb
      have ee : ∀ o, wr.cell? ⟨b, o, none⟩ = w.cell? ⟨b, o, none⟩ := fun o => G.out.cell (p := ⟨b, o, none⟩) hb
      rw [← ee] at d1 d2 d3 d4 d5
      have HV := Hid.mk' (fi_at HO.out hlt)
      clear ee
      have HFM := Hid.mk' (fM_eq l q)
      have hsn := name_size' HV.out.1
      have p1 := str_size (fP l q)
      have p2 := str_size (encS (wat l q).a)
      have p4 := fP_len HO.out q hq
      rw [encS_len] at p2
      have z3 := one_size (b1 (wat l q).y)
      obtain ⟨lp, z1⟩ : ∃ lp, (str (fP l q)).size = lp := ⟨_, rfl⟩
      obtain ⟨la, z2⟩ : ∃ la, (str (encS (wat l q).a)).size = la := ⟨_, rfl⟩
      have hm1 : ¬ 9223372036854775807 < lp + la := by omega
      have hm2 : ¬ 9223372036854775807 < lp + la + 1 := by omega
      have hm5 : lp + la ≤ 400 := by omega
      have hfm : (str (fM l q)).size = lp + la + 1 := by rw [← HFM.out, ByteArray.size_append, ByteArray.size_append, z1, z2, z3]
      clear p1 p2 p4
      have T : Hid (∀ w', Gr wr w' → Gr wr w' ∧ w'.cell? ⟨b, off + q * 5, none⟩ = some (.string (wat l q).a) ∧ w'.cell? ⟨b, off + q * 5 + 1, none⟩ = some (.int .i64 (wat l q).y) ∧ w'.cell? ⟨b, off + q * 5 + 1 + 1, none⟩ = some (.int .i64 (wat l q).k) ∧ w'.cell? ⟨b, off + q * 5 + 1 + 1 + 1, none⟩ = some (.int .i64 (wat l q).n) ∧ w'.cell? ⟨b, off + q * 5 + 1 + 1 + 1 + 1, none⟩ = some (.string (wat l q).s)) := by
        intro w' g'
        have e := fun o => g'.cell (p := ⟨b, o, none⟩) hbw
        rw [e, e, e, e, e]
        exact ⟨g', d1, d2, d3, d4, d5⟩
      go_wp2_with fail
      go_region_held3 (fun w' => Gr wr w' ∧ w'.cell? ⟨b, off + q * 5, none⟩ = some (.string (wat l q).a) ∧ w'.cell? ⟨b, off + q * 5 + 1, none⟩ = some (.int .i64 (wat l q).y) ∧ w'.cell? ⟨b, off + q * 5 + 1 + 1, none⟩ = some (.int .i64 (wat l q).k) ∧ w'.cell? ⟨b, off + q * 5 + 1 + 1 + 1, none⟩ = some (.int .i64 (wat l q).n) ∧ w'.cell? ⟨b, off + q * 5 + 1 + 1 + 1 + 1, none⟩ = some (.string (wat l q).s))
        (exact T.out _ (by first | exact Gr.refl _ | assumption | exact Gr.drew (Gr.refl _) | exact Gr.drew (by assumption)))
        (first
          | (go_at_call 38; refine (text_s wr _ _ (by omega) (by exact (show Gr wr _ ∧ _ by assumption).1)).mono ?_; rintro e w4 ⟨rfl, g4⟩)
          | (go_at_call 37; refine (byteOf_s wr _ _ (by exact (show Gr wr _ ∧ _ by assumption).1)).mono ?_; rintro e w4 ⟨rfl, g4⟩))
      rw [HFM.out]
      obtain ⟨_, f1, f2, f3, f4, f5⟩ := T.out _ g4
      have G5 := Hid.mk' (Gr.call G.out g4)
      clear g4 hm1 hm2 z3
      by_cases hy : (wat l q).y = 1
      · have HM := Hid.mk' (fM_one l q hlt HV.out.2 hy)
        go_wp2_with fail
        go_roundw
        case rel => exact ⟨q + 1, by omega, by rw [HM.out], by go_num, G5⟩
        case measure => simp [intOf]; omega
      · have HM := Hid.mk' (fM_val l q hlt HV.out.2 hy)
        have HVV := Hid.mk' (way_val HV.out.2 hy)
        have p3 := str_size (encV (wat l q).k (wat l q).n (wat l q).s)
        have p5 := encV_len (k := (wat l q).k) (n := (wat l q).n) (val_sz HVV.out)
        obtain ⟨lv, z4⟩ : ∃ lv, (str (encV (wat l q).k (wat l q).n (wat l q).s)).size = lv := ⟨_, rfl⟩
        have hm3 : ¬ 9223372036854775807 < lp + la + 1 + lv := by omega
        clear p3 p5
        go_wp2_with fail
        refine (written_any _ _ _ _ HVV.out).mono ?_
        rintro e w6 ⟨rfl, g6⟩
        have G6 := Hid.mk' (Gr.call G5.out g6)
        clear g6
        go_wp2_with fail
        go_roundw
        case rel => exact ⟨q + 1, by omega, by rw [HM.out], by go_num, G6⟩
        case measure => simp [intOf]; omega
    · have hq8 : q = l.length := by omega
      subst hq8
      go_wp2_with fail
      go_ret
      exact ⟨by rw [fP_all]; rfl, G.out⟩
end Go.Proofs.YtecnfgikbmcgoaaDoor
