import Derived.Test.YtecnfgikbmcgoaaDoorUp
import Derived.Test.YtecnfgikbmcgoaaDoorUq
import Derived.Test.YtecnfgikbmcgoaaDoorUk2
import Derived.Test.YtecnfgikbmcgoaaDoorWO
import Derived.Test.YtecnfgikbmcgoaaDoorWN
namespace Go.Proofs.YtecnfgikbmcgoaaDoor
open Go.RowKit

theorem getE_enc {l : List Atr} (h : evOk l = true) (hw : ∀ z ∈ l, Atr.Wf z) : getE (encE l) = some l := by
  have := pE_enc [] h hw
  rw [List.append_nil] at this
  simp [getE, this, h]
theorem getF_enc {l : List Wnt} (h : filterOk l = true) (hw : ∀ z ∈ l, Wnt.Wf z) : getF (encF l) = some l := by
  have := pF_enc [] h hw
  rw [List.append_nil] at this
  simp [getF, this, h]
theorem getE_cut {l : List Atr} (h : evOk l = true) (hw : ∀ z ∈ l, Atr.Wf z) {c : Nat} (hc : c < (encE l).length) : getE ((encE l).take c) = none := by
  have h0 := pE_enc [] h hw
  rw [List.append_nil] at h0
  cases h1 : pE ((encE l).take c) with
  | none => simp [getE, h1]
  | some x =>
    have h2 := pE_mono (x := x.1) (r := x.2) (t := (encE l).drop c) h1
    rw [List.take_append_drop, h0] at h2
    injection h2 with h2
    injection h2 with _ h2
    have h3 : (x.2 ++ (encE l).drop c).length = 0 := by rw [← h2]; rfl
    rw [List.length_append, List.length_drop] at h3
    omega
theorem getF_more {l : List Wnt} (h : filterOk l = true) (hw : ∀ z ∈ l, Wnt.Wf z) (b : UInt8) : getF (encF l ++ [b]) = none := by
  simp [getF, pF_enc [b] h hw]
theorem getE_F (l : List Wnt) : getE (encF l) = none := by
  have : pE (encF l) = some ([], UInt8.ofNat l.length :: l.flatMap encW) := rfl
  simp [getE, this]
theorem getF_E (l : List Atr) : getF (encE l) = none := by
  have : pF (encE l) = some ([], UInt8.ofNat l.length :: l.flatMap encA) := rfl
  simp [getF, this]
theorem encE_le {l : List Atr} (h : evOk l = true) : (encE l).length ≤ 600 := by
  have h8 := ev_len h
  have : ∀ (k : List Atr), (∀ z ∈ k, (encA z).length ≤ 51) → (k.flatMap encA).length ≤ k.length * 51 := by
    intro k
    induction k with
    | nil => intro _; simp
    | cons z k ih =>
      intro hk
      have h1 := hk z (by simp)
      have h2 := ih (fun y hy => hk y (by simp [hy]))
      rw [List.flatMap_cons, List.length_append, List.length_cons]; omega
  have h3 := this l (fun z hz => by
    obtain ⟨i, hi, rfl⟩ := List.getElem_of_mem hz
    obtain ⟨n1, v1⟩ := ev_at h hi
    have ea : aat l i = l[i] := by simp [aat, List.getD_eq_getElem?_getD, List.getElem?_eq_getElem hi]
    rw [ea] at n1 v1
    exact encA_le n1 (val_sz v1))
  simp only [encE, List.length_cons]
  omega
theorem encF_le {l : List Wnt} (h : filterOk l = true) : (encF l).length ≤ 600 := by
  have h8 := fi_len h
  have : ∀ (k : List Wnt), (∀ z ∈ k, (encW z).length ≤ 52) → (k.flatMap encW).length ≤ k.length * 52 := by
    intro k
    induction k with
    | nil => intro _; simp
    | cons z k ih =>
      intro hk
      have h1 := hk z (by simp)
      have h2 := ih (fun y hy => hk y (by simp [hy]))
      rw [List.flatMap_cons, List.length_append, List.length_cons]; omega
  have h3 := this l (fun z hz => by
    obtain ⟨i, hi, rfl⟩ := List.getElem_of_mem hz
    obtain ⟨n1, v1⟩ := fi_at h hi
    have ea : wat l i = l[i] := by simp [wat, List.getD_eq_getElem?_getD, List.getElem?_eq_getElem hi]
    rw [ea] at n1 v1
    exact encW_le n1 v1)
  simp only [encF, List.length_cons]
  omega
theorem str_snoc (l : List UInt8) : str l ++ ⟨#[0]⟩ = str (l ++ [0]) := by
  apply ByteArray.ext
  simp [str, ByteArray.data_append]
set_option maxRecDepth 100000 in
set_option maxHeartbeats 8000000 in
theorem Back_any (u : TypeId) (pv : Value) (zs ys : List Int) (ad ad' : Option Addr) (cap cap' : Nat) (cut : Int) (w : World) (hl : zs.length ≤ maxLen) (h : InAt w ad zs) (hwf : IntWf zs) (hl' : ys.length ≤ maxLen) (h' : InAt w ad' ys) (hwf' : IntWf ys) (hc1 : minI ≤ cut) (hc2 : cut ≤ maxI) (ht : Te u pv w) :
    Calls Tryd.prog 5 #[.slice ad zs.length cap, .slice ad' ys.length cap', .int .i64 cut] w fun e w' => e = .returned (.bool true) ∧ Gr w w' := by
  have HI := Hid.mk' h
  have HI' := Hid.mk' h'
  have HWF := Hid.mk' hwf
  have HWF' := Hid.mk' hwf'
  have HL := Hid.mk' hl
  have HL' := Hid.mk' hl'
  have HT := Hid.mk' ht
  have EO := Hid.mk' (evF_ok zs)
  have EW := Hid.mk' (evF_wf zs)
  have FO := Hid.mk' (wantsF_ok ys)
  have eln := evF_len zs
  obtain ⟨_, _, fl1, fl2⟩ := wantsF_ok ys
  clear h h' hwf hwf' hl hl' ht
  go_enter Tryd.func5, Tryd.ntmps5
  go_wp2_with fail
  refine (evKeep_any zs ad cap _ HL.out HI.out HWF.out).mono ?_
  rintro e w1 ⟨v1, rfl, g1, o1⟩
  obtain ⟨xa, xk, rfl, hev⟩ := owns_attrs o1
  have O1 := Hid.mk' o1
  have G1 := Hid.mk' g1
  have X1 := Hid.mk' hev
  clear g1 o1 hev
  go_wp2_with fail
  refine (wants_any ys ad' cap' _ HL'.out (HI'.out.gr G1.out) HWF'.out).mono ?_
  rintro e w2 ⟨v2, rfl, g2, o2⟩
  obtain ⟨ya, yk, rfl, hfi⟩ := owns_wants o2
  have O2 := Hid.mk' o2
  have G2 := Hid.mk' (Gr.call G1.out g2)
  have X2 := Hid.mk' (X1.out.gr g2)
  have Y2 := Hid.mk' hfi
  clear g2 o2 hfi X1 G1
  go_wp2_with fail
  refine (PutEvent_any (evF zs) xa xk w2 (by unfold maxLen; omega) X2.out EW.out).mono ?_
  rw [show putE (evF zs) = str (encE (evF zs)) by simp [putE, EO.out, str], show chkE (evF zs) = 0 by simp [chkE, EO.out]]
  rintro e w3 ⟨rfl, g3⟩
  have G3 := Hid.mk' (Gr.call G2.out g3)
  have X3 := Hid.mk' (X2.out.gr g3)
  have Y3 := Hid.mk' (Y2.out.gr g3)
  clear g3 G2 X2 Y2
  go_wp2_with fail
  refine (PutFilter_any (wantsF ys) ya yk w3 (by unfold maxLen; omega) Y3.out FO.out.2.1).mono ?_
  rw [show putF (wantsF ys) = str (encF (wantsF ys)) by simp [putF, FO.out.1, str], show chk (wantsF ys) = 0 by simp [chk, FO.out.1]]
  rintro e w4 ⟨rfl, g4⟩
  have G4 := Hid.mk' (Gr.call G3.out g4)
  have X4 := Hid.mk' (X3.out.gr g4)
  have Y4 := Hid.mk' (Y3.out.gr g4)
  clear g4 G3 X3 Y3
  go_wp2_with fail
  refine (GetEvent_any u pv (encE (evF zs)) w4 (HT.out.gr G4.out)).mono ?_
  intro e w5 q5
  rw [getE_enc EO.out EW.out] at q5
  obtain ⟨g5, v5, rfl, o5⟩ := q5
  obtain ⟨pa, pk, rfl, hp5⟩ := owns_attrs o5
  have G5 := Hid.mk' (Gr.call G4.out g5)
  have X5 := Hid.mk' (X4.out.gr g5)
  have Y5 := Hid.mk' (Y4.out.gr g5)
  have P5 := Hid.mk' hp5
  clear g5 o5 hp5 G4 X4 Y4
  go_wp2_with fail
  refine (GetFilter_any u pv (encF (wantsF ys)) w5 (HT.out.gr G5.out)).mono ?_
  intro e w6 q6
  rw [getF_enc FO.out.1 FO.out.2.1] at q6
  obtain ⟨g6, v6, rfl, o6⟩ := q6
  obtain ⟨qa, qk, rfl, hq6⟩ := owns_wants o6
  have G6 := Hid.mk' (Gr.call G5.out g6)
  have X6 := Hid.mk' (X5.out.gr g6)
  have Y6 := Hid.mk' (Y5.out.gr g6)
  have P6 := Hid.mk' (P5.out.gr g6)
  have Q6 := Hid.mk' hq6
  clear g6 o6 hq6 G5 X5 Y5 P5
  have hs1 : (str (encE (evF zs))).toList = encE (evF zs) := by rw [ByteArray.toList_eq]; simp [str]
  have hs2 : (str (encF (wantsF ys))).toList = encF (wantsF ys) := by rw [ByteArray.toList_eq]; simp [str]
  have he1 : (encE (evF zs) == ([] : List UInt8)) = false := rfl
  have he2 : (encF (wantsF ys) == ([] : List UInt8)) = false := rfl
  have hn1 : ¬ encE (evF zs) = [] := by simp [encE]
  have hn2 : ¬ encF (wantsF ys) = [] := by simp [encF]
  go_wp2_with fail
  go_loopw [17] (fun i wr => ∃ q : Nat, q ≤ (evF zs).length ∧ i = .int .i64 q ∧ Gr w6 wr) (fun i _ => (evF zs).length - (intOf i).toNat)
  case atStart => exact ⟨0, Nat.zero_le _, rfl, Gr.refl _⟩
  case round =>
    obtain ⟨q, hq, rfl, g⟩ := hrel
    by_cases hlt : q < (evF zs).length
    · obtain ⟨pb, poff, rfl, hpb, hpat⟩ := (P6.out.gr g).resolve_left (by intro h0; rw [h0] at hlt; simp at hlt)
      obtain ⟨xb, xoff, rfl, hxb, hxat⟩ := (X6.out.gr g).resolve_left (by intro h0; rw [h0] at hlt; simp at hlt)
      obtain ⟨c1, c2, c3, c4⟩ := hpat q hlt
      obtain ⟨d1, d2, d3, d4⟩ := hxat q hlt
      clear hpat hxat
      go_wp2_with fail
      go_region_held3 (fun w' => w'.cell? ⟨pb, poff + q * 4, none⟩ = some (.string (aat (evF zs) q).a) ∧ w'.cell? ⟨pb, poff + q * 4 + 1, none⟩ = some (.int .i64 (aat (evF zs) q).k) ∧ w'.cell? ⟨pb, poff + q * 4 + 1 + 1, none⟩ = some (.int .i64 (aat (evF zs) q).n) ∧ w'.cell? ⟨pb, poff + q * 4 + 1 + 1 + 1, none⟩ = some (.string (aat (evF zs) q).s) ∧ w'.cell? ⟨xb, xoff + q * 4, none⟩ = some (.string (aat (evF zs) q).a) ∧ w'.cell? ⟨xb, xoff + q * 4 + 1, none⟩ = some (.int .i64 (aat (evF zs) q).k) ∧ w'.cell? ⟨xb, xoff + q * 4 + 1 + 1, none⟩ = some (.int .i64 (aat (evF zs) q).n) ∧ w'.cell? ⟨xb, xoff + q * 4 + 1 + 1 + 1, none⟩ = some (.string (aat (evF zs) q).s))
        (simp [go_sem, *]) (fail)
      go_wp2_with fail
      refine ⟨⟨q + 1, by omega, by go_num, g.drew⟩, ?_⟩
      simp [intOf]; omega
    · have P7 := Hid.mk' (Q6.out.gr g)
      have Y7 := Hid.mk' (Y6.out.gr g)
      have G7 := Hid.mk' (Gr.call G6.out g)
      clear P6 X6 Q6 Y6 G6 g
      go_wp2_with fail
      clear hlt hq
      go_loopw [18] (fun i w8 => ∃ q : Nat, q ≤ (wantsF ys).length ∧ i = .int .i64 q ∧ Gr wr w8) (fun i _ => (wantsF ys).length - (intOf i).toNat)
      case atStart => exact ⟨0, Nat.zero_le _, rfl, Gr.refl _⟩
      case round =>
        rename_i w7 _
        obtain ⟨q, hq, rfl, g⟩ := hrel
        by_cases hlt : q < (wantsF ys).length
        · obtain ⟨qb, qoff, rfl, hqb, hqat⟩ := (P7.out.gr g).resolve_left (by intro h0; rw [h0] at hlt; simp at hlt)
          obtain ⟨yb, yoff, rfl, hyb, hyat⟩ := (Y7.out.gr g).resolve_left (by intro h0; rw [h0] at hlt; simp at hlt)
          obtain ⟨c1, c2, c3, c4, c5⟩ := hqat q hlt
          obtain ⟨d1, d2, d3, d4, d5⟩ := hyat q hlt
          clear hqat hyat
          go_wp2_with fail
          go_region_held3 (fun w' => w'.cell? ⟨qb, qoff + q * 5, none⟩ = some (.string (wat (wantsF ys) q).a) ∧ w'.cell? ⟨qb, qoff + q * 5 + 1, none⟩ = some (.int .i64 (wat (wantsF ys) q).y) ∧ w'.cell? ⟨qb, qoff + q * 5 + 1 + 1, none⟩ = some (.int .i64 (wat (wantsF ys) q).k) ∧ w'.cell? ⟨qb, qoff + q * 5 + 1 + 1 + 1, none⟩ = some (.int .i64 (wat (wantsF ys) q).n) ∧ w'.cell? ⟨qb, qoff + q * 5 + 1 + 1 + 1 + 1, none⟩ = some (.string (wat (wantsF ys) q).s) ∧ w'.cell? ⟨yb, yoff + q * 5, none⟩ = some (.string (wat (wantsF ys) q).a) ∧ w'.cell? ⟨yb, yoff + q * 5 + 1, none⟩ = some (.int .i64 (wat (wantsF ys) q).y) ∧ w'.cell? ⟨yb, yoff + q * 5 + 1 + 1, none⟩ = some (.int .i64 (wat (wantsF ys) q).k) ∧ w'.cell? ⟨yb, yoff + q * 5 + 1 + 1 + 1, none⟩ = some (.int .i64 (wat (wantsF ys) q).n) ∧ w'.cell? ⟨yb, yoff + q * 5 + 1 + 1 + 1 + 1, none⟩ = some (.string (wat (wantsF ys) q).s))
            (simp [go_sem, *]) (fail)
          go_wp2_with fail
          refine ⟨⟨q + 1, by omega, by go_num, g.drew⟩, ?_⟩
          simp [intOf]; omega
        · have G8 := Hid.mk' (Gr.call G7.out g)
          clear P7 Y7 G7 g
          have hsz1 := str_size (encE (evF zs))
          have hel := encE_le EO.out
          have hel1 : 1 ≤ (encE (evF zs)).length := by simp [encE]
          have hpk := pickF_bd cut ((str (encE (evF zs))).size : Int) (by omega)
          go_wp2_with fail
          refine (pick_any cut ((str (encE (evF zs))).size : Int) _ hc1 hc2 (by omega) (by omega)).mono ?_
          rintro e w' ⟨rfl, hw'⟩
          subst w'
          obtain ⟨c, hc⟩ : ∃ c : Nat, pickF cut ((str (encE (evF zs))).size : Int) = (c : Int) := ⟨(pickF cut ((str (encE (evF zs))).size : Int)).toNat, by omega⟩
          rw [hc] at hpk ⊢
          have hcl : c < (encE (evF zs)).length := by omega
          have hcl2 : (c : Int) ≤ ((str (encE (evF zs))).size : Int) := by omega
          have hcl3 : c ≤ (str (encE (evF zs))).size := by omega
          have hx1 := str_take (encE (evF zs)) c
          go_wp2_with fail
          refine (GetEvent_any u pv ((encE (evF zs)).take c) _ (HT.out.gr G8.out)).mono ?_
          intro e w9 q9
          rw [getE_cut EO.out EW.out hcl] at q9
          obtain ⟨g9, rfl⟩ : Gr _ w9 ∧ e = .returned (.tuple #[.slice none 0 0, .int .i64 3]) := q9
          have G9 := Hid.mk' (Gr.call G8.out g9)
          clear g9 G8 hx1 hcl hcl2 hcl3 hc hpk
          have hx2 := str_snoc (encF (wantsF ys))
          have hsz2 := str_size (encF (wantsF ys))
          have hfl := encF_le FO.out.1
          have hcat : (str (encF (wantsF ys))).size + 1 ≤ maxLen := by unfold maxLen; omega
          have hcat2 : (str (encF (wantsF ys))).size + 1 ≤ 9223372036854775807 := by omega
          have hcat3 : (encF (wantsF ys)).length + 1 ≤ 9223372036854775807 := by omega
          go_wp2_with fail
          refine (GetFilter_any u pv (encF (wantsF ys) ++ [0]) _ (HT.out.gr G9.out)).mono ?_
          intro e w10 q10
          rw [getF_more FO.out.1 FO.out.2.1] at q10
          obtain ⟨g10, rfl⟩ : Gr _ w10 ∧ e = .returned (.tuple #[.slice none 0 0, .int .i64 3]) := q10
          have G10 := Hid.mk' (Gr.call G9.out g10)
          clear g10 G9 hx2
          go_wp2_with fail
          refine (GetEvent_any u pv (encF (wantsF ys)) _ (HT.out.gr G10.out)).mono ?_
          intro e w11 q11
          rw [getE_F] at q11
          obtain ⟨g11, rfl⟩ : Gr _ w11 ∧ e = .returned (.tuple #[.slice none 0 0, .int .i64 3]) := q11
          have G11 := Hid.mk' (Gr.call G10.out g11)
          clear g11 G10
          go_wp2_with fail
          refine (GetFilter_any u pv (encE (evF zs)) _ (HT.out.gr G11.out)).mono ?_
          intro e w12 q12
          rw [getF_E] at q12
          obtain ⟨g12, rfl⟩ : Gr _ w12 ∧ e = .returned (.tuple #[.slice none 0 0, .int .i64 3]) := q12
          have G12 := Hid.mk' (Gr.call G11.out g12)
          clear g12 G11
          go_wp2_with fail
          go_ret
          exact ⟨rfl, G12.out⟩
end Go.Proofs.YtecnfgikbmcgoaaDoor
