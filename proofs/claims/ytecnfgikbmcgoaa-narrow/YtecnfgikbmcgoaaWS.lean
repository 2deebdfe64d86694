import Derived.Test.YtecnfgikbmcgoaaWR
namespace Go.Proofs.Ytecnfgikbmcgoaa
open Go.RowKit

def zat (zss : List (List Int)) (i : Nat) : List Int := zss.getD i []
theorem zat_mem {zss : List (List Int)} {i : Nat} (h : i < zss.length) : zat zss i ∈ zss := getD_mem h []
/-- Lists of ints lie in a block, a cell each. -/
def InsAt (w : World) (b off : Nat) (zss : List (List Int)) : Prop := ∀ i, i < zss.length → ∃ ad cap, w.cell? ⟨b, off + i, none⟩ = some (.slice ad (zat zss i).length cap) ∧ InAt w ad (zat zss i)
theorem InsAt.gr {w w' : World} {b off : Nat} {zss : List (List Int)} (h : InsAt w b off zss) (g : Gr w w') (hb : b < w.heap.size) : InsAt w' b off zss := fun i hi => by
  obtain ⟨ad, cap, h1, h2⟩ := h i hi
  exact ⟨ad, cap, by rw [(bcell g).1 b _ hb]; exact h1, h2.gr g⟩

def InsAd (w : World) (ad : Option Addr) (zss : List (List Int)) : Prop := zss = [] ∨ ∃ b off, ad = some ⟨b, off, none⟩ ∧ b < w.heap.size ∧ InsAt w b off zss
theorem InsAd.gr {w w' : World} {ad : Option Addr} {zss : List (List Int)} (h : InsAd w ad zss) (g : Gr w w') : InsAd w' ad zss := by
  rcases h with h | ⟨b, off, h1, h2, h3⟩
  · exact Or.inl h
  · exact Or.inr ⟨b, off, h1, Gr.lt g h2, h3.gr g h2⟩

/-- A want under the name a. -/
def renA (v : Int) : Wnt := { wantF v with a := ⟨#[97]⟩ }
theorem renA_ok (v : Int) : wOk (renA v) = true := by
  have h2 := wantF_ok v
  simp only [wOk, wantOk, Bool.and_eq_true] at h2 ⊢
  exact ⟨name97, h2.2⟩
theorem renA_wf (v : Int) : (renA v).Wf := ⟨by show (⟨#[97]⟩ : ByteArray).size ≤ maxLen; decide, (wantF_wf v).s, (wantF_wf v).n1, (wantF_wf v).n2⟩
theorem renA_fi (v : Int) : filterOk [renA v] = true := by simp [filterOk, renA_ok]
theorem owns_ev {w : World} {base : Nat} {e : TypeId} {g cap : Nat} {l : List Atr} (h : w.ownsRow base e 4 (.slice (some ⟨g, 0, none⟩) l.length cap) l.length (acells l)) : EvAt w (some ⟨g, 0, none⟩) l := by
  obtain ⟨ad, c, e, hf⟩ := owns_attrs h
  simp only [Value.slice.injEq] at e
  rw [e.1]; exact hf
/-- A filter of one want in a block of its own. -/
theorem fi_new (w : World) (x : Wnt) : FiAt (w.alloc (.cells #[.string x.a, .int .i64 x.y, .int .i64 x.k, .int .i64 x.n, .string x.s] 67)) (some ⟨w.heap.size, 0, none⟩) [x] := by
  refine Or.inr ⟨w.heap.size, 0, rfl, by simp, fun i hi => ?_⟩
  have e : i = 0 := by simpa using hi
  subst e
  simp [go_sem, wat]
theorem wf_one {x : Wnt} (h : x.Wf) : ∀ y ∈ [x], Wnt.Wf y := fun y hy => by simp at hy; subst hy; exact h

theorem field_way (a : ByteArray) (y k n : Int) (s : ByteArray) (w : World) : (Instr.field 67 (.agg #[.string a, .int .i64 y, .int .i64 k, .int .i64 n, .string s]) 1).run Try.prog w = .ok (.int .i64 y) w := by kernel_rfl
theorem field_val (a : ByteArray) (y k n : Int) (s : ByteArray) (w : World) : (Instr.field 67 (.agg #[.string a, .int .i64 y, .int .i64 k, .int .i64 n, .string s]) 2).run Try.prog w = .ok (.agg #[.int .i64 k, .int .i64 n, .string s]) w := by kernel_rfl

set_option maxRecDepth 100000 in
set_option maxHeartbeats 8000000 in
theorem Narrow_any (f g : List Int) (v x : Int) (zss : List (List Int)) (adf adg ade : Option Addr) (cf cg ce : Nat) (m : Int) (w : World)
    (hv : -9223372036854775808 ≤ v ∧ v ≤ 9223372036854775807) (hx : -9223372036854775808 ≤ x ∧ x ≤ 9223372036854775807)
    (lf : f.length ≤ maxLen) (lg : g.length ≤ maxLen) (af : InAt w adf f) (ag : InAt w adg g) (wf : IntWf f) (wg : IntWf g)
    (lz : zss.length ≤ maxLen) (az : InsAd w ade zss) (lzs : ∀ z ∈ zss, z.length ≤ maxLen) (wzs : ∀ z ∈ zss, IntWf z) (hM : Ml m w) :
    Calls Try.prog 5 #[.slice adf f.length cf, .slice adg g.length cg, .int .i64 v, .int .i64 x, (.slice ade zss.length ce)] w fun e w' => e = .returned (.bool true) ∧ Gr w w' := by
  have HV : Hid (-9223372036854775808 ≤ v ∧ v ≤ 9223372036854775807) := hv
  have HX : Hid (-9223372036854775808 ≤ x ∧ x ≤ 9223372036854775807) := hx
  have LF : Hid (f.length ≤ maxLen) := lf
  have LG : Hid (g.length ≤ maxLen) := lg
  have AF : Hid (InAt w adf f) := af
  have AG : Hid (InAt w adg g) := ag
  have WF : Hid (IntWf f) := wf
  have WG : Hid (IntWf g) := wg
  have AZ : Hid (InsAd w ade zss) := az
  have LZ : Hid (∀ z ∈ zss, z.length ≤ maxLen) := lzs
  have WZ : Hid (∀ z ∈ zss, IntWf z) := wzs
  unfold maxLen at lz
  clear hv hx lf lg af ag wf wg az lzs wzs
  have OK : Hid ((filterOk (wantsF f) = true ∧ (∀ x ∈ wantsF f, Wnt.Wf x) ∧ 1 ≤ (wantsF f).length ∧ (wantsF f).length ≤ 3) ∧ (filterOk (wantsF g) = true ∧ (∀ x ∈ wantsF g, Wnt.Wf x) ∧ 1 ≤ (wantsF g).length ∧ (wantsF g).length ≤ 3)) := ⟨wantsF_ok f, wantsF_ok g⟩
  have fw := field_way
  have fv := field_val
  go_enter Try.func5, Try.ntmps5
  go_wp2_with fail
  refine (lives_any m _ hM).mono ?_
  rintro e w1 ⟨rfl, hb1⟩
  have g1 : Gr w w1 := hb1
  clear hb1
  go_wp2_with fail
  refine (wants_any f _ _ _ LF.out (AF.out.gr g1) WF.out).mono ?_
  rintro e wx ⟨vx, rfl, hbx, hownx⟩
  have Gx : Gr w wx := Gr.call g1 hbx
  obtain ⟨gx, cx, rfl⟩ := owns_pos hownx (by have := OK.out.1.2.2.1; omega)
  have FX0 : Hid (FiAt wx (some ⟨gx, 0, none⟩) (wantsF f)) := owns_fi hownx
  clear hownx hbx
  go_wp2_with fail
  refine (wants_any g _ _ _ LG.out (AG.out.gr Gx) WG.out).mono ?_
  rintro e wy ⟨vy, rfl, hby, howny⟩
  have Gy : Gr w wy := Gr.call Gx hby
  obtain ⟨gy, cy, rfl⟩ := owns_pos howny (by have := OK.out.2.2.2.1; omega)
  have FY1 : Hid (FiAt wy (some ⟨gy, 0, none⟩) (wantsF g)) := owns_fi howny
  have FX1 : Hid (FiAt wy (some ⟨gx, 0, none⟩) (wantsF f)) := FX0.out.gr hby
  clear howny hby FX0
  go_wp2_with fail
  refine (Covers_ad (wantsF f) (wantsF g) _ _ _ _ m _ (by have := OK.out.1.2.2.2; unfold maxLen; omega) FX1.out OK.out.1.2.1 (fi_ok_of OK.out.1.1).2 (by have := OK.out.2.2.2.2; unfold maxLen; omega) FY1.out OK.out.2.2.1 (fi_ok_of OK.out.2.1).2 (Gy.ml hM)).mono ?_
  rintro e w2 ⟨rfl, hb2⟩
  have G2 : Gr w w2 := Gr.call Gy hb2
  have FX2 : Hid (FiAt w2 (some ⟨gx, 0, none⟩) (wantsF f)) := FX1.out.gr hb2
  have FY2 : Hid (FiAt w2 (some ⟨gy, 0, none⟩) (wantsF g)) := FY1.out.gr hb2
  clear hb2 FX1 FY1
  go_wp2_with fail
  refine (keepWant_any v _ HV.out.1 HV.out.2).mono ?_
  rintro e w3 ⟨rfl, hb3⟩
  have T3 : Gr w2 w3 := hb3
  clear hb3
  go_wp2_with fail
  refine (keepWant_any v _ HV.out.1 HV.out.2).mono ?_
  rintro e w4 ⟨rfl, hb4⟩
  have T4 : Gr w2 w4 := Gr.call T3 hb4
  clear hb4 T3
  go_wp2_with fail
  refine (keepWant_any x _ HX.out.1 HX.out.2).mono ?_
  rintro e w5 ⟨rfl, hb5⟩
  have BP5 : Hid (Box w5 w4.heap.size (renA v)) := (Box.new w4 (renA v)).gr hb5
  have T5 : Gr w2 w5 := Gr.call (T4.alloc _) hb5
  clear hb5 T4
  go_wp2_with fail
  refine (keepWant_any x _ HX.out.1 HX.out.2).mono ?_
  rintro e w6 ⟨rfl, hb6⟩
  have BP6 : Hid (Box w6 w4.heap.size (renA v)) := BP5.out.gr hb6
  have T6 : Gr w2 w6 := Gr.call T5 hb6
  clear hb6 T5 BP5
  have a0 := BP6.out.c0
  have a1 := BP6.out.c1
  have a2 := BP6.out.c2
  have a3 := BP6.out.c3
  have a4 := BP6.out.c4
  have al := BP6.out.lt
  go_wp2_with fail
  refine (Implies_any _ _ _ _ _ _ _ _ _ _ m _ (renA_wf v).a (renA_wf x).a (renA_wf v).n1 (renA_wf v).n2 (((Gr.call G2 T6).ml hM).alloc _)).mono ?_
  rintro e w7 ⟨he, hb7⟩
  have he' : e = .returned (.bool (impW (renA v) (renA x))) := he
  subst he'
  have T7 : Gr w2 w7 := Gr.call (T6.alloc _) hb7
  have BP : Hid (Box w7 w4.heap.size (renA v)) := (BP6.out.gr ((Gr.refl w6).alloc _)).gr hb7
  have BQ : Hid (Box w7 w6.heap.size (renA x)) := (Box.new w6 (renA x)).gr hb7
  have FX : Hid (FiAt w7 (some ⟨gx, 0, none⟩) (wantsF f)) := FX2.out.gr T7
  have FY : Hid (FiAt w7 (some ⟨gy, 0, none⟩) (wantsF g)) := FY2.out.gr T7
  have G7 : Gr w w7 := Gr.call G2 T7
  have AZ7 : Hid (InsAd w7 ade zss) := AZ.out.gr G7
  have hM7 : Ml m w7 := G7.ml hM
  clear he a0 a1 a2 a3 a4 al hb7 T6 T7 BP6 FX2 FY2 G2 fw fv
  have KX : Hid (∀ zs, cov (wantsF f) (wantsF g) = true → mat (evF zs) (wantsF g) = true → mat (evF zs) (wantsF f) = true) := fun zs h1 h2 => mat_cov OK.out.1.2.1 OK.out.2.2.1 (evF_ok zs) (evF_wf zs) h1 h2
  have KP : Hid (∀ zs, impW (renA v) (renA x) = true → mat (evF zs) [renA v] = true → mat (evF zs) [renA x] = true) := fun zs h1 h2 => mat_imp (renA_wf v) (renA_wf x) (evF_ok zs) (evF_wf zs) h1 h2
  cases hca : cov (wantsF f) (wantsF g)
  · cases hcb : impW (renA v) (renA x)
    · go_wp2_with fail
      go_loopw [18] (fun i wr => ∃ k : Nat, k ≤ zss.length ∧ i = .int .i64 k ∧ Gr w7 wr) (fun i _ => zss.length - (intOf i).toNat)
      case atStart => exact ⟨0, Nat.zero_le _, rfl, Gr.refl _⟩
      case round =>
        obtain ⟨k, hk, rfl, gr⟩ := hrel
        by_cases hlt : k < zss.length
        · rcases AZ7.out.gr gr with hne | ⟨be, oe, rfl, hbr, azz⟩
          · subst hne; simp at hlt
          obtain ⟨az, cz, az1, az2⟩ := azz k hlt
          clear azz
          have AZk : Hid (InAt wr az (zat zss k)) := az2
          clear az2
          go_wp2_with fail
          refine (event_any (zat zss k) az cz _ (LZ.out _ (zat_mem hlt)) AZk.out (WZ.out _ (zat_mem hlt))).mono ?_
          rintro e we ⟨ve, rfl, hbe', howne⟩
          have Ge : Gr w7 we := Gr.call gr hbe'
          obtain ⟨ge, cge, rfl⟩ := owns_pos howne (by have := (evF_len (zat zss k)).1; omega)
          have EV : Hid (EvAt we (some ⟨ge, 0, none⟩) (evF (zat zss k))) := owns_ev howne
          clear howne hbe' az1 AZk
          go_wp2_with fail
          refine (one_any (evF (zat zss k)) (wantsF f) _ _ _ _ m _ (by have := (evF_len (zat zss k)).2; unfold maxLen; omega) EV.out (evF_wf _) (by have := OK.out.1.2.2.2; unfold maxLen; omega) (FX.out.gr Ge) OK.out.1.2.1 (evF_ok _) OK.out.1.1 (Ge.ml hM7)).mono ?_
          rintro e wa ⟨rfl, hba⟩
          have Ga : Gr w7 wa := Gr.call Ge hba
          have Gae : Gr we wa := hba
          clear hba
          go_wp2_with fail
          refine (one_any (evF (zat zss k)) (wantsF g) _ _ _ _ m _ (by have := (evF_len (zat zss k)).2; unfold maxLen; omega) (EV.out.gr Gae) (evF_wf _) (by have := OK.out.2.2.2.2; unfold maxLen; omega) (FY.out.gr Ga) OK.out.2.2.1 (evF_ok _) OK.out.2.1 (Ga.ml hM7)).mono ?_
          rintro e wb ⟨rfl, hbb⟩
          have Gb : Gr w7 wb := Gr.call Ga hbb
          have Gbe : Gr we wb := Gr.call Gae hbb
          clear hbb
          have p0 := (BP.out.gr Gb).c0
          have p1 := (BP.out.gr Gb).c1
          have p2 := (BP.out.gr Gb).c2
          have p3 := (BP.out.gr Gb).c3
          have p4 := (BP.out.gr Gb).c4
          go_wp2_with fail
          refine (one_any (evF (zat zss k)) [renA v] _ _ _ _ m _ (by have := (evF_len (zat zss k)).2; unfold maxLen; omega) (EV.out.gr (Gbe.alloc _)) (evF_wf _) (one_len _) (fi_new wb (renA v)) (wf_one (renA_wf v)) (evF_ok _) (renA_fi v) ((Gb.alloc _).ml hM7)).mono ?_
          rintro e wc ⟨rfl, hbc⟩
          have Gc : Gr w7 wc := Gr.call (Gb.alloc _) hbc
          have Gce : Gr we wc := Gr.call (Gbe.alloc _) hbc
          clear hbc p0 p1 p2 p3 p4
          have q0 := (BQ.out.gr Gc).c0
          have q1 := (BQ.out.gr Gc).c1
          have q2 := (BQ.out.gr Gc).c2
          have q3 := (BQ.out.gr Gc).c3
          have q4 := (BQ.out.gr Gc).c4
          go_wp2_with fail
          refine (one_any (evF (zat zss k)) [renA x] _ _ _ _ m _ (by have := (evF_len (zat zss k)).2; unfold maxLen; omega) (EV.out.gr (Gce.alloc _)) (evF_wf _) (one_len _) (fi_new wc (renA x)) (wf_one (renA_wf x)) (evF_ok _) (renA_fi x) ((Gc.alloc _).ml hM7)).mono ?_
          rintro e wd ⟨rfl, hbd⟩
          have Gd : Gr w7 wd := Gr.call (Gc.alloc _) hbd
          clear hbd q0 q1 q2 q3 q4
          go_wp2_with fail
          go_roundw
          case rel => exact ⟨k + 1, by omega, by go_num, Gd⟩
          case measure => simp [intOf]; omega
        · go_wp2
          go_ret
          exact ⟨rfl, Gr.call G7 gr⟩
    · go_wp2_with fail
      go_loopw [18] (fun i wr => ∃ k : Nat, k ≤ zss.length ∧ i = .int .i64 k ∧ Gr w7 wr) (fun i _ => zss.length - (intOf i).toNat)
      case atStart => exact ⟨0, Nat.zero_le _, rfl, Gr.refl _⟩
      case round =>
        obtain ⟨k, hk, rfl, gr⟩ := hrel
        by_cases hlt : k < zss.length
        · rcases AZ7.out.gr gr with hne | ⟨be, oe, rfl, hbr, azz⟩
          · subst hne; simp at hlt
          obtain ⟨az, cz, az1, az2⟩ := azz k hlt
          clear azz
          have AZk : Hid (InAt wr az (zat zss k)) := az2
          clear az2
          go_wp2_with fail
          refine (event_any (zat zss k) az cz _ (LZ.out _ (zat_mem hlt)) AZk.out (WZ.out _ (zat_mem hlt))).mono ?_
          rintro e we ⟨ve, rfl, hbe', howne⟩
          have Ge : Gr w7 we := Gr.call gr hbe'
          obtain ⟨ge, cge, rfl⟩ := owns_pos howne (by have := (evF_len (zat zss k)).1; omega)
          have EV : Hid (EvAt we (some ⟨ge, 0, none⟩) (evF (zat zss k))) := owns_ev howne
          clear howne hbe' az1 AZk
          go_wp2_with fail
          refine (one_any (evF (zat zss k)) (wantsF f) _ _ _ _ m _ (by have := (evF_len (zat zss k)).2; unfold maxLen; omega) EV.out (evF_wf _) (by have := OK.out.1.2.2.2; unfold maxLen; omega) (FX.out.gr Ge) OK.out.1.2.1 (evF_ok _) OK.out.1.1 (Ge.ml hM7)).mono ?_
          rintro e wa ⟨rfl, hba⟩
          have Ga : Gr w7 wa := Gr.call Ge hba
          have Gae : Gr we wa := hba
          clear hba
          go_wp2_with fail
          refine (one_any (evF (zat zss k)) (wantsF g) _ _ _ _ m _ (by have := (evF_len (zat zss k)).2; unfold maxLen; omega) (EV.out.gr Gae) (evF_wf _) (by have := OK.out.2.2.2.2; unfold maxLen; omega) (FY.out.gr Ga) OK.out.2.2.1 (evF_ok _) OK.out.2.1 (Ga.ml hM7)).mono ?_
          rintro e wb ⟨rfl, hbb⟩
          have Gb : Gr w7 wb := Gr.call Ga hbb
          have Gbe : Gr we wb := Gr.call Gae hbb
          clear hbb
          have p0 := (BP.out.gr Gb).c0
          have p1 := (BP.out.gr Gb).c1
          have p2 := (BP.out.gr Gb).c2
          have p3 := (BP.out.gr Gb).c3
          have p4 := (BP.out.gr Gb).c4
          go_wp2_with fail
          refine (one_any (evF (zat zss k)) [renA v] _ _ _ _ m _ (by have := (evF_len (zat zss k)).2; unfold maxLen; omega) (EV.out.gr (Gbe.alloc _)) (evF_wf _) (one_len _) (fi_new wb (renA v)) (wf_one (renA_wf v)) (evF_ok _) (renA_fi v) ((Gb.alloc _).ml hM7)).mono ?_
          rintro e wc ⟨rfl, hbc⟩
          have Gc : Gr w7 wc := Gr.call (Gb.alloc _) hbc
          have Gce : Gr we wc := Gr.call (Gbe.alloc _) hbc
          clear hbc p0 p1 p2 p3 p4
          have q0 := (BQ.out.gr Gc).c0
          have q1 := (BQ.out.gr Gc).c1
          have q2 := (BQ.out.gr Gc).c2
          have q3 := (BQ.out.gr Gc).c3
          have q4 := (BQ.out.gr Gc).c4
          go_wp2_with fail
          refine (one_any (evF (zat zss k)) [renA x] _ _ _ _ m _ (by have := (evF_len (zat zss k)).2; unfold maxLen; omega) (EV.out.gr (Gce.alloc _)) (evF_wf _) (one_len _) (fi_new wc (renA x)) (wf_one (renA_wf x)) (evF_ok _) (renA_fi x) ((Gc.alloc _).ml hM7)).mono ?_
          rintro e wd ⟨rfl, hbd⟩
          have Gd : Gr w7 wd := Gr.call (Gc.alloc _) hbd
          clear hbd q0 q1 q2 q3 q4
          cases hs : mat (evF (zat zss k)) [renA v]
          · go_wp2_with fail
            go_roundw
            case rel => exact ⟨k + 1, by omega, by go_num, Gd⟩
            case measure => simp [intOf]; omega
          · have ht : mat (evF (zat zss k)) [renA x] = true := KP.out _ hcb hs
            rw [ht]
            go_wp2_with fail
            go_roundw
            case rel => exact ⟨k + 1, by omega, by go_num, Gd⟩
            case measure => simp [intOf]; omega
        · go_wp2
          go_ret
          exact ⟨rfl, Gr.call G7 gr⟩
  · cases hcb : impW (renA v) (renA x)
    · go_wp2_with fail
      go_loopw [18] (fun i wr => ∃ k : Nat, k ≤ zss.length ∧ i = .int .i64 k ∧ Gr w7 wr) (fun i _ => zss.length - (intOf i).toNat)
      case atStart => exact ⟨0, Nat.zero_le _, rfl, Gr.refl _⟩
      case round =>
        obtain ⟨k, hk, rfl, gr⟩ := hrel
        by_cases hlt : k < zss.length
        · rcases AZ7.out.gr gr with hne | ⟨be, oe, rfl, hbr, azz⟩
          · subst hne; simp at hlt
          obtain ⟨az, cz, az1, az2⟩ := azz k hlt
          clear azz
          have AZk : Hid (InAt wr az (zat zss k)) := az2
          clear az2
          go_wp2_with fail
          refine (event_any (zat zss k) az cz _ (LZ.out _ (zat_mem hlt)) AZk.out (WZ.out _ (zat_mem hlt))).mono ?_
          rintro e we ⟨ve, rfl, hbe', howne⟩
          have Ge : Gr w7 we := Gr.call gr hbe'
          obtain ⟨ge, cge, rfl⟩ := owns_pos howne (by have := (evF_len (zat zss k)).1; omega)
          have EV : Hid (EvAt we (some ⟨ge, 0, none⟩) (evF (zat zss k))) := owns_ev howne
          clear howne hbe' az1 AZk
          go_wp2_with fail
          refine (one_any (evF (zat zss k)) (wantsF f) _ _ _ _ m _ (by have := (evF_len (zat zss k)).2; unfold maxLen; omega) EV.out (evF_wf _) (by have := OK.out.1.2.2.2; unfold maxLen; omega) (FX.out.gr Ge) OK.out.1.2.1 (evF_ok _) OK.out.1.1 (Ge.ml hM7)).mono ?_
          rintro e wa ⟨rfl, hba⟩
          have Ga : Gr w7 wa := Gr.call Ge hba
          have Gae : Gr we wa := hba
          clear hba
          go_wp2_with fail
          refine (one_any (evF (zat zss k)) (wantsF g) _ _ _ _ m _ (by have := (evF_len (zat zss k)).2; unfold maxLen; omega) (EV.out.gr Gae) (evF_wf _) (by have := OK.out.2.2.2.2; unfold maxLen; omega) (FY.out.gr Ga) OK.out.2.2.1 (evF_ok _) OK.out.2.1 (Ga.ml hM7)).mono ?_
          rintro e wb ⟨rfl, hbb⟩
          have Gb : Gr w7 wb := Gr.call Ga hbb
          have Gbe : Gr we wb := Gr.call Gae hbb
          clear hbb
          cases hty : mat (evF (zat zss k)) (wantsF g)
          · have p0 := (BP.out.gr Gb).c0
            have p1 := (BP.out.gr Gb).c1
            have p2 := (BP.out.gr Gb).c2
            have p3 := (BP.out.gr Gb).c3
            have p4 := (BP.out.gr Gb).c4
            go_wp2_with fail
            refine (one_any (evF (zat zss k)) [renA v] _ _ _ _ m _ (by have := (evF_len (zat zss k)).2; unfold maxLen; omega) (EV.out.gr (Gbe.alloc _)) (evF_wf _) (one_len _) (fi_new wb (renA v)) (wf_one (renA_wf v)) (evF_ok _) (renA_fi v) ((Gb.alloc _).ml hM7)).mono ?_
            rintro e wc ⟨rfl, hbc⟩
            have Gc : Gr w7 wc := Gr.call (Gb.alloc _) hbc
            have Gce : Gr we wc := Gr.call (Gbe.alloc _) hbc
            clear hbc p0 p1 p2 p3 p4
            have q0 := (BQ.out.gr Gc).c0
            have q1 := (BQ.out.gr Gc).c1
            have q2 := (BQ.out.gr Gc).c2
            have q3 := (BQ.out.gr Gc).c3
            have q4 := (BQ.out.gr Gc).c4
            go_wp2_with fail
            refine (one_any (evF (zat zss k)) [renA x] _ _ _ _ m _ (by have := (evF_len (zat zss k)).2; unfold maxLen; omega) (EV.out.gr (Gce.alloc _)) (evF_wf _) (one_len _) (fi_new wc (renA x)) (wf_one (renA_wf x)) (evF_ok _) (renA_fi x) ((Gc.alloc _).ml hM7)).mono ?_
            rintro e wd ⟨rfl, hbd⟩
            have Gd : Gr w7 wd := Gr.call (Gc.alloc _) hbd
            clear hbd q0 q1 q2 q3 q4
            go_wp2_with fail
            go_roundw
            case rel => exact ⟨k + 1, by omega, by go_num, Gd⟩
            case measure => simp [intOf]; omega
          · have hsx : mat (evF (zat zss k)) (wantsF f) = true := KX.out _ hca hty
            rw [hsx]
            have p0 := (BP.out.gr Gb).c0
            have p1 := (BP.out.gr Gb).c1
            have p2 := (BP.out.gr Gb).c2
            have p3 := (BP.out.gr Gb).c3
            have p4 := (BP.out.gr Gb).c4
            go_wp2_with fail
            refine (one_any (evF (zat zss k)) [renA v] _ _ _ _ m _ (by have := (evF_len (zat zss k)).2; unfold maxLen; omega) (EV.out.gr (Gbe.alloc _)) (evF_wf _) (one_len _) (fi_new wb (renA v)) (wf_one (renA_wf v)) (evF_ok _) (renA_fi v) ((Gb.alloc _).ml hM7)).mono ?_
            rintro e wc ⟨rfl, hbc⟩
            have Gc : Gr w7 wc := Gr.call (Gb.alloc _) hbc
            have Gce : Gr we wc := Gr.call (Gbe.alloc _) hbc
            clear hbc p0 p1 p2 p3 p4
            have q0 := (BQ.out.gr Gc).c0
            have q1 := (BQ.out.gr Gc).c1
            have q2 := (BQ.out.gr Gc).c2
            have q3 := (BQ.out.gr Gc).c3
            have q4 := (BQ.out.gr Gc).c4
            go_wp2_with fail
            refine (one_any (evF (zat zss k)) [renA x] _ _ _ _ m _ (by have := (evF_len (zat zss k)).2; unfold maxLen; omega) (EV.out.gr (Gce.alloc _)) (evF_wf _) (one_len _) (fi_new wc (renA x)) (wf_one (renA_wf x)) (evF_ok _) (renA_fi x) ((Gc.alloc _).ml hM7)).mono ?_
            rintro e wd ⟨rfl, hbd⟩
            have Gd : Gr w7 wd := Gr.call (Gc.alloc _) hbd
            clear hbd q0 q1 q2 q3 q4
            go_wp2_with fail
            go_roundw
            case rel => exact ⟨k + 1, by omega, by go_num, Gd⟩
            case measure => simp [intOf]; omega
        · go_wp2
          go_ret
          exact ⟨rfl, Gr.call G7 gr⟩
    · go_wp2_with fail
      go_loopw [18] (fun i wr => ∃ k : Nat, k ≤ zss.length ∧ i = .int .i64 k ∧ Gr w7 wr) (fun i _ => zss.length - (intOf i).toNat)
      case atStart => exact ⟨0, Nat.zero_le _, rfl, Gr.refl _⟩
      case round =>
        obtain ⟨k, hk, rfl, gr⟩ := hrel
        by_cases hlt : k < zss.length
        · rcases AZ7.out.gr gr with hne | ⟨be, oe, rfl, hbr, azz⟩
          · subst hne; simp at hlt
          obtain ⟨az, cz, az1, az2⟩ := azz k hlt
          clear azz
          have AZk : Hid (InAt wr az (zat zss k)) := az2
          clear az2
          go_wp2_with fail
          refine (event_any (zat zss k) az cz _ (LZ.out _ (zat_mem hlt)) AZk.out (WZ.out _ (zat_mem hlt))).mono ?_
          rintro e we ⟨ve, rfl, hbe', howne⟩
          have Ge : Gr w7 we := Gr.call gr hbe'
          obtain ⟨ge, cge, rfl⟩ := owns_pos howne (by have := (evF_len (zat zss k)).1; omega)
          have EV : Hid (EvAt we (some ⟨ge, 0, none⟩) (evF (zat zss k))) := owns_ev howne
          clear howne hbe' az1 AZk
          go_wp2_with fail
          refine (one_any (evF (zat zss k)) (wantsF f) _ _ _ _ m _ (by have := (evF_len (zat zss k)).2; unfold maxLen; omega) EV.out (evF_wf _) (by have := OK.out.1.2.2.2; unfold maxLen; omega) (FX.out.gr Ge) OK.out.1.2.1 (evF_ok _) OK.out.1.1 (Ge.ml hM7)).mono ?_
          rintro e wa ⟨rfl, hba⟩
          have Ga : Gr w7 wa := Gr.call Ge hba
          have Gae : Gr we wa := hba
          clear hba
          go_wp2_with fail
          refine (one_any (evF (zat zss k)) (wantsF g) _ _ _ _ m _ (by have := (evF_len (zat zss k)).2; unfold maxLen; omega) (EV.out.gr Gae) (evF_wf _) (by have := OK.out.2.2.2.2; unfold maxLen; omega) (FY.out.gr Ga) OK.out.2.2.1 (evF_ok _) OK.out.2.1 (Ga.ml hM7)).mono ?_
          rintro e wb ⟨rfl, hbb⟩
          have Gb : Gr w7 wb := Gr.call Ga hbb
          have Gbe : Gr we wb := Gr.call Gae hbb
          clear hbb
          cases hty : mat (evF (zat zss k)) (wantsF g)
          · have p0 := (BP.out.gr Gb).c0
            have p1 := (BP.out.gr Gb).c1
            have p2 := (BP.out.gr Gb).c2
            have p3 := (BP.out.gr Gb).c3
            have p4 := (BP.out.gr Gb).c4
            go_wp2_with fail
            refine (one_any (evF (zat zss k)) [renA v] _ _ _ _ m _ (by have := (evF_len (zat zss k)).2; unfold maxLen; omega) (EV.out.gr (Gbe.alloc _)) (evF_wf _) (one_len _) (fi_new wb (renA v)) (wf_one (renA_wf v)) (evF_ok _) (renA_fi v) ((Gb.alloc _).ml hM7)).mono ?_
            rintro e wc ⟨rfl, hbc⟩
            have Gc : Gr w7 wc := Gr.call (Gb.alloc _) hbc
            have Gce : Gr we wc := Gr.call (Gbe.alloc _) hbc
            clear hbc p0 p1 p2 p3 p4
            have q0 := (BQ.out.gr Gc).c0
            have q1 := (BQ.out.gr Gc).c1
            have q2 := (BQ.out.gr Gc).c2
            have q3 := (BQ.out.gr Gc).c3
            have q4 := (BQ.out.gr Gc).c4
            go_wp2_with fail
            refine (one_any (evF (zat zss k)) [renA x] _ _ _ _ m _ (by have := (evF_len (zat zss k)).2; unfold maxLen; omega) (EV.out.gr (Gce.alloc _)) (evF_wf _) (one_len _) (fi_new wc (renA x)) (wf_one (renA_wf x)) (evF_ok _) (renA_fi x) ((Gc.alloc _).ml hM7)).mono ?_
            rintro e wd ⟨rfl, hbd⟩
            have Gd : Gr w7 wd := Gr.call (Gc.alloc _) hbd
            clear hbd q0 q1 q2 q3 q4
            cases hs : mat (evF (zat zss k)) [renA v]
            · go_wp2_with fail
              go_roundw
              case rel => exact ⟨k + 1, by omega, by go_num, Gd⟩
              case measure => simp [intOf]; omega
            · have ht : mat (evF (zat zss k)) [renA x] = true := KP.out _ hcb hs
              rw [ht]
              go_wp2_with fail
              go_roundw
              case rel => exact ⟨k + 1, by omega, by go_num, Gd⟩
              case measure => simp [intOf]; omega
          · have hsx : mat (evF (zat zss k)) (wantsF f) = true := KX.out _ hca hty
            rw [hsx]
            have p0 := (BP.out.gr Gb).c0
            have p1 := (BP.out.gr Gb).c1
            have p2 := (BP.out.gr Gb).c2
            have p3 := (BP.out.gr Gb).c3
            have p4 := (BP.out.gr Gb).c4
            go_wp2_with fail
            refine (one_any (evF (zat zss k)) [renA v] _ _ _ _ m _ (by have := (evF_len (zat zss k)).2; unfold maxLen; omega) (EV.out.gr (Gbe.alloc _)) (evF_wf _) (one_len _) (fi_new wb (renA v)) (wf_one (renA_wf v)) (evF_ok _) (renA_fi v) ((Gb.alloc _).ml hM7)).mono ?_
            rintro e wc ⟨rfl, hbc⟩
            have Gc : Gr w7 wc := Gr.call (Gb.alloc _) hbc
            have Gce : Gr we wc := Gr.call (Gbe.alloc _) hbc
            clear hbc p0 p1 p2 p3 p4
            have q0 := (BQ.out.gr Gc).c0
            have q1 := (BQ.out.gr Gc).c1
            have q2 := (BQ.out.gr Gc).c2
            have q3 := (BQ.out.gr Gc).c3
            have q4 := (BQ.out.gr Gc).c4
            go_wp2_with fail
            refine (one_any (evF (zat zss k)) [renA x] _ _ _ _ m _ (by have := (evF_len (zat zss k)).2; unfold maxLen; omega) (EV.out.gr (Gce.alloc _)) (evF_wf _) (one_len _) (fi_new wc (renA x)) (wf_one (renA_wf x)) (evF_ok _) (renA_fi x) ((Gc.alloc _).ml hM7)).mono ?_
            rintro e wd ⟨rfl, hbd⟩
            have Gd : Gr w7 wd := Gr.call (Gc.alloc _) hbd
            clear hbd q0 q1 q2 q3 q4
            cases hs : mat (evF (zat zss k)) [renA v]
            · go_wp2_with fail
              go_roundw
              case rel => exact ⟨k + 1, by omega, by go_num, Gd⟩
              case measure => simp [intOf]; omega
            · have ht : mat (evF (zat zss k)) [renA x] = true := KP.out _ hcb hs
              rw [ht]
              go_wp2_with fail
              go_roundw
              case rel => exact ⟨k + 1, by omega, by go_num, Gd⟩
              case measure => simp [intOf]; omega
        · go_wp2
          go_ret
          exact ⟨rfl, Gr.call G7 gr⟩
end Go.Proofs.Ytecnfgikbmcgoaa
