import Derived.Test.YtecnfgikbmcgoaaDoorG6
namespace Go.Proofs.YtecnfgikbmcgoaaDoor
open Go.RowKit

theorem Tryd.infoWantA : (Tryd.prog.info? 76).map (fun i => (i.zero, i.size, i.bytes)) = some (some (.agg #[.string ⟨#[]⟩, .int .i64 0, .int .i64 0, .int .i64 0, .string ⟨#[]⟩]), 5, 56) := by kernel_rfl
theorem Tryd.infoSlA : (Tryd.prog.info? 42).map (fun i => (i.zero, i.size, i.bytes)) = some (some (.slice none 0 0), 1, 24) := by kernel_rfl
theorem Tryd.infoSlR : (Tryd.prog.info? 23).map (fun i => (i.zero, i.size, i.bytes)) = some (some (.slice none 0 0), 1, 24) := by kernel_rfl

set_option maxRecDepth 100000 in
set_option maxHeartbeats 4000000 in
theorem filter_any (f : List Wnt) (ad : Option Addr) (cap : Nat) (base LB : Nat) (ve vew vf vw : Value) (Fs : List FE) (w : World) (hne : f ≠ []) (hlen : f.length ≤ 2513169434845) (hF : FiK base w ad f) (hwf : ∀ x ∈ f, Wnt.Wf x)
    (hn : Fs.length ≤ 1099511627776) (hL : LnF w base LB ve vew vf vw Fs) :
    Calls Tryd.prog 9 #[.pointer (some ⟨LB, 0, none⟩), .slice ad f.length cap] w fun e w' => ∃ g vf' vw', e = .returned (.slice (some ⟨g, 0, none⟩) f.length (f.length + 8)) ∧ Kp tsF base w w' ∧ w.heap.size ≤ g ∧
      LnF w' base LB ve vew vf' vw' (Fs ++ [⟨g, f, ad, cap⟩]) := by
  obtain ⟨i0, hi, hz0, hz1, hz2⟩ := info_parts Tryd.infoWantA
  obtain ⟨i1, hi1, hz01, hz11, hz21⟩ := info_parts Tryd.infoSlA
  obtain ⟨i2, hi2, hz02, hz12, hz22⟩ := info_parts Tryd.infoSlR
  have HL : Hid (LnF w base LB ve vew vf vw Fs) := hL
  have HW : Hid (∀ x ∈ f, Wnt.Wf x) := hwf
  have HN : Hid (f ≠ []) := hne
  have hpos : 0 < f.length := by cases f <;> simp_all
  have hp0 : ((f.length : Int) == 0) = false := by simp; exact hne
  obtain ⟨b, off, rfl, hbw, hb, hat⟩ := hF
  have HB : Hid (b < base ∨ ∃ cs fr, w.heap[b]? = some (.cells cs 69 fr)) := hb
  have HBW : Hid (b < w.heap.size) := hbw
  have HA : Hid (WantsAt w b off f) := hat
  clear hL hwf hne hat hb
  go_enter Tryd.func9, Tryd.ntmps9
  go_wp2_with (at_make; refine wpList_make_full _ rfl _ _ 42 rfl w.heap.size 76 i0 _ 5 Tryd.underlying42 hi hz0 hz1 _ _ _ _ (f.length + 8) rfl rfl (by omega) (by omega) ?b2 ?b3 ?b4 ?_)
  case b2 => rw [hz2]; omega
  case b3 => unfold maxLen; omega
  case b4 => exact Nat.le_refl _
  intro w1 hown1 hgrow1
  have g1 : Gr w w1 := Below.grown (Gr.refl w) hgrow1 (Nat.le_refl _) (fun b hb => by cases hb)
  have HO1 : Hid (w1.ownsRow w.heap.size 76 5 (.slice (some ⟨w.heap.size, 0, none⟩) (f.length + 8) (f.length + 8)) (f.length + 8) _) := hown1
  clear hown1 hgrow1
  go_wp2
  go_loopw [6] (fun i wr => ∃ (q : Nat) (xs : List Value), q ≤ f.length + 8 ∧ i = .int .i64 q ∧ Gr w wr ∧ Hid (xs.take (q * 5) = wcells ((outW f).take q)) ∧ Hid (wr.ownsRow w.heap.size 76 5 (.slice (some ⟨w.heap.size, 0, none⟩) (f.length + 8) (f.length + 8)) (f.length + 8) xs)) (fun i _ => f.length + 8 - (intOf i).toNat)
  case atStart => exact ⟨0, _, Nat.zero_le _, rfl, g1, rfl, HO1⟩
  case round =>
    obtain ⟨q, xs, hq, rfl, g, HX, HO⟩ := hrel
    have hxl : xs.length = (f.length + 8) * 5 := HO.out.1
    by_cases hlt : q < f.length + 8
    · have O1 : Hid ((((((wr.setCell ⟨w.heap.size, q * 5, none⟩ (.string ⟨#[115, 112, 97, 114, 101]⟩)).setCell ⟨w.heap.size, q * 5 + 1, none⟩ (.int .i64 0)).setCell ⟨w.heap.size, q * 5 + 1 + 1, none⟩ (.int .i64 0)).setCell ⟨w.heap.size, q * 5 + 1 + 1 + 1, none⟩ (.int .i64 0)).setCell ⟨w.heap.size, q * 5 + 1 + 1 + 1 + 1, none⟩ (.string ⟨#[]⟩)).ownsRow w.heap.size 76 5 (.slice (some ⟨w.heap.size, 0, none⟩) (f.length + 8) (f.length + 8)) (f.length + 8) (set5 xs (q * 5) (.string ⟨#[115, 112, 97, 114, 101]⟩) (.int .i64 0) (.int .i64 0) (.int .i64 0) (.string ⟨#[]⟩))) := owns_set5 HO.out (q * 5) _ _ _ _ _
      have G1 : Gr w (((((wr.setCell ⟨w.heap.size, q * 5, none⟩ (.string ⟨#[115, 112, 97, 114, 101]⟩)).setCell ⟨w.heap.size, q * 5 + 1, none⟩ (.int .i64 0)).setCell ⟨w.heap.size, q * 5 + 1 + 1, none⟩ (.int .i64 0)).setCell ⟨w.heap.size, q * 5 + 1 + 1 + 1, none⟩ (.int .i64 0)).setCell ⟨w.heap.size, q * 5 + 1 + 1 + 1 + 1, none⟩ (.string ⟨#[]⟩)) := gr_set5 (Nat.le_refl _) g _ _ _ _ _
      obtain ⟨r0, rc0⟩ := row_some HO.out (q * 5) (by omega)
      have rf0 := World.ownsRow.frozenAt HO.out (q * 5)
      obtain ⟨r1, rc1⟩ := row_some HO.out (q * 5 + 1) (by omega)
      have rf1 := World.ownsRow.frozenAt HO.out (q * 5 + 1)
      obtain ⟨r2, rc2⟩ := row_some HO.out (q * 5 + 1 + 1) (by omega)
      have rf2 := World.ownsRow.frozenAt HO.out (q * 5 + 1 + 1)
      obtain ⟨r3, rc3⟩ := row_some HO.out (q * 5 + 1 + 1 + 1) (by omega)
      have rf3 := World.ownsRow.frozenAt HO.out (q * 5 + 1 + 1 + 1)
      obtain ⟨r4, rc4⟩ := row_some HO.out (q * 5 + 1 + 1 + 1 + 1) (by omega)
      have rf4 := World.ownsRow.frozenAt HO.out (q * 5 + 1 + 1 + 1 + 1)
      by_cases hqf : q < f.length
      · have hbne : b ≠ w.heap.size := by omega
        have hbne' : w.heap.size ≠ b := by omega
        obtain ⟨c1, c2, c3, c4, c5⟩ := (HA.out.gr g hbw) q hqf
        go_wp2_with fail
        refine (lawWant_any _ _ _ _ _ _).mono ?_
        rintro e w2 ⟨rfl, hb2⟩
        have O2 : Hid (w2.ownsRow w.heap.size 76 5 (.slice (some ⟨w.heap.size, 0, none⟩) (f.length + 8) (f.length + 8)) (f.length + 8) (set5 xs (q * 5) (.string ⟨#[115, 112, 97, 114, 101]⟩) (.int .i64 0) (.int .i64 0) (.int .i64 0) (.string ⟨#[]⟩))) := ownsGr O1.out hb2
        have G2 : Gr w w2 := Gr.call G1 hb2
        clear c1 c2 c3 c4 c5 rc0 rf0 rc1 rf1 rc2 rf2 rc3 rf3 rc4 rf4 hb2 O1 G1
        obtain ⟨s0, sc0⟩ := row_some O2.out (q * 5) (by omega)
        have sf0 := World.ownsRow.frozenAt O2.out (q * 5)
        obtain ⟨s1, sc1⟩ := row_some O2.out (q * 5 + 1) (by omega)
        have sf1 := World.ownsRow.frozenAt O2.out (q * 5 + 1)
        obtain ⟨s2, sc2⟩ := row_some O2.out (q * 5 + 1 + 1) (by omega)
        have sf2 := World.ownsRow.frozenAt O2.out (q * 5 + 1 + 1)
        obtain ⟨s3, sc3⟩ := row_some O2.out (q * 5 + 1 + 1 + 1) (by omega)
        have sf3 := World.ownsRow.frozenAt O2.out (q * 5 + 1 + 1 + 1)
        obtain ⟨s4, sc4⟩ := row_some O2.out (q * 5 + 1 + 1 + 1 + 1) (by omega)
        have sf4 := World.ownsRow.frozenAt O2.out (q * 5 + 1 + 1 + 1 + 1)
        have HX2 : Hid ((set5 (set5 xs (q * 5) (.string ⟨#[115, 112, 97, 114, 101]⟩) (.int .i64 0) (.int .i64 0) (.int .i64 0) (.string ⟨#[]⟩)) (q * 5) (.string (wat f q).a) (.int .i64 (wat f q).y) (.int .i64 (wat f q).k) (.int .i64 (wat f q).n) (.string (wat f q).s)).take ((q + 1) * 5) = wcells ((outW f).take (q + 1))) := by
          show _ = _
          rw [show (q + 1) * 5 = q * 5 + 5 by omega, take5 _ _ _ _ _ _ _ (by rw [set5_len]; omega), wcells_take _ q (by rw [outW_len]; omega), outW_in hqf]
          congr 1
          rw [← HX.out]; unfold set5
          rw [List.take_set_of_le (by omega), List.take_set_of_le (by omega), List.take_set_of_le (by omega), List.take_set_of_le (by omega), List.take_set_of_le (by omega)]
        have O3 := owns_set5 O2.out (q * 5) (.string (wat f q).a) (.int .i64 (wat f q).y) (.int .i64 (wat f q).k) (.int .i64 (wat f q).n) (.string (wat f q).s)
        have G3 := gr_set5 (Nat.le_refl _) G2 (.string (wat f q).a) (.int .i64 (wat f q).y) (.int .i64 (wat f q).k) (.int .i64 (wat f q).n) (.string (wat f q).s) (k := q * 5)
        have O3' : Hid _ := O3
        have G3' : Hid _ := G3
        clear O3 G3
        go_wp2_with fail
        go_roundw
        case rel => exact ⟨q + 1, _, by omega, by go_num, G3'.out, HX2, O3'⟩
        case measure => simp [intOf]; omega
      · have HX1 : Hid ((set5 xs (q * 5) (.string ⟨#[115, 112, 97, 114, 101]⟩) (.int .i64 0) (.int .i64 0) (.int .i64 0) (.string ⟨#[]⟩)).take ((q + 1) * 5) = wcells ((outW f).take (q + 1))) := by
          show _ = _
          rw [show (q + 1) * 5 = q * 5 + 5 by omega, take5 _ _ _ _ _ _ _ (by omega), HX.out, wcells_take _ q (by rw [outW_len]; omega), outW_past hqf hlt]; rfl
        go_wp2_with fail
        go_roundw
        case rel => exact ⟨q + 1, _, by omega, by go_num, G1, HX1, O1⟩
        case measure => simp [intOf]; omega
    · have hq8 : q = f.length + 8 := by omega
      subst hq8
      have HXS : Hid (xs = wcells (outW f)) := by
        show _ = _
        have h := HX.out
        rw [List.take_of_length_le (by omega), List.take_of_length_le (by rw [outW_len]; exact Nat.le_refl _)] at h
        exact h
      have HO' : Hid (wr.ownsRow w.heap.size 76 5 (.slice (some ⟨w.heap.size, 0, none⟩) (f.length + 8) (f.length + 8)) (f.length + 8) (wcells (outW f))) := by
        show World.ownsRow _ _ _ _ _ _ _
        rw [← HXS.out]; exact HO.out
      have L1 : Hid (LnF wr base LB ve vew vf vw Fs) := HL.out.gr g
      have cf : wr.cell? ⟨LB, 2, none⟩ = some vf := by rw [cell_of_row _ _ _ _ _ _ L1.out.box]; rfl
      have ff : wr.frozen? ⟨LB, 2, none⟩ = false := frozen_of_row _ _ _ _ _ L1.out.box
      have hls : base ≤ wr.heap.size := L1.out.le
      have L0 : Hid (LnF w base LB ve vew vf vw Fs) := HL
      have HA0 : Hid (WantsAt w b off f) := HA
      clear HX HO HXS HL HA
      go_wp2_with (at_builtin; refine wpList_append_own _ rfl _ _ 27 rfl base 42 i1 _ 1 24 Tryd.underlying27 hi1 hz01 hz11 hz21 rfl (by decide) _ _ _ rfl (L1.out.ownf.alloc _) ⟨wr.heap.size, 0, none⟩ 1 1 [.slice (some ⟨w.heap.size, 0, none⟩) (f.length + 8) (f.length + 8)] rfl rfl (cell_one_new _ _ _) ?d2 ?d3 ?d4 ?d5 ?_)
      case d2 => intro u hu; simp at hu; subst hu; rfl
      case d3 => unfold maxLen; omega
      case d4 => omega
      case d5 => simp; omega
      intro vf' w5 hown5 hgrow5 _
      have up : ∀ k o, wr.heap[k]? = some o → (wr.alloc (.cells #[.slice (some ⟨w.heap.size, 0, none⟩) (f.length + 8) (f.length + 8)] 42)).heap[k]? = some o := fun k o hk => by rw [heap_alloc_old _ _ (blk_lt hk)]; exact hk
      have X5 : Hid (w5.heap[LB]? = some (.cells #[ve, vew, vf, vw] 30 (0, 0))) := grown_block hgrow5 (up _ _ L1.out.box) (own_ne L1.out.ownf L1.out.box (by decide))
      have W5 : Hid (w5.ownsRow base 23 1 vw Fs.length (Fs.map FE.wc)) := owns_kept (L1.out.ownw.alloc _) hgrow5 (own_apart L1.out.ownf L1.out.ownw (by decide))
      have U5 : Hid (∀ e ∈ Fs, w5.heap[e.g]? = some (.cells (wcells (outW e.f)).toArray 76 (0, 0))) := fun e he => grown_block hgrow5 (up _ _ (L1.out.outs e he).2) (own_ne L1.out.ownf (L1.out.outs e he).2 (by decide))
      have N5 : Hid (w5.heap[w.heap.size]? = some (.cells (wcells (outW f)).toArray 76 (0, 0))) := grown_block hgrow5 (up _ _ (owns_arr HO'.out)) (own_ne L1.out.ownf (owns_arr HO'.out) (by decide))
      have G5 : Kp tsF base w w5 := Kp.grown ((Kp.gr g L0.out.le).alloc hls _) (L1.out.ownf.alloc _) (by decide) hgrow5 (by simp; omega)
      have O5 : Hid (w5.ownsRow base 42 1 vf' (Fs ++ [(⟨w.heap.size, f, some ⟨b, off, none⟩, cap⟩ : FE)]).length ((Fs ++ [(⟨w.heap.size, f, some ⟨b, off, none⟩, cap⟩ : FE)]).map FE.fc)) := by
        show World.ownsRow _ _ _ _ _ _ _
        rw [List.length_append, List.map_append]; exact hown5
      have z5 : w.heap.size < w5.heap.size := blk_lt N5.out
      have x5 : w5.cell? ⟨LB, 2, none⟩ = some vf := by rw [cell_of_row _ _ _ _ _ _ X5.out]; rfl
      have y5 : w5.frozen? ⟨LB, 2, none⟩ = false := frozen_of_row _ _ _ _ _ X5.out
      have x6 : w5.cell? ⟨LB, 3, none⟩ = some vw := by rw [cell_of_row _ _ _ _ _ _ X5.out]; rfl
      obtain ⟨fa, fm, fk, rfl⟩ := owns_slice hown5
      clear hown5 hgrow5 up cf ff
      have W6 : Hid ((w5.setCell ⟨LB, 2, none⟩ (.slice fa fm fk)).ownsRow base 23 1 vw Fs.length (Fs.map FE.wc)) := owns_set W5.out X5.out (by decide) _
      go_wp2_with (at_builtin; refine wpList_append_own _ rfl _ _ 28 rfl base 23 i2 _ 1 24 Tryd.underlying28 hi2 hz02 hz12 hz22 rfl (by decide) _ _ _ rfl (W6.out.alloc _) ⟨w5.heap.size, 0, none⟩ 1 1 [.slice (some ⟨b, off, none⟩) f.length cap] rfl rfl ?k1 ?k2 ?k3 ?k4 ?k5 ?_)
      case k1 => rw [← size_set w5 ⟨LB, 2, none⟩ (.slice fa fm fk)]; exact cell_one_new _ _ _
      case k2 => intro u hu; simp at hu; subst hu; rfl
      case k3 => unfold maxLen; omega
      case k4 => omega
      case k5 => rw [size_alloc', size_set]; have := G5.size; have := L0.out.le; omega
      intro vw' w6 hown6 hgrow6 _
      obtain ⟨wa, wm, wk, rfl⟩ := owns_slice hown6
      have up : ∀ k o, (w5.setCell ⟨LB, 2, none⟩ (.slice fa fm fk)).heap[k]? = some o → ((w5.setCell ⟨LB, 2, none⟩ (.slice fa fm fk)).alloc (.cells #[.slice (some ⟨b, off, none⟩) f.length cap] 23)).heap[k]? = some o := fun k o hk => by rw [heap_alloc_old _ _ (blk_lt hk)]; exact hk
      have Y5 := blk_set_same (j := 2) X5.out (.slice fa fm fk)
      have hlbn : ∀ k cs fr, w5.heap[k]? = some (.cells cs 76 fr) → k ≠ LB := fun k cs fr hk he => by
        subst he; rw [X5.out] at hk; injection hk with hk; injection hk with _ hk; exact absurd hk (by decide)
      have X6 : Hid (w6.heap[LB]? = some (.cells #[ve, vew, .slice fa fm fk, vw] 30 (0, 0))) := grown_block hgrow6 (up _ _ Y5) (own_ne W6.out Y5 (by decide))
      have O6 : Hid (w6.ownsRow base 42 1 (.slice fa fm fk) (Fs ++ [(⟨w.heap.size, f, some ⟨b, off, none⟩, cap⟩ : FE)]).length ((Fs ++ [(⟨w.heap.size, f, some ⟨b, off, none⟩, cap⟩ : FE)]).map FE.fc)) := owns_kept ((owns_set O5.out X5.out (by decide) _).alloc _) hgrow6 (own_apart W6.out (owns_set O5.out X5.out (by decide) _) (by decide))
      have keepW : ∀ (k : Nat) (cs : Array Value), w5.heap[k]? = some (.cells cs 76 (0, 0)) → w6.heap[k]? = some (.cells cs 76 (0, 0)) := fun k cs hk => by
        have h1 := blk_set hk (p := ⟨LB, 2, none⟩) (hlbn _ _ _ hk) (.slice fa fm fk)
        exact grown_block hgrow6 (up _ _ h1) (own_ne W6.out h1 (by decide))
      have hlbn6 : ∀ k cs fr, w6.heap[k]? = some (.cells cs 76 fr) → k ≠ LB := fun k cs fr hk he => by
        subst he; rw [X6.out] at hk; injection hk with hk; injection hk with _ hk; exact absurd hk (by decide)
      have U6 : Hid (∀ e ∈ Fs ++ [(⟨w.heap.size, f, some ⟨b, off, none⟩, cap⟩ : FE)], w6.heap[e.g]? = some (.cells (wcells (outW e.f)).toArray 76 (0, 0))) := fun e he => by
        rcases List.mem_append.mp he with he | he
        · exact keepW _ _ (U5.out e he)
        · simp only [List.mem_singleton] at he; subst he; exact keepW _ _ N5.out
      have W7 : Hid (w6.ownsRow base 23 1 (.slice wa wm wk) (Fs ++ [(⟨w.heap.size, f, some ⟨b, off, none⟩, cap⟩ : FE)]).length ((Fs ++ [(⟨w.heap.size, f, some ⟨b, off, none⟩, cap⟩ : FE)]).map FE.wc)) := by
        show World.ownsRow _ _ _ _ _ _ _
        rw [List.length_append, List.map_append]; exact hown6
      have G6 : Kp tsF base w w6 := Kp.grown ((Kp.set (j := 2) G5 X5.out (by decide) L0.out.lb (.slice fa fm fk)).alloc (by rw [size_set]; have := G5.size; have := L0.out.le; omega) _) (W6.out.alloc _) (by decide) hgrow6 (by rw [size_alloc', size_set]; have := G5.size; have := L0.out.le; omega)
      have LN : Hid (LnF (w6.setCell ⟨LB, 3, none⟩ (.slice wa wm wk)) base LB ve vew (.slice fa fm fk) (.slice wa wm wk) (Fs ++ [⟨w.heap.size, f, some ⟨b, off, none⟩, cap⟩])) := by
        refine ⟨L0.out.lb, by rw [size_set]; exact Nat.le_trans L0.out.le G6.size, blk_set_same (j := 3) X6.out _, owns_set O6.out X6.out (by decide) _, owns_set W7.out X6.out (by decide) _, ?_, ?_, ?_⟩
        · intro e he
          refine ⟨?_, blk_set (U6.out e he) (p := ⟨LB, 3, none⟩) (hlbn6 _ _ _ (U6.out e he)) _⟩
          · rcases List.mem_append.mp he with he | he
            · exact (L0.out.outs e he).1
            · simp only [List.mem_singleton] at he; subst he; exact L0.out.le
        · have GB : Kp tsF base w (w6.setCell ⟨LB, 3, none⟩ (.slice wa wm wk)) := Kp.set (j := 3) G6 X6.out (by decide) L0.out.lb _
          intro e he
          rcases List.mem_append.mp he with he | he
          · exact ⟨(L0.out.args e he).1, (L0.out.args e he).2.1.kp GB (by decide), (L0.out.args e he).2.2⟩
          · simp only [List.mem_singleton] at he; subst he
            exact ⟨HN.out, FiK.kp ⟨b, off, rfl, HBW.out, HB.out, HA0.out⟩ GB (by decide), HW.out⟩
        · rw [List.map_append, List.nodup_append]
          refine ⟨L0.out.nodup, by simp, ?_⟩
          intro x hx y hy
          obtain ⟨e, he, rfl⟩ := List.mem_map.mp hx
          simp only [List.map_cons, List.map_nil, List.mem_singleton] at hy
          have := blk_lt (L0.out.outs e he).2
          rw [hy]; show e.g ≠ w.heap.size; omega
      have GL : Hid (Kp tsF base w (w6.setCell ⟨LB, 3, none⟩ (.slice wa wm wk))) := Kp.set (j := 3) G6 X6.out (by decide) L0.out.lb _
      have x7 : w6.cell? ⟨LB, 3, none⟩ = some vw := by rw [cell_of_row _ _ _ _ _ _ X6.out]; rfl
      have y7 : w6.frozen? ⟨LB, 3, none⟩ = false := frozen_of_row _ _ _ _ _ X6.out
      clear hown6 hgrow6 up Y5 hlbn hlbn6 keepW x5 y5 x6 G5 G6 z5
      go_wp2_with fail
      go_ret
      exact ⟨_, _, _, rfl, GL.out, Nat.le_refl _, LN.out⟩

/-- An empty filter: nil, and nothing is kept. -/
theorem filter_none (ad : Option Addr) (cap : Nat) (p : Value) (w : World) :
    Calls Tryd.prog 9 #[p, .slice ad 0 cap] w fun e w' => e = .returned (.slice none 0 0) ∧ w' = w := by
  go_enter Tryd.func9, Tryd.ntmps9
  go_wp2
  go_ret
  exact ⟨rfl, rfl⟩
end Go.Proofs.YtecnfgikbmcgoaaDoor
