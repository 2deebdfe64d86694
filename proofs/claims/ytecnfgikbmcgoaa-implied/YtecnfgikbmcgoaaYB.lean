import Derived.Test.YtecnfgikbmcgoaaYA
import Derived.Test.YtecnfgikbmcgoaaLent
import Derived.Test.YtecnfgikbmcgoaaXD
namespace Go.Proofs.Ytecnfgikbmcgoaa
open Go.RowKit

theorem Try.infoWantA : (Try.prog.info? 67).map (fun i => (i.zero, i.size, i.bytes)) = some (some (.agg #[.string ⟨#[]⟩, .int .i64 0, .int .i64 0, .int .i64 0, .string ⟨#[]⟩]), 5, 56) := by kernel_rfl
theorem Try.infoSlA : (Try.prog.info? 45).map (fun i => (i.zero, i.size, i.bytes)) = some (some (.slice none 0 0), 1, 24) := by kernel_rfl
theorem Try.infoSlR : (Try.prog.info? 53).map (fun i => (i.zero, i.size, i.bytes)) = some (some (.slice none 0 0), 1, 24) := by kernel_rfl

theorem owns_kept {w w' : World} {base : Nat} {e : TypeId} {size : Nat} {v : Value} {n : Nat} {xs : List Value} {row : Option Nat} (h : w.ownsRow base e size v n xs) (hg : w.grownBy w' row) (hne : ∀ k, v.ownBlock = some k → row ≠ some k) : w'.ownsRow base e size v n xs := by
  obtain ⟨h1, h2⟩ := h
  refine ⟨h1, ?_⟩
  rcases h2 with h2 | ⟨b, cap, cur, hv, hb, hh, r⟩
  · exact Or.inl h2
  · exact Or.inr ⟨b, cap, cur, hv, hb, grown_block hg hh (hne b (by rw [hv]; rfl)), r⟩
theorem own_apart {w : World} {b1 b2 : Nat} {e1 e2 : TypeId} {s1 s2 : Nat} {v1 v2 : Value} {n1 n2 : Nat} {x1 x2 : List Value} (h1 : w.ownsRow b1 e1 s1 v1 n1 x1) (h2 : w.ownsRow b2 e2 s2 v2 n2 x2) (hne : e2 ≠ e1) : ∀ k, v2.ownBlock = some k → v1.ownBlock ≠ some k := by
  intro k hk
  rcases h2.2 with ⟨hv, _⟩ | ⟨b, cap, cur, hv, hb, hh, _⟩
  · rw [hv] at hk; simp [Value.ownBlock] at hk
  · rw [hv] at hk
    have : b = k := by simpa [Value.ownBlock] using hk
    subst this
    exact own_ne h1 hh hne
theorem blk_set {w : World} {k : Nat} {o : Obj} {p : Addr} (h : w.heap[k]? = some o) (hne : k ≠ p.block) (u : Value) : (w.setCell p u).heap[k]? = some o := by rw [Below.heap_setCell w p u k hne]; exact h
theorem owns_set {w : World} {base : Nat} {e t : TypeId} {size : Nat} {v : Value} {n : Nat} {xs : List Value} {k j : Nat} {cs : Array Value} {fr : Nat × Nat} (h : w.ownsRow base e size v n xs) (hk : w.heap[k]? = some (.cells cs t fr)) (hne : t ≠ e) (u : Value) : (w.setCell ⟨k, j, none⟩ u).ownsRow base e size v n xs := by
  have hn := own_ne h hk hne
  obtain ⟨h1, h2⟩ := h
  refine ⟨h1, ?_⟩
  rcases h2 with h2 | ⟨b, cap, cur, hv, hb, hh, r⟩
  · exact Or.inl h2
  · refine Or.inr ⟨b, cap, cur, hv, hb, blk_set hh (fun e => hn ?_) u, r⟩
    rw [hv]; simp [Value.ownBlock, e]
theorem blk_set_same {w : World} {k j : Nat} {cs : Array Value} {t : TypeId} {fr : Nat × Nat} (h : w.heap[k]? = some (.cells cs t fr)) (u : Value) : (w.setCell ⟨k, j, none⟩ u).heap[k]? = some (.cells (cs.setIfInBounds j u) t fr) := by
  simp [World.setCell, Array.getElem?_modify, h]
theorem owns_arr {w : World} {base : Nat} {e : TypeId} {size g n : Nat} {xs : List Value} (h : w.ownsRow base e size (.slice (some ⟨g, 0, none⟩) n n) n xs) : w.heap[g]? = some (.cells xs.toArray e (0, 0)) := by
  rcases h.2 with ⟨hv, _⟩ | ⟨q, cap, cur, hv, hb, hh, _, _, hcs, htake⟩
  · cases hv
  · simp only [Value.slice.injEq, Option.some.injEq, Addr.mk.injEq, and_true, true_and] at hv
    obtain ⟨rfl, rfl⟩ := hv
    have e : cur.toList = xs := by rw [← htake, List.take_of_length_le (by rw [Array.length_toList, hcs]; exact Nat.le_refl _)]
    rw [hh, ← e]

theorem size_set (w : World) (p : Addr) (u : Value) : (w.setCell p u).heap.size = w.heap.size := by
  simp [World.setCell]
theorem size_alloc' (w : World) (o : Obj) : (w.alloc o).heap.size = w.heap.size + 1 := by
  simp
theorem owns_slice {w : World} {base : Nat} {e : TypeId} {size n : Nat} {v : Value} {xs : List Value} (h : w.ownsRow base e size v n xs) : ∃ a m c, v = .slice a m c := by
  rcases h.2 with ⟨hv, _⟩ | ⟨q, cap, cur, hv, _⟩
  · exact ⟨_, _, _, hv⟩
  · exact ⟨_, _, _, hv⟩
theorem row_some {w : World} {base : Nat} {e : TypeId} {size g n cap : Nat} {xs : List Value} (h : w.ownsRow base e size (.slice (some ⟨g, 0, none⟩) n cap) n xs) (j : Nat) (hj : j < n * size) : ∃ v, w.cell? ⟨g, j, none⟩ = some v := by
  have hl : j < xs.length := by rw [h.1]; exact hj
  exact ⟨xs[j], by rw [World.ownsRow.cellAt h j hj, List.getElem?_eq_getElem hl]⟩

set_option maxRecDepth 100000 in
set_option maxHeartbeats 4000000 in
theorem filter_any (f : List Wnt) (ad : Option Addr) (cap : Nat) (base LB : Nat) (ve vew vf vw : Value) (Fs : List FE) (w : World) (hne : f ≠ []) (hlen : f.length ≤ 2513169434845) (hF : FiB base w ad f) (hwf : ∀ x ∈ f, Wnt.Wf x)
    (hn : Fs.length ≤ 1099511627776) (hL : LentF w base LB ve vew vf vw Fs) :
    Calls Try.prog 10 #[.pointer (some ⟨LB, 0, none⟩), .slice ad f.length cap] w fun e w' => ∃ g vf' vw', e = .returned (.slice (some ⟨g, 0, none⟩) f.length (f.length + 8)) ∧ Below base w w' ∧ w.heap.size ≤ g ∧
      LentF w' base LB ve vew vf' vw' (Fs ++ [⟨g, f, ad, cap⟩]) := by
  obtain ⟨i0, hi, hz0, hz1, hz2⟩ := info_parts Try.infoWantA
  obtain ⟨i1, hi1, hz01, hz11, hz21⟩ := info_parts Try.infoSlA
  obtain ⟨i2, hi2, hz02, hz12, hz22⟩ := info_parts Try.infoSlR
  have HL : Hid (LentF w base LB ve vew vf vw Fs) := hL
  have HW : Hid (∀ x ∈ f, Wnt.Wf x) := hwf
  have HN : Hid (f ≠ []) := hne
  have hpos : 0 < f.length := by cases f <;> simp_all
  have hp0 : ((f.length : Int) == 0) = false := by simp; exact hne
  obtain ⟨b, off, rfl, hb, hat⟩ := hF
  have HB : Hid (b < base) := hb
  have hbw : b < w.heap.size := Nat.lt_of_lt_of_le hb hL.le
  have HA : Hid (WantsAt w b off f) := hat
  clear hL hwf hne hat hb
  go_enter Try.func10, Try.ntmps10
  go_wp2_with (at_make; refine wpList_make_full _ rfl _ _ 45 rfl w.heap.size 67 i0 _ 5 Try.underlying45 hi hz0 hz1 _ _ _ _ (f.length + 8) rfl rfl (by omega) (by omega) ?b2 ?b3 ?b4 ?_)
  case b2 => rw [hz2]; omega
  case b3 => unfold maxLen; omega
  case b4 => exact Nat.le_refl _
  intro w1 hown1 hgrow1
  have g1 : Gr w w1 := Below.grown (Gr.refl w) hgrow1 (Nat.le_refl _) (fun b hb => by cases hb)
  have HO1 : Hid (w1.ownsRow w.heap.size 67 5 (.slice (some ⟨w.heap.size, 0, none⟩) (f.length + 8) (f.length + 8)) (f.length + 8) _) := hown1
  clear hown1 hgrow1
  go_wp2
  go_loopw [6] (fun i wr => ∃ (q : Nat) (xs : List Value), q ≤ f.length + 8 ∧ i = .int .i64 q ∧ Gr w wr ∧ Hid (xs.take (q * 5) = wcells ((outW f).take q)) ∧ Hid (wr.ownsRow w.heap.size 67 5 (.slice (some ⟨w.heap.size, 0, none⟩) (f.length + 8) (f.length + 8)) (f.length + 8) xs)) (fun i _ => f.length + 8 - (intOf i).toNat)
  case atStart => exact ⟨0, _, Nat.zero_le _, rfl, g1, rfl, HO1⟩
  case round =>
    obtain ⟨q, xs, hq, rfl, g, HX, HO⟩ := hrel
    have hxl : xs.length = (f.length + 8) * 5 := HO.out.1
    by_cases hlt : q < f.length + 8
    · have O1 : Hid ((((((wr.setCell ⟨w.heap.size, q * 5, none⟩ (.string ⟨#[115, 112, 97, 114, 101]⟩)).setCell ⟨w.heap.size, q * 5 + 1, none⟩ (.int .i64 0)).setCell ⟨w.heap.size, q * 5 + 1 + 1, none⟩ (.int .i64 0)).setCell ⟨w.heap.size, q * 5 + 1 + 1 + 1, none⟩ (.int .i64 0)).setCell ⟨w.heap.size, q * 5 + 1 + 1 + 1 + 1, none⟩ (.string ⟨#[]⟩)).ownsRow w.heap.size 67 5 (.slice (some ⟨w.heap.size, 0, none⟩) (f.length + 8) (f.length + 8)) (f.length + 8) (set5 xs (q * 5) (.string ⟨#[115, 112, 97, 114, 101]⟩) (.int .i64 0) (.int .i64 0) (.int .i64 0) (.string ⟨#[]⟩))) := owns_set5 HO.out (q * 5) _ _ _ _ _
      have G1 : Gr w (((((wr.setCell ⟨w.heap.size, q * 5, none⟩ (.string ⟨#[115, 112, 97, 114, 101]⟩)).setCell ⟨w.heap.size, q * 5 + 1, none⟩ (.int .i64 0)).setCell ⟨w.heap.size, q * 5 + 1 + 1, none⟩ (.int .i64 0)).setCell ⟨w.heap.size, q * 5 + 1 + 1 + 1, none⟩ (.int .i64 0)).setCell ⟨w.heap.size, q * 5 + 1 + 1 + 1 + 1, none⟩ (.string ⟨#[]⟩)) := gr_set5 (Nat.le_refl _) g _ _ _ _ _
      obtain ⟨r0, rc0⟩ := row_some HO.out (q * 5) (by omega)
      have rf0 := World.ownsRow.frozenAt HO.out (q * 5)
      obtain ⟨r1, rc1⟩ := row_some HO.out (q * 5 + 1) (by omega)
      have rf1 := World.ownsRow.frozenAt HO.out (q * 5 + 1)
      obtain ⟨r2, rc2⟩ := row_some HO.out (q * 5 + 1 + 1) (by omega)
      have rf2 := World.ownsRow.frozenAt HO.out (q * 5 + 1 + 1)
      obtain ⟨r3, rc3⟩ := row_some HO.out (q * 5 + 1 + 1 + 1) (by omega)
      have rf3 := World.ownsRow.frozenAt HO.out (q * 5 + 1 + 1 + 1)
      obtain ⟨r4, rc4⟩ := row_some HO.out (q * 5 + 1 + 1 + 1 + 1) (by omega)
      have rf4 := World.ownsRow.frozenAt HO.out (q * 5 + 1 + 1 + 1 + 1)
      by_cases hqf : q < f.length
      · have hbne : b ≠ w.heap.size := by omega
        have hbne' : w.heap.size ≠ b := by omega
        obtain ⟨c1, c2, c3, c4, c5⟩ := (HA.out.gr g hbw) q hqf
        go_wp2_with fail
        refine (lawWant_any _ _ _ _ _ _).mono ?_
        rintro e w2 ⟨rfl, hb2⟩
        have O2 : Hid (w2.ownsRow w.heap.size 67 5 (.slice (some ⟨w.heap.size, 0, none⟩) (f.length + 8) (f.length + 8)) (f.length + 8) (set5 xs (q * 5) (.string ⟨#[115, 112, 97, 114, 101]⟩) (.int .i64 0) (.int .i64 0) (.int .i64 0) (.string ⟨#[]⟩))) := ownsGr O1.out hb2
        have G2 : Gr w w2 := Gr.call G1 hb2
        clear c1 c2 c3 c4 c5 rc0 rf0 rc1 rf1 rc2 rf2 rc3 rf3 rc4 rf4 hb2 O1 G1
        obtain ⟨s0, sc0⟩ := row_some O2.out (q * 5) (by omega)
        have sf0 := World.ownsRow.frozenAt O2.out (q * 5)
        obtain ⟨s1, sc1⟩ := row_some O2.out (q * 5 + 1) (by omega)
        have sf1 := World.ownsRow.frozenAt O2.out (q * 5 + 1)
        obtain ⟨s2, sc2⟩ := row_some O2.out (q * 5 + 1 + 1) (by omega)
        have sf2 := World.ownsRow.frozenAt O2.out (q * 5 + 1 + 1)
        obtain ⟨s3, sc3⟩ := row_some O2.out (q * 5 + 1 + 1 + 1) (by omega)
        have sf3 := World.ownsRow.frozenAt O2.out (q * 5 + 1 + 1 + 1)
        obtain ⟨s4, sc4⟩ := row_some O2.out (q * 5 + 1 + 1 + 1 + 1) (by omega)
        have sf4 := World.ownsRow.frozenAt O2.out (q * 5 + 1 + 1 + 1 + 1)
        have HX2 : Hid ((set5 (set5 xs (q * 5) (.string ⟨#[115, 112, 97, 114, 101]⟩) (.int .i64 0) (.int .i64 0) (.int .i64 0) (.string ⟨#[]⟩)) (q * 5) (.string (wat f q).a) (.int .i64 (wat f q).y) (.int .i64 (wat f q).k) (.int .i64 (wat f q).n) (.string (wat f q).s)).take ((q + 1) * 5) = wcells ((outW f).take (q + 1))) := by
          show _ = _
          rw [show (q + 1) * 5 = q * 5 + 5 by omega, take5 _ _ _ _ _ _ _ (by rw [set5_len]; omega), wcells_take _ q (by rw [outW_len]; omega), outW_in hqf]
          congr 1
          rw [← HX.out]; unfold set5
          rw [List.take_set_of_le (by omega), List.take_set_of_le (by omega), List.take_set_of_le (by omega), List.take_set_of_le (by omega), List.take_set_of_le (by omega)]
        have O3 := owns_set5 O2.out (q * 5) (.string (wat f q).a) (.int .i64 (wat f q).y) (.int .i64 (wat f q).k) (.int .i64 (wat f q).n) (.string (wat f q).s)
        have G3 := gr_set5 (Nat.le_refl _) G2 (.string (wat f q).a) (.int .i64 (wat f q).y) (.int .i64 (wat f q).k) (.int .i64 (wat f q).n) (.string (wat f q).s) (k := q * 5)
        have O3' : Hid _ := O3
        have G3' : Hid _ := G3
        clear O3 G3
        go_wp2_with fail
        go_roundw
        case rel => exact ⟨q + 1, _, by omega, by go_num, G3'.out, HX2, O3'⟩
        case measure => simp [intOf]; omega
      · have HX1 : Hid ((set5 xs (q * 5) (.string ⟨#[115, 112, 97, 114, 101]⟩) (.int .i64 0) (.int .i64 0) (.int .i64 0) (.string ⟨#[]⟩)).take ((q + 1) * 5) = wcells ((outW f).take (q + 1))) := by
          show _ = _
          rw [show (q + 1) * 5 = q * 5 + 5 by omega, take5 _ _ _ _ _ _ _ (by omega), HX.out, wcells_take _ q (by rw [outW_len]; omega), outW_past hqf hlt]; rfl
        go_wp2_with fail
        go_roundw
        case rel => exact ⟨q + 1, _, by omega, by go_num, G1, HX1, O1⟩
        case measure => simp [intOf]; omega
    · have hq8 : q = f.length + 8 := by omega
      subst hq8
      have HXS : Hid (xs = wcells (outW f)) := by
        show _ = _
        have h := HX.out
        rw [List.take_of_length_le (by omega), List.take_of_length_le (by rw [outW_len]; exact Nat.le_refl _)] at h
        exact h
      have HO' : Hid (wr.ownsRow w.heap.size 67 5 (.slice (some ⟨w.heap.size, 0, none⟩) (f.length + 8) (f.length + 8)) (f.length + 8) (wcells (outW f))) := by
        show World.ownsRow _ _ _ _ _ _ _
        rw [← HXS.out]; exact HO.out
      have L1 : Hid (LentF wr base LB ve vew vf vw Fs) := HL.out.gr g
      have cf : wr.cell? ⟨LB, 2, none⟩ = some vf := by rw [cell_of_row _ _ _ _ _ _ L1.out.box]; rfl
      have ff : wr.frozen? ⟨LB, 2, none⟩ = false := frozen_of_row _ _ _ _ _ L1.out.box
      have hls : base ≤ wr.heap.size := L1.out.le
      have L0 : Hid (LentF w base LB ve vew vf vw Fs) := HL
      have HA0 : Hid (WantsAt w b off f) := HA
      clear HX HO HXS HL HA
      go_wp2_with (at_builtin; refine wpList_append_own _ rfl _ _ 27 rfl base 45 i1 _ 1 24 Try.underlying27 hi1 hz01 hz11 hz21 rfl (by decide) _ _ _ rfl (L1.out.ownf.alloc _) ⟨wr.heap.size, 0, none⟩ 1 1 [.slice (some ⟨w.heap.size, 0, none⟩) (f.length + 8) (f.length + 8)] rfl rfl (cell_one_new _ _ _) ?d2 ?d3 ?d4 ?d5 ?_)
      case d2 => intro u hu; simp at hu; subst hu; rfl
      case d3 => unfold maxLen; omega
      case d4 => omega
      case d5 => simp; omega
      intro vf' w5 hown5 hgrow5 _
      have up : ∀ k o, wr.heap[k]? = some o → (wr.alloc (.cells #[.slice (some ⟨w.heap.size, 0, none⟩) (f.length + 8) (f.length + 8)] 45)).heap[k]? = some o := fun k o hk => by rw [heap_alloc_old _ _ (blk_lt hk)]; exact hk
      have X5 : Hid (w5.heap[LB]? = some (.cells #[ve, vew, vf, vw] 29 (0, 0))) := grown_block hgrow5 (up _ _ L1.out.box) (own_ne L1.out.ownf L1.out.box (by decide))
      have W5 : Hid (w5.ownsRow base 53 1 vw Fs.length (Fs.map FE.wc)) := owns_kept (L1.out.ownw.alloc _) hgrow5 (own_apart L1.out.ownf L1.out.ownw (by decide))
      have U5 : Hid (∀ e ∈ Fs, w5.heap[e.g]? = some (.cells (wcells (outW e.f)).toArray 67 (0, 0))) := fun e he => grown_block hgrow5 (up _ _ (L1.out.outs e he).2.2) (own_ne L1.out.ownf (L1.out.outs e he).2.2 (by decide))
      have N5 : Hid (w5.heap[w.heap.size]? = some (.cells (wcells (outW f)).toArray 67 (0, 0))) := grown_block hgrow5 (up _ _ (owns_arr HO'.out)) (own_ne L1.out.ownf (owns_arr HO'.out) (by decide))
      have G5 : Below base w w5 := Below.grown (((Below.mono g L0.out.le)).alloc hls _) hgrow5 (by simp; omega) (fun k hk => by
        rcases L1.out.ownf.2 with ⟨hv, _⟩ | ⟨q, cap, cur, hv, hq, _⟩
        · rw [hv] at hk; simp [Value.ownBlock] at hk
        · rw [hv] at hk; simp [Value.ownBlock] at hk; omega)
      have O5 : Hid (w5.ownsRow base 45 1 vf' (Fs ++ [(⟨w.heap.size, f, some ⟨b, off, none⟩, cap⟩ : FE)]).length ((Fs ++ [(⟨w.heap.size, f, some ⟨b, off, none⟩, cap⟩ : FE)]).map FE.fc)) := by
        show World.ownsRow _ _ _ _ _ _ _
        rw [List.length_append, List.map_append]; exact hown5
      have z5 : w.heap.size < w5.heap.size := blk_lt N5.out
      have x5 : w5.cell? ⟨LB, 2, none⟩ = some vf := by rw [cell_of_row _ _ _ _ _ _ X5.out]; rfl
      have y5 : w5.frozen? ⟨LB, 2, none⟩ = false := frozen_of_row _ _ _ _ _ X5.out
      have x6 : w5.cell? ⟨LB, 3, none⟩ = some vw := by rw [cell_of_row _ _ _ _ _ _ X5.out]; rfl
      obtain ⟨fa, fm, fk, rfl⟩ := owns_slice hown5
      clear hown5 hgrow5 up cf ff
      have W6 : Hid ((w5.setCell ⟨LB, 2, none⟩ (.slice fa fm fk)).ownsRow base 53 1 vw Fs.length (Fs.map FE.wc)) := owns_set W5.out X5.out (by decide) _
      go_wp2_with (at_builtin; refine wpList_append_own _ rfl _ _ 23 rfl base 53 i2 _ 1 24 Try.underlying23 hi2 hz02 hz12 hz22 rfl (by decide) _ _ _ rfl (W6.out.alloc _) ⟨w5.heap.size, 0, none⟩ 1 1 [.slice (some ⟨b, off, none⟩) f.length cap] rfl rfl ?k1 ?k2 ?k3 ?k4 ?k5 ?_)
      case k1 => rw [← size_set w5 ⟨LB, 2, none⟩ (.slice fa fm fk)]; exact cell_one_new _ _ _
      case k2 => intro u hu; simp at hu; subst hu; rfl
      case k3 => unfold maxLen; omega
      case k4 => omega
      case k5 => rw [size_alloc', size_set]; have := G5.size; have := L0.out.le; omega
      intro vw' w6 hown6 hgrow6 _
      obtain ⟨wa, wm, wk, rfl⟩ := owns_slice hown6
      have up : ∀ k o, (w5.setCell ⟨LB, 2, none⟩ (.slice fa fm fk)).heap[k]? = some o → ((w5.setCell ⟨LB, 2, none⟩ (.slice fa fm fk)).alloc (.cells #[.slice (some ⟨b, off, none⟩) f.length cap] 53)).heap[k]? = some o := fun k o hk => by rw [heap_alloc_old _ _ (blk_lt hk)]; exact hk
      have Y5 := blk_set_same (j := 2) X5.out (.slice fa fm fk)
      have hlbn : ∀ k cs fr, w5.heap[k]? = some (.cells cs 67 fr) → k ≠ LB := fun k cs fr hk he => by
        subst he; rw [X5.out] at hk; injection hk with hk; injection hk with _ hk; exact absurd hk (by decide)
      have X6 : Hid (w6.heap[LB]? = some (.cells #[ve, vew, .slice fa fm fk, vw] 29 (0, 0))) := grown_block hgrow6 (up _ _ Y5) (own_ne W6.out Y5 (by decide))
      have O6 : Hid (w6.ownsRow base 45 1 (.slice fa fm fk) (Fs ++ [(⟨w.heap.size, f, some ⟨b, off, none⟩, cap⟩ : FE)]).length ((Fs ++ [(⟨w.heap.size, f, some ⟨b, off, none⟩, cap⟩ : FE)]).map FE.fc)) := owns_kept ((owns_set O5.out X5.out (by decide) _).alloc _) hgrow6 (own_apart W6.out (owns_set O5.out X5.out (by decide) _) (by decide))
      have keepW : ∀ (k : Nat) (cs : Array Value), w5.heap[k]? = some (.cells cs 67 (0, 0)) → w6.heap[k]? = some (.cells cs 67 (0, 0)) := fun k cs hk => by
        have h1 := blk_set hk (p := ⟨LB, 2, none⟩) (hlbn _ _ _ hk) (.slice fa fm fk)
        exact grown_block hgrow6 (up _ _ h1) (own_ne W6.out h1 (by decide))
      have hlbn6 : ∀ k cs fr, w6.heap[k]? = some (.cells cs 67 fr) → k ≠ LB := fun k cs fr hk he => by
        subst he; rw [X6.out] at hk; injection hk with hk; injection hk with _ hk; exact absurd hk (by decide)
      have U6 : Hid (∀ e ∈ Fs ++ [(⟨w.heap.size, f, some ⟨b, off, none⟩, cap⟩ : FE)], w6.heap[e.g]? = some (.cells (wcells (outW e.f)).toArray 67 (0, 0))) := fun e he => by
        rcases List.mem_append.mp he with he | he
        · exact keepW _ _ (U5.out e he)
        · simp only [List.mem_singleton] at he; subst he; exact keepW _ _ N5.out
      have W7 : Hid (w6.ownsRow base 53 1 (.slice wa wm wk) (Fs ++ [(⟨w.heap.size, f, some ⟨b, off, none⟩, cap⟩ : FE)]).length ((Fs ++ [(⟨w.heap.size, f, some ⟨b, off, none⟩, cap⟩ : FE)]).map FE.wc)) := by
        show World.ownsRow _ _ _ _ _ _ _
        rw [List.length_append, List.map_append]; exact hown6
      have G6 : Below base w w6 := Below.grown ((Below.setCell G5 (p := ⟨LB, 2, none⟩) L0.out.lb (.slice fa fm fk)).alloc (by rw [size_set]; have := G5.size; have := L0.out.le; omega) _) hgrow6 (by rw [size_alloc', size_set]; have := G5.size; have := L0.out.le; omega) (fun k hk => by
        rcases W6.out.2 with ⟨hv, _⟩ | ⟨q, cap, cur, hv, hq, _⟩
        · rw [hv] at hk; simp [Value.ownBlock] at hk
        · rw [hv] at hk; simp [Value.ownBlock] at hk; omega)
      have LN : Hid (LentF (w6.setCell ⟨LB, 3, none⟩ (.slice wa wm wk)) base LB ve vew (.slice fa fm fk) (.slice wa wm wk) (Fs ++ [⟨w.heap.size, f, some ⟨b, off, none⟩, cap⟩])) := by
        refine ⟨L0.out.lb, by rw [size_set]; exact Nat.le_trans L0.out.le G6.size, blk_set_same (j := 3) X6.out _, owns_set O6.out X6.out (by decide) _, owns_set W7.out X6.out (by decide) _, ?_, ?_, ?_⟩
        · intro e he
          refine ⟨?_, ?_, blk_set (U6.out e he) (p := ⟨LB, 3, none⟩) (hlbn6 _ _ _ (U6.out e he)) _⟩
          · rcases List.mem_append.mp he with he | he
            · exact (L0.out.outs e he).1
            · simp only [List.mem_singleton] at he; subst he; exact L0.out.le
          · rw [size_set]; exact blk_lt (U6.out e he)
        · have GB : Below base w (w6.setCell ⟨LB, 3, none⟩ (.slice wa wm wk)) := Below.setCell G6 (p := ⟨LB, 3, none⟩) L0.out.lb _
          intro e he
          rcases List.mem_append.mp he with he | he
          · exact ⟨(L0.out.args e he).1, (L0.out.args e he).2.1.gr GB, (L0.out.args e he).2.2⟩
          · simp only [List.mem_singleton] at he; subst he
            exact ⟨HN.out, FiB.gr ⟨b, off, rfl, HB.out, HA0.out⟩ GB, HW.out⟩
        · rw [List.map_append, List.nodup_append]
          refine ⟨L0.out.nodup, by simp, ?_⟩
          intro x hx y hy
          obtain ⟨e, he, rfl⟩ := List.mem_map.mp hx
          simp only [List.map_cons, List.map_nil, List.mem_singleton] at hy
          have := (L0.out.outs e he).2.1
          rw [hy]; show e.g ≠ w.heap.size; omega
      have GL : Hid (Below base w (w6.setCell ⟨LB, 3, none⟩ (.slice wa wm wk))) := Below.setCell G6 (p := ⟨LB, 3, none⟩) L0.out.lb _
      have x7 : w6.cell? ⟨LB, 3, none⟩ = some vw := by rw [cell_of_row _ _ _ _ _ _ X6.out]; rfl
      have y7 : w6.frozen? ⟨LB, 3, none⟩ = false := frozen_of_row _ _ _ _ _ X6.out
      clear hown6 hgrow6 up Y5 hlbn hlbn6 keepW x5 y5 x6 G5 G6 z5
      go_wp2_with fail
      go_ret
      exact ⟨_, _, _, rfl, GL.out, Nat.le_refl _, LN.out⟩

/-- An empty filter: nil, and nothing is kept. -/
theorem filter_none (ad : Option Addr) (cap : Nat) (p : Value) (w : World) :
    Calls Try.prog 10 #[p, .slice ad 0 cap] w fun e w' => e = .returned (.slice none 0 0) ∧ w' = w := by
  go_enter Try.func10, Try.ntmps10
  go_wp2
  go_ret
  exact ⟨rfl, rfl⟩
end Go.Proofs.Ytecnfgikbmcgoaa
