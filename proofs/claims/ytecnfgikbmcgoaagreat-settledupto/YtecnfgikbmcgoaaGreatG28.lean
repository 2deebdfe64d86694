import Derived.Test.YtecnfgikbmcgoaaGreatG27
namespace Go.Proofs.YtecnfgikbmcgoaaGreat
open Go.RowKit

set_option maxRecDepth 100000 in
set_option maxHeartbeats 4000000 in
theorem Settled_any (zs ps : List Int) (ds : List Dm) (os : List Int) (az ap ad ao : Option Addr) (cz cp cd co : Nat) (ml : Int) (w : World)
    (lz : zs.length ≤ 1048576) (hz : InAt w az zs) (wz : IntWf zs) (lp : ps.length ≤ 1048576) (hp : InAt w ap ps) (wp : IntWf ps) (ld : ds.length ≤ 1048576) (hd : DsAd w ad ds) (wd : DdWf ds)
    (_lo : os.length ≤ 1048576) (ho : InAt w ao os) (wo : IntWf os) (hml : Ml ml w) :
    Calls Tryz.prog 4 #[.slice az zs.length cz, .slice ap ps.length cp, .slice ad ds.length cd, .slice ao os.length co] w fun e w' => e = .returned (.bool true) ∧ Gr w w' := by
  obtain ⟨nb, adj, nxt, hn, hn1, hn8, _, hE, N, Z, R⟩ := tree_of (shape_tree zs)
  have GR : Hid (∀ W, Gr w W → Calls Tryz.prog 10 #[.slice az zs.length cz, .slice ap ps.length cp] W fun e w' => ∃ T r cls, e = .returned (.pointer (some ⟨T.TB, 0, none⟩)) ∧ Tw T r w' cls (TS.none (List Wnt) (List Atr)) ∧ Fr (fun _ => .no) r W w' ∧ T.nb = nbF zs ∧ T.ml = ml ∧ Sh T (dom nb nxt) (behind nb (dom nb nxt)) ∧ Cls ps (nbF zs) 6 cls ∧ T.adj = adj) := fun W g => grown_at zs ps az ap cz cp ml W lz (hz.gr g) wz lp (hp.gr g) wp (g.ml hml) nb adj nxt hn hn1 hn8 hE N Z R
  have SHP : Hid (∀ W, Gr w W → Calls Tryz.prog 15 #[.slice az zs.length cz] W fun e w' => ∃ v, e = .returned (.tuple #[.int .i64 (nbF zs : Nat), v]) ∧ w'.ownsRow W.heap.size 81 2 v (nbF zs - 1) (kcells (edTo zs (nbF zs - 1))) ∧ Gr W w') := fun W g => shape_any zs az cz W lz (hz.gr g) wz
  have HD := Hid.mk' (And.intro hd wd)
  have HO := Hid.mk' (And.intro ho wo)
  have hb6 : 1 ≤ nbF zs ∧ nbF zs ≤ 6 := by unfold nbF; omega
  have HHN : Hid (∀ c, hmF ps (nbF zs) c < nbF zs) := hmF_lt ps hb6.1
  have hw0 := hml.pos
  clear hz wz hp wp hd wd ho wo hml hn hn1 hn8 hE N Z R
  generalize dom nb nxt = nx at *
  generalize behind nb nx = rk at *
  go_enter Tryz.func4, Tryz.ntmps4
  go_wp2_with fail
  refine (GR.out w (Gr.refl w)).mono ?_
  rintro e w1 ⟨T1, r1, cls1, rfl, t1, f1, hT1, _, S1, C1, hA1⟩
  have GR2 := Hid.mk' (GR.out w1 f1.gr0)
  have K1 := Hid.mk' (And.intro t1 (And.intro f1 (And.intro S1 C1)))
  clear GR t1 f1 S1 C1
  go_wp2_with fail
  refine GR2.out.mono ?_
  rintro e w2 ⟨T2, r2, cls2, rfl, t2, f2, hT2, _, S2, C2, hA2⟩
  obtain ⟨ID1, CL1⟩ := cls_idn K1.out.2.2.2
  obtain ⟨ID2, CL2⟩ := cls_idn C2
  have HH : Hid ((∀ c, hmF ps (nbF zs) c < T1.nb) ∧ ∀ c, hmF ps (nbF zs) c < T2.nb) := ⟨fun c => by rw [hT1]; exact HHN.out c, fun c => by rw [hT2]; exact HHN.out c⟩
  generalize hmF ps (nbF zs) = home at *
  have TW : Hid (Two w w2 nx rk home T1 T2 r1 r2 (cls1.map pcOf) (cls2.map pcOf) (TS.none (List Wnt) (List Atr)) (TS.none (List Wnt) (List Atr)) 0 0 0 0 (fun _ => False) (fun _ => False) [] [] (.slice none 0 0) (.slice none 0 0) [] []) := by
    have g2 := f2.gr0
    have s1 := K1.out.2.1.size
    have tf1 : Tf T1 r1 w2 (cls1.map pcOf) (TS.none (List Wnt) (List Atr)) := ⟨cls1, K1.out.1.gr g2, rfl⟩
    refine ⟨tf1, gd_none CL1, ow_none, ID1, mi_nil _ _, rfl, nk_nil, fun k hk => K1.out.2.1.same k hk, ⟨cls2, t2, rfl⟩, gd_none CL2, ow_none, ID2, mi_nil _ _, rfl, nk_nil, fun k hk => f2.same k (Nat.lt_of_lt_of_le hk s1), Gr.call K1.out.2.1.gr0 g2, fun k => ?_, fun k hk => hk.elim, fun k hk => hk.elim⟩
    rcases Nat.lt_or_ge k w1.heap.size with h | h
    · exact Or.inr (f2.same k h)
    · exact Or.inl (K1.out.1.b.top k h)
  have SS := Hid.mk' (And.intro K1.out.2.2.1 S2)
  have hT16 : T1.nb ≤ 6 := by rw [hT1]; exact hb6.2
  have hT26 : T2.nb ≤ 6 := by rw [hT2]; exact hb6.2
  have hD1 : dD T1 ≤ 157 := by
    unfold dD; rw [k24_len]
    have := Nat.mul_le_mul_right 25 hT16
    omega
  have hD2 : dD T2 = dD T1 := by unfold dD; rw [hT1, hT2]
  have HDD := Hid.mk' (And.intro hD1 (And.intro hD2 (And.intro hT16 hT26)))
  have HTN := Hid.mk' (And.intro hT1 (And.intro hT2 (And.intro hA1 (And.intro hA2 hb6))))
  clear GR2 K1 t2 f2 S2 C2 ID1 CL1 ID2 CL2 hD1 hD2 hT16 hT26 hT1 hT2 hA1 hA2 hb6 HHN
  go_wp2_with fail
  go_loopw [11, 12, 13] (fun v u i wr => ∃ (j : Nat) (L1 L2 : List Mn) (va1 va2 : Option Addr) (vk1 vk2 : Nat) (s1 s2 : Ts) (cs1 cs2 : List (Pc (List Atr))) (r1 r2 : Nat → Rl) (n1 n2 : Nat) (A B : Nat → Prop), j ≤ ds.length ∧ i = .int .i64 j ∧ v = .slice va1 L1.length vk1 ∧ u = .slice va2 L2.length vk2 ∧ Hid (Two w wr nx rk home T1 T2 r1 r2 cs1 cs2 s1 s2 n1 n2 (j * dD T1) (j * dD T1) A B L1 L2 (.slice va1 L1.length vk1) (.slice va2 L2.length vk2) (dmTo ds j) (dmTo ds j))) (fun _ _ i _ => ds.length - (intOf i).toNat)
  case atStart => exact ⟨0, [], [], none, none, 0, 0, _, _, _, _, r1, r2, 0, 0, _, _, Nat.zero_le _, rfl, rfl, rfl, by show Two _ _ _ _ _ _ _ _ _ _ _ _ _ _ _ _ _ _ _ _ _ _ _ _ _; rw [Nat.zero_mul]; exact TW.out⟩
  case round =>
    clear TW
    obtain ⟨j, L1, L2, va1, va2, vk1, vk2, s1, s2, cs1, cs2, r3, r4, n1, n2, A, B, hj, rfl, rfl, rfl, W3⟩ := hrel
    by_cases hjl : j < ds.length
    · obtain ⟨b, off, rfl, hbw, hat⟩ : ∃ b off, ad = some ⟨b, off, none⟩ ∧ b < w.heap.size ∧ DdsAt w b off ds := by
        rcases HD.out.1 with h0 | h0
        · rw [h0] at hjl; simp at hjl
        · exact h0
      obtain ⟨⟨x0, x1, x2, x3, x4⟩, _⟩ := (hat.gr W3.out.F hbw) j hjl
      have hbr := W3.out.F.lt hbw
      have HWF := Hid.mk' (And.intro (HD.out.2 _ (dmt_mem hjl)) (hat j hjl).2)
      have hMj : j * dD T1 + dD T1 < 549755813888 := by
        have := Nat.mul_le_mul (show j + 1 ≤ 1048576 by omega) HDD.out.1
        rw [Nat.add_mul] at this; omega
      have HMJ := Hid.mk' hMj
      have HM1 : Hid ((j + 1) * dD T1 = j * dD T1 + dD T1) := by show _ = _; rw [Nat.add_mul, Nat.one_mul]
      have HTO : Hid (dmTo ds (j + 1) = if (dmt ds j).1.k = 6 then dmTo ds j else dmF (dmt ds j).1 (dmTo ds j)) := rfl
      have pb := pickF_bd (dmt ds j).1.kind 10 (by omega)
      have HKK : Hid ((dmt ds j).1.k = pickF (dmt ds j).1.kind 10) := rfl
      have hkb := (HD.out.2 _ (dmt_mem hjl)).1.1
      have P3 := Hid.mk' (fun W => pick_any (dmt ds j).1.kind 10 W hkb.1 hkb.2 (by omega) (by omega))
      clear hat hMj hkb
      generalize dmt ds j = y at *
      generalize pickF y.1.kind 10 = kk at *
      have ga : Gr wr (wr.alloc (.cells #[.int .i64 y.1.kind, .int .i64 y.1.client, .int .i64 y.1.id, .int .i64 y.1.turn, .slice y.2.1 y.1.wants.length y.2.2] 33)) := (Gr.refl wr).alloc _
      have DK : Hid (Dk (wr.alloc (.cells #[.int .i64 y.1.kind, .int .i64 y.1.client, .int .i64 y.1.id, .int .i64 y.1.turn, .slice y.2.1 y.1.wants.length y.2.2] 33)) r3 r4 A B wr.heap.size y) := ⟨heap_alloc_new _ _, W3.out.t1.b.top _ (Nat.le_refl _), W3.out.t2.b.top _ (Nat.le_refl _), fun h => by have := (W3.out.a _ h).2.1; omega, fun h => by have := (W3.out.b _ h).2.1; omega⟩
      have W4 := Hid.mk' (W3.out.gr hw0 ga)
      obtain ⟨k0, hk0⟩ : ∃ k0, k0 = wr.heap.size := ⟨_, rfl⟩
      clear W3 ga
      go_wp2_with fail
      generalize (wr.alloc (.cells #[.int .i64 y.1.kind, .int .i64 y.1.client, .int .i64 y.1.id, .int .i64 y.1.turn, .slice y.2.1 y.1.wants.length y.2.2] 33)) = w4 at *
      refine (P3.out _).mono ?_
      rintro e wx ⟨rfl, hw⟩
      have hw' := hw.symm
      clear hw
      subst hw'
      rw [← hk0] at DK ⊢
      clear hk0
      by_cases hk7 : kk = 6
      · have E4 : Hid (Two w w4 nx rk home T1 T2 r3 r4 cs1 cs2 s1 s2 n1 n2 ((j + 1) * dD T1) ((j + 1) * dD T1) A B L1 L2 (.slice va1 L1.length vk1) (.slice va2 L2.length vk2) (dmTo ds (j + 1)) (dmTo ds (j + 1))) := by
          show Two _ _ _ _ _ _ _ _ _ _ _ _ _ _ _ _ _ _ _ _ _ _ _ _ _
          rw [HM1.out, HTO.out, if_pos (HKK.out.trans hk7)]
          exact W4.out.up (Nat.le_add_right _ _) (Nat.le_add_right _ _)
        clear W4 DK HKK
        subst hk7
        go_wp2_with fail
        exact ⟨⟨j + 1, L1, L2, va1, va2, vk1, vk2, s1, s2, cs1, cs2, r3, r4, n1, n2, A, B, hjl, by simp, rfl, rfl, E4⟩, measM_dec _ _ hjl⟩
      · have hk7' : (kk == 6) = false := by simpa using hk7
        obtain ⟨y0, y1, y2, y3, y4⟩ := DK.out.cells
        have hk0w := blk_lt DK.out.blk
        have HP := Hid.mk' (happens_2 w w4 nx rk home T1 T2 r3 r4 cs1 cs2 s1 s2 n1 n2 _ _ A B L1 L2 va1 vk1 _ _ _ y.1 y.2.1 y.2.2 W4.out SS.out.1 HH.out.1 HMJ.out hw0 HWF.out.2 HWF.out.1.2.1 HWF.out.1.2.2 HWF.out.1.1)
        have HK7 := Hid.mk' hk7
        clear hk7
        go_wp2_with fail
        refine HP.out.mono ?_
        rintro e w5 ⟨va5, vk5, L5, s5, cs5, r5, n5, A5, rfl, h5, hkeep⟩
        have WT := Hid.mk' h5
        have DT : Hid (Dk w5 r5 r4 A5 B k0 y) := by
          obtain ⟨q1, q2, q3⟩ := hkeep k0 hk0w DK.out.r1 DK.out.a
          exact ⟨q1.trans DK.out.blk, q2, DK.out.r2, q3, DK.out.b⟩
        clear HP h5 hkeep W4 DK y0 y1 y2 y3 y4 hk0w
        by_cases hjo : j < os.length
        · obtain ⟨bo, offo, rfl, hbo, hato⟩ : ∃ b off, ao = some ⟨b, off, none⟩ ∧ b < w.heap.size ∧ IntsAt w b off os := by
            rcases HO.out.1 with h0 | h0
            · rw [h0] at hjo; simp at hjo
            · exact h0
          have IOS : Hid (∀ W, Gr w W → W.cell? ⟨bo, offo + j, none⟩ = some (.int .i64 (iat os j)) ∧ bo < W.heap.size) := fun W g => ⟨(hato.gr g hbo) j hjo, g.lt hbo⟩
          have hzb := iat_bd HO.out.2 hjo
          have P4 := Hid.mk' (fun W => pick_any (iat os j) 4 W hzb.1 hzb.2 (by omega) (by omega))
          have pb4 := pickF_bd (iat os j) 4 (by omega)
          have hz4 : -2305843009213693954 ≤ (iat os j).tdiv 4 ∧ (iat os j).tdiv 4 ≤ 2305843009213693954 := by
            have h1 := Int.mul_tdiv_add_tmod (iat os j) 4
            have h2 := Int.tmod_lt_of_pos (iat os j) (show (0 : Int) < 4 by omega)
            have h3 := Int.lt_tmod_of_pos (iat os j) (show (0 : Int) < 4 by omega)
            omega
          clear hato
          generalize iat os j = z at *
          generalize pickF z 4 = p4 at *
          go_wp2_with fail
          go_loopw [17] (fun i wr => ∃ (q : Nat) (s6 : Ts) (cs6 : List (Pc (List Atr))) (r6 : Nat → Rl) (n6 : Nat), q ≤ 4 ∧ i = .int .i64 q ∧ Hid (Two w wr nx rk home T1 T2 r5 r6 cs5 cs6 s5 s6 n5 n6 (j * dD T1 + dD T1) (j * dD T1) A5 B L5 L2 (.slice va5 L5.length vk5) (.slice va2 L2.length vk2) (dmF y.1 (dmTo ds j)) (dmTo ds j)) ∧ Hid (Dk wr r5 r6 A5 B k0 y)) (fun i _ => 4 - (intOf i).toNat)
          case atStart => exact ⟨0, s2, cs2, r4, n2, by omega, rfl, WT, DT⟩
          case round =>
            clear WT DT
            obtain ⟨q, s6, cs6, r6, n6, hq, rfl, WT, DT⟩ := hrel
            obtain ⟨io1, io2⟩ := IOS.out _ WT.out.F
            by_cases hqp : (q : Int) < p4
            · have hq4 : q < 4 := by omega
              have TN := Hid.mk' (turn_t T2 r6 wr cs6 s6 nx rk home k24 n6 (j * dD T1) (z.tdiv 4 + q) WT.out.t2 SS.out.2 WT.out.g2 (by rw [k24_len]; omega) (by have := HMJ.out; omega) ⟨by omega, by omega⟩)
              go_wp2_with fail
              refine (P4.out _).mono ?_
              rintro e wx ⟨rfl, hw⟩
              have hw' := hw.symm
              clear hw
              subst hw'
              go_wp2_with fail
              refine TN.out.mono ?_
              rintro e w7 ⟨s7, cs7, r7, n7, rfl, mv, t7, f7⟩
              obtain ⟨q7, hq7⟩ := mv.R
              have WT7 := Hid.mk' (WT.out.swap.fr hw0 f7 t7 mv.G (hq7.ow SS.out.2.N WT.out.g2.I WT.out.o2) (WT.out.d2.of hq7.ids)).swap
              have DT7 : Hid (Dk w7 r5 r7 A5 B k0 y) := ⟨(f7.keep k0 (blk_lt DT.out.blk) (Or.inl DT.out.r2)).trans DT.out.blk, DT.out.r1, (f7.same k0 (blk_lt DT.out.blk)).trans DT.out.r2, DT.out.a, DT.out.b⟩
              clear TN mv t7 f7 hq7 WT DT io1 io2
              go_wp2_with fail
              exact ⟨⟨q + 1, s7, cs7, r7, n7, by omega, by simp, WT7, DT7⟩, measM_dec _ _ hq4⟩
            · have hk7 := HK7.out
              go_wp2_with fail
              refine (P4.out _).mono ?_
              rintro e wx ⟨rfl, hw⟩
              have hw' := hw.symm
              clear hw
              subst hw'
              clear io1 io2
              obtain ⟨y0, y1, y2, y3, y4⟩ := DT.out.cells
              have hk0w := blk_lt DT.out.blk
              go_wp2_with fail
              refine (P3.out _).mono ?_
              rintro e wx ⟨rfl, hw⟩
              have hw' := hw.symm
              clear hw
              subst hw'
              by_cases hk6 : kk < 6
              · have HP2 := Hid.mk' (happens_2 w _ nx rk home T2 T1 r6 r5 cs6 cs5 s6 s5 n6 n5 _ _ B A5 L2 L5 va2 vk2 _ _ _ y.1 y.2.1 y.2.2 WT.out.swap SS.out.2 HH.out.2 (by rw [HDD.out.2.1]; exact HMJ.out) hw0 HWF.out.2 HWF.out.1.2.1 HWF.out.1.2.2 HWF.out.1.1)
                rw [HDD.out.2.1] at HP2
                clear WT DT
                go_wp2_with fail
                refine HP2.out.mono ?_
                rintro e w8 ⟨va8, vk8, L8, s8, cs8, r8, n8, B8, rfl, h8, _⟩
                have E8 : Hid (Two w w8 nx rk home T1 T2 r5 r8 cs5 cs8 s5 s8 n5 n8 ((j + 1) * dD T1) ((j + 1) * dD T1) A5 B8 L5 L8 (.slice va5 L5.length vk5) (.slice va8 L8.length vk8) (dmTo ds (j + 1)) (dmTo ds (j + 1))) := by
                  show Two _ _ _ _ _ _ _ _ _ _ _ _ _ _ _ _ _ _ _ _ _ _ _ _ _
                  rw [HM1.out, HTO.out, if_neg (by rw [HKK.out]; exact hk7)]; exact h8.swap
                clear HP2 h8 y0 y1 y2 y3 y4
                go_wp2_with fail
                exact ⟨⟨j + 1, L5, L8, va5, va8, vk5, vk8, s5, s8, cs5, cs8, r5, r8, n5, n8, A5, B8, hjl, by simp, rfl, rfl, E8⟩, measM_dec _ _ hjl⟩
              · have E8 : Hid (Two w wr nx rk home T1 T2 r5 r6 cs5 cs6 s5 s6 n5 n6 ((j + 1) * dD T1) ((j + 1) * dD T1) A5 B L5 L2 (.slice va5 L5.length vk5) (.slice va2 L2.length vk2) (dmTo ds (j + 1)) (dmTo ds (j + 1))) := by
                  show Two _ _ _ _ _ _ _ _ _ _ _ _ _ _ _ _ _ _ _ _ _ _ _ _ _
                  have e1 : dmF y.1 (dmTo ds j) = dmTo ds j := by unfold dmF; rw [if_neg (by rw [HKK.out]; omega), if_neg (by rw [HKK.out]; exact hk6)]
                  have h9 := WT.out
                  rw [e1] at h9
                  rw [HM1.out, HTO.out, if_neg (by rw [HKK.out]; exact hk7), e1]
                  exact h9.up (Nat.le_refl _) (Nat.le_add_right _ _)
                clear WT DT y0 y1 y2 y3 y4
                go_wp2_with fail
                exact ⟨⟨j + 1, L5, L2, va5, va2, vk5, vk2, s5, s6, cs5, cs6, r5, r6, n5, n6, A5, B, hjl, by simp, rfl, rfl, E8⟩, measM_dec _ _ hjl⟩
        · have hk7 := HK7.out
          generalize hs26 : s2 = s6 at *
          generalize hcs26 : cs2 = cs6 at *
          generalize hr46 : r4 = r6 at *
          generalize hn26 : n2 = n6 at *
          clear hs26 hcs26 hr46 hn26
          obtain ⟨y0, y1, y2, y3, y4⟩ := DT.out.cells
          have hk0w := blk_lt DT.out.blk
          go_wp2_with fail
          refine (P3.out _).mono ?_
          rintro e wx ⟨rfl, hw⟩
          have hw' := hw.symm
          clear hw
          subst hw'
          by_cases hk6 : kk < 6
          · have HP2 := Hid.mk' (happens_2 w _ nx rk home T2 T1 r6 r5 cs6 cs5 s6 s5 n6 n5 _ _ B A5 L2 L5 va2 vk2 _ _ _ y.1 y.2.1 y.2.2 WT.out.swap SS.out.2 HH.out.2 (by rw [HDD.out.2.1]; exact HMJ.out) hw0 HWF.out.2 HWF.out.1.2.1 HWF.out.1.2.2 HWF.out.1.1)
            rw [HDD.out.2.1] at HP2
            clear WT DT
            go_wp2_with fail
            refine HP2.out.mono ?_
            rintro e w8 ⟨va8, vk8, L8, s8, cs8, r8, n8, B8, rfl, h8, _⟩
            have E8 : Hid (Two w w8 nx rk home T1 T2 r5 r8 cs5 cs8 s5 s8 n5 n8 ((j + 1) * dD T1) ((j + 1) * dD T1) A5 B8 L5 L8 (.slice va5 L5.length vk5) (.slice va8 L8.length vk8) (dmTo ds (j + 1)) (dmTo ds (j + 1))) := by
              show Two _ _ _ _ _ _ _ _ _ _ _ _ _ _ _ _ _ _ _ _ _ _ _ _ _
              rw [HM1.out, HTO.out, if_neg (by rw [HKK.out]; exact hk7)]; exact h8.swap
            clear HP2 h8 y0 y1 y2 y3 y4
            go_wp2_with fail
            exact ⟨⟨j + 1, L5, L8, va5, va8, vk5, vk8, s5, s8, cs5, cs8, r5, r8, n5, n8, A5, B8, hjl, by simp, rfl, rfl, E8⟩, measM_dec _ _ hjl⟩
          · have E8 : Hid (Two w w5 nx rk home T1 T2 r5 r6 cs5 cs6 s5 s6 n5 n6 ((j + 1) * dD T1) ((j + 1) * dD T1) A5 B L5 L2 (.slice va5 L5.length vk5) (.slice va2 L2.length vk2) (dmTo ds (j + 1)) (dmTo ds (j + 1))) := by
              show Two _ _ _ _ _ _ _ _ _ _ _ _ _ _ _ _ _ _ _ _ _ _ _ _ _
              have e1 : dmF y.1 (dmTo ds j) = dmTo ds j := by unfold dmF; rw [if_neg (by rw [HKK.out]; omega), if_neg (by rw [HKK.out]; exact hk6)]
              have h9 := WT.out
              rw [e1] at h9
              rw [HM1.out, HTO.out, if_neg (by rw [HKK.out]; exact hk7), e1]
              exact h9.up (Nat.le_refl _) (Nat.le_add_right _ _)
            clear WT DT y0 y1 y2 y3 y4
            go_wp2_with fail
            exact ⟨⟨j + 1, L5, L2, va5, va2, vk5, vk2, s5, s6, cs5, cs6, r5, r6, n5, n6, A5, B, hjl, by simp, rfl, rfl, E8⟩, measM_dec _ _ hjl⟩
    · have hje : j = ds.length := by omega
      subst hje
      have hMd : ds.length * dD T1 ≤ 164626432 := by
        have := Nat.mul_le_mul ld HDD.out.1
        omega
      have HMD := Hid.mk' hMd
      have DR1 := Hid.mk' (Drain_t T1 r3 wr cs1 s1 nx rk home k24 _ _ W3.out.t1 SS.out.1 W3.out.g1 (by rw [k24_len]; omega) (by omega))
      clear hj hjl hMd
      generalize dmTo ds ds.length = l at *
      generalize ds.length * dD T1 = MM at *
      go_wp2_with fail
      refine DR1.out.mono ?_
      rintro e w5 ⟨k5, s5, cs5, r5, n5, rfl, hrun, hq5, t5, g5, _, f5⟩
      have W5 := Hid.mk' (W3.out.fr hw0 f5 t5 g5 (hrun.ow SS.out.1.N W3.out.g1.I W3.out.o1) (W3.out.d1.of hrun.ids))
      have Q5 := Hid.mk' hq5
      have DR2 := Hid.mk' (Drain_t T2 r4 w5 cs2 s2 nx rk home k24 _ _ W5.out.t2 SS.out.2 W5.out.g2 (by rw [k24_len]; omega) (by have := HMD.out; omega))
      clear DR1 hrun hq5 t5 g5 f5 W3
      go_wp2_with fail
      refine DR2.out.mono ?_
      rintro e w6 ⟨k6, s6, cs6, r6, n6, rfl, hrun, hq6, t6, g6, _, f6⟩
      have W6 := Hid.mk' (W5.out.swap.fr hw0 f6 t6 g6 (hrun.ow SS.out.2.N W5.out.g2.I W5.out.o2) (W5.out.d2.of hrun.ids)).swap
      have SAME : Hid (∀ b, s5.held b = s6.held b) := fun b => by
        have i1 := W6.out.g1.I
        have i2 := W6.out.g2.I
        rw [HTN.out.2.2.1] at i1
        rw [HTN.out.2.2.2.1] at i2
        have rr := SS.out.1.R
        rw [HTN.out.2.2.1] at rr
        exact ow_settle rr i1 i2 Q5.out hq6 W6.out.o1 W6.out.o2 (fun _ => Iff.rfl) b
      have SH1 := Hid.mk' (SHP.out w6 W6.out.F)
      have hbN := HTN.out.2.2.2.2
      clear DR2 hrun hq6 t6 g6 f6 W5 SHP
      go_wp2_with fail
      refine SH1.out.mono ?_
      rintro e w7 ⟨v7, rfl, o7, g7⟩
      obtain ⟨xa, xm, xk, rfl⟩ := owns_slice o7
      have W7 := Hid.mk' (W6.out.gr hw0 g7)
      clear SH1 o7 g7 W6
      generalize hNb : nbF zs = NB at *
      clear hNb
      go_wp2_with fail
      have SMS : Hid (Sm T1 s5 ∧ Sm T2 s6) := ⟨W7.out.g1.sm SS.out.1 (by rw [k24_len]; omega) (by have := HMD.out; omega), W7.out.g2.sm SS.out.2 (by rw [k24_len]; omega) (by have := HMD.out; omega)⟩
      have HTA : Hid (T1.nb = NB ∧ T2.nb = NB ∧ T1.adj = T2.adj) := ⟨HTN.out.1, HTN.out.2.1, HTN.out.2.2.1.trans HTN.out.2.2.2.1.symm⟩
      have HY : Hid (∀ W, Gr w7 W → ∀ b from_, b < NB → canAsk T1 b from_ → Calls Tryz.prog 16 #[.pointer (some ⟨T1.TB, 0, none⟩), .int .i64 b, .int .i64 from_] W fun e w' => ∃ v, e = .returned (.tuple #[v, .int .i64 0]) ∧ w'.ownsRow W.heap.size 112 2 v (keysOf s5 b from_).length (kcells (keysOf s5 b from_)) ∧ Gr W w') := fun W g b from_ hb hc => Held_yes T1 r5 W cs5 s5 b from_ (W7.out.t1.gr g) SMS.out.1 (by rw [HTA.out.1]; exact hb) (W7.out.g1.I.srt b) hc
      have HY2 : Hid (∀ W, Gr w7 W → ∀ b from_, b < NB → canAsk T1 b from_ → Calls Tryz.prog 16 #[.pointer (some ⟨T2.TB, 0, none⟩), .int .i64 b, .int .i64 from_] W fun e w' => ∃ v, e = .returned (.tuple #[v, .int .i64 0]) ∧ w'.ownsRow W.heap.size 112 2 v (keysOf s5 b from_).length (kcells (keysOf s5 b from_)) ∧ Gr W w') := fun W g b from_ hb hc => by
        have e1 : keysOf s5 b from_ = keysOf s6 b from_ := by unfold keysOf; rw [SAME.out b]
        rw [e1]
        refine Held_yes T2 r6 W cs6 s6 b from_ (W7.out.t2.gr g) SMS.out.2 (by rw [HTA.out.2.1]; exact hb) (W7.out.g2.I.srt b) ?_
        rw [← HTA.out.2.2]; exact hc
      have HN1 : Hid (∀ W, Gr w7 W → ∀ (b : Nat) (from_ : Int), b < NB → I64 from_ → ¬ canAsk T1 b from_ → Calls Tryz.prog 16 #[.pointer (some ⟨T1.TB, 0, none⟩), .int .i64 b, .int .i64 from_] W fun e w' => e = .returned (.tuple #[.slice none 0 0, .int .i64 5]) ∧ Gr W w') := fun W g b from_ hb hi hc => Held_no T1 r5 W cs5 s5 b from_ (W7.out.t1.gr g) (by rw [HTA.out.1]; exact hb) hi (fun e => hc (Or.inl e)) (fun a e => by
        cases hab : T1.adj b a with
        | false => rfl
        | true => exact absurd (Or.inr ⟨a, e, hab⟩) hc)
      have HN2 : Hid (∀ W, Gr w7 W → ∀ (b : Nat) (from_ : Int), b < NB → I64 from_ → ¬ canAsk T1 b from_ → Calls Tryz.prog 16 #[.pointer (some ⟨T2.TB, 0, none⟩), .int .i64 b, .int .i64 from_] W fun e w' => e = .returned (.tuple #[.slice none 0 0, .int .i64 5]) ∧ Gr W w') := fun W g b from_ hb hi hc => Held_no T2 r6 W cs6 s6 b from_ (W7.out.t2.gr g) (by rw [HTA.out.2.1]; exact hb) hi (fun e => hc (Or.inl e)) (fun a e => by
        cases hab : T2.adj b a with
        | false => rfl
        | true => exact absurd (Or.inr ⟨a, e, by rw [HTA.out.2.2]; exact hab⟩) hc)
      have HKL : Hid (∀ b from_, (keysOf s5 b from_).length ≤ 24) := fun b from_ => by
        have := keysOf_len s5 b from_
        have := W7.out.g1.len b
        rw [k24_len] at this
        omega
      go_loopw [22] (fun i wr => ∃ b : Nat, b ≤ NB ∧ i = .int .i64 b ∧ Hid (Gr w7 wr)) (fun i _ => NB - (intOf i).toNat)
      case atStart => exact ⟨0, Nat.zero_le _, rfl, Gr.refl _⟩
      case round =>
        obtain ⟨b, hb, rfl, G8⟩ := hrel
        by_cases hbl : b < NB
        · go_wp2_with fail
          go_loopw [23] (fun i wr => ∃ q : Nat, q ≤ NB + 1 ∧ i = .int .i64 ((q : Int) - 1) ∧ Hid (Gr w7 wr)) (fun i _ => NB + 1 - (intOf i + 1).toNat)
          case atStart => exact ⟨0, Nat.zero_le _, by simp, G8⟩
          case round =>
            clear G8
            obtain ⟨q, hq, rfl, G9⟩ := hrel
            obtain ⟨f, hf⟩ : ∃ f : Int, f = (q : Int) - 1 := ⟨_, rfl⟩
            have hq1 : (q : Int) = f + 1 := by omega
            rw [← hf]
            by_cases hql : q < NB + 1
            · have hfl : f < (NB : Int) := by omega
              have hfm : -1 ≤ f := by omega
              have HF := Hid.mk' hf
              clear hf hq1
              by_cases hc : canAsk T1 b f
              · have H1 := Hid.mk' (HY.out _ G9.out b f hbl hc)
                have HKF := Hid.mk' (HKL.out b f)
                have H2 : Hid (∀ W, Gr w7 W → Calls Tryz.prog 16 #[.pointer (some ⟨T2.TB, 0, none⟩), .int .i64 b, .int .i64 f] W fun e w' => ∃ v, e = .returned (.tuple #[v, .int .i64 0]) ∧ w'.ownsRow W.heap.size 112 2 v (keysOf s5 b f).length (kcells (keysOf s5 b f)) ∧ Gr W w') := fun W g => HY2.out W g b f hbl hc
                generalize keysOf s5 b f = KK at *
                go_wp2_with fail
                refine H1.out.mono ?_
                rintro e w10 ⟨v10, rfl, o10, g10⟩
                have G10 := Hid.mk' (Gr.call G9.out g10)
                have O10 := Hid.mk' o10
                have H3 := Hid.mk' (H2.out w10 G10.out)
                obtain ⟨ya, ym, rfl, _⟩ := owns_shape o10
                clear H1 H2 o10 g10
                go_wp2_with fail
                refine H3.out.mono ?_
                rintro e w11 ⟨v11, rfl, o11, g11⟩
                have G11 := Hid.mk' (Gr.call G10.out g11)
                have SK := Hid.mk' (sameKeys_yes KK _ _ w11 _ _ (ownsGr O10.out g11) o11 (by have := HKF.out; omega))
                obtain ⟨za, zm, rfl, _⟩ := owns_shape o11
                clear H3 o11 g11 O10
                go_wp2_with fail
                refine SK.out.mono ?_
                rintro e w12 ⟨rfl, g12⟩
                have G12 := Hid.mk' (Gr.call G11.out g12)
                clear SK g12
                by_cases hf1 : f = -1
                · subst hf1
                  go_wp2_with fail
                  exact ⟨⟨q + 1, by omega, by have := HF.out; simp; omega, G12⟩, by have := HF.out; simp only [intOf]; omega⟩
                · have hf1' : (f == -1) = false := by simpa using hf1
                  go_wp2_with fail
                  exact ⟨⟨q + 1, by omega, by have := HF.out; simp; omega, G12⟩, by have := HF.out; simp only [intOf]; omega⟩
              · have hf1 : f ≠ -1 := fun e => hc (Or.inl e)
                have hf1' : (f == -1) = false := by simpa using hf1
                have H1 := Hid.mk' (HN1.out _ G9.out b f hbl ⟨by omega, by omega⟩ hc)
                have H2 : Hid (∀ W, Gr w7 W → Calls Tryz.prog 16 #[.pointer (some ⟨T2.TB, 0, none⟩), .int .i64 b, .int .i64 f] W fun e w' => e = .returned (.tuple #[.slice none 0 0, .int .i64 5]) ∧ Gr W w') := fun W g => HN2.out W g b f hbl ⟨by omega, by omega⟩ hc
                go_wp2_with fail
                refine H1.out.mono ?_
                rintro e w10 ⟨rfl, g10⟩
                have G10 := Hid.mk' (Gr.call G9.out g10)
                have H3 := Hid.mk' (H2.out w10 G10.out)
                clear H1 H2 g10
                go_wp2_with fail
                refine H3.out.mono ?_
                rintro e w11 ⟨rfl, g11⟩
                have G11 := Hid.mk' (Gr.call G10.out g11)
                have SK := Hid.mk' (sameKeys_yes [] (.slice none 0 0) (.slice none 0 0) w11 0 0 (World.ownsRow_nil _ _ _ _) (World.ownsRow_nil _ _ _ _) (by simp))
                clear H3 g11
                go_wp2_with fail
                refine SK.out.mono ?_
                rintro e w12 ⟨rfl, g12⟩
                have G12 := Hid.mk' (Gr.call G11.out g12)
                clear SK g12
                go_wp2_with fail
                exact ⟨⟨q + 1, by omega, by have := HF.out; simp; omega, G12⟩, by have := HF.out; simp only [intOf]; omega⟩
            · have hfl : ¬ f < (NB : Int) := by omega
              clear hf hq1
              go_wp2_with fail
              exact ⟨⟨b + 1, hbl, by simp, G9⟩, measM_dec _ _ hbl⟩
        · have hbe : NB = b := by omega
          subst hbe
          have U8 : Hid (Ust w wr T1 nx rk home r5 cs5 s5 n5 MM A L1 (.slice va1 L1.length vk1) l) := by
            have h := W7.out.gr hw0 G8.out
            exact ⟨h.t1, h.g1, h.o1, h.d1, h.m1, h.F, h.z1, fun k hk => ⟨(h.a k hk).2.2.1, (h.a k hk).2.1⟩⟩
          have LE := Hid.mk' (And.intro W7.out.e1 W7.out.k1)
          clear HY2 HN2 HY HN1 HKL SAME W7 SMS Q5 hb hbl G8
          obtain ⟨k1, k2⟩ := nk_of (show NK (L1.map (·.1)) by rw [LE.out.1]; exact LE.out.2)
          have hLl : L1.length ≤ 24 := by
            have := keys_le (L1.map fun x => x.1.1) k24 (by rw [List.pairwise_map]; exact k1) (fun k hk => by
              obtain ⟨x, hx, rfl⟩ := List.mem_map.1 hk
              exact k2 x hx)
            rw [List.length_map, k24_len] at this
            exact this
          have HKK := Hid.mk' (And.intro k1 k2)
          have MUP : Hid (∀ q, q ≤ 24 → MM + q * (T1.nb * 25) < 549755813888) := fun q hq => by
            have := Nat.mul_le_mul hq (Nat.mul_le_mul_right 25 HDD.out.2.2.1)
            have := HMD.out
            omega
          clear k1 k2
          go_wp2_with fail
          go_loopw [29] (fun i wr => ∃ (q : Nat) (s' : Ts) (r' : Nat → Rl) (n' : Nat), q ≤ L1.length ∧ i = .int .i64 q ∧ Hid (Ust w wr T1 nx rk home r' cs5 s' n' (MM + q * (T1.nb * 25)) A L1 (.slice va1 L1.length vk1) ((L1.map (·.1)).drop q))) (fun i _ => L1.length - (intOf i).toNat)
          case atStart => exact ⟨0, s5, r5, n5, Nat.zero_le _, rfl, by show Ust _ _ _ _ _ _ _ _ _ _ _ _ _ _ _; rw [Nat.zero_mul, List.drop_zero, LE.out.1]; exact U8.out⟩
          case round =>
            clear U8
            obtain ⟨q, s9, r9, n9, hq, rfl, U9⟩ := hrel
            by_cases hql : q < L1.length
            · have CLq : ∃ g off, va1 = some ⟨g, off, none⟩ ∧ wr.cell? ⟨g, off + q * 3, none⟩ = some (.int .i64 (nat' L1 q).1.1.1) ∧ wr.cell? ⟨g, off + q * 3 + 1, none⟩ = some (.int .i64 (nat' L1 q).1.1.2) := by
                rcases U9.out.m.q.2 with ⟨h2, h3⟩ | ⟨g, off, cap, cur, hv, _⟩
                · omega
                · injection hv with hv _ _
                  subst hv
                  obtain ⟨c1, c2, c3⟩ := ncells_at L1 q hql
                  exact ⟨g, off, rfl, U9.out.m.q.cellAt c1, U9.out.m.q.cellAt c2⟩
              obtain ⟨g, off, rfl, c1, c2⟩ := CLq
              have hkm := HKK.out.2 _ (nat'_mem hql)
              have hkb : 0 ≤ (nat' L1 q).1.1.1 ∧ (nat' L1 q).1.1.1 < 6 ∧ 0 ≤ (nat' L1 q).1.1.2 ∧ (nat' L1 q).1.1.2 < 4 := by
                simp only [k24, List.mem_flatMap, List.mem_map, List.mem_range] at hkm
                obtain ⟨a, ha, b, hb, e⟩ := hkm
                rw [← e]
                exact ⟨by simp, by simp; omega, by simp, by simp; omega⟩
              have hdr : (L1.map (·.1)).drop q = (nat' L1 q).1 :: (L1.map (·.1)).drop (q + 1) := by
                rw [← List.map_drop, ← List.map_drop, List.drop_eq_getElem_cons hql, List.map_cons]; simp [nat', hql]
              obtain ⟨x, hxm, hxf, hxk, hxx⟩ := ow_mem U9.out.O (k := (nat' L1 q).1.1) (f := (nat' L1 q).1.2) (by rw [hdr]; exact List.mem_cons_self)
              obtain ⟨cn, hcn⟩ : ∃ cn : Nat, (nat' L1 q).1.1.1 = (cn : Int) := ⟨(nat' L1 q).1.1.1.toNat, by omega⟩
              obtain ⟨c, hc, hcn1, hca⟩ := U9.out.D.get (i := cn) (by omega)
              have SM := U9.out.G.sm SS.out.1 (by rw [k24_len]; omega) (MUP.out q (by omega))
              have US : Hid (∀ W, W = wr.drew → Calls Tryz.prog 18 #[.pointer (some ⟨T1.TB, 0, none⟩), .int .i64 (nat' L1 q).1.1.1, .int .i64 (nat' L1 q).1.1.2] W fun e w' => e = .returned (.int .i64 0) ∧ ∃ r' n', Ust w w' T1 nx rk home r' cs5 (s9.turn cov T1.adj (home cn) (del (nat' L1 q).1.1 (s9.held (home cn)))) n' (MM + (q + 1) * (T1.nb * 25)) A L1 (.slice (some ⟨g, off, none⟩) L1.length vk1) ((L1.map (·.1)).drop (q + 1))) := by
                intro W hW
                subst hW
                have uu := U9.out.gr ((Gr.refl wr).drew)
                have h1 := Unsubscribe_t T1 r9 wr.drew cs5 s9 c (nat' L1 q).1.1.2 x uu.t hc ⟨by omega, by omega⟩ (U9.out.G.I.srt _) (by rw [hca, ← hcn]; exact hxm) (by rw [hxk, hcn1, ← hcn]) SM
                rw [hcn1, ← hcn] at h1
                refine h1.mono ?_
                rintro e w' ⟨he, r', t', f'⟩
                rw [hca, hxk] at t'
                refine ⟨he, r', n9 + T1.nb * (k24.length + 1), uu.fr f' t' ?_ ?_ U9.out.D⟩
                · have := U9.out.G.uns SS.out.1 (x := x) (by rw [hxk]; exact HH.out.1 _) (by rw [hxk]; exact hxm)
                  rw [hxk, hcn] at this
                  rw [k24_len] at this ⊢
                  rw [show MM + (q + 1) * (T1.nb * 25) = MM + q * (T1.nb * 25) + T1.nb * (24 + 1) by rw [Nat.add_mul]; omega]
                  exact this
                · have := ow_uns (cov := cov) (adj := T1.adj) U9.out.O (nat' L1 q).1.1 (l' := (L1.map (·.1)).drop (q + 1)) (fun x => drop_key HKK.out.1 hql x)
                  rw [hcn] at this
                  exact this
              clear hkm hkb hdr hxm hxf hxk hxx hcn hc hcn1 hca SM U9
              generalize nat' L1 q = yy at *
              go_wp2_with fail
              go_region_with (go_at_call 18; refine (US.out _ rfl).mono ?_; rintro e w10 ⟨rfl, FE⟩)
              all_goals
                have FE2 := Hid.mk' FE
                clear FE US c1 c2
                obtain ⟨r10, n10, u10⟩ := FE2.out
                have U10 := Hid.mk' u10
                clear FE2 u10
                go_wp2_with fail
                exact ⟨⟨q + 1, _, r10, n10, hql, by simp, U10⟩, measM_dec _ _ hql⟩
            · have hqe : q = L1.length := by omega
              subst hqe
              have hdl : (L1.map (·.1)).drop L1.length = [] := List.drop_eq_nil_of_le (by simp)
              rw [hdl] at U9
              have DR3 := Hid.mk' (Drain_t T1 r9 wr cs5 s9 nx rk home k24 _ _ U9.out.t SS.out.1 U9.out.G (by rw [k24_len]; omega) (MUP.out _ hLl))
              clear hq hql hdl
              go_wp2_with fail
              refine DR3.out.mono ?_
              rintro e w10 ⟨k10, s10, cs10, r10, n10, rfl, hrun, hq10, t10, g10, _, f10⟩
              have U10 := Hid.mk' (U9.out.fr f10 t10 g10 (hrun.ow SS.out.1.N U9.out.G.I U9.out.O) (U9.out.D.of hrun.ids))
              have EMP : Hid (∀ b, s10.held b = []) := fun b => ow_empty SS.out.1.R U10.out.G.I hq10 U10.out.O b
              have Q10 := Hid.mk' hq10
              have SM10 := Hid.mk' (U10.out.G.sm SS.out.1 (by rw [k24_len]; omega) (MUP.out _ hLl))
              have HY : Hid (∀ W, Gr w10 W → ∀ (b : Nat) (from_ : Int), b < NB → I64 from_ → Calls Tryz.prog 16 #[.pointer (some ⟨T1.TB, 0, none⟩), .int .i64 b, .int .i64 from_] W fun e w' => ∃ va vk er, e = .returned (.tuple #[.slice va 0 vk, .int .i64 er]) ∧ Gr W w') := fun W g b from_ hb hi => by
                by_cases hc : canAsk T1 b from_
                · refine (Held_yes T1 r10 W cs10 s10 b from_ (U10.out.t.gr g) SM10.out (by rw [HTA.out.1]; exact hb) (U10.out.G.I.srt b) hc).mono ?_
                  rintro e w' ⟨v, h1, h2, h3⟩
                  have e0 : (keysOf s10 b from_).length = 0 := by unfold keysOf; rw [EMP.out b]; rfl
                  rw [e0] at h2
                  obtain ⟨va, vk, rfl, _⟩ := owns_shape h2
                  exact ⟨va, vk, 0, h1, h3⟩
                · refine (Held_no T1 r10 W cs10 s10 b from_ (U10.out.t.gr g) (by rw [HTA.out.1]; exact hb) hi (fun e => hc (Or.inl e)) (fun a e => by
                    cases hab : T1.adj b a with
                    | false => rfl
                    | true => exact absurd (Or.inr ⟨a, e, hab⟩) hc)).mono ?_
                  rintro e w' ⟨h1, h2⟩
                  exact ⟨none, 0, 5, h1, h2⟩
              have LKS : Hid (∀ W, Gr w10 W → Calls Tryz.prog 19 #[.pointer (some ⟨T1.TB, 0, none⟩)] W fun e w' => ∃ v, e = .returned v ∧ w'.ownsRow W.heap.size 54 3 v (lkTo T1 s10 T1.nb).length (lcells (lkTo T1 s10 T1.nb)) ∧ Gr W w') := fun W g => by
                obtain ⟨cls, t, _⟩ := U10.out.t.gr g
                exact Links_any T1 r10 W cls s10 t SM10.out
              have LZ : Hid (∀ x ∈ lkTo T1 s10 T1.nb, x.2.2 = 0) := fun x hx => by rw [(lkTo_q hx).2.2, Q10.out]; rfl
              have LLN : (lkTo T1 s10 T1.nb).length + 2 = 2 * NB := by
                have h0 := links_len SS.out.1 (by rw [HTA.out.1]; exact hbN.1) s10
                have h1 := HTA.out.1
                omega
              have F10 := Hid.mk' U10.out.F
              have HTB : Hid (T1.nb = NB) := HTA.out.1
              clear DR3 hrun hq10 t10 g10 f10 U9 U10 SM10 EMP Q10
              generalize lkTo T1 s10 T1.nb = LK at *
              go_wp2_with fail
              go_loopw [31] (fun i wr => ∃ b : Nat, b ≤ NB ∧ i = .int .i64 b ∧ Hid (Gr w10 wr)) (fun i _ => NB - (intOf i).toNat)
              case atStart => exact ⟨0, Nat.zero_le _, rfl, Gr.refl _⟩
              case round =>
                obtain ⟨b, hb, rfl, G11⟩ := hrel
                by_cases hbl : b < NB
                · go_wp2_with fail
                  go_loopw [32] (fun i wr => ∃ q : Nat, q ≤ NB + 1 ∧ i = .int .i64 ((q : Int) - 1) ∧ Hid (Gr w10 wr)) (fun i _ => NB + 1 - (intOf i + 1).toNat)
                  case atStart => exact ⟨0, Nat.zero_le _, by simp, G11⟩
                  case round =>
                    clear G11
                    obtain ⟨q, hq, rfl, G12⟩ := hrel
                    obtain ⟨f, hf⟩ : ∃ f : Int, f = (q : Int) - 1 := ⟨_, rfl⟩
                    have hq1 : (q : Int) = f + 1 := by omega
                    rw [← hf]
                    by_cases hql : q < NB + 1
                    · have hfl : f < (NB : Int) := by omega
                      have hfm : -1 ≤ f := by omega
                      have HF := Hid.mk' hf
                      have H1 := Hid.mk' (HY.out _ G12.out b f hbl ⟨by omega, by omega⟩)
                      clear hf hq1
                      go_wp2_with fail
                      refine H1.out.mono ?_
                      rintro e w13 ⟨va, vk, er, rfl, g13⟩
                      have G13 := Hid.mk' (Gr.call G12.out g13)
                      clear H1 g13
                      go_wp2_with fail
                      exact ⟨⟨q + 1, by omega, by have := HF.out; simp; omega, G13⟩, by have := HF.out; simp only [intOf]; omega⟩
                    · have hfl : ¬ f < (NB : Int) := by omega
                      clear hf hq1
                      go_wp2_with fail
                      exact ⟨⟨b + 1, hbl, by simp, G12⟩, measM_dec _ _ hbl⟩
                · have LK1 := Hid.mk' (LKS.out _ G11.out)
                  go_wp2_with fail
                  refine LK1.out.mono ?_
                  rintro e w13 ⟨v13, rfl, o13, g13⟩
                  obtain ⟨la, lk, rfl, hla⟩ := owns_shape o13
                  have O13 := Hid.mk' o13
                  have HLA := Hid.mk' hla
                  have F13 := Hid.mk' (Gr.call F10.out (Gr.call G11.out g13))
                  clear LK1 o13 g13 hla
                  go_wp2_with fail
                  go_loopw [36] (fun i wr => ∃ q : Nat, q ≤ LK.length ∧ i = .int .i64 q ∧ Hid (Gr w13 wr)) (fun i _ => LK.length - (intOf i).toNat)
                  case atStart => exact ⟨0, Nat.zero_le _, rfl, Gr.refl _⟩
                  case round =>
                    obtain ⟨q, hq, rfl, G14⟩ := hrel
                    by_cases hql : q < LK.length
                    · obtain ⟨lb, rfl⟩ := HLA.out (by omega)
                      obtain ⟨d0, d1, d2⟩ := lcells_at LK q hql
                      rw [← World.ownsRow.cellAt (ownsGr O13.out G14.out) _ (by omega)] at d0 d1 d2
                      have hmx : lat LK q ∈ LK := by unfold lat; exact getD_mem hql _
                      rw [LZ.out _ hmx] at d2
                      clear hmx
                      generalize lat LK q = yy at *
                      go_wp2_with fail
                      exact ⟨⟨q + 1, hql, by simp, G14⟩, measM_dec _ _ hql⟩
                    · have hqe : q = LK.length := by omega
                      subst hqe
                      have hlen : (LK.length : Int) = 2 * ((NB : Int) - 1) := by omega
                      clear hq hql
                      go_wp2_with fail
                      go_ret
                      exact ⟨rfl, Gr.call F13.out G14.out⟩
end Go.Proofs.YtecnfgikbmcgoaaGreat
namespace Go.Proofs.YtecnfgikbmcgoaaGreat
open Go.ChangeShapes Go.WideShapes Go.ChangeAt Go.RowKit

set_option maxRecDepth 100000 in
theorem settled_lifted (os : Os) (started : os.Started) (H : Type) (enc : TypeId × Value → H) (F : Stop.Interp) :
    ReturnsInHanded {} Tryz.checked os 4 .any ((Rows.OpenSpec.upto Rows.settledSpec).pre6 enc Tryz.prog Tryz.f4 Rows.settledUptoRow.domain false) (((Rows.OpenSpec.upto Rows.settledSpec).at F).post enc Tryz.prog Tryz.f4 false true false false) := by
  refine returns_cond_shaped (C := Tryz.checked) (s := Rows.OpenSpec.upto Rows.settledSpec) (k := Rows.uptoSmall) rfl Tryz.own started (by kernel_rfl) Tryz.func4
    (OpenSpec.witness (enc := enc) (C := Tryz.checked) (s := Rows.OpenSpec.upto Rows.settledSpec) (k := Rows.uptoSmall) rfl false ⟨#[], #[.slice none 0 0, .slice none 0 0, .slice none 0 0, .slice none 0 0], []⟩ 8 (by kernel_rfl) (by kernel_rfl) (by kernel_rfl)
      (x := ([.nil, .nil, .nil, .nil], [], [])) (by kernel_rfl) rfl (by kernel_rfl)) ?_
  intro W base args ds gs before hval0 hW hk hsh
  have hval : ∀ (j : Nat) t v, Tryz.f4.params[j]? = some t → args[j]? = some v → Value.okWide Tryz.prog W .any base t v := hval0
  have hW' := hW
  obtain ⟨p, q, hA0, hV, rfl, hfz, hnd⟩ := hW
  have hA : DataW.TrodAll enc Tryz.prog W 0 (fun _ => true) true Tryz.f4.params.toList args.toList ds p := hA0
  rw [Tryz.params4] at hA hval
  obtain ⟨v0, vs0, d0, ds0, p0, q0, hargs, rfl, rfl, h0, r0⟩ := trodAll_cons hA
  obtain ⟨v1, vs1, d1, ds1, p1, q1, rfl, rfl, rfl, h1, r1⟩ := trodAll_cons r0
  obtain ⟨v2, vs2, d2, ds2, p2, q2, rfl, rfl, rfl, h2, r2⟩ := trodAll_cons r1
  obtain ⟨v3, vs3, d3, ds3, p3, q3, rfl, rfl, rfl, h3, r3⟩ := trodAll_cons r2
  obtain ⟨rfl, rfl, rfl⟩ := trodAll_nil r3
  obtain rfl : args = #[v0, v1, v2, v3] := by cases args; simp_all
  obtain ⟨rfl, rfl⟩ := trodVars_none hV
  obtain ⟨a0, len0, cap0, rfl⟩ := okWide_slice Tryz.underlying27 (hval 0 27 v0 rfl rfl)
  obtain ⟨a1, len1, cap1, rfl⟩ := okWide_slice Tryz.underlying27 (hval 1 27 v1 rfl rfl)
  obtain ⟨a2, len2, cap2, rfl⟩ := okWide_slice Tryz.underlying28 (hval 2 28 v2 rfl rfl)
  obtain ⟨a3, len3, cap3, rfl⟩ := okWide_slice Tryz.underlying27 (hval 3 27 v3 rfl rfl)
  have lt0 : ∀ x ∈ p0, x.block < W.heap.size := by obtain ⟨m, hm⟩ := h0; exact DataW.trod_lt m _ _ _ hm
  have lt1 : ∀ x ∈ p1, x.block < W.heap.size := by obtain ⟨m, hm⟩ := h1; exact DataW.trod_lt m _ _ _ hm
  have lt2 : ∀ x ∈ p2, x.block < W.heap.size := by obtain ⟨m, hm⟩ := h2; exact DataW.trod_lt m _ _ _ hm
  have lt3 : ∀ x ∈ p3, x.block < W.heap.size := by obtain ⟨m, hm⟩ := h3; exact DataW.trod_lt m _ _ _ hm
  have hb : Rows.uptoBulkAll ([d0, d1, d2, d3] ++ []) ≤ 1048576 := of_decide_eq_true hk
  have b0 := bulk_in (H := H) (d := d0) (l := [d0, d1, d2, d3] ++ []) (by simp)
  have b1 := bulk_in (H := H) (d := d1) (l := [d0, d1, d2, d3] ++ []) (by simp)
  have b2 := bulk_in (H := H) (d := d2) (l := [d0, d1, d2, d3] ++ []) (by simp)
  have b3 := bulk_in (H := H) (d := d3) (l := [d0, d1, d2, d3] ++ []) (by simp)
  generalize Rows.uptoBulkAll ([d0, d1, d2, d3] ++ []) = BB at *
  clear hk
  obtain ⟨zs, e0, i0, w0, l0⟩ := ints_up h0
  obtain ⟨ps, e1, i1, w1, l1⟩ := ints_up h1
  obtain ⟨dl, e2, i2, w2, l2⟩ := deeds_up h2
  obtain ⟨es, e3, i3, w3, l3⟩ := ints_up h3
  subst e0 e1 e2 e3
  obtain ⟨m, hM⟩ := ml_of hsh
  clear hA0 hval0
  refine (Settled_any zs ps dl es a0 a1 a2 a3 cap0 cap1 cap2 cap3 m W (by omega) i0 w0 (by omega) i1 w1 (by omega) i2 w2 (by omega) i3 w3 hM).mono fun e W' ⟨he, bel⟩ => ?_
  subst he
  exact ⟨_, rfl, _, _, _, [], _, [], hW', trodAll_mk1 (shut_bool Tryz.underlying4 _),
    (trodAll_cons_mk (Below.trod Tryz.laidOut (by kernel_rfl) (of_decide_eq_true (by kernel_rfl)) h0 bel lt0) (trodAll_cons_mk (Below.trod Tryz.laidOut (by kernel_rfl) (of_decide_eq_true (by kernel_rfl)) h1 bel lt1)
      (trodAll_cons_mk (Below.trod Tryz.laidOut (by kernel_rfl) (of_decide_eq_true (by kernel_rfl)) h2 bel lt2)
        (trodAll_cons_mk (Below.trod Tryz.laidOut (by kernel_rfl) (of_decide_eq_true (by kernel_rfl)) h3 bel lt3) trodAll_mk0)))), rfl, Below.frame bel _, fun h => by cases h⟩

theorem settled_holds : Rows.SettledUptoSaid :=
  OpenClaim.holds_of_cond 4 Tryz.f4 rfl rfl rfl rfl rfl rfl rfl ⟨rfl, rfl, rfl, rfl, rfl⟩ rfl rfl rfl rfl rfl (by kernel_rfl) Tryz.func4 (by kernel_rfl)
    (of_decide_eq_true (by kernel_rfl)) (by unfold Func.isWrapper; first | (rw [if_pos (by decide +kernel)]; kernel_rfl) | (rw [if_neg (by decide +kernel)]; exact ⟨rfl, rfl⟩))
    (fun os started H enc _ F => settled_lifted os started H enc F)
#print axioms settled_holds
end Go.Proofs.YtecnfgikbmcgoaaGreat
