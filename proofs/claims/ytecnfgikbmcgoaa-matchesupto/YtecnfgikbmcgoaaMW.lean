import Derived.Test.YtecnfgikbmcgoaaMK
namespace Go.Proofs.Ytecnfgikbmcgoaa
open Go.RowKit

set_option maxRecDepth 100000 in
set_option maxHeartbeats 8000000 in
theorem Matches_any (l : List Atr) (fs : List (List Wnt)) (ad adl : Option Addr) (cap capl : Nat) (m : Int) (w : World) (hl : l.length ≤ 1048576) (hE : EvAt w ad l) (hwf : ∀ x ∈ l, Atr.Wf x)
    (hn : fs.length ≤ 1048576) (hF : fs = [] ∨ ∃ b off, adl = some ⟨b, off, none⟩ ∧ b < w.heap.size ∧ FisAt w b off fs) (hlen : ∀ f ∈ fs, f.length ≤ 1048576) (hwfs : ∀ f ∈ fs, ∀ x ∈ f, Wnt.Wf x) (hM : Ml m w) :
    Calls Try.prog 3 #[.slice ad l.length cap, .slice adl fs.length capl] w fun e w' => e = .returned (.bool true) ∧ Gr w w' := by
  have HE := Hid.mk' hE
  have HF := Hid.mk' hF
  have HW := Hid.mk' hwf
  have HWS := Hid.mk' hwfs
  have HN := Hid.mk' hlen
  have HM := Hid.mk' hM
  have K0 : Hid (WM w ((w.alloc (.cells #[.slice none 0 0, .slice none 0 0, .slice none 0 0, .slice none 0 0] 29)).alloc (.cells #[.slice none 0 0, .slice none 0 0, .slice none 0 0, .slice none 0 0, .slice none 0 0, .slice none 0 0] 36)) [] [] none 0 [] (.slice none 0 0) []) := by
    have gg : Gr w ((w.alloc (.cells #[.slice none 0 0, .slice none 0 0, .slice none 0 0, .slice none 0 0] 29)).alloc (.cells #[.slice none 0 0, .slice none 0 0, .slice none 0 0, .slice none 0 0, .slice none 0 0, .slice none 0 0] 36)) := ((Gr.refl w).alloc _).alloc _
    have hb : ((w.alloc (.cells #[.slice none 0 0, .slice none 0 0, .slice none 0 0, .slice none 0 0] 29)).alloc (.cells #[.slice none 0 0, .slice none 0 0, .slice none 0 0, .slice none 0 0, .slice none 0 0, .slice none 0 0] 36)).heap[w.heap.size]? = some (.cells #[.slice none 0 0, .slice none 0 0, .slice none 0 0, .slice none 0 0] 29 (0, 0)) := by
      rw [heap_alloc_old _ _ (by rw [size_alloc']; omega)]; exact heap_alloc_new _ _
    refine ⟨gg, ⟨⟨_, _, _, _, ⟨Nat.le_refl _, gg.size, hb, World.ownsRow_nil _ _ _ _, World.ownsRow_nil _ _ _ _, by simp, by simp, by simp⟩, ⟨Nat.le_refl _, gg.size, hb, World.ownsRow_nil _ _ _ _, World.ownsRow_nil _ _ _ _, by simp, by simp, by simp⟩⟩, by simp, by simp⟩, ?_, BkL.nil _ _ _ _ _ _, World.ownsRow_nil _ _ _ _⟩
    have := heap_alloc_new (w.alloc (.cells #[.slice none 0 0, .slice none 0 0, .slice none 0 0, .slice none 0 0] 29)) (.cells #[.slice none 0 0, .slice none 0 0, .slice none 0 0, .slice none 0 0, .slice none 0 0, .slice none 0 0] 36)
    rw [size_alloc'] at this
    exact this
  clear hE hF hwf hwfs hlen hM
  go_enter Try.func3, Try.ntmps3
  go_wp2_with fail
  refine (nine_any _).mono ?_
  rintro e w1 ⟨B9, rfl, g1, _, hb9⟩
  have K1 := Hid.mk' (K0.out.step g1)
  have E9 := Hid.mk' (nine_ev (base := w.heap.size) hb9)
  clear K0 g1 hb9
  go_wp2_with fail
  refine (lendE [nineA] (some ⟨B9, 0, none⟩) 1 w.heap.size w.heap.size [] [] w1 (by simp) (Or.inr E9.out) nineA_wf (by simp) K1.out.lb).mono ?_
  rintro e w2 ⟨a2, c2, Es2, rfl, k2, L2, _, n2, o2⟩
  have K2 := Hid.mk' (K1.out.kp k2 L2 (by decide) (by decide) (by decide))
  have O2 := Hid.mk' o2
  have N2 := Hid.mk' n2
  clear K1 k2 L2 o2 E9 n2
  go_wp2_with fail
  refine (above_any _ _).mono ?_
  rintro e w3 ⟨rfl, g3⟩
  have K3 := Hid.mk' ((K2.out.step g3).step ((Gr.refl w3).alloc (.cells #[.string ⟨#[115, 105, 122, 101]⟩, .int .i64 6, .int .i64 1, .int .i64 9, .string ⟨#[]⟩] 51)))
  have F3 := Hid.mk' (above_fi (base := w.heap.size) (heap_alloc_new w3 (.cells #[.string ⟨#[115, 105, 122, 101]⟩, .int .i64 6, .int .i64 1, .int .i64 9, .string ⟨#[]⟩] 51)))
  clear K2 g3
  go_wp2_with fail
  refine (lendF [aboveW 9] _ 1 w.heap.size w.heap.size Es2 [] _ (by simp) (Or.inr F3.out) (aboveW_wf 9 (by decide) (by decide)) (by simp) K3.out.lb).mono ?_
  rintro e w4 ⟨a4, c4, Fs4, rfl, k4, L4, _, n4, o4⟩
  have K4 := Hid.mk' (K3.out.kp k4 L4 (by decide) (by decide) (by decide))
  have O4 := Hid.mk' o4
  have N4 := Hid.mk' n4
  clear K3 k4 L4 o4 F3 n4
  go_wp2_with fail
  refine (above_any _ _).mono ?_
  rintro e w5 ⟨rfl, g5⟩
  have K5 := Hid.mk' ((K4.out.step g5).step ((Gr.refl w5).alloc (.cells #[.string ⟨#[115, 105, 122, 101]⟩, .int .i64 6, .int .i64 1, .int .i64 3, .string ⟨#[]⟩] 51)))
  have F5 := Hid.mk' (above_fi (base := w.heap.size) (heap_alloc_new w5 (.cells #[.string ⟨#[115, 105, 122, 101]⟩, .int .i64 6, .int .i64 1, .int .i64 3, .string ⟨#[]⟩] 51)))
  clear K4 g5
  go_wp2_with fail
  refine (lendF [aboveW 3] _ 1 w.heap.size w.heap.size Es2 Fs4 _ (by simp) (Or.inr F5.out) (aboveW_wf 3 (by decide) (by decide)) (by have := N4.out; simp at this; omega) K5.out.lb).mono ?_
  rintro e w6 ⟨a6, c6, Fs6, rfl, k6, L6, m6, n6, o6⟩
  have K6 := Hid.mk' (K5.out.kp k6 L6 (by decide) (by decide) (by decide))
  have O6 := Hid.mk' o6
  have O4' := Hid.mk' (O4.out.mono m6)
  have N6 : Hid (Fs6.length ≤ 2) := by
    have := N4.out
    show _ ≤ _
    simp at this; omega
  clear K5 k6 L6 o6 F5 n6 m6 O4 N4
  go_wp2_with fail
  have K7 := Hid.mk' (K6.out.step ((Gr.refl w6).alloc (.cells #[.slice a4 1 c4, .slice a6 1 c6] 46)))
  have B7 := Hid.mk' (heap_alloc_new w6 (.cells #[.slice a4 1 c4, .slice a6 1 c6] 46))
  refine (Match_any [nineA] [[aboveW 9], [aboveW 3]] a2 c2 w6.heap.size 0 2 m _ (by simp [maxLen]) (O2.out.ev K7.out.lb) nineA_wf (by simp) (by simp) (fis_two B7.out (O4'.out.fi K7.out.lb) (O6.out.fi K7.out.lb)) (by simp [maxLen]) ?_ (K7.out.gr.ml HM.out)).mono ?_
  · intro f hf
    simp only [List.mem_cons, List.not_mem_nil, or_false] at hf
    rcases hf with rfl | rfl
    · exact aboveW_wf 9 (by decide) (by decide)
    · exact aboveW_wf 3 (by decide) (by decide)
  rw [two_err, two_res]
  rintro e w8 ⟨v8, rfl, g8, own8⟩
  have K8 := Hid.mk' (K7.out.step g8)
  obtain ⟨g8b, c8, rfl, ce8⟩ := own_one own8
  clear K6 K7 B7 O2 O4' O6 g8 own8
  go_wp2_with fail
  refine (lendE l ad cap w.heap.size w.heap.size Es2 Fs6 _ (by omega) (ev_lend HE.out K8.out.gr) HW.out (by have := N2.out; simp at this; omega) K8.out.lb).mono ?_
  rintro e w9 ⟨a9, c9, Es9, rfl, k9, L9, _, n9, o9⟩
  have K9 := Hid.mk' (K8.out.kp k9 L9 (by decide) (by decide) (by decide))
  have O9 := Hid.mk' o9
  have N9 : Hid (Es9.length ≤ 2) := by
    have := N2.out
    show _ ≤ _
    simp at this; omega
  clear K8 k9 L9 o9 n9 N2 ce8
  go_wp2_with fail
  refine (CheckEvent_ad l a9 c9 _ (by unfold maxLen; omega) (O9.out.ev K9.out.lb) HW.out).mono ?_
  rintro e w10 ⟨rfl, g10⟩
  have K10 := Hid.mk' (K9.out.step g10)
  clear K9 O9 g10
  go_wp2_with fail
  refine (num_any _ _).mono ?_
  rintro e w' ⟨rfl, hw'⟩
  subst w'
  go_wp2_with fail
  refine (refCheckEvent_ad l ad cap _ (by unfold maxLen; omega) (HE.out.gr K10.out.gr) HW.out).mono ?_
  rintro e w11 ⟨rfl, g11⟩
  have K11 := Hid.mk' (K10.out.step g11)
  clear K10 g11
  go_wp2_with fail
  refine (refCheckEvent_ad l ad cap _ (by unfold maxLen; omega) (HE.out.gr K11.out.gr) HW.out).mono ?_
  rintro e w12 ⟨rfl, g12⟩
  have K12 := Hid.mk' (K11.out.step g12)
  clear K11 g12
  go_wp2_with fail
  go_loopw [10, 12] (fun mu i wr => ∃ (k : Nat) (Fs : List FE), k ≤ fs.length ∧ mu = .int .i64 (mErr l (fs.take k)) ∧ i = .int .i64 k ∧ Hid (Fs.length ≤ 2 + k) ∧ Hid (WM w wr Es9 Fs none 0 [] (.slice none 0 0) [])) (fun _ i _ => fs.length - (intOf i).toNat)
  case atStart => exact ⟨0, Fs6, Nat.zero_le _, by rw [List.take_zero, mErr_nil], rfl, N6, K12⟩
  case round =>
    obtain ⟨k, Fs, hk, rfl, rfl, NF, K⟩ := hrel
    by_cases hlt : k < fs.length
    · obtain ⟨bl, offl, rfl, hbl, hat⟩ := HF.out.resolve_left (by rintro rfl; simp at hlt)
      have HAT := Hid.mk' hat
      have HBL := Hid.mk' hbl
      obtain ⟨ak, ck, ck1, ck2⟩ := hat.gr K.out.gr hbl k hlt
      obtain ⟨ak', ck', ck1', ck2'⟩ := hat k hlt
      have eak : ak' = ak ∧ ck' = ck := by
        have e1 : wr.cell? ⟨bl, offl + k, none⟩ = w.cell? ⟨bl, offl + k, none⟩ := K.out.gr.cell (p := ⟨bl, offl + k, none⟩) hbl
        rw [e1, ck1'] at ck1
        simpa using ck1
      obtain ⟨rfl, rfl⟩ := eak
      have HK := Hid.mk' ck2'
      have HC := Hid.mk' ck1'
      have hfl := HN.out _ (fat_mem hlt)
      have hwk := HWS.out _ (fat_mem hlt)
      have HWK := Hid.mk' hwk
      clear ck2 ck2' hat hbl hwk ck1'
      go_wp2_with fail
      refine (lendF (fat fs k) ak' ck' w.heap.size w.heap.size Es9 Fs _ (by omega) (fi_lend HK.out K.out.gr) HWK.out (by have := NF.out; omega) K.out.lb).mono ?_
      rintro e w13 ⟨a13, c13, Fs13, rfl, k13, L13, _, n13, o13⟩
      have K13 := Hid.mk' (K.out.kp k13 L13 (by decide) (by decide) (by decide))
      have O13 := Hid.mk' o13
      have N13 : Hid (Fs13.length ≤ 2 + (k + 1)) := by
        have := NF.out
        show _ ≤ _
        omega
      clear K k13 L13 o13 n13 NF ck1
      go_wp2_with fail
      refine (Check_ad (fat fs k) a13 c13 _ (by unfold maxLen; omega) (O13.out.fi K13.out.lb) HWK.out).mono ?_
      rintro e w14 ⟨rfl, g14⟩
      have K14 := Hid.mk' (K13.out.step g14)
      clear K13 O13 g14
      have ck1 : w14.cell? ⟨bl, offl + k, none⟩ = some (.slice ak' (fat fs k).length ck') := by rw [K14.out.gr.cell (p := ⟨bl, offl + k, none⟩) HBL.out]; exact HC.out
      go_wp2_with fail
      refine (refCheckF_ad (fat fs k) ak' ck' _ (by unfold maxLen; omega) (HK.out.gr K14.out.gr) HWK.out).mono ?_
      rintro e w15 ⟨rfl, g15⟩
      have K15 := Hid.mk' (K14.out.step g15)
      clear K14 g15 ck1
      go_wp2_with fail
      refine (num_any _ _).mono ?_
      rintro e w' ⟨rfl, hw'⟩
      subst w'
      by_cases hmu : mErr l (fs.take k) = 0
      · have Hs : Hid (mErr l (fs.take (k + 1)) = chk (fat fs k)) := by
          show _ = _
          rw [mErr_step hlt, if_pos hmu]
        go_wp2_with fail
        go_roundw
        case rel => exact ⟨k + 1, Fs13, by omega, by rw [Hs.out], by go_num, N13, K15⟩
        case measure => simp [intOf]; omega
      · have Hs : Hid (mErr l (fs.take (k + 1)) = mErr l (fs.take k)) := by
          show _ = _
          rw [mErr_step hlt, if_neg hmu]
        go_wp2_with fail
        go_roundw
        case rel => exact ⟨k + 1, Fs13, by omega, by rw [Hs.out], by go_num, N13, K15⟩
        case measure => simp [intOf]; omega
    · have hke : k = fs.length := by omega
      subst hke
      rw [List.take_length]
      obtain ⟨mu, hmu⟩ : ∃ mu, mu = mErr l fs := ⟨_, rfl⟩
      rw [← hmu]
      have HMU := Hid.mk' hmu
      clear K12 N6 hmu
      go_wp2_with fail
      go_loopw [11, 15] (fun wv i wr => ∃ k : Nat, k ≤ fs.length ∧ i = .int .i64 k ∧ Hid (WM w wr Es9 Fs none 0 [] wv (wsk l fs k))) (fun _ i _ => fs.length - (intOf i).toNat)
      case atStart => exact ⟨0, Nat.zero_le _, rfl, by rw [wsk_zero]; exact K⟩
      case round =>
        clear K hk hlt
        obtain ⟨k, hk, rfl, K⟩ := hrel
        by_cases hgo : k < fs.length ∧ mu = 0
        · obtain ⟨hlt, hm0⟩ := hgo
          subst hm0
          obtain ⟨bl, offl, rfl, hbl, hat⟩ := HF.out.resolve_left (by rintro rfl; simp at hlt)
          obtain ⟨ak, ck, ck1, ck2⟩ := hat.gr K.out.gr hbl k hlt
          have HK := Hid.mk' ck2
          have hfl := HN.out _ (fat_mem hlt)
          obtain ⟨he1, hf1⟩ := mErr_ok HMU.out.symm
          have HE1 := Hid.mk' he1
          have HF1 := Hid.mk' (List.all_eq_true.1 hf1 _ (fat_mem hlt))
          clear ck2 hat hbl he1 hf1
          go_wp2_with fail
          refine (refMatches_ok l (fat fs k) ad ak cap ck _ hl (HE.out.gr K.out.gr) hfl HK.out HE1.out HF1.out).mono ?_
          rintro e w13 ⟨rfl, g13⟩
          have K13 := Hid.mk' (K.out.step g13)
          have hwl := wsk_le l fs k
          clear K g13 ck1
          cases h3 : mat l (fat fs k)
          · have HS := Hid.mk' (wsk_no HMU.out.symm h3)
            go_wp2_with fail
            go_roundw
            case rel => exact ⟨k + 1, by omega, by go_num, by rw [HS.out]; exact K13⟩
            case measure => simp [intOf]; omega
          · have HS := Hid.mk' (wsk_yes HMU.out.symm h3)
            obtain ⟨i0, hi, hz0, hz1, hz2⟩ := info_parts Try.infoInt
            have hsz3 := K13.out.gr.size
            go_wp2_with (at_builtin; refine wpList_append_own _ rfl _ _ 37 rfl w.heap.size 3 i0 (.int .i64 0) 1 8 Try.underlying37 hi hz0 hz1 hz2 rfl (by decide) _ _ _ rfl (K13.out.wt.alloc _) ⟨w13.heap.size, 0, none⟩ 1 1 [.int .i64 k] rfl rfl (cell_one_new _ _ _) ?c2 ?c3 ?c4 ?c5 ?_)
            case c2 => intro u hu; simp at hu; subst hu; rfl
            case c3 => unfold maxLen; omega
            case c4 => omega
            case c5 => simp; omega
            intro v' w14 hown' hgrow _
            have K14 : Hid (WM w w14 Es9 Fs none 0 [] v' (wsk l fs (k + 1))) := (K13.out.step ((Gr.refl w13).alloc _)).want hgrow (by rw [HS.out, ints_snoc, List.length_append]; exact hown')
            obtain ⟨va, vm, vc, rfl⟩ := owns_slice hown'
            clear hown' hgrow K13
            go_wp2_with fail
            go_roundw
            case rel => exact ⟨k + 1, by omega, by go_num, K14⟩
            case measure => simp [intOf]; omega
        · have HR := Hid.mk' (wsk_end hk (by rw [← HMU.out]; exact hgo))
          have K' : Hid (WM w wr Es9 Fs none 0 [] u11 (mRes l fs)) := by
            show WM _ _ _ _ _ _ _ _ _
            rw [← HR.out]; exact K.out
          clear K HR
          obtain ⟨va, vc, rfl, hva⟩ := owns_shape K'.out.wt
          have hc : (k < fs.length ∧ mu ≠ 0) ∨ ¬ k < fs.length := by
            by_cases hlt : k < fs.length
            · exact Or.inl ⟨hlt, fun h => hgo ⟨hlt, h⟩⟩
            · exact Or.inr hlt
          have NFE : Hid (Fs.length ≤ 2 + fs.length) := NF
          have HRL : Hid ((mRes l fs).length ≤ 1048576) := by
            show _ ≤ _
            have h1 : (mRes l fs).length ≤ fs.length := by
              unfold mRes
              split
              · exact hits_le l fs _
              · simp
            omega
          clear hgo NF
          have hc2 : (k < fs.length ∧ (mu == 0) = false) ∨ ¬ k < fs.length := by
            rcases hc with ⟨h1, h2⟩ | h1
            · exact Or.inl ⟨h1, by simpa using h2⟩
            · exact Or.inr h1
          clear hc
          rcases hc2 with ⟨hlt, hmu⟩ | hlt
          all_goals
            go_wp2_with fail
            clear hlt
            try clear hmu
            go_loopw [17] (fun n wr => ∃ (j : Nat) (Es : List EE) (Fs : List FE) (lad : Option Addr) (lc : Nat) (ls : List Value), j ≤ 2 ∧ n = .int .i64 j ∧ Hid (Es.length ≤ 2) ∧ Hid (Fs.length ≤ 2 + fs.length) ∧ Hid (ls.length = 4 * j) ∧ Hid (WM w wr Es Fs lad lc ls (.slice va (mRes l fs).length vc) (mRes l fs))) (fun n _ => 2 - (intOf n).toNat)
            case atStart => exact ⟨0, Es9, Fs, none, 0, [], by omega, rfl, N9, NFE, rfl, K'⟩
            case round =>
              clear K' N9 NFE
              obtain ⟨j, Es, Fs', lad, lc, ls, hj, rfl, NE, NF, HLS, K⟩ := hrel
              by_cases hj2 : j < 2
              · go_wp2_with fail
                have hd : decide ((j : Int) < 2) = true := by simp; omega
                rw [hd]
                go_loopw [18, 19] (fun iv i wr => ∃ (q : Nat) (Fs : List FE) (xs : List Value), q ≤ fs.length ∧ i = .int .i64 q ∧ Hid (Fs.length ≤ 2 + fs.length + q) ∧ Hid (WM w wr Es Fs lad lc ls (.slice va (mRes l fs).length vc) (mRes l fs)) ∧ Hid (InS wr w.heap.size iv q Fs fs xs)) (fun _ i _ => fs.length - (intOf i).toNat)
                case atStart => exact ⟨0, Fs', [], Nat.zero_le _, rfl, NF, K, InS.nil _ _ _ _⟩
                case round =>
                  clear K NF
                  obtain ⟨q, Fq, xs, hq, rfl, NF, K, IN⟩ := hrel
                  obtain ⟨ia, ic, rfl, hia⟩ := owns_shape IN.out.own
                  by_cases hlt : q < fs.length
                  · obtain ⟨bl, offl, rfl, hbl, hat⟩ := HF.out.resolve_left (by rintro rfl; simp at hlt)
                    obtain ⟨ak, ck, ck1', ck2'⟩ := hat q hlt
                    have ck1 : wr.cell? ⟨bl, offl + q, none⟩ = some (.slice ak (fat fs q).length ck) := by rw [K.out.gr.cell (p := ⟨bl, offl + q, none⟩) hbl]; exact ck1'
                    have HK := Hid.mk' ck2'
                    have hfl := HN.out _ (fat_mem hlt)
                    have HWK := Hid.mk' (HWS.out _ (fat_mem hlt))
                    clear ck2' hat hbl ck1'
                    go_wp2_with fail
                    refine (lendF (fat fs q) ak ck w.heap.size w.heap.size Es Fq _ (by omega) (fi_lend HK.out K.out.gr) HWK.out (by have := NF.out; omega) K.out.lb).mono ?_
                    rintro e w13 ⟨a13, c13, Fs13, rfl, k13, L13, m13, n13, o13⟩
                    have K13 := Hid.mk' (K.out.kp k13 L13 (by decide) (by decide) (by decide))
                    have IN13 := Hid.mk' (IN.out.kp k13 (by decide) m13)
                    have O13 := Hid.mk' o13
                    have N13 : Hid (Fs13.length ≤ 2 + fs.length + (q + 1)) := by
                      have := NF.out
                      show _ ≤ _
                      omega
                    clear K k13 L13 o13 n13 NF ck1 IN m13
                    obtain ⟨i0, hi, hz0, hz1, hz2⟩ := info_parts Try.infoFil
                    have hsz3 := K13.out.gr.size
                    go_wp2_with (at_builtin; refine wpList_append_own _ rfl _ _ 60 rfl w.heap.size 46 i0 (.slice none 0 0) 1 24 Try.underlying60 hi hz0 hz1 hz2 rfl (by decide) _ _ _ rfl (IN13.out.own.alloc _) ⟨w13.heap.size, 0, none⟩ 1 1 [.slice a13 (fat fs q).length c13] rfl rfl (cell_one_new _ _ _) ?c2 ?c3 ?c4 ?c5 ?_)
                    case c2 => intro u hu; simp at hu; subst hu; rfl
                    case c3 => unfold maxLen; omega
                    case c4 => omega
                    case c5 => simp; omega
                    intro v' w14 hown' hgrow _
                    have K14 := Hid.mk' ((K13.out.step ((Gr.refl w13).alloc (.cells #[.slice a13 (fat fs q).length c13] 46))).inn (IN13.out.own.alloc _) hgrow)
                    have IN14 := Hid.mk' (IN13.out.snoc hown' O13.out)
                    obtain ⟨xa, xm, xc, rfl⟩ := owns_slice hown'
                    clear hown' hgrow K13 IN13 O13
                    go_wp2_with fail
                    go_roundw
                    case rel => exact ⟨q + 1, Fs13, _, by omega, by go_num, N13, K14, IN14⟩
                    case measure => simp [intOf]; omega
                  · have hqe : q = fs.length := by omega
                    subst hqe
                    go_wp2_with fail
                    refine (lendE l ad cap w.heap.size w.heap.size Es Fq _ (by omega) (ev_lend HE.out K.out.gr) HW.out (by have := NE.out; omega) K.out.lb).mono ?_
                    rintro e w13 ⟨a13, c13, Es13, rfl, k13, L13, _, n13, o13⟩
                    have K13 := Hid.mk' (K.out.kp k13 L13 (by decide) (by decide) (by decide))
                    have IN13 := Hid.mk' (IN.out.kp k13 (by decide) (fun e he => he))
                    have O13 := Hid.mk' o13
                    have N13 : Hid (Es13.length ≤ 3) := by
                      have := NE.out
                      show _ ≤ _
                      omega
                    clear K k13 L13 o13 n13 IN
                    go_wp2_with fail
                    refine (Match_all l fs a13 ia c13 ic m _ (by unfold maxLen; omega) (O13.out.ev K13.out.lb) HW.out (by omega) (IN13.out.fis K13.out.lb) (fun f hf => by have := HN.out f hf; unfold maxLen; omega) HWS.out (K13.out.gr.ml HM.out)).mono ?_
                    rw [← HMU.out]
                    rintro e w14 ⟨v14, rfl, g14, own14⟩
                    have K14 := Hid.mk' (K13.out.step g14)
                    have FR := Hid.mk' (K13.out.fresh own14)
                    have OW14 := Hid.mk' (owns_base own14 K13.out.gr.size)
                    obtain ⟨ga, gc, rfl, hga⟩ := owns_shape own14
                    clear K13 g14 own14 IN13 O13
                    go_wp2_with fail
                    refine (stillL w.heap.size w.heap.size Es13 Fq _ (by have := N13.out; omega) (by have := NF.out; omega) K14.out.lb).mono ?_
                    rintro e w15 ⟨rfl, k15, L15⟩
                    have K15 := Hid.mk' (K14.out.kp k15 L15 (by decide) (by decide) (by decide))
                    have OW15 := Hid.mk' (k15.owns OW14.out (by decide))
                    clear K14 k15 L15 OW14 N13 NF NE
                    go_wp2_with fail
                    refine (num_any _ _).mono ?_
                    rintro e w' ⟨rfl, hw'⟩
                    subst w'
                    go_wp2_with fail
                    go_loopw [23] (fun i wr => ∃ p : Nat, p ≤ (mRes l fs).length ∧ i = .int .i64 p ∧ Gr w15 wr) (fun i _ => (mRes l fs).length - (intOf i).toNat)
                    case atStart => exact ⟨0, Nat.zero_le _, rfl, Gr.refl _⟩
                    case round =>
                      obtain ⟨p, hp, rfl, g16⟩ := hrel
                      have hrl := HRL.out
                      by_cases hpl : p < (mRes l fs).length
                      · obtain ⟨gb, rfl⟩ := hga (by omega)
                        obtain ⟨vb, rfl⟩ := hva (by omega)
                        have x1 : wr.cell? ⟨gb, p, none⟩ = some (.int .i64 (((mRes l fs).getD p 0 : Nat) : Int)) := by rw [World.ownsRow.cellAt (ownsGr OW15.out g16) p (by omega)]; exact ints_at hpl
                        have x2 : wr.cell? ⟨vb, p, none⟩ = some (.int .i64 (((mRes l fs).getD p 0 : Nat) : Int)) := by rw [World.ownsRow.cellAt (ownsGr K15.out.wt g16) p (by omega)]; exact ints_at hpl
                        go_wp2_with fail
                        go_quiet (fail)
                        go_wp2_with fail
                        refine ⟨⟨p + 1, by omega, by go_num, g16.drewN _⟩, ?_⟩
                        simp [intOf]; omega
                      · have K16 := Hid.mk' (K15.out.step g16)
                        have OW16 := Hid.mk' (ownsGr OW15.out g16)
                        have hls := HLS.out
                        clear K15 OW15
                        go_wp2_with fail
                        refine (keepInts_any (w.heap.size + 1) w.heap.size _ _ _ _ _ ga lad _ gc lc _ ls _ (by omega) (by omega) K16.out.bb (by omega) K16.out.le K16.out.bk.own OW16.out).mono ?_
                        rintro e w17 ⟨rfl, vi', us, hb17, KK⟩
                        obtain ⟨lad', lc', hus, k17⟩ := K16.out.keep HLS.out (by omega) OW16.out FR.out KK hb17
                        have K17 := Hid.mk' k17
                        have HUS := Hid.mk' hus
                        clear K16 OW16 KK hb17 k17
                        go_wp2_with fail
                        refine (wholeI_any (w.heap.size + 1) w.heap.size lad' lc' us _ (by have := HUS.out; omega) K17.out.bb K17.out.bk).mono ?_
                        rintro e w18 ⟨rfl, g18⟩
                        have K18 := Hid.mk' (K17.out.step g18)
                        clear K17 g18
                        go_wp2_with fail
                        refine ⟨⟨j + 1, [], [], lad', lc', us, by omega, by go_num, by exact Nat.zero_le _, by exact Nat.zero_le _, HUS, K18⟩, ?_⟩
                        simp [intOf]; omega
              · go_wp2_with fail
                go_ret
                exact ⟨rfl, K.out.gr⟩
end Go.Proofs.Ytecnfgikbmcgoaa
