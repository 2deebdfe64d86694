import Derived.Test.YtecnfgikbmcgoaaGreatG22
import Derived.Test.YtecnfgikbmcgoaaGreatG23
namespace Go.Proofs.YtecnfgikbmcgoaaGreat
open Go.RowKit

/-- The want that the first attribute is there. -/
def firstW (l : List Atr) : Wnt := ⟨(aat l 0).a, 1, 0, 0, ⟨#[]⟩⟩
theorem firstW_ok {l : List Atr} (h : evOk l = true) (hwf : ∀ x ∈ l, Atr.Wf x) : okF [firstW l] ∧ mat l [firstW l] = true := by
  have h' := h
  simp only [evOk, Bool.and_eq_true, List.all_eq_true, decide_eq_true_eq] at h'
  have hn : nameOk (aat l 0).a = true := by
    have := h'.2 0 (by simp; omega)
    simp only [okAt, Bool.and_eq_true] at this
    exact this.1.1
  have hlen : 0 < l.length := by omega
  have hm : aat l 0 ∈ l := by unfold aat; exact getD_mem hlen _
  have he : (⟨#[]⟩ : ByteArray).toList = [] := noText_list
  refine ⟨⟨?_, fun x hx => ?_⟩, ?_⟩
  · simp [filterOk, wOk, wantOk, firstW, wayOk_any, hn, he]
  · rw [List.mem_singleton.1 hx]
    have := hwf _ hm
    have e : (⟨#[]⟩ : ByteArray).size = 0 := rfl
    constructor
    · exact this.a
    · show (⟨#[]⟩ : ByteArray).size ≤ maxLen; rw [e]; unfold maxLen; omega
    · show minI ≤ 0; unfold minI; omega
    · show (0 : Int) ≤ maxI; unfold maxI; omega
  · cases l with
    | nil => simp at hlen
    | cons a t => simp [mat, ans, firstW, aat, lets]
/-- Who the clients are. -/
structure Idn (home : Int → Nat) (cs : List (Pc (List Atr))) : Prop where
  at' : ∀ p ∈ cs.map (fun c => (c.num, c.at')), 0 ≤ p.1 ∧ p.1 < 6 ∧ p.2 = home p.1
  all : ∀ i : Nat, i < 6 → ((i : Int), home i) ∈ cs.map (fun c => (c.num, c.at'))
theorem Idn.of {home : Int → Nat} {cs cs' : List (Pc (List Atr))} (h : Idn home cs) (e : cs'.map (fun c => (c.num, c.at')) = cs.map fun c => (c.num, c.at')) : Idn home cs' := ⟨by rw [e]; exact h.at', by rw [e]; exact h.all⟩
theorem Idn.get {home : Int → Nat} {cs : List (Pc (List Atr))} (h : Idn home cs) {i : Nat} (hi : i < 6) : ∃ c ∈ cs, c.num = (i : Int) ∧ c.at' = home i := by
  obtain ⟨c, hc, e⟩ := List.mem_map.1 (h.all i hi)
  injection e with e1 e2
  exact ⟨c, hc, e1, e2⟩
theorem Idn.mem {home : Int → Nat} {cs : List (Pc (List Atr))} (h : Idn home cs) {c : Pc (List Atr)} (hc : c ∈ cs) : 0 ≤ c.num ∧ c.num < 6 ∧ c.at' = home c.num := h.at' (c.num, c.at') (List.mem_map.2 ⟨c, hc, rfl⟩)
theorem ids_hear {l : List Hw} {fr : Bool × Int} {e : List Atr} {cs : List (Pc (List Atr))} : (cs.map (hearAt mat l fr e)).map (fun c => (c.num, c.at')) = cs.map fun c => (c.num, c.at') := by
  rw [List.map_map]
  refine List.map_congr_left fun c _ => ?_
  have := hearAt_num (mt := mat) l fr e c
  show ((hearAt mat l fr e c).num, (hearAt mat l fr e c).at') = _
  rw [this.1, this.2]
theorem ids_clr {n : Int} {cs : List (Pc (List Atr))} : (cs.map (clrC n)).map (fun c => (c.num, c.at')) = cs.map fun c => (c.num, c.at') := by
  rw [List.map_map]
  refine List.map_congr_left fun c _ => ?_
  show ((clrC n c).num, (clrC n c).at') = _
  unfold clrC; split <;> rfl
theorem cls_idn {ps : List Int} {nb : Nat} {cls : List Cl} (h : Cls ps nb 6 cls) : Idn (hmF ps nb) (cls.map pcOf) ∧ ∀ c ∈ cls.map pcOf, c.lost = 0 ∧ c.box = [] := by
  refine ⟨⟨fun p hp => ?_, fun i hi => ?_⟩, fun c hc => ?_⟩
  · obtain ⟨c, hc, rfl⟩ := List.mem_map.1 hp
    obtain ⟨x, hx, rfl⟩ := List.mem_map.1 hc
    have := h.lt x hx
    exact ⟨this.1, this.2.1, this.2.2.1⟩
  · obtain ⟨x, hx, hn⟩ := h.all i hi
    refine List.mem_map.2 ⟨pcOf x, List.mem_map_of_mem hx, ?_⟩
    show (x.num, x.at') = _
    rw [(h.lt x hx).2.2.1, hn]
  · obtain ⟨x, hx, rfl⟩ := List.mem_map.1 hc
    have := h.lt x hx
    exact ⟨this.2.2.2.1, by simp [pcOf, this.2.2.2.2]⟩
/-- A tree in which nothing has happened is well. -/
theorem gd_none {T : Tc} {nxt : Nat → Nat → Int} {rank : Nat → Nat → Nat} {home : Int → Nat} {Ks : List Ky} {cs : List (Pc (List Atr))} (h : ∀ c ∈ cs, c.lost = 0 ∧ c.box = []) : Gd T nxt rank home Ks (TS.none (List Wnt) (List Atr)) cs 0 0 :=
  ⟨none_inv, ⟨(fun b h hm => by cases hm), (fun a b k f hm => by cases hm)⟩, wgt_none, fun c hc => by rw [(h c hc).1, (h c hc).2]; exact ⟨by omega, by omega, by simp⟩, Nat.le_refl _⟩
/-- What Room's rounds keep. -/
structure Rmk (T : Tc) (nxt : Nat → Nat → Int) (rank : Nat → Nat → Nat) (home : Int → Nat) (f : List Wnt) (e : List Atr) (i : Nat) (s : Ts) (cs : List (Pc (List Atr))) (n : Nat) : Prop where
  G : Gd T nxt rank home [((0, 0) : Ky)] s cs n (T.nb * 2 + i * (T.nb + 1))
  R : Rm T.nb T.adj nxt ((0, 0) : Ky) (home 0) f e 0 s cs i
  D : Idn home cs
theorem Rmk.run {T : Tc} {nxt : Nat → Nat → Int} {rank : Nat → Nat → Nat} {home : Int → Nat} {f : List Wnt} {e : List Atr} {i : Nat} {s s' : Ts} {cs cs' : List (Pc (List Atr))} {n n' k : Nat} (h : Rmk T nxt rank home f e i s cs n) (S : Sh T nxt rank) (hh : ∀ c, home c < T.nb) (hm : mat e f = true) (hr : Run cov T.adj mat s cs k s' cs') (g : Gd T nxt rank home [((0, 0) : Ky)] s' cs' n' (T.nb * 2 + i * (T.nb + 1))) : Rmk T nxt rank home f e i s' cs' n' :=
  ⟨g, Run.keep (P := fun s cs => Rm T.nb T.adj nxt ((0, 0) : Ky) (home 0) f e 0 s cs i) (fun _ _ _ _ _ _ p h1 h2 => rm_step (k := ((0, 0) : Ky)) S.N S.Z S.R (hh 0) hm p h1 h2) hr h.R, h.D.of hr.ids⟩
theorem Rmk.pub {T : Tc} {nxt : Nat → Nat → Int} {rank : Nat → Nat → Nat} {home : Int → Nat} {f : List Wnt} {e : List Atr} {i : Nat} {s : Ts} {cs : List (Pc (List Atr))} {n : Nat} (h : Rmk T nxt rank home f e i s cs n) (S : Sh T nxt rank) (hh : ∀ c, home c < T.nb) (hm : mat e f = true) : Rmk T nxt rank home f e (i + 1) (s.come T.adj mat (home 1) (-1) e) (cs.map (hearAt mat (s.held (home 1)) (true, 1) e)) (n + T.nb) := by
  refine ⟨?_, ?_, h.D.of ids_hear⟩
  · have := h.G.pub S (home 1) (hh 1) (-1) (true, 1) e
    rw [show T.nb * 2 + (i + 1) * (T.nb + 1) = T.nb * 2 + i * (T.nb + 1) + T.nb + 1 by rw [Nat.add_mul]; omega]
    exact this
  · refine rm_come (k := ((0, 0) : Ky)) S.N S.Z S.R (hh 0) hm h.R (home 1) (hh 1) (-1) (true, 1) ?_ (fun h => by simp at h)
    by_cases hb : home 1 = home 0
    · exact Or.inr hb
    · exact Or.inl (fun e => hb (S.Z.one _ _ (hh 1) (hh 0) e))
set_option maxRecDepth 100000 in
set_option maxHeartbeats 4000000 in
theorem Room_any (zs ps : List Int) (c : Int) (es : List Int) (az ap ae : Option Addr) (cz cp ce : Nat) (ml : Int) (w : World)
    (lz : zs.length ≤ 1048576) (hz : InAt w az zs) (wz : IntWf zs) (lp : ps.length ≤ 1048576) (hp : InAt w ap ps) (wp : IntWf ps) (hc : I64 c) (le : es.length ≤ 1048576) (he : InAt w ae es) (we : IntWf es) (hml : Ml ml w) :
    Calls Tryz.prog 7 #[.slice az zs.length cz, .slice ap ps.length cp, .int .i64 c, .slice ae es.length ce] w fun e w' => e = .returned (.bool true) ∧ Gr w w' := by
  have GR := Hid.mk' (grown_any zs ps az ap cz cp ml w lz hz wz lp hp wp hml)
  have HE := Hid.mk' (And.intro he we)
  have hb6 : 1 ≤ nbF zs ∧ nbF zs ≤ 6 := by unfold nbF; omega
  have HB6 := Hid.mk' hb6
  have OKE := Hid.mk' (evF_ok es)
  have WFE := Hid.mk' (evF_wf es)
  have hlE : 1 ≤ (evF es).length ∧ (evF es).length ≤ 3 := evF_len es
  have hcb := hc
  clear hz wz hp wp he we hml hb6 hc
  unfold I64 at hcb
  go_enter Tryz.func7, Tryz.ntmps7
  go_wp2_with fail
  refine GR.out.mono ?_
  rintro e w1 ⟨T, r, cls, nxt, rank, rfl, t1, f1, hTn, hTm, SH, CL⟩
  have T1 := Hid.mk' t1
  have F1 := Hid.mk' f1
  have S1 := Hid.mk' SH
  have C1 := Hid.mk' CL
  have HTN := Hid.mk' hTn
  clear GR t1 f1 SH CL hTn
  go_wp2_with fail
  refine (event_any es ae ce w1 (by unfold maxLen; omega) (HE.out.1.gr F1.out.gr0) HE.out.2).mono ?_
  rintro e w2 ⟨vE, rfl, g2, hE⟩
  obtain ⟨gx, cx, rfl⟩ := owns_pos hE (by omega)
  have lowX := own_low hE gx rfl
  have TOP := Hid.mk' T1.out.b.top
  have EV := Hid.mk' (evn_of (r := r) hE OKE.out WFE.out (TOP.out gx lowX))
  obtain ⟨eb, eo, ebe, hebw, hat⟩ := EV.out.m.at'
  obtain ⟨rfl, rfl⟩ : gx = eb ∧ 0 = eo := by injection ebe with ebe; injection ebe with h1 h2; exact ⟨h1, h2⟩
  obtain ⟨n1, n2, n3, n4⟩ := hat 0 (by omega)
  have G2 := Hid.mk' g2
  clear g2 hE ebe hat lowX n2 n3 n4
  go_wp2_with fail
  have HFW := Hid.mk' (firstW_ok OKE.out WFE.out)
  have g3 := G2.out.alloc (.cells #[.string (aat (evF es) 0).a, .int .i64 1, .int .i64 0, .int .i64 0, .string ⟨#[]⟩] 76)
  have G3 := Hid.mk' g3
  have HB3 := heap_alloc_new w2 (.cells #[.string (aat (evF es) 0).a, .int .i64 1, .int .i64 0, .int .i64 0, .string ⟨#[]⟩] 76)
  obtain ⟨ID, CL0⟩ := cls_idn C1.out
  have HH : Hid (∀ c, hmF ps (nbF zs) c < T.nb) := fun c => by rw [HTN.out]; exact hmF_lt ps HB6.out.1 c
  generalize hhome : hmF ps (nbF zs) = home at *
  have HID := Hid.mk' ID
  have HCL0 := Hid.mk' CL0
  obtain ⟨c0, hc0, hc0n, hc0a⟩ := ID.get (i := 0) (by omega)
  have FI : Hid (FiM (w2.alloc (.cells #[.string (aat (evF es) 0).a, .int .i64 1, .int .i64 0, .int .i64 0, .string ⟨#[]⟩] 76)) (some ⟨w2.heap.size, 0, none⟩) [firstW (evF es)]) := by
    refine ⟨⟨w2.heap.size, 0, rfl, blk_lt HB3, fun i hi => ?_⟩, HFW.out.1.2, HFW.out.1.1⟩
    have hi0 : i = 0 := by simpa using hi
    subst hi0
    refine ⟨?_, ?_, ?_, ?_, ?_⟩ <;> (rw [cell_of_row _ _ _ _ _ _ HB3]; rfl)
  have SB1 := Hid.mk' (Subscribe_t T r _ _ (TS.none (List Wnt) (List Atr)) c0 0 [firstW (evF es)] (some ⟨w2.heap.size, 0, none⟩) 1 ⟨cls, T1.out.gr g3, rfl⟩ hc0 ⟨by omega, by omega⟩ FI.out (fun b _ => by simp [TS.none, Srt]) (fun g hg => by cases hg) ⟨fun b _ => by simp [TS.none], fun a b => by simp [TS.none]⟩ (by
    have : nCl T (TS.none (List Wnt) (List Atr)) = 0 := by
      have := sm_zero T.nb
      simpa [nCl, TS.none] using this
    omega))
  have eI : ins (⟨(c0.num, 0), [firstW (evF es)], -1⟩ : Hw) ((TS.none (List Wnt) (List Atr)).held c0.at') = [⟨(c0.num, 0), [firstW (evF es)], -1⟩] := by simp [ins, TS.none]
  rw [eI, hc0a, hc0n] at SB1
  have GD1 : Hid (Gd T nxt rank home [((0, 0) : Ky)] ((TS.none (List Wnt) (List Atr)).turn cov T.adj (home 0) [⟨((0, 0) : Ky), [firstW (evF es)], -1⟩]) (cls.map pcOf) (T.nb * 2) (T.nb * 2)) := by
    have := (gd_none (T := T) (nxt := nxt) (rank := rank) (home := home) (Ks := [((0, 0) : Ky)]) CL0).sub S1.out ((0, 0) : Ky) [firstW (evF es)] HFW.out.1 (HH.out 0) (fun g hg => by cases hg) (by simp)
    have eJ : ins (⟨((0, 0) : Ky), [firstW (evF es)], -1⟩ : Hw) ((TS.none (List Wnt) (List Atr)).held (home 0)) = [⟨((0, 0) : Ky), [firstW (evF es)], -1⟩] := by simp [ins, TS.none]
    rw [show home ((0, 0) : Ky).1 = home 0 from rfl, eJ] at this
    show Gd _ _ _ _ _ _ _ _ _
    simpa using this
  have F3 := Hid.mk' (F1.out.trans (Fr.gr (r := r) g3))
  have EV3 := Hid.mk' (EV.out.fr (Fr.gr (r := r) ((Gr.refl w2).alloc (.cells #[.string (aat (evF es) 0).a, .int .i64 1, .int .i64 0, .int .i64 0, .string ⟨#[]⟩] 76))))
  have hT6 : T.nb ≤ 6 := by rw [HTN.out]; exact HB6.out.2
  have HT6 := Hid.mk' hT6
  clear eI ID CL0 g3 HB3 FI hc0 hc0n hc0a T1 n1 EV HE TOP C1
  refine SB1.out.mono ?_
  rintro e w4 ⟨rfl, r4, t4, f4⟩
  have F4 := Hid.mk' (F3.out.trans f4)
  have EV4 := Hid.mk' (EV3.out.fr f4)
  have DR1 := Hid.mk' (Drain_t T r4 w4 _ _ nxt rank home _ _ _ t4 S1.out GD1.out (by simp) (by omega))
  clear SB1 t4 f4 F3 EV3
  go_wp2_with fail
  refine DR1.out.mono ?_
  rintro e w5 ⟨k5, s5, cs5, r5, n5, rfl, hrun, hq5, t5, g5, hk5, f5⟩
  have F5 := Hid.mk' (F4.out.trans f5)
  have EV5 := Hid.mk' (EV4.out.fr f5)
  have RS := rm_start (mt := mat) preF S1.out.R S1.out.N S1.out.Z (k := ((0, 0) : Ky)) HFW.out.1 (HH.out 0) (evF es) (fun c hc => ⟨(HCL0.out c hc).2, (HCL0.out c hc).1⟩) hrun hq5
  have hk5b : (k5 : Int) < 100 := by omega
  have K5 : Hid (Rmk T nxt rank home [firstW (evF es)] (evF es) 0 s5 cs5 n5) := ⟨by simpa using g5, RS.1, HID.out.of hrun.ids⟩
  have T5 := Hid.mk' t5
  have PK := Hid.mk' (pick_any c 40 w5 hcb.1 hcb.2 (by omega) (by omega))
  have pb := pickF_bd c 40 (by omega)
  clear DR1 hrun hq5 t5 g5 hk5 f5 F4 EV4 RS GD1 HCL0 HID
  go_wp2_with fail
  refine PK.out.mono ?_
  rintro e wx ⟨rfl, hw⟩
  have hw' := hw.symm
  clear hw PK
  subst hw'
  go_wp2_with fail
  generalize hN : pickF c 40 = N at *
  obtain ⟨N, rfl⟩ : ∃ N' : Nat, N = (N' : Int) := ⟨N.toNat, by omega⟩
  have hN40 : N < 40 := by omega
  clear hN pb
  have HN40 := Hid.mk' hN40
  have MB : Hid (∀ i, i ≤ 40 → T.nb * 2 + i * (T.nb + 1) < 549755813888) := fun i hi => by
    have := Nat.mul_le_mul hi (show T.nb + 1 ≤ 7 by have := HT6.out; omega)
    have := HT6.out
    omega
  go_loopw [13] (fun i wr => ∃ (q : Nat) (s' : Ts) (cs' : List (Pc (List Atr))) (r' : Nat → Rl) (n' : Nat), q ≤ N ∧ i = .int .i64 q ∧ Hid (Rmk T nxt rank home [firstW (evF es)] (evF es) q s' cs' n') ∧ Hid (Tf T r' wr cs' s') ∧ Hid (Fr (fun _ => .no) r' w wr) ∧ Hid (EvN r' wr (some ⟨gx, 0, none⟩) (evF es))) (fun i _ => N - (intOf i).toNat)
  case atStart => exact ⟨0, s5, cs5, r5, n5, Nat.zero_le _, rfl, K5, T5, F5, EV5⟩
  case round =>
    clear K5 T5 F5 EV5
    obtain ⟨q, s', cs', r', n', hq, rfl, K6, T6, F6, EV6⟩ := hrel
    by_cases hlt : q < N
    · obtain ⟨c1, hc1, hc1n, hc1a⟩ := K6.out.D.get (i := 1) (by omega)
      have SM := K6.out.G.sm S1.out (by simp) (MB.out q (by omega))
      have PB := Hid.mk' (Publish_t T r' wr cs' s' c1 (evF es) (some ⟨gx, 0, none⟩) cx T6.out hc1 EV6.out.m SM (fun c hc => ⟨(K6.out.G.L c hc).1, by have := (K6.out.G.L c hc).2.1; have := MB.out q (by omega); omega⟩))
      rw [hc1n, hc1a] at PB
      have K7 := Hid.mk' (K6.out.pub S1.out HH.out HFW.out.2)
      clear hc1 hc1n hc1a SM K6 T6
      go_wp2_with fail
      refine PB.out.mono ?_
      rintro e w7 ⟨rfl, r7, t7, f7⟩
      have T7 := Hid.mk' t7
      have F7 := Hid.mk' (F6.out.trans f7)
      have EV7 := Hid.mk' (EV6.out.fr f7)
      clear PB t7 f7 F6 EV6
      generalize (s'.come T.adj mat (home ((1 : Nat) : Int)) (-1) (evF es)) = s7 at *
      generalize (cs'.map (hearAt mat (s'.held (home ((1 : Nat) : Int))) (true, ((1 : Nat) : Int)) (evF es))) = cs7 at *
      by_cases h3 : (q : Int) % 3 = 0
      · have DR := Hid.mk' (Drain_t T r7 w7 cs7 s7 nxt rank home _ _ _ T7.out S1.out K7.out.G (by simp) (MB.out (q + 1) (by omega)))
        go_wp2_with fail
        refine DR.out.mono ?_
        rintro e w8 ⟨k8, s8, cs8, r8, n8, rfl, hrun, hq8, t8, g8, hk8, f8⟩
        have K8 := Hid.mk' (K7.out.run S1.out HH.out HFW.out.2 hrun g8)
        have T8 := Hid.mk' t8
        have F8 := Hid.mk' (F7.out.trans f8)
        have EV8 := Hid.mk' (EV7.out.fr f8)
        clear DR hrun hq8 t8 g8 hk8 f8 K7 T7 F7 EV7
        go_wp2_with fail
        exact ⟨⟨q + 1, s8, cs8, r8, n8, hlt, by simp, K8, T8, F8, EV8⟩, measM_dec _ _ hlt⟩
      · have h3' : ((q : Int) % 3 == 0) = false := by simpa using h3
        go_wp2_with fail
        exact ⟨⟨q + 1, s7, cs7, r7, _, hlt, by simp, K7, T7, F7, EV7⟩, measM_dec _ _ hlt⟩
    · have hqe : q = N := by omega
      subst hqe
      have DR := Hid.mk' (Drain_t T r' wr cs' s' nxt rank home _ _ _ T6.out S1.out K6.out.G (by simp) (MB.out q (by omega)))
      go_wp2_with fail
      refine DR.out.mono ?_
      rintro e w8 ⟨k8, s8, cs8, r8, n8, rfl, hrun, hq8, t8, g8, hk8, f8⟩
      have K8 := K6.out.run S1.out HH.out HFW.out.2 hrun g8
      obtain ⟨c0, hc0, hc0n, hc0a⟩ := K8.D.get (i := 0) (by omega)
      have hend := rm_end K8.R hq8 hc0 hc0n
      have hLc := (K8.G.L c0 hc0).2.2
      have IB := Hid.mk' (Inbox_t T r8 w8 cs8 s8 c0 t8 hc0 hLc)
      rw [hc0n, hend.2] at IB
      have HEND := Hid.mk' hend.1
      have F8 := Hid.mk' (F6.out.trans f8)
      have EV8 := Hid.mk' (EV6.out.fr f8)
      have D8 := Hid.mk' K8.D
      have HC0 := Hid.mk' hc0
      have HC0N := Hid.mk' hc0n
      have hk8b : (k8 : Int) < 549755813888 := by have := K6.out.G.le; have := MB.out q (by omega); omega
      clear DR hrun hq8 t8 g8 hk8 f8 K8 hc0 hc0n hc0a hend hLc K6 T6 F6 EV6
      go_wp2_with fail
      refine IB.out.mono ?_
      rintro e w9 ⟨v9, r9, L, rfl, t9, f9, o9, hL, hev, hrole⟩
      obtain ⟨d0, hd0⟩ : ∃ d, d = clrC ((0 : Nat) : Int) c0 := ⟨_, rfl⟩
      have hdc : d0.num = ((0 : Nat) : Int) ∧ d0.lost = 0 ∧ d0.box = [] := by
        rw [hd0]; unfold clrC; rw [if_pos HC0N.out]; exact ⟨HC0N.out, rfl, rfl⟩
      have hdm : d0 ∈ cs8.map (clrC ((0 : Nat) : Int)) := by rw [hd0]; exact List.mem_map_of_mem HC0.out
      have IB2 := Hid.mk' (Inbox_t T r9 w9 _ s8 d0 t9 hdm (by rw [hdc.2.2]; simp))
      rw [hdc.1, hdc.2.1] at IB2
      have HDB := Hid.mk' hdc.2.2
      have hLl : L.length = min q 16 := by
        have := congrArg List.length hL
        rw [HEND.out, List.length_map, List.length_replicate] at this
        exact this
      have hLe : ∀ y ∈ L, y.1 = evF es := fun y hy => by
        have : y.1 ∈ L.map (·.1) := List.mem_map_of_mem hy
        rw [hL, HEND.out] at this
        exact (List.mem_replicate.1 this).2
      obtain ⟨la, lk, rfl, hla⟩ := owns_shape o9
      have O9 := Hid.mk' o9
      have HLA := Hid.mk' hla
      have RL9 := Hid.mk' hrole
      have EVL := Hid.mk' hev
      have LEQ := Hid.mk' hLe
      have F9 := Hid.mk' (F8.out.trans f9)
      have EV9 := Hid.mk' (EV8.out.fr f9)
      have hq40 := HN40.out
      have HLL := Hid.mk' hLl
      clear hLl
      clear IB hL hev hrole hLe o9 hla hdc hdm t9 f9 F8 EV8 HEND HC0 HC0N hd0
      go_wp2_with fail
      refine IB2.out.mono ?_
      rintro e w10 ⟨v10, r10, L2, rfl, t10, f10, o10, hL2, _, _⟩
      have hL20 : L2.length = 0 := by
        have := congrArg List.length hL2
        rw [HDB.out] at this
        simpa using this
      obtain ⟨lb, lm, rfl, _⟩ := owns_shape o10
      have O10 := Hid.mk' (f10.ownsB O9.out RL9.out).1
      have EVL2 : Hid (∀ y ∈ L, EvM w10 y.2.1 y.1) := fun y hy => ((EVL.out y hy).fr f10).m
      have EVX : Hid (EvM w10 (some ⟨gx, 0, none⟩) (evF es)) := (EV9.out.fr f10).m
      have F10 := Hid.mk' (F9.out.trans f10)
      rw [hL20]
      clear IB2 t10 f10 o10 hL2 hL20 O9 EVL RL9 EV9 F9 HDB
      -- the loop over what came, and the end
      have LOOP : Hid (∀ W, Gr w10 W → ∀ i, i < L.length → ∃ la2 cap2 gb, la = some ⟨gb, 0, none⟩ ∧ W.cell? ⟨gb, i, none⟩ = some (.slice la2 (evF es).length cap2) ∧ EvM W la2 (evF es)) := fun W g i hi => by
        obtain ⟨gb, rfl⟩ := HLA.out (by omega)
        have O := ownsGr O10.out g
        refine ⟨L[i].2.1, L[i].2.2, gb, rfl, ?_, ?_⟩
        · rw [World.ownsRow.cellAt O i (by omega)]
          simp only [List.getElem?_map, List.getElem?_eq_getElem hi, Option.map_some, bv]
          rw [LEQ.out _ (List.getElem_mem hi)]
        · rw [← LEQ.out _ (List.getElem_mem hi)]
          exact (EVL2.out _ (List.getElem_mem hi)).gr g
      by_cases hq16 : 16 < q
      · have hq16' : (16 : Int) < (q : Int) := by omega
        have hll : L.length = 16 := by have := HLL.out; omega
        have hsub : ((q - 16 : Nat) : Int) = (q : Int) - 16 := by omega
        rw [hll] at LOOP
        rw [hll, hsub]
        clear hll hsub
        clear hTm hhome hk5b hk8b hq hlt hN40 hq16 lz lp le hlE hcb hebw hT6
        go_wp2_with fail
        go_loopw [22] (fun i wr => ∃ k : Nat, k ≤ 16 ∧ i = .int .i64 k ∧ Hid (Gr w10 wr)) (fun i _ => 16 - (intOf i).toNat)
        case atStart => exact ⟨0, Nat.zero_le _, rfl, Gr.refl _⟩
        case round =>
          obtain ⟨k, hk, rfl, G⟩ := hrel
          by_cases hkl : k < 16
          · obtain ⟨la2, cap2, gb, rfl, hcell, hEv⟩ := LOOP.out _ G.out k hkl
            have SE := Hid.mk' (sameEv_yes (evF es) la2 (some ⟨gx, 0, none⟩) cap2 cx wr hEv (EVX.out.gr G.out))
            clear hEv
            go_wp2_with fail
            refine SE.out.mono ?_
            rintro e w12 ⟨rfl, g12⟩
            have G2' := Hid.mk' (Gr.call G.out g12)
            clear SE g12 hcell
            go_wp2_with fail
            exact ⟨⟨k + 1, hkl, by simp, G2'⟩, measM_dec _ _ hkl⟩
          · have hke : k = 16 := by omega
            subst hke
            go_wp2_with fail
            go_ret
            exact ⟨rfl, Gr.call F10.out.gr0 G.out⟩
      · have hq16' : ¬ (16 : Int) < (q : Int) := by omega
        have hll : L.length = q := by have := HLL.out; omega
        rw [hll] at LOOP
        rw [hll, show q - 16 = 0 by omega]
        clear hll
        clear hTm hhome hk5b hk8b hq hlt hN40 hq16 lz lp le hlE hcb hebw hT6
        go_wp2_with fail
        go_loopw [22] (fun i wr => ∃ k : Nat, k ≤ q ∧ i = .int .i64 k ∧ Hid (Gr w10 wr)) (fun i _ => q - (intOf i).toNat)
        case atStart => exact ⟨0, Nat.zero_le _, rfl, Gr.refl _⟩
        case round =>
          obtain ⟨k, hk, rfl, G⟩ := hrel
          by_cases hkl : k < q
          · obtain ⟨la2, cap2, gb, rfl, hcell, hEv⟩ := LOOP.out _ G.out k hkl
            have SE := Hid.mk' (sameEv_yes (evF es) la2 (some ⟨gx, 0, none⟩) cap2 cx wr hEv (EVX.out.gr G.out))
            clear hEv
            go_wp2_with fail
            refine SE.out.mono ?_
            rintro e w12 ⟨rfl, g12⟩
            have G2' := Hid.mk' (Gr.call G.out g12)
            clear SE g12 hcell
            go_wp2_with fail
            exact ⟨⟨k + 1, hkl, by simp, G2'⟩, measM_dec _ _ hkl⟩
          · have hke : k = q := by omega
            subst hke
            go_wp2_with fail
            go_ret
            exact ⟨rfl, Gr.call F10.out.gr0 G.out⟩
end Go.Proofs.YtecnfgikbmcgoaaGreat
namespace Go.Proofs.YtecnfgikbmcgoaaGreat
open Go.RowKit

theorem Tryz.infoMine : (Tryz.prog.info? 50).map (fun i => (i.zero, i.size, i.bytes)) = some (some (.agg #[.int .i64 0, .int .i64 0, .slice none 0 0]), 3, 40) := by kernel_rfl
/-- A filter that a client has, and where it lies. -/
abbrev Mn := (Ky × List Wnt) × Option Addr × Nat
def ncell (x : Mn) : List Value := [.int .i64 x.1.1.1, .int .i64 x.1.1.2, .slice x.2.1 x.1.2.length x.2.2]
def ncells (L : List Mn) : List Value := L.flatMap ncell
theorem ncells_snoc (L : List Mn) (x : Mn) : ncells (L ++ [x]) = ncells L ++ ncell x := by simp [ncells]
def nat' (L : List Mn) (j : Nat) : Mn := L.getD j (((0, 0), []), none, 0)
theorem nat'_mem {L : List Mn} {j : Nat} (h : j < L.length) : nat' L j ∈ L := by unfold nat'; exact getD_mem h _
theorem nat'_take {L : List Mn} {j : Nat} (h : j < L.length) : L.take (j + 1) = L.take j ++ [nat' L j] := by
  rw [List.take_succ_eq_append_getElem h]; simp [nat', h]
theorem ncells_at : ∀ (L : List Mn) (j : Nat), j < L.length → (ncells L)[j * 3]? = some (.int .i64 (nat' L j).1.1.1) ∧ (ncells L)[j * 3 + 1]? = some (.int .i64 (nat' L j).1.1.2) ∧ (ncells L)[j * 3 + 1 + 1]? = some (.slice (nat' L j).2.1 (nat' L j).1.2.length (nat' L j).2.2)
  | [], j, h => by simp at h
  | x :: l, 0, _ => by simp [ncells, ncell, nat']
  | x :: l, j + 1, h => by
    have ih := ncells_at l j (by simpa using h)
    have e : ∀ k, (ncells (x :: l))[(j + 1) * 3 + k]? = (ncells l)[j * 3 + k]? := fun k => by
      have : (j + 1) * 3 + k = (j * 3 + k) + 3 := by omega
      rw [this]; simp [ncells, ncell, List.getElem?_cons_succ]
    have hh : nat' (x :: l) (j + 1) = nat' l j := by simp [nat']
    rw [hh]
    exact ⟨(e 0).trans ih.1, (e 1).trans ih.2.1, (e (1 + 1)).trans ih.2.2⟩
theorem Qr.cellAt {w : World} {e : TypeId} {size : Nat} {R : Nat → Prop} {g off n cap : Nat} {xs : List Value} (h : Qr w e size R (.slice (some ⟨g, off, none⟩) n cap) n xs) {j : Nat} {u : Value} (hu : xs[j]? = some u) : w.cell? ⟨g, off + j, none⟩ = some u := by
  rcases h.2 with ⟨h2, _⟩ | ⟨g', off', cap', cur, hv, _, hg, _, _, _, ht⟩
  · cases h2
  · injection hv with hv _ _
    injection hv with hv
    injection hv with h1 h2
    subst h1 h2
    rw [cell_of_row w g (off + j) cur e (0, 0) hg]
    rw [← ht, List.getElem?_take] at hu
    split at hu
    · rw [List.getElem?_drop] at hu; simpa using hu
    · cases hu
/-- The clients' filters, in memory of the caller's own. -/
structure Mi (R : Nat → Prop) (w : World) (v : Value) (L : List Mn) : Prop where
  q : Qr w 50 3 R v L.length (ncells L)
  f : ∀ x ∈ L, ∃ b off, x.2.1 = some ⟨b, off, none⟩ ∧ R b ∧ v.ownBlock ≠ some b ∧ FiM w x.2.1 x.1.2
theorem FiM.blk {w w' : World} {b off : Nat} {l : List Wnt} (h : FiM w (some ⟨b, off, none⟩) l) (hs : w.heap.size ≤ w'.heap.size) (hb : w'.heap[b]? = w.heap[b]?) : FiM w' (some ⟨b, off, none⟩) l := by
  obtain ⟨b', off', e, h2, h3⟩ := h.at'
  injection e with e
  injection e with e1 e2
  subst e1 e2
  exact ⟨⟨b, off, rfl, Nat.lt_of_lt_of_le h2 hs, h3.blk hb⟩, h.wf, h.ok⟩
theorem FiM.lt {w : World} {b off : Nat} {l : List Wnt} (h : FiM w (some ⟨b, off, none⟩) l) : b < w.heap.size := by
  obtain ⟨b', off', e, h2, h3⟩ := h.at'
  injection e with e
  injection e with e1 e2
  rw [e1]; exact h2
theorem Mi.keep {R R' : Nat → Prop} {w w' : World} {v : Value} {L : List Mn} (h : Mi R w v L) (hs : w.heap.size ≤ w'.heap.size) (hk : ∀ k, k < w.heap.size → R k → w'.heap[k]? = w.heap[k]? ∧ R' k) : Mi R' w' v L := by
  refine ⟨h.q.kept hk, fun x hx => ?_⟩
  obtain ⟨b, off, e, hR, hne, hf⟩ := h.f x hx
  rw [e] at hf ⊢
  obtain ⟨k1, k2⟩ := hk b hf.lt hR
  exact ⟨b, off, rfl, k2, hne, hf.blk hs k1⟩
theorem Mi.gr {R : Nat → Prop} {w w' : World} {v : Value} {L : List Mn} (h : Mi R w v L) (g : Gr w w') : Mi R w' v L := h.keep g.size (fun k hk hR => ⟨g.block k hk, hR⟩)
theorem mi_nil (R : Nat → Prop) (w : World) : Mi R w (.slice none 0 0) [] := ⟨Qr.nil _ _ _ _, fun x hx => by cases hx⟩
/-- A list gets one more, somewhere. -/
theorem Mi.snoc {R R' : Nat → Prop} {w w' : World} {v v' : Value} {L : List Mn} (h : Mi R w v L) {x : Mn} (hq : Qr w' 50 3 (fun k => v'.ownBlock = some k) v' (L.length + 1) (ncells L ++ ncell x)) (hg : w.grownBy w' v.ownBlock) (ho : v'.ownBlock = v.ownBlock ∨ v'.ownBlock = some w.heap.size)
    (hR : ∀ k, k < w.heap.size → R k → R' k) (hn : R' w.heap.size) (hf : ∃ b off, x.2.1 = some ⟨b, off, none⟩ ∧ R' b ∧ v.ownBlock ≠ some b ∧ FiM w x.2.1 x.1.2) : Mi R' w' v' (L ++ [x]) := by
  refine ⟨?_, fun y hy => ?_⟩
  · rw [ncells_snoc, List.length_append]
    refine hq.kept (w' := w') fun k _ hk => ⟨rfl, ?_⟩
    rcases ho with ho | ho
    · rw [ho] at hk
      have := h.q.own k hk
      exact hR k this.2 this.1
    · rw [ho] at hk
      injection hk with hk
      rw [← hk]; exact hn
  · have hsz := hg.size
    have NE : ∀ b, b < w.heap.size → v.ownBlock ≠ some b → v'.ownBlock ≠ some b := fun b hb h1 h2 => by
      rcases ho with ho | ho
      · rw [ho] at h2; exact h1 h2
      · rw [ho] at h2
        injection h2 with h2
        omega
    rcases List.mem_append.1 hy with hy' | hy'
    · obtain ⟨b, off, e, hRb, hb, hfb⟩ := h.f y hy'
      rw [e] at hfb ⊢
      exact ⟨b, off, rfl, hR b hfb.lt hRb, NE b hfb.lt hb, hfb.blk hsz (hg.block b hfb.lt (fun e => hb e.symm))⟩
    · rw [List.mem_singleton.1 hy']
      obtain ⟨b, off, e, hRb, hb, hfb⟩ := hf
      rw [e] at hfb ⊢
      exact ⟨b, off, rfl, hRb, NE b hfb.lt hb, hfb.blk hsz (hg.block b hfb.lt (fun e => hb e.symm))⟩
theorem wpList_append_q {P : Program} {w : World} {ops : Array Oper} {rest : List Oper} {o : Oper} {a : Act} {Q : Exit → Act → World → Prop} (hgd : o.guard = none) (s x : Operand) (t : TypeId)
    (ho : o.op = .call { callee := .builtin .append, args := #[s, x], argTypes := #[t, t] })
    (e : TypeId) (i : TypeInfo) (z : Value) (size bytes : Nat) (ht : P.underlying t = some (.slice e)) (hi : P.info? e = some i) (hz : i.zero = some z)
    (hsize : i.size = size) (hby : i.bytes = bytes) (hzs : z.cells.size = size) (R : Nat → Prop)
    (v : Value) (n : Nat) (xs : List Value) (hs : a.eval s = v) (hown : Qr w e size R v n xs)
    (ad : Addr) (m c : Nat) (news : List Value) (hx : a.eval x = .slice (some ad) m c) (hm : 0 < m) (hl : news.length = m * size) (hnews : ∀ j u, news[j]? = some u → w.cell? (ad.add j) = some u) (h1 : ∀ u ∈ news, u.oneCell' = true)
    (h63 : n + m ≤ maxLen) (hbytes : (n + m) * bytes ≤ 140737488355328)
    (h : ∀ v' w', Qr w' e size (fun k => v'.ownBlock = some k) v' (n + m) (xs ++ news) → w.grownBy w' v.ownBlock → (v'.ownBlock = v.ownBlock ∨ v'.ownBlock = some w.heap.size) → Qr w' e size R v n xs → wpList P ops Q rest (a.put o.dst v') w') : wpList P ops Q (o :: rest) a w :=
  wpList_plain hgd fun _ hK => wp_append_q w s x t ho e i z size bytes ht hi hz hsize hby hzs R v n xs hs hown ad m c news hx hm hl hnews h1 h63 hbytes fun v' w' h2 h3 h4 h5 => hK _ _ (h v' w' h2 h3 h4 h5)
/-- One block that may turn, too. -/
def msk (x : Option Nat) (r : Nat → Rl) : Nat → Rl := fun k => if x = some k then .cm else r k
theorem msk_no {x : Option Nat} {r : Nat → Rl} {k : Nat} (h : msk x r k = .no ∨ msk x r k = .fx) : x ≠ some k ∧ (r k = .no ∨ r k = .fx) := by
  unfold msk at h
  by_cases e : x = some k
  · rw [if_pos e] at h; rcases h with h | h <;> cases h
  · rw [if_neg e] at h; exact ⟨e, h⟩
theorem Fr.msk {r r' : Nat → Rl} {w w' : World} (h : Fr r r' w w') (x : Option Nat) : Fr (msk x r) (msk x r') w w' :=
  ⟨h.os, h.tape, h.output, h.size, fun k hk hr => h.keep k hk (msk_no hr).2, fun k hk => by unfold Go.Proofs.YtecnfgikbmcgoaaGreat.msk; rw [h.same k hk]⟩
theorem Tf.apart {T : Tc} {r r1 r1' : Nat → Rl} {w w' : World} {cs : List (Pc (List Atr))} {s : Ts} (h : Tf T r w cs s) (g : Fr r1 r1' w w') (ha : ∀ k, r k = .no ∨ r1 k = .no) (h0 : r1 0 = .no) : Tf T r w' cs s := by
  obtain ⟨cls, ⟨Xs, qs, t, v⟩, e⟩ := h
  exact ⟨cls, ⟨Xs, qs, t.apart g ha h0, v⟩, e⟩
/-- A block of the caller's own turns: the tree stays. -/
theorem Tf.grown {T : Tc} {r : Nat → Rl} {w w' : World} {cs : List (Pc (List Atr))} {s : Ts} (h : Tf T r w cs s) {x : Option Nat} (g : w.grownBy w' x) (hx : ∀ k, x = some k → r k = .no ∧ k ≠ 0) : Tf T r w' cs s := by
  refine h.apart (r1 := Go.Proofs.YtecnfgikbmcgoaaGreat.msk x (fun _ => .no)) (r1' := Go.Proofs.YtecnfgikbmcgoaaGreat.msk x (fun _ => .no)) ⟨g.os, g.tape, g.output, g.size, fun k hk hr => g.block k hk (fun e => (msk_no hr).1 e.symm), fun _ _ => rfl⟩ (fun k => ?_) ?_
  · by_cases e : x = some k
    · exact Or.inl (hx k e).1
    · exact Or.inr (if_neg e)
  · exact if_neg (fun e => (hx 0 e).2 rfl)
/-- A deed, plainly. -/
structure Dd where
  kind : Int
  client : Int
  id : Int
  turn : Int
  wants : List Int
/-- Its client's filter, and what it does to the filters. -/
def Dd.key (d : Dd) : Ky := (pickF d.client 6, pickF d.id 4)
def Dd.k (d : Dd) : Int := pickF d.kind 10
def dmF (d : Dd) (l : List (Ky × List Wnt)) : List (Ky × List Wnt) :=
  if d.k < 4 then (if l.any (fun x => x.1 == d.key) then l else l ++ [(d.key, wantsF d.wants)])
  else if d.k < 6 then l.filter (fun x => !(x.1 == d.key)) else l
end Go.Proofs.YtecnfgikbmcgoaaGreat
