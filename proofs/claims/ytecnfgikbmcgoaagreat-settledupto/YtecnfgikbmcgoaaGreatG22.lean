import Derived.Test.YtecnfgikbmcgoaaGreatG21
import Derived.Test.YtecnfgikbmcgoaaGreatG16
import Derived.Test.YtecnfgikbmcgoaaGreatG15
import Derived.Test.YtecnfgikbmcgoaaGreatG20
import Derived.Conc.EventLaws
import Derived.OwnWalk
import Derived.Test.YtecnfgikbmcgoaaGreatG19
import Derived.Test.YtecnfgikbmcgoaaGreatG14
namespace Go.Proofs.YtecnfgikbmcgoaaGreat
open Go.RowKit

/-- Some steps: what always comes of them. -/
structure Mv (T : Tc) (nxt : Nat → Nat → Int) (rank : Nat → Nat → Nat) (home : Int → Nat) (Ks : List Ky) (M : Nat) (s : Ts) (cs : List (Pc (List Atr))) (n : Nat) (s' : Ts) (cs' : List (Pc (List Atr))) (n' : Nat) : Prop where
  R : ∃ k, Run cov T.adj mat s cs k s' cs'
  G : Gd T nxt rank home Ks s' cs' n' M
  le : n' ≤ n
theorem Run.trans {F E : Type} {cov : F → F → Bool} {adj : Nat → Nat → Bool} {mt : E → F → Bool} {s s1 s2 : TS F E} {cs cs1 cs2 : List (Pc E)} {n m : Nat} (h : Run cov adj mt s cs n s1 cs1) (k : Run cov adj mt s1 cs1 m s2 cs2) : ∃ q, Run cov adj mt s cs q s2 cs2 := by
  induction h with
  | refl => exact ⟨m, k⟩
  | step h1 h2 _ ih =>
    obtain ⟨q, hq⟩ := ih k
    exact ⟨q + 1, .step h1 h2 hq⟩
theorem Mv.trans {T : Tc} {nxt : Nat → Nat → Int} {rank : Nat → Nat → Nat} {home : Int → Nat} {Ks : List Ky} {M : Nat} {s s1 s2 : Ts} {cs cs1 cs2 : List (Pc (List Atr))} {n n1 n2 : Nat} (h : Mv T nxt rank home Ks M s cs n s1 cs1 n1) (k : Mv T nxt rank home Ks M s1 cs1 n1 s2 cs2 n2) : Mv T nxt rank home Ks M s cs n s2 cs2 n2 := by
  obtain ⟨a, ha⟩ := h.R
  obtain ⟨b, hb⟩ := k.R
  exact ⟨ha.trans hb, k.G, Nat.le_trans k.le h.le⟩
set_option maxRecDepth 100000 in
set_option maxHeartbeats 4000000 in
theorem turn_t (T : Tc) (r : Nat → Rl) (w : World) (cs : List (Pc (List Atr))) (s : Ts) (nxt : Nat → Nat → Int) (rank : Nat → Nat → Nat) (home : Int → Nat) (Ks : List Ky) (n M : Nat) (raw : Int)
    (hT : Tf T r w cs s) (S : Sh T nxt rank) (G : Gd T nxt rank home Ks s cs n M) (hK : Ks.length ≤ 100000) (hM : M < 549755813888) (hraw : I64 raw) :
    Calls Tryz.prog 13 #[.pointer (some ⟨T.TB, 0, none⟩), .int .i64 raw] w fun e w' => ∃ s' cs' r' n', e = .returned (.tuple #[]) ∧ Mv T nxt rank home Ks M s cs n s' cs' n' ∧ Tf T r' w' cs' s' ∧ Fr r r' w w' := by
  have SM := G.sm S hK hM
  have LK : Hid (Calls Tryz.prog 19 #[.pointer (some ⟨T.TB, 0, none⟩)] w fun e w' => ∃ v, e = .returned v ∧ w'.ownsRow w.heap.size 54 3 v (lkTo T s T.nb).length (lcells (lkTo T s T.nb)) ∧ Gr w w') := by
    obtain ⟨cls, t, _⟩ := hT
    exact Links_any T r w cls s t SM
  have hnb := hT.b.nb8
  have LL : (lkTo T s T.nb).length ≤ 64 := Nat.le_trans (lkTo_len T s T.nb) (Nat.le_trans (Nat.mul_le_mul hnb hnb) (by omega))
  have LQ : Hid (∀ x ∈ lkTo T s T.nb, x.2.2 < 549755813888 ∧ T.adj x.1 x.2.1 = true ∧ x.2.2 = (s.q x.1 x.2.1).length) := fun x hx => ⟨by rw [(lkTo_q hx).2.2]; exact SM.q _ _, (lkTo_q hx).2⟩
  have HT := Hid.mk' hT
  have HS := Hid.mk' S
  have HG := Hid.mk' G
  have HM := Hid.mk' (And.intro hM SM)
  have HAD := Hid.mk' hT.b.adj
  unfold I64 at hraw
  clear hT S G hK hM SM
  generalize lkTo T s T.nb = L at *
  go_enter Tryz.func13, Tryz.ntmps13
  go_wp2_with fail
  refine LK.out.mono ?_
  rintro e w1 ⟨v1, rfl, ho, g1⟩
  obtain ⟨xa, xk, rfl, hxa⟩ := owns_shape ho
  have G1 := Hid.mk' g1
  have N1 := Hid.mk' ho
  have HXA := Hid.mk' hxa
  clear LK ho g1 hxa
  go_wp2_with fail
  go_loopw [5] (fun i wr => ∃ q : Nat, q ≤ L.length ∧ i = .int .i64 q ∧ Hid (Gr w1 wr)) (fun i _ => L.length - (intOf i).toNat)
  case atStart => exact ⟨0, Nat.zero_le _, rfl, Gr.refl _⟩
  case round =>
    obtain ⟨q, hq, rfl, G2⟩ := hrel
    by_cases hlt : q < L.length
    · obtain ⟨xb, rfl⟩ := HXA.out (by omega)
      have PK := Hid.mk' (pick_any raw (L.length : Int) wr hraw.1 hraw.2 (by omega) (by omega))
      have pb := pickF_bd raw (L.length : Int) (by omega)
      generalize pickF raw (L.length : Int) = z at *
      obtain ⟨z, rfl⟩ : ∃ z' : Nat, z = (z' : Int) := ⟨z.toNat, by omega⟩
      have hidx : (q + z) % L.length < L.length := Nat.mod_lt _ (by omega)
      have N2 := ownsGr N1.out G2.out
      obtain ⟨d0, d1, d2⟩ := lcells_at L _ hidx
      rw [← World.ownsRow.cellAt N2 _ (by omega)] at d0 d1 d2
      have hmx : lat L ((q + z) % L.length) ∈ L := by unfold lat; exact getD_mem hidx _
      have hlq := LQ.out _ hmx
      have hmod : ((q : Int) + (z : Int)).tmod (L.length : Int) = (((q + z) % L.length : Nat) : Int) := by
        rw [Int.tmod_eq_emod_of_nonneg (by omega)]; norm_cast
      have hmod2 : ((q : Int) + (z : Int)) % (L.length : Int) = (((q + z) % L.length : Nat) : Int) := by norm_cast
      clear N2 hmx
      generalize hid : (q + z) % L.length = idx at *
      generalize lat L idx = y at *
      clear hid
      go_wp2_with fail
      refine PK.out.mono ?_
      rintro e wx ⟨rfl, hw⟩
      have hw' := hw.symm
      clear hw PK
      subst hw'
      have HLQ := Hid.mk' hlq
      have hy3 := hlq.1
      have hltn := HAD.out _ _ hlq.2.1
      clear hlq
      have GA := Hid.mk' (G2.out.alloc (.cells #[.int .i64 (y.1 : Int), .int .i64 (y.2.1 : Int), .int .i64 (y.2.2 : Int)] 54))
      by_cases hy : 0 < y.2.2
      · have hy' : (0 : Int) < (y.2.2 : Int) := by omega
        obtain ⟨m, rs, hqm⟩ : ∃ m rs, s.q y.1 y.2.1 = m :: rs := by
          have := HLQ.out.2.2
          cases hqm : s.q y.1 y.2.1 with
          | nil => rw [hqm] at this; simp at this; omega
          | cons m rs => exact ⟨m, rs, rfl⟩
        obtain ⟨k', hk', g'⟩ := HG.out.step HS.out HLQ.out.2.1 hqm
        have MV : Hid (Mv T nxt rank home Ks M s cs n (s.nstep cov T.adj mat y.1 y.2.1 m) (hrs mat (s.held y.2.1) y.1 m cs) k') := ⟨⟨1, .step HLQ.out.2.1 hqm (.refl _ _)⟩, g', Nat.le_of_lt hk'⟩
        have SP : Hid (∀ w', Gr w w' → Calls Tryz.prog 37 #[.pointer (some ⟨T.TB, 0, none⟩), .int .i64 y.1, .int .i64 y.2.1] w' fun e w2 => e = .returned (.int .i64 0) ∧ ∃ r2, Tf T r2 w2 (hrs mat (s.held y.2.1) y.1 m cs) (s.nstep cov T.adj mat y.1 y.2.1 m) ∧ Fr r r2 w' w2) := fun w' g => Step_t T r w' cs s nxt home okF y.1 y.2.1 m rs (HT.out.gr g) HG.out.I HLQ.out.2.1 hqm HM.out.2 (fun c hc => ⟨(HG.out.L c hc).1, by have := (HG.out.L c hc).2.1; have := HM.out.1; omega⟩)
        have GW := Hid.mk' (Gr.call G1.out GA.out)
        have SP2 := Hid.mk' (SP.out _ GW.out)
        clear hqm hk' g' SP hy
        go_wp2_with fail
        refine SP2.out.mono ?_
        rintro e w3 ⟨rfl, r3, t3, f3⟩
        have FE := Hid.mk' (And.intro t3 ((Fr.gr (r := r) GW.out).trans f3))
        clear SP2 t3 f3
        go_wp2_with fail
        refine bodyPost_ret (v := .tuple #[]) (by simp [results, Tryz.results13, go_sem]) rfl ?_
        exact ⟨_, _, r3, k', rfl, MV.out, FE.out⟩
      · have hy0 : y.2.2 = 0 := by omega
        rw [hy0] at d2 GA
        clear hy hy3
        go_wp2_with fail
        exact ⟨⟨q + 1, hlt, by simp, GA⟩, measM_dec _ _ hlt⟩
    · go_wp2_with fail
      refine bodyPost_end (v := .tuple #[]) (by simp [results, Tryz.results13, go_sem]) rfl ?_
      have gg := Gr.call G1.out G2.out
      exact ⟨s, cs, r, n, rfl, ⟨⟨0, Run.refl _ _⟩, HG.out, Nat.le_refl _⟩, HT.out.gr gg, Fr.gr gg⟩
end Go.Proofs.YtecnfgikbmcgoaaGreat
namespace Go.Proofs.YtecnfgikbmcgoaaGreat
open Go.RowKit
open Go.Maps (Keyed)

set_option maxRecDepth 100000 in
set_option maxHeartbeats 4000000 in
theorem Subscribe_twice (T : Tc) (r : Nat → Rl) (w : World) (cls : List Cl) (s : Ts) (x : Cl) (id : Int) (f : List Wnt) (ad : Option Addr) (cap : Nat) (h : Hw)
    (hT : Tw T r w cls s) (hx : x ∈ cls) (hid : I64 id) (hf : FiM w ad f) (hh : h ∈ s.held x.at') (hk : h.key = (x.num, id)) :
    Calls Tryz.prog 22 #[.pointer (some ⟨T.TB, 0, none⟩), .int .i64 x.num, .int .i64 id, .slice ad f.length cap] w fun e w' => e = .returned (.int .i64 6) ∧ Gr w w' := by
  obtain ⟨Xs, qs, hT, hV⟩ := hT
  have hnum := (hT.k.num x hx).1
  have hb := (hT.k.num x hx).2
  have hnb := hT.b.nb8
  have hlu := hT.k.find hx
  obtain ⟨⟨h', a', c'⟩, hy, rfl⟩ := (hV.held _ hb h).1 hh
  have c1 := hT.b.c1
  obtain ⟨fb, fo, rfl, hfb, hfa⟩ := hf.at'
  have hlen := hf.len
  have hchk : chk f = 0 := by simp [chk, hf.ok]
  have CK := Hid.mk' (Check_ad f (some ⟨fb, fo, none⟩) cap w (by unfold maxLen; omega) (Or.inr ⟨fb, fo, rfl, hfb, hfa⟩) hf.wf)
  rw [hchk] at CK
  have HT := Hid.mk' hT
  have HV := Hid.mk' hV
  have HF := Hid.mk' hf
  have HX := Hid.mk' hx
  have HK := Hid.mk' hk
  have HY := Hid.mk' hy
  have HI := Hid.mk' (And.intro hnum hid)
  clear hT hV hf hh hk hy hx hnum hid hfa hchk
  simp only at *
  go_enter Tryz.func22, Tryz.ntmps22
  go_wp2_with fail
  refine CK.out.mono ?_
  rintro e w1 ⟨rfl, g1⟩
  have ga := g1.alloc (.cells #[.int .i64 x.num, .int .i64 id] 112)
  have HB := heap_alloc_new w1 (.cells #[.int .i64 x.num, .int .i64 id] 112)
  have hsz : (w1.alloc (.cells #[.int .i64 x.num, .int .i64 id] 112)).heap.size = w1.heap.size + 1 := by simp
  have G1 := Hid.mk' ga
  have HHB := Hid.mk' HB
  clear CK g1 ga HB hlu c1
  go_wp2_with fail
  generalize (w1.alloc (.cells #[.int .i64 x.num, .int .i64 id] 112)) = W1 at *
  have T1 := HT.out.gr G1.out
  obtain ⟨es, clock, hmp⟩ := (T1.h.at' x.at' hb).2
  obtain ⟨lk, hlk⟩ := keyK (x.num, id) HI.out.1 HI.out.2
  have hyes : (pk (x.num, id), .agg (hv h' a' c')) ∈ (Xs x.at').map mv := by
    rw [← HK.out]; exact List.mem_map.2 ⟨_, HY.out, rfl⟩
  have gz : Gr W1 (W1.alloc (.cells #[.int .i64 0, .int .i64 0, .slice none 0 0, .int .i64 0] 121)) := (Gr.refl W1).alloc _
  have hlu := Mp.look_yes Tryz.keyedK Tryz.underlying123 (hmp.kept (w' := W1.drew) rfl) hlk hyes true
  have hlu2 := Mp.look_yes Tryz.keyedK Tryz.underlying123 (hmp.kept (w' := (W1.alloc (.cells #[.int .i64 0, .int .i64 0, .slice none 0 0, .int .i64 0] 121)).drew) (gz.block _ hmp.lt)) hlk hyes true
  unfold pk hv at hlu hlu2
  have hTB := T1.tlt
  have hHB := T1.hlt
  have hws : w1.heap.size < W1.heap.size := by omega
  have c0 := T1.b.c0
  have cb := T1.b.hb x.at' hb
  obtain ⟨hcr, hcb⟩ := T1.k.blk x HX.out
  have hclt := blk_lt hcb
  have k0 : W1.cell? ⟨w1.heap.size, 0, none⟩ = some (.int .i64 x.num) := by rw [cell_of_row _ _ _ _ _ _ HHB.out]; rfl
  have k1 : W1.cell? ⟨w1.heap.size, 1, none⟩ = some (.int .i64 id) := by rw [cell_of_row _ _ _ _ _ _ HHB.out]; rfl
  have ka : W1.cell? ⟨x.blk, 0, none⟩ = some (.int .i64 x.at') := by rw [cell_of_row _ _ _ _ _ _ hcb]; rfl
  have c0' := (gz.cell (p := ⟨T.TB, 0, none⟩) hTB).trans c0
  have cb' := (gz.cell (p := ⟨T.HB, x.at', none⟩) hHB).trans cb
  have k0' := (gz.cell (p := ⟨w1.heap.size, 0, none⟩) hws).trans k0
  have k1' := (gz.cell (p := ⟨w1.heap.size, 1, none⟩) hws).trans k1
  have ka' := (gz.cell (p := ⟨x.blk, 0, none⟩) hclt).trans ka
  have HT1 := Hid.mk' T1
  have HCB := Hid.mk' hcb
  clear T1 hmp hyes gz hcr hcb
  go_region
  all_goals
    clear hlu hlu2 c0' cb' k0' k1' ka' c0 cb k0 k1 ka
    have gz : Gr W1 (W1.alloc (.cells #[.int .i64 h'.key.1, .int .i64 h'.key.2, .slice a' h'.f.length c', .int .i64 h'.fr] 121)).drew := ((Gr.refl W1).alloc _).drew
    have G2 := Hid.mk' (Gr.call G1.out gz)
    clear gz
    go_wp2_with fail
    go_ret
    exact ⟨rfl, G2.out⟩
set_option maxRecDepth 100000 in
set_option maxHeartbeats 4000000 in
theorem Unsubscribe_none (T : Tc) (r : Nat → Rl) (w : World) (cls : List Cl) (s : Ts) (x : Cl) (id : Int)
    (hT : Tw T r w cls s) (hx : x ∈ cls) (hid : I64 id) (hn : ∀ g ∈ s.held x.at', g.key ≠ (x.num, id)) :
    Calls Tryz.prog 18 #[.pointer (some ⟨T.TB, 0, none⟩), .int .i64 x.num, .int .i64 id] w fun e w' => e = .returned (.int .i64 5) ∧ Gr w w' := by
  obtain ⟨Xs, qs, hT, hV⟩ := hT
  have hnum := (hT.k.num x hx).1
  have hb := (hT.k.num x hx).2
  have hnb := hT.b.nb8
  have hlu0 := hT.k.find hx
  have c1 := hT.b.c1
  have ga : Gr w (w.alloc (.cells #[.int .i64 x.num, .int .i64 id] 112)) := (Gr.refl w).alloc _
  have HB := heap_alloc_new w (.cells #[.int .i64 x.num, .int .i64 id] 112)
  have hsz : (w.alloc (.cells #[.int .i64 x.num, .int .i64 id] 112)).heap.size = w.heap.size + 1 := by simp
  have HT := Hid.mk' hT
  have HV := Hid.mk' hV
  have HX := Hid.mk' hx
  have HN := Hid.mk' hn
  have HI := Hid.mk' (And.intro hnum hid)
  have G1 := Hid.mk' ga
  have HHB := Hid.mk' HB
  clear hT hV hn hx hnum hid ga HB
  go_enter Tryz.func18, Tryz.ntmps18
  go_wp2_with fail
  generalize (w.alloc (.cells #[.int .i64 x.num, .int .i64 id] 112)) = W1 at *
  have T1 := HT.out.gr G1.out
  obtain ⟨es, clock, hmp⟩ := (T1.h.at' x.at' hb).2
  obtain ⟨lk, hlk⟩ := keyK (x.num, id) HI.out.1 HI.out.2
  have hno : ∀ v, (pk (x.num, id), v) ∉ (Xs x.at').map mv := by
    intro v hv'
    obtain ⟨y, hy, e⟩ := List.mem_map.1 hv'
    injection e with e1 e2
    exact HN.out y.1 ((HV.out.held _ hb _).2 ⟨y, hy, rfl⟩) (pk_inj e1)
  have gz : Gr W1 (W1.alloc (.cells #[.int .i64 0, .int .i64 0, .slice none 0 0, .int .i64 0] 121)) := (Gr.refl W1).alloc _
  have hlu := Mp.look_no Tryz.keyedK Tryz.underlying123 (hmp.kept (w' := W1.drew) rfl) hlk hno Tryz.zeroHd true
  have hlu2 := Mp.look_no Tryz.keyedK Tryz.underlying123 (hmp.kept (w' := (W1.alloc (.cells #[.int .i64 0, .int .i64 0, .slice none 0 0, .int .i64 0] 121)).drew) (gz.block _ hmp.lt)) hlk hno Tryz.zeroHd true
  unfold pk at hlu hlu2
  have hTB := T1.tlt
  have hHB := T1.hlt
  have hws : w.heap.size < W1.heap.size := by omega
  have c0 := T1.b.c0
  have cb := T1.b.hb x.at' hb
  obtain ⟨hcr, hcb⟩ := T1.k.blk x HX.out
  have hclt := blk_lt hcb
  have k0 : W1.cell? ⟨w.heap.size, 0, none⟩ = some (.int .i64 x.num) := by rw [cell_of_row _ _ _ _ _ _ HHB.out]; rfl
  have k1 : W1.cell? ⟨w.heap.size, 1, none⟩ = some (.int .i64 id) := by rw [cell_of_row _ _ _ _ _ _ HHB.out]; rfl
  have ka : W1.cell? ⟨x.blk, 0, none⟩ = some (.int .i64 x.at') := by rw [cell_of_row _ _ _ _ _ _ hcb]; rfl
  have c0' := (gz.cell (p := ⟨T.TB, 0, none⟩) hTB).trans c0
  have cb' := (gz.cell (p := ⟨T.HB, x.at', none⟩) hHB).trans cb
  have k0' := (gz.cell (p := ⟨w.heap.size, 0, none⟩) hws).trans k0
  have k1' := (gz.cell (p := ⟨w.heap.size, 1, none⟩) hws).trans k1
  have ka' := (gz.cell (p := ⟨x.blk, 0, none⟩) hclt).trans ka
  clear T1 hmp hno gz hcr hcb hlu0 c1
  go_region
  all_goals
    clear hlu hlu2 c0' cb' k0' k1' ka' c0 cb k0 k1 ka
    have gz : Gr W1 (W1.alloc (.cells #[.int .i64 0, .int .i64 0, .slice none 0 0, .int .i64 0] 121)).drew := ((Gr.refl W1).alloc _).drew
    have G2 := Hid.mk' (Gr.call G1.out gz)
    clear gz
    go_wp2_with fail
    go_ret
    exact ⟨rfl, G2.out⟩
/-- A client's filter goes. -/
theorem Unsubscribe_t (T : Tc) (r : Nat → Rl) (w : World) (cs : List (Pc (List Atr))) (s : Ts) (c : Pc (List Atr)) (id : Int) (h : Hw)
    (hT : Tf T r w cs s) (hc : c ∈ cs) (hid : I64 id) (hs : Srt (s.held c.at')) (hh : h ∈ s.held c.at') (hk : h.key = (c.num, id)) (hm : Sm T s) :
    Calls Tryz.prog 18 #[.pointer (some ⟨T.TB, 0, none⟩), .int .i64 c.num, .int .i64 id] w fun e w' => e = .returned (.int .i64 0) ∧ ∃ r', Tf T r' w' cs (s.turn cov T.adj c.at' (del h.key (s.held c.at'))) ∧ Fr r r' w w' := by
  obtain ⟨cls, x, h1, rfl, hx, rfl⟩ := hT.find hc
  refine (Unsubscribe_ok T r w cls s x id h h1 hx hid hs hh hk hm).mono ?_
  rintro y w' ⟨h1, r', h2, h3⟩
  exact ⟨h1, r', ⟨cls, h2, rfl⟩, h3⟩
end Go.Proofs.YtecnfgikbmcgoaaGreat
namespace Go.Proofs.YtecnfgikbmcgoaaGreat
open Go.RowKit

theorem wpN_block {P : Program} {Q : Exit → Act → World → Prop} {a : Act} {w : World} {id : Nat} {c : Code} (h : wpN P c (Exit.inBlock id Q) a w) : wpN P (Code.block id c) Q a w := by
  intro b k cs hb
  obtain ⟨e, a₁, w₁, hq, harr⟩ := h b (.inBlock id :: k) cs hb
  cases e with
  | normal => exact ⟨.normal, a₁, w₁, hq, .head step_block (Steps.trans harr (.one step_inBlock))⟩
  | exit id' =>
    by_cases hid : id' = id
    · simp only [Exit.inBlock, hid, if_true] at hq
      exact ⟨.normal, a₁, w₁, hq, .head step_block (harr k (by simp [exitTo, hid]))⟩
    · simp only [Exit.inBlock, hid, if_false] at hq
      refine ⟨.exit id', a₁, w₁, hq, fun k' hk => .head step_block (harr k' ?_)⟩
      have : (id == id') = false := by simp; exact fun h => hid h.symm
      simp [exitTo, this, hk]
  | goto l => exact ⟨_, a₁, w₁, hq, fun k' hk => .head step_block (harr k' (by simp [gotoIn, hk]))⟩
  | ret => exact ⟨_, a₁, w₁, hq, .of_steps (.one step_block) harr⟩
  | panic ch => exact ⟨_, a₁, w₁, hq, .of_steps (.one step_block) harr⟩
  | outgrown => exact ⟨_, a₁, w₁, hq, .of_steps (b := b) (k := k) (cs := cs) (e := .outgrown) (.one step_block) harr⟩
/-- A closed inbox out of which j events are taken. -/
structure Ek (w wr : World) (c : Cl) (j : Nat) : Prop where
  ot : ∀ k, k < w.heap.size → k ≠ c.chn → wr.heap[k]? = w.heap[k]?
  ch : ∃ s q tm, wr.heap[c.chn]? = some (.chan 16 ((c.box.drop j).map bv).toArray true s q tm)
  lt : c.chn < w.heap.size
  size : w.heap.size ≤ wr.heap.size
  os : wr.os = w.os
  tape : wr.tape = w.tape
  output : wr.output = w.output
theorem Ek.below {w wr w' : World} {c : Cl} {j : Nat} (h : Ek w wr c j) (g : Below w.heap.size wr w') : Ek w w' c j := by
  obtain ⟨s, q, tm, h1⟩ := h.ch
  exact ⟨fun k hk hn => (g.block k hk).trans (h.ot k hk hn), ⟨s, q, tm, (g.block _ h.lt).trans h1⟩, h.lt, Nat.le_trans h.size g.size, g.os.trans h.os, g.tape.trans h.tape, g.output.trans h.output⟩
theorem Ek.recv {w wr : World} {c : Cl} {j : Nat} (h : Ek w wr c j) {s q : Nat} {tm : Bool} : Ek w (wr.setChan c.chn 16 (((c.box.drop j).map bv).toArray.extract 1 ((c.box.drop j).map bv).toArray.size) true s q tm) c (j + 1) := by
  have hl := h.lt
  have hs := h.size
  refine ⟨fun k hk hn => (setChan_other hn).trans (h.ot k hk hn), ⟨s, q, tm, ?_⟩, hl, by rw [setChan_size]; exact hs, h.os, h.tape, h.output⟩
  rw [setChan_get (by omega)]
  simp only [List.size_toArray, List.extract_toArray, ← List.map_drop, List.drop_drop, List.length_map, List.length_drop, List.extract_eq_take_drop, Option.some.injEq, Obj.chan.injEq, true_and, and_true]
  rw [List.take_of_length_le (by simp only [List.length_map, List.length_drop]; omega)]
theorem owns_chan {w : World} {base : Nat} {e : TypeId} {size n : Nat} {v : Value} {xs : List Value} (h : w.ownsRow base e size v n xs) {b cap s r : Nat} {buf : Array Value} {cl tm : Bool} (hb : b < base) : (w.setChan b cap buf cl s r tm).ownsRow base e size v n xs := by
  refine ⟨h.1, h.2.imp id ?_⟩
  rintro ⟨g, cp, cur, h1, h2, h3, h4⟩
  exact ⟨g, cp, cur, h1, h2, (setChan_other (by omega)).trans h3, h4⟩
theorem three_setCell1 {w : World} {b : Nat} {x y z u : Value} {t : TypeId} (h : w.heap[b]? = some (.cells #[x, y, z] t (0, 0))) : (w.setCell ⟨b, 1, none⟩ u).heap[b]? = some (.cells #[x, u, z] t (0, 0)) := by
  have hl := blk_lt h
  have h' : w.heap[b] = .cells #[x, y, z] t (0, 0) := by rw [Array.getElem?_eq_getElem hl] at h; injection h
  show (w.heap.modify b _)[b]? = _
  rw [Array.getElem?_eq_getElem (by simpa using hl), Array.getElem_modify_self, h']
  rfl
/-- The world when an inbox is emptied. -/
def emW (wr : World) (b : Nat) : World := (((wr.alloc (.chan 16 #[] false 0 0 false)).setCell ⟨b, 1, none⟩ (.chan (some wr.heap.size))).setCell ⟨b, 2, none⟩ (.int .i64 0))
theorem emW_size (wr : World) (b : Nat) : (emW wr b).heap.size = wr.heap.size + 1 := by unfold emW; rw [size_set, size_set]; simp
theorem Tm.emptied {T : Tc} {r : Nat → Rl} {w : World} {Xs : Nat → List Hm} {qs : Nat → Nat → List Mm} {m1 m2 : List Cl} {c : Cl} (h : Tm T r w Xs qs (m1 ++ c :: m2)) {wr : World} {j : Nat} (E : Ek w wr c j) {v : Value} {n : Nat} {xs : List Value} (O : wr.ownsRow w.heap.size 65 1 v n xs) :
    ∃ r' c', (Tm T r' (emW wr c.blk) Xs qs (m1 ++ c' :: m2) ∧ Fr r r' w (emW wr c.blk)) ∧ (emW wr c.blk).ownsRow w.heap.size 65 1 v n xs ∧ c'.num = c.num ∧ c'.at' = c.at' ∧ c'.lost = 0 ∧ c'.box = [] ∧ ∀ g, v.ownBlock = some g → r' g = .no := by
  have hmem : c ∈ m1 ++ c :: m2 := List.mem_append.2 (Or.inr (List.mem_cons_self))
  obtain ⟨rB, hB⟩ := h.k.blk c hmem
  obtain ⟨rC, s0, q0, tm0, hC⟩ := h.k.chn c hmem
  have lC := blk_lt hC
  have lB := blk_lt hB
  have hs := E.size
  have hne : c.blk ≠ c.chn := fun e => by rw [e, rC] at rB; cases rB
  have ot0 : ∀ k, k ≠ c.blk → k < wr.heap.size → (emW wr c.blk).heap[k]? = wr.heap[k]? := fun k h1 h2 => by
    unfold emW
    rw [Below.heap_setCell _ _ _ k h1, Below.heap_setCell _ _ _ k h1, heap_alloc_old _ _ h2]
  have ot : ∀ k, k < w.heap.size → k ≠ c.blk → k ≠ c.chn → (emW wr c.blk).heap[k]? = w.heap[k]? := fun k hk h1 h2 => (ot0 k h1 (by omega)).trans (E.ot k hk h2)
  have hsame : ∀ k, k < w.heap.size → (if k = wr.heap.size then Rl.ch c.num else r k) = r k := fun k hk => if_neg (by omega)
  refine ⟨fun k => if k = wr.heap.size then .ch c.num else r k, { c with chn := wr.heap.size, lost := 0, box := [] }, ⟨h.client { c with chn := wr.heap.size, lost := 0, box := [] } rfl rfl rfl (by rw [emW_size]; omega) ot hsame (fun k hk => ?_) ?_ ⟨if_pos rfl, 0, 0, false, ?_⟩ (fun x hx => by cases hx), ⟨E.os, E.tape, E.output, by rw [emW_size]; omega, fun k hk hr => ot k hk ?_ ?_, hsame⟩⟩, ?_, rfl, rfl, rfl, rfl, fun g hg => ?_⟩
  · rw [emW_size] at hk
    show (if k = wr.heap.size then Rl.ch c.num else r k) = .no
    rw [if_neg (by omega)]; exact h.b.top k (by omega)
  · exact three_setCell (three_setCell1 (by rw [heap_alloc_old _ _ (by omega)]; exact (E.ot _ lB hne).trans hB))
  · show (emW wr c.blk).heap[wr.heap.size]? = _
    unfold emW
    rw [Below.heap_setCell _ _ _ _ (by show wr.heap.size ≠ c.blk; omega), Below.heap_setCell _ _ _ _ (by show wr.heap.size ≠ c.blk; omega), heap_alloc_new]
    rfl
  · exact fun e => by rw [e, rB] at hr; rcases hr with hr | hr <;> cases hr
  · exact fun e => by rw [e, rC] at hr; rcases hr with hr | hr <;> cases hr
  · refine ⟨O.1, O.2.imp id ?_⟩
    rintro ⟨g, cp, cur, h1, h2, h3, h4⟩
    exact ⟨g, cp, cur, h1, h2, (ot0 g (by omega) (blk_lt h3)).trans h3, h4⟩
  · rcases O.2 with ⟨h1, _⟩ | ⟨g', cp, cur, h1, h2, h3, _⟩
    · rw [h1] at hg; simp [Value.ownBlock] at hg
    · rw [h1] at hg
      simp only [Value.ownBlock, Option.some.injEq] at hg
      subst hg
      have hlt := blk_lt h3
      show (if g' = wr.heap.size then Rl.ch c.num else r g') = .no
      rw [if_neg (by omega)]; exact h.b.top g' h2
set_option maxRecDepth 100000 in
set_option maxHeartbeats 4000000 in
theorem empty_t (T : Tc) (r : Nat → Rl) (w : World) (Xs : Nat → List Hm) (qs : Nat → Nat → List Mm) (m1 m2 : List Cl) (c : Cl) (hT : Tm T r w Xs qs (m1 ++ c :: m2)) (hbox : c.box.length ≤ 16) :
    Calls Tryz.prog 50 #[.pointer (some ⟨c.blk, 0, none⟩)] w fun x w' => ∃ v r' c', x = .returned (.tuple #[v, .int .i64 c.lost]) ∧ (Tm T r' w' Xs qs (m1 ++ c' :: m2) ∧ Fr r r' w w') ∧ w'.ownsRow w.heap.size 65 1 v c.box.length (c.box.map bv) ∧ c'.num = c.num ∧ c'.at' = c.at' ∧ c'.lost = 0 ∧ c'.box = [] ∧ ∀ g, v.ownBlock = some g → r' g = .no := by
  obtain ⟨i0, hi, hz0, hz1, hz2⟩ := info_parts Tryz.infoEvC
  have hmem : c ∈ m1 ++ c :: m2 := List.mem_append.2 (Or.inr (List.mem_cons_self))
  have hB := (hT.k.blk c hmem).2
  have rB := (hT.k.blk c hmem).1
  obtain ⟨rC, s, q, tm, hC⟩ := hT.k.chn c hmem
  have c1 : w.cell? ⟨c.blk, 1, none⟩ = some (.chan (some c.chn)) := by rw [cell_of_row _ _ _ _ _ _ hB]; rfl
  have HB := Hid.mk' hB
  have HT := Hid.mk' hT
  have HR := Hid.mk' (And.intro rB rC)
  clear hB hT rB rC hmem
  refine calls_of_wpN (fn := Tryz.f50) Tryz.func50 rfl ?_
  simp only [Tryz.ntmps50, List.size_toArray, List.length_cons, List.length_nil, Nat.reduceAdd, Nat.reduceSub, Array.replicate_succ, Array.replicate_zero, List.push_toArray, List.append_toArray, List.nil_append, List.cons_append]
  refine wpN_seq (fun K hK => ?_)
  go_wp2_with fail
  refine wpN_seq (fun K hK => ?_)
  have hcl : (Builtin.close_ #[124] 0 #[.chan (some c.chn)]).run Tryz.prog w = .ok (.tuple #[]) (w.setChan c.chn 16 (c.box.map bv).toArray true s q tm) := run_close_open _ _ hC
  go_wp2_with fail
  have hlt := blk_lt hC
  have hne : c.blk ≠ c.chn := fun e => by have h1 := HR.out.1; rw [e, HR.out.2] at h1; cases h1
  have E0 : Hid (Ek w (w.setChan c.chn 16 (c.box.map bv).toArray true s q tm) c 0) := ⟨fun k hk hn => setChan_other hn, ⟨s, q, tm, setChan_get hlt⟩, hlt, by rw [setChan_size]; exact Nat.le_refl _, rfl, rfl, rfl⟩
  have hB' : (w.setChan c.chn 16 (c.box.map bv).toArray true s q tm).heap[c.blk]? = _ := (setChan_other hne).trans HB.out
  have c1' : (w.setChan c.chn 16 (c.box.map bv).toArray true s q tm).cell? ⟨c.blk, 1, none⟩ = some (.chan (some c.chn)) := by rw [cell_of_row _ _ _ _ _ _ hB']; rfl
  generalize w.setChan c.chn 16 (c.box.map bv).toArray true s q tm = w0 at E0 hB' c1' ⊢
  clear hcl hC c1
  refine wpN_seq (fun K hK => ?_)
  go_wp2_with fail
  refine wpN_seqN (fun K hK => ?_)
  refine wpN_seq (fun K2 hK2 => ?_)
  go_wp2_with fail
  refine wpN_block ?_
  refine wpN_loop (fun n a wr => ∃ j v x5 x15 x16 x17 x18 x19 x20 x21, n = c.box.length - j ∧ j ≤ c.box.length ∧ Hid (Ek w wr c j) ∧ Hid (wr.ownsRow w.heap.size 65 1 v j ((c.box.take j).map bv)) ∧ a = { tmps := #[.pointer (some ⟨c.blk, 0, none⟩), undef, .slice none 0 0, .int .i64 0, v, x5, undef, .pointer (some ⟨c.blk, 0, none⟩), .pointer (some ⟨c.blk, 0, none⟩), .pointer (some ⟨c.blk, 1, none⟩), .chan (some c.chn), .pointer (some ⟨c.blk, 0, none⟩), .pointer (some ⟨c.blk, 0, none⟩), .pointer (some ⟨c.blk, 1, none⟩), .chan (some c.chn), x15, x16, x17, x18, x19, x20, x21, undef, undef, undef, undef, undef, undef, undef, undef, undef, undef, undef, undef, undef], defers := [] }) (c.box.length - 0) ?h0 ?rd
  case h0 => exact ⟨0, _, _, _, _, _, _, _, _, _, rfl, Nat.zero_le _, E0, ⟨rfl, Or.inl ⟨rfl, rfl⟩⟩, rfl⟩
  case rd =>
    rintro n a wr ⟨j, v, x5, x15, x16, x17, x18, x19, x20, x21, rfl, hj, E, O, rfl⟩
    refine wpN_seqN (fun K3 hK3 => ?_)
    by_cases hjl : j < c.box.length
    · obtain ⟨s1, q1, tm1, hc1⟩ := E.out.ch
      obtain ⟨xa, xn, xc, hbv⟩ : ∃ xa xn xc, bv c.box[j] = .slice xa xn xc := ⟨_, _, _, rfl⟩
      refine wpN_comm rfl (recv_buf rfl (z := .slice none 0 0) (by simp [go_sem, execOp, Go.Conc.rcase, Act.eval]) hc1 (by simp; omega)) ?_
      have E2 : Hid (Ek w (wr.setChan c.chn 16 (((c.box.drop j).map bv).toArray.extract 1 ((c.box.drop j).map bv).toArray.size) true s1 (q1 + 1) tm1) c (j + 1)) := E.out.recv
      have O2 : Hid ((wr.setChan c.chn 16 (((c.box.drop j).map bv).toArray.extract 1 ((c.box.drop j).map bv).toArray.size) true s1 (q1 + 1) tm1).ownsRow w.heap.size 65 1 v j ((c.box.take j).map bv)) := owns_chan O.out hlt
      generalize wr.setChan c.chn 16 (((c.box.drop j).map bv).toArray.extract 1 ((c.box.drop j).map bv).toArray.size) true s1 (q1 + 1) tm1 = w2 at E2 O2 ⊢
      rw [show ((c.box.drop j).map bv).toArray.getD 0 undef = .slice xa xn xc by rw [← hbv]; simp [Array.getD, show 0 < c.box.length - j by omega]]
      have HBV := Hid.mk' hbv
      clear E O hc1 hbv
      obtain ⟨va, vm, vk, rfl⟩ := owns_slice O2.out
      go_wp2_with (at_builtin; refine wpList_append_own _ rfl _ _ 61 rfl w.heap.size 65 i0 (.slice none 0 0) 1 24 Tryz.underlying61 hi hz0 hz1 hz2 rfl (by decide) _ _ _ rfl (O2.out.alloc _) ⟨w2.heap.size, 0, none⟩ 1 1 [.slice xa xn xc] rfl rfl (cell_one_new _ _ _) ?k2 ?k3 ?k4 ?k5 ?_)
      case k2 => intro t ht; simp at ht; subst ht; rfl
      case k3 => unfold maxLen; omega
      case k4 => omega
      case k5 => have := E2.out.size; simp; omega
      intro v5 w5 ho5 hg5 _
      have B5 : Below w.heap.size w2 w5 := Below.grown ((Below.refl _ _).alloc E2.out.size _) hg5 (Nat.le_trans E2.out.size (by simp)) (own_low O2.out)
      have E5 := Hid.mk' (E2.out.below B5)
      have O5 : Hid (w5.ownsRow w.heap.size 65 1 v5 (j + 1) ((c.box.take (j + 1)).map bv)) := by
        show World.ownsRow _ _ _ _ _ _ _
        rw [List.take_succ_eq_append_getElem hjl, List.map_append, List.map_singleton, HBV.out]; simpa using ho5
      obtain ⟨ya, ym, yk, rfl⟩ := owns_slice ho5
      clear ho5 hg5 O2 E2 B5
      go_wp2_with fail
      exact ⟨c.box.length - (j + 1), by omega, j + 1, _, _, _, _, _, _, _, _, _, rfl, by omega, E5, O5, rfl⟩
    · have hjj : j = c.box.length := by omega
      subst hjj
      obtain ⟨s1, q1, tm1, hc1⟩ := E.out.ch
      rw [List.drop_length] at hc1
      have hB2 : wr.heap[c.blk]? = _ := (E.out.ot _ (blk_lt HB.out) hne).trans HB.out
      have b2 : wr.cell? ⟨c.blk, 2, none⟩ = some (.int .i64 c.lost) := by rw [cell_of_row _ _ _ _ _ _ hB2]; rfl
      refine wpN_comm rfl (recv_shut rfl (z := .slice none 0 0) (by simp [go_sem, execOp, Go.Conc.rcase, Act.eval]) hc1) ?_
      have f1 : ∀ j, wr.frozen? ⟨c.blk, j, none⟩ = false := fun j => frozen_of_row _ _ _ _ _ hB2
      clear hc1
      obtain ⟨va, vm, vk, rfl⟩ := owns_slice O.out
      go_wp2_with fail
      refine (newInbox_any wr).mono ?_
      rintro e w3 ⟨rfl, rfl⟩
      have lb : c.blk < wr.heap.size := Nat.lt_of_lt_of_le (blk_lt HB.out) E.out.size
      have hB3 : (wr.alloc (.chan 16 #[] false 0 0 false)).heap[c.blk]? = _ := (heap_alloc_old _ _ lb).trans hB2
      have d1 : (wr.alloc (.chan 16 #[] false 0 0 false)).cell? ⟨c.blk, 1, none⟩ = some (.chan (some c.chn)) := by rw [cell_of_row _ _ _ _ _ _ hB3]; rfl
      have d2 : (wr.alloc (.chan 16 #[] false 0 0 false)).cell? ⟨c.blk, 2, none⟩ = some (.int .i64 c.lost) := by rw [cell_of_row _ _ _ _ _ _ hB3]; rfl
      have f3 : ∀ j, (wr.alloc (.chan 16 #[] false 0 0 false)).frozen? ⟨c.blk, j, none⟩ = false := fun j => frozen_of_row _ _ _ _ _ hB3
      have FIN := Hid.mk' (HT.out.emptied E.out O.out)
      rw [List.take_length] at FIN
      unfold emW at FIN
      clear hB3 hB2 b2 E O
      generalize wr.alloc (.chan 16 #[] false 0 0 false) = w4 at d1 d2 f3 FIN ⊢
      go_wp2_with fail
      go_ret2
      obtain ⟨r', c', h1, h2, h3⟩ := FIN.out
      exact ⟨_, r', c', rfl, h1, h2, h3⟩
end Go.Proofs.YtecnfgikbmcgoaaGreat
namespace Go.Proofs.YtecnfgikbmcgoaaGreat
open Go.RowKit

set_option maxRecDepth 100000 in
set_option maxHeartbeats 4000000 in
/-- What came for a client is taken. -/
theorem Inbox_in (T : Tc) (r : Nat → Rl) (w : World) (Xs : Nat → List Hm) (qs : Nat → Nat → List Mm) (m1 m2 : List Cl) (c : Cl) (hT : Tm T r w Xs qs (m1 ++ c :: m2)) (hbox : c.box.length ≤ 16) :
    Calls Tryz.prog 23 #[.pointer (some ⟨T.TB, 0, none⟩), .int .i64 c.num] w fun x w' => ∃ v r' c', x = .returned (.tuple #[v, .int .i64 c.lost, .int .i64 0]) ∧ (Tm T r' w' Xs qs (m1 ++ c' :: m2) ∧ Fr r r' w w') ∧ w'.ownsRow w.heap.size 65 1 v c.box.length (c.box.map bv) ∧ c'.num = c.num ∧ c'.at' = c.at' ∧ c'.lost = 0 ∧ c'.box = [] ∧ ∀ g, v.ownBlock = some g → r' g = .no := by
  have hlu := hT.k.find (x := c) (List.mem_append.2 (Or.inr List.mem_cons_self))
  have c1 := hT.b.c1
  have HC := Hid.mk' (empty_t T r w Xs qs m1 m2 c hT hbox)
  clear hT
  go_enter Tryz.func23, Tryz.ntmps23
  go_wp2_with fail
  refine HC.out.mono ?_
  rintro e w1 ⟨v, r', c', rfl, h⟩
  obtain ⟨va, vm, vk, rfl⟩ := owns_slice h.2.1
  have H := Hid.mk' h
  clear h
  go_wp2_with fail
  go_ret3
  exact ⟨_, r', c', rfl, H.out⟩
end Go.Proofs.YtecnfgikbmcgoaaGreat
namespace Go.Proofs.YtecnfgikbmcgoaaGreat
open Go.RowKit

theorem keepValue_gr (n : Int) (w : World) (h1 : -9223372036854775808 ≤ n) (h2 : n ≤ 9223372036854775807) :
    Calls Tryz.prog 52 #[.int .i64 n] w fun e w' => e = .returned (.agg #[.int .i64 (valK n), .int .i64 (valN n), .string (valS n)]) ∧ Gr w w' :=
  (keepValue_any n w h1 h2).mono fun e w' ⟨he, hw⟩ => ⟨he, by rw [hw]; exact valW_gr n w⟩
theorem quarter (n : Int) (h1 : -9223372036854775808 ≤ n) (h2 : n ≤ 9223372036854775807) : wrap64 (n.tdiv 4) = n.tdiv 4 :=
  (IntWalk.i64_left _).symm.trans (wrap_i64_tdiv n 4 h1 h2 (by omega))
theorem quarter_bd (n : Int) (h1 : -9223372036854775808 ≤ n) (h2 : n ≤ 9223372036854775807) : -9223372036854775808 ≤ n.tdiv 4 ∧ n.tdiv 4 ≤ 9223372036854775807 := by
  rcases Int.le_total 0 n with h | h
  · rw [Int.tdiv_eq_ediv_of_nonneg h]; omega
  · have e : n.tdiv 4 = -((-n) / 4) := by rw [← Int.tdiv_eq_ediv_of_nonneg (by omega), Int.neg_tdiv]; omega
    rw [e]; omega

set_option maxRecDepth 100000 in
set_option maxHeartbeats 2000000 in
theorem event_any (zs : List Int) (ad : Option Addr) (cap : Nat) (w : World) (hl : zs.length ≤ maxLen) (h : InAt w ad zs) (hwf : IntWf zs) :
    Calls Tryz.prog 24 #[.slice ad zs.length cap] w fun e w' => ∃ v, e = .returned v ∧ Gr w w' ∧ w'.ownsRow w.heap.size 74 4 v (evF zs).length (acells (evF zs)) := by
  unfold maxLen at hl
  obtain ⟨i0, hi, hz0, hz1, hz2⟩ := info_parts Tryz.infoAttr
  have HW : Hid (IntWf zs) := hwf
  have HA : Hid (InAt w ad zs) := h
  clear hwf h
  go_enter Tryz.func24, Tryz.ntmps24
  go_wp2
  go_loopw [3, 4] (fun v i wr => ∃ k : Nat, k ≤ 3 ∧ i = .int .i64 k ∧ Gr w wr ∧ Hid (wr.ownsRow w.heap.size 74 4 v (ke zs k).length (acells (ke zs k)))) (fun _ i _ => 3 - (intOf i).toNat)
  case atStart => exact ⟨0, by omega, rfl, Gr.refl _, World.ownsRow_nil _ _ _ _⟩
  case round =>
    obtain ⟨k, hk3, rfl, g, HO⟩ := hrel
    by_cases hlt : k < 3
    · by_cases hzl : k < zs.length
      · have HN : Hid (nOf zs k = iat zs k) := by
          show _ = _
          rw [nOf, if_pos hzl]
        rcases HA.out with hne | ⟨b, off, rfl, hb, hat⟩
        · subst hne; simp at hzl
        have c1 := (hat.gr g hb) k hzl
        clear hat
        cases hp : (pickF (iat zs k) 4 == 3)
        · have hp' : (pickF (iat zs k) 4 != 3) = true := by simp [bne, hp]
          have HK : Hid (ke zs (k + 1) = ke zs k ++ [atrF zs k]) := by
            show _ = _
            rw [ke, if_neg (by rw [HN.out]; simpa using hp)]
          clear hp
          go_wp2_with fail
          refine (pick_any _ _ _ (iat_bd HW.out hzl).1 (iat_bd HW.out hzl).2 (by omega) (by omega)).mono ?_
          rintro e w1 ⟨rfl, rfl⟩
          go_wp2_with fail
          refine (keepName_any _ _ (by omega) (by omega)).mono ?_
          rintro e w1 ⟨rfl, rfl⟩
          go_wp2_with fail
          rw [quarter _ (iat_bd HW.out hzl).1 (iat_bd HW.out hzl).2]
          refine (keepValue_gr _ _ (quarter_bd _ (iat_bd HW.out hzl).1 (iat_bd HW.out hzl).2).1 (quarter_bd _ (iat_bd HW.out hzl).1 (iat_bd HW.out hzl).2).2).mono ?_
          rintro e w2 ⟨rfl, hb2⟩
          have g2 : Gr w w2 := Gr.call g hb2
          have HO2 : Hid (w2.ownsRow w.heap.size 74 4 u3 (ke zs k).length (acells (ke zs k))) := ownsGr HO.out hb2
          have hsz := g2.size
          have hkl := ke_len zs k
          try clear c1
          go_wp2_with (at_builtin; refine wpList_append_own _ rfl _ _ 65 rfl w.heap.size 74 i0 _ 4 48 Tryz.underlying65 hi hz0 hz1 hz2 rfl (by decide) _ _ _ rfl (HO2.out.alloc _) ⟨w2.heap.size, 0, none⟩ 1 1 [.string (nameF (k : Int)), .int .i64 (valK ((iat zs k).tdiv 4)), .int .i64 (valN ((iat zs k).tdiv 4)), .string (valS ((iat zs k).tdiv 4))] rfl rfl (World.news_of_block (heap_alloc_new _ _)) ?c2 ?c3 ?c4 ?c5 ?_)
          case c2 => intro u hu; simp at hu; rcases hu with rfl | rfl | rfl | rfl <;> rfl
          case c3 => unfold maxLen; omega
          case c4 => omega
          case c5 => simp; omega
          intro v' w4 hown' hgrow _
          have g4 : Gr w w4 := owns_grown rfl HO2.out g2 hgrow
          have HO4 : Hid (w4.ownsRow w.heap.size 74 4 v' (ke zs (k + 1)).length (acells (ke zs (k + 1)))) := by
            show World.ownsRow _ _ _ _ _ _ _
            rw [HK.out, acells_snoc, List.length_append]
            simp only [atrF, HN.out]; exact hown'
          clear hown' hgrow
          go_wp2
          go_roundw
          case rel => exact ⟨k + 1, by omega, by go_num, g4, HO4⟩
          case measure => simp [intOf]; omega
        · have hp' : (pickF (iat zs k) 4 != 3) = false := by simp [bne, hp]
          have HK : Hid (ke zs (k + 1) = ke zs k) := by
            show _ = _
            rw [ke, if_pos (by rw [HN.out]; simpa using hp)]
          clear hp
          go_wp2_with fail
          refine (pick_any _ _ _ (iat_bd HW.out hzl).1 (iat_bd HW.out hzl).2 (by omega) (by omega)).mono ?_
          rintro e w1 ⟨rfl, rfl⟩
          go_wp2_with fail
          go_roundw
          case rel => exact ⟨k + 1, by omega, by go_num, g, by rw [HK.out]; exact HO.out⟩
          case measure => simp [intOf]; omega
      · have HN : Hid (nOf zs k = (k : Int)) := by
          show _ = _
          rw [nOf, if_neg hzl]
        cases hp : (pickF (k : Int) 4 == 3)
        · have hp' : (pickF (k : Int) 4 != 3) = true := by simp [bne, hp]
          have HK : Hid (ke zs (k + 1) = ke zs k ++ [atrF zs k]) := by
            show _ = _
            rw [ke, if_neg (by rw [HN.out]; simpa using hp)]
          clear hp
          go_wp2_with fail
          refine (pick_any _ _ _ (by omega) (by omega) (by omega) (by omega)).mono ?_
          rintro e w1 ⟨rfl, rfl⟩
          go_wp2_with fail
          refine (keepName_any _ _ (by omega) (by omega)).mono ?_
          rintro e w1 ⟨rfl, rfl⟩
          go_wp2_with fail
          rw [← Int.tdiv_eq_ediv_of_nonneg (a := (k : Int)) (b := 4) (by omega)]
          refine (keepValue_gr _ _ (quarter_bd _ (by omega) (by omega)).1 (quarter_bd _ (by omega) (by omega)).2).mono ?_
          rintro e w2 ⟨rfl, hb2⟩
          have g2 : Gr w w2 := Gr.call g hb2
          have HO2 : Hid (w2.ownsRow w.heap.size 74 4 u3 (ke zs k).length (acells (ke zs k))) := ownsGr HO.out hb2
          have hsz := g2.size
          have hkl := ke_len zs k
          try clear c1
          go_wp2_with (at_builtin; refine wpList_append_own _ rfl _ _ 65 rfl w.heap.size 74 i0 _ 4 48 Tryz.underlying65 hi hz0 hz1 hz2 rfl (by decide) _ _ _ rfl (HO2.out.alloc _) ⟨w2.heap.size, 0, none⟩ 1 1 [.string (nameF (k : Int)), .int .i64 (valK ((k : Int).tdiv 4)), .int .i64 (valN ((k : Int).tdiv 4)), .string (valS ((k : Int).tdiv 4))] rfl rfl (World.news_of_block (heap_alloc_new _ _)) ?c2 ?c3 ?c4 ?c5 ?_)
          case c2 => intro u hu; simp at hu; rcases hu with rfl | rfl | rfl | rfl <;> rfl
          case c3 => unfold maxLen; omega
          case c4 => omega
          case c5 => simp; omega
          intro v' w4 hown' hgrow _
          have g4 : Gr w w4 := owns_grown rfl HO2.out g2 hgrow
          have HO4 : Hid (w4.ownsRow w.heap.size 74 4 v' (ke zs (k + 1)).length (acells (ke zs (k + 1)))) := by
            show World.ownsRow _ _ _ _ _ _ _
            rw [HK.out, acells_snoc, List.length_append]
            simp only [atrF, HN.out]; exact hown'
          clear hown' hgrow
          go_wp2
          go_roundw
          case rel => exact ⟨k + 1, by omega, by go_num, g4, HO4⟩
          case measure => simp [intOf]; omega
        · have hp' : (pickF (k : Int) 4 != 3) = false := by simp [bne, hp]
          have HK : Hid (ke zs (k + 1) = ke zs k) := by
            show _ = _
            rw [ke, if_pos (by rw [HN.out]; simpa using hp)]
          clear hp
          go_wp2_with fail
          refine (pick_any _ _ _ (by omega) (by omega) (by omega) (by omega)).mono ?_
          rintro e w1 ⟨rfl, rfl⟩
          go_wp2_with fail
          go_roundw
          case rel => exact ⟨k + 1, by omega, by go_num, g, by rw [HK.out]; exact HO.out⟩
          case measure => simp [intOf]; omega
    · have hk : k = 3 := by omega
      subst hk
      obtain ⟨ad', cap', rfl⟩ := owns_form HO.out
      by_cases hne : (ke zs 3).length = 0
      · have HF : Hid (evF zs = [dAtr]) := by
          show _ = _
          rw [evF, if_pos (List.length_eq_zero_iff.1 hne)]
        have hne' : (((ke zs 3).length : Int) == 0) = true := by simp; exact List.length_eq_zero_iff.1 hne
        rw [hne] at *
        go_wp2_with fail
        refine (keepValue_gr 0 _ (by omega) (by omega)).mono ?_
        rintro e w2 ⟨rfl, hb2⟩
        go_wp2_with fail
        go_ret
        refine ⟨_, rfl, (Gr.call g hb2).alloc _, ?_⟩
        rw [HF.out]
        exact World.ownsRow_lit w2 #[.string ⟨#[100]⟩, .int .i64 (valK 0), .int .i64 (valN 0), .string (valS 0)] 1 (Gr.call g hb2).size (by unfold maxLen; omega) rfl
      · have HF : Hid (evF zs = ke zs 3) := by
          show _ = _
          rw [evF, if_neg (fun h => hne (by rw [h]; rfl))]
        have hne' : (((ke zs 3).length : Int) == 0) = false := by simp; exact fun h => hne (by rw [h]; rfl)
        go_wp2
        go_ret
        refine ⟨_, rfl, g, ?_⟩
        rw [HF.out]; exact HO.out

theorem mRes_one (l : List Atr) (f : List Wnt) (he : evOk l = true) (hf : filterOk f = true) : mErr l [f] = 0 ∧ mRes l [f] = if mat l f then [0] else [] := by
  have h1 : mErr l [f] = 0 := by simp [mErr, he, hf]
  refine ⟨h1, ?_⟩
  cases hm : mat l f <;> simp [mRes, h1, hits, List.range_succ, fat, hm]

set_option maxHeartbeats 2000000 in
theorem one_any (l : List Atr) (f : List Wnt) (ad ad' : Option Addr) (cap cap' : Nat) (m : Int) (w : World) (hl : l.length ≤ maxLen) (h : EvAt w ad l) (hwf : ∀ x ∈ l, Atr.Wf x)
    (hl' : f.length ≤ maxLen) (h' : FiAt w ad' f) (hwf' : ∀ x ∈ f, Wnt.Wf x) (he : evOk l = true) (hf : filterOk f = true) (hM : Ml m w) :
    Calls Tryz.prog 26 #[.slice ad l.length cap, .slice ad' f.length cap'] w fun e w' => e = .returned (.bool (mat l f)) ∧ Gr w w' := by
  have HE : Hid (EvAt w ad l) := h
  have HF : Hid (FiAt w ad' f) := h'
  have HW : Hid (∀ x ∈ l, Atr.Wf x) := hwf
  have HW' : Hid (∀ x ∈ f, Wnt.Wf x) := hwf'
  have HL : Hid (l.length ≤ maxLen) := hl
  have HL' : Hid (f.length ≤ maxLen) := hl'
  have HR : Hid (mErr l [f] = 0 ∧ mRes l [f] = if mat l f then [0] else []) := mRes_one l f he hf
  clear h h' hwf hwf' hl hl' he hf
  go_enter Tryz.func26, Tryz.ntmps26
  go_wp2_with fail
  refine (Match_any l [f] ad cap w.heap.size 0 1 m _ HL.out (HE.out.gr ((Gr.refl w).alloc _)) HW.out (by simp) (by simp) ?_ ?_ ?_ (hM.alloc _)).mono ?_
  · intro i hi
    have e : i = 0 := by simpa using hi
    subst e
    exact ⟨ad', cap', by simp [go_sem, fat], HF.out.gr ((Gr.refl w).alloc _)⟩
  · intro x hx; simp at hx; subst hx; exact HL'.out
  · intro x hx; simp at hx; subst hx; exact HW'.out
  rw [HR.out.1, HR.out.2]
  rintro e w1 ⟨v, rfl, hb1, hown⟩
  have g1 : Gr w w1 := Gr.call ((Gr.refl w).alloc _) hb1
  cases hm : mat l f
  · rw [hm] at hown
    obtain ⟨ad2, cap2, rfl⟩ := owns_form hown
    clear hown
    go_wp2_with fail
    go_ret
    exact ⟨ret_bool hm.symm, g1⟩
  · rw [hm] at hown
    rcases hown.2 with ⟨_, hn⟩ | ⟨b2, cap2, cur, rfl, hb2, _⟩
    · simp at hn
    have hc := World.ownsRow.cellAt hown 0 (by simp)
    simp [ints] at hc
    clear hown
    go_wp2_with fail
    go_ret
    exact ⟨ret_bool hm.symm, g1⟩
end Go.Proofs.YtecnfgikbmcgoaaGreat
namespace Go.Proofs.YtecnfgikbmcgoaaGreat
open Go.RowKit

/-- A client whose inbox was taken. -/
def clrC (n : Int) (c : Pc (List Atr)) : Pc (List Atr) := if c.num = n then { c with box := [], lost := 0 } else c
theorem clr_map {m1 m2 : List Cl} {c c' : Cl} (h1 : ∀ x, x ∈ m1 ∨ x ∈ m2 → x.num ≠ c.num) (hn : c'.num = c.num) (ha : c'.at' = c.at') (hl : c'.lost = 0) (hb : c'.box = []) : (m1 ++ c' :: m2).map pcOf = ((m1 ++ c :: m2).map pcOf).map (clrC c.num) := by
  have oth : ∀ m : List Cl, (∀ x ∈ m, x.num ≠ c.num) → m.map pcOf = (m.map pcOf).map (clrC c.num) := fun m hm => by
    rw [List.map_map]
    refine List.map_congr_left fun x hx => ?_
    show pcOf x = clrC c.num (pcOf x)
    unfold clrC
    rw [if_neg (by exact hm x hx)]
  simp only [List.map_append, List.map_cons]
  rw [← oth m1 (fun x hx => h1 x (Or.inl hx)), ← oth m2 (fun x hx => h1 x (Or.inr hx))]
  congr 2
  show _ = if c.num = c.num then _ else _
  rw [if_pos rfl]
  simp only [pcOf, hn, ha, hl, hb, List.map_nil]
/-- What came for a client is taken. -/
theorem Inbox_t (T : Tc) (r : Nat → Rl) (w : World) (cs : List (Pc (List Atr))) (s : Ts) (c : Pc (List Atr)) (hT : Tf T r w cs s) (hc : c ∈ cs) (hbox : c.box.length ≤ 16) :
    Calls Tryz.prog 23 #[.pointer (some ⟨T.TB, 0, none⟩), .int .i64 c.num] w fun x w' => ∃ (v : Value) (r' : Nat → Rl) (L : List (List Atr × Option Addr × Nat)), x = .returned (.tuple #[v, .int .i64 c.lost, .int .i64 0]) ∧ Tf T r' w' (cs.map (clrC c.num)) s ∧ Fr r r' w w' ∧ w'.ownsRow w.heap.size 65 1 v L.length (L.map bv) ∧ L.map (·.1) = c.box ∧ (∀ y ∈ L, EvR r' w' y.2.1 y.1) ∧ ∀ k, v.ownBlock = some k → r' k = .no := by
  obtain ⟨cls, x, ⟨Xs, qs, h1, hV⟩, rfl, hx, rfl⟩ := hT.find hc
  obtain ⟨m1, m2, rfl⟩ := List.append_of_mem hx
  have hl : x.box.length ≤ 16 := by simpa [pcOf] using hbox
  have hev : ∀ y ∈ x.box, EvR r w y.2.1 y.1 := h1.k.box x (List.mem_append.2 (Or.inr List.mem_cons_self))
  refine (Inbox_in T r w Xs qs m1 m2 x h1 hl).mono ?_
  rintro e w' ⟨v, r', c', h2, ⟨h3, h4⟩, h5, h6, h7, h8, h9, h10⟩
  refine ⟨v, r', x.box, h2, ⟨_, ⟨Xs, qs, h3, hV⟩, ?_⟩, h4, h5, rfl, fun y hy => (hev y hy).keep h4.size (fun i hi hr => h4.keep i hi (Or.inr hr)) h4.same, h10⟩
  exact clr_map (fun z hz => h1.apartC hz) h6 h7 h8 h9
theorem Fr.ownsB {r r' : Nat → Rl} {w w' : World} {bs n size : Nat} {e : TypeId} {v : Value} {xs : List Value} (h : Fr r r' w w') (o : w.ownsRow bs e size v n xs) (hr : ∀ k, v.ownBlock = some k → r k = .no) : w'.ownsRow bs e size v n xs ∧ ∀ k, v.ownBlock = some k → r' k = .no := by
  rcases o.2 with h2 | ⟨g, cap, cur, hv, hb, hh, rr⟩
  · exact ⟨⟨o.1, Or.inl h2⟩, fun k hk => by rw [h2.1] at hk; simp [Value.ownBlock] at hk⟩
  · have hg := hr g (by rw [hv]; rfl)
    refine ⟨⟨o.1, Or.inr ⟨g, cap, cur, hv, hb, (h.keep g (blk_lt hh) (Or.inl hg)).trans hh, rr⟩⟩, fun k hk => ?_⟩
    rw [hv] at hk
    simp only [Value.ownBlock, Option.some.injEq] at hk
    subst hk
    exact (h.same _ (blk_lt hh)).trans hg
theorem EvR.fr {r r' : Nat → Rl} {w w' : World} {ad : Option Addr} {l : List Atr} (h : EvR r w ad l) (k : Fr r r' w w') : EvR r' w' ad l := h.keep k.size (fun i hi hr => k.keep i hi (Or.inr hr)) k.same
/-- An event of the caller's own. -/
structure EvN (r : Nat → Rl) (w : World) (ad : Option Addr) (f : List Atr) : Prop where
  m : EvM w ad f
  r : ∃ b off, ad = some ⟨b, off, none⟩ ∧ r b = .no
theorem EvN.fr {r r' : Nat → Rl} {w w' : World} {ad : Option Addr} {f : List Atr} (h : EvN r w ad f) (k : Fr r r' w w') : EvN r' w' ad f := by
  obtain ⟨⟨⟨b, off, h1, h2, h3⟩, hwf, hok⟩, b', off', h4, h5⟩ := h
  have e := h1.symm.trans h4
  injection e with e
  injection e with e1 e2
  subst e1
  exact ⟨⟨⟨b, off, h1, Nat.lt_of_lt_of_le h2 k.size, h3.blk (k.keep b h2 (Or.inl h5))⟩, hwf, hok⟩, b, off, h1, (k.same b h2).trans h5⟩
theorem evn_of {r : Nat → Rl} {w : World} {base g cap : Nat} {e : TypeId} {l : List Atr} (h : w.ownsRow base e 4 (.slice (some ⟨g, 0, none⟩) l.length cap) l.length (acells l)) (hok : evOk l = true) (hwf : ∀ x ∈ l, Atr.Wf x) (hr : r g = .no) : EvN r w (some ⟨g, 0, none⟩) l := by
  obtain ⟨ad, cp, e1, hfa⟩ := owns_attrs h
  injection e1 with e1 _ _
  subst e1
  refine ⟨⟨?_, hwf, hok⟩, g, 0, rfl, hr⟩
  rcases hfa with h0 | h0
  · exact absurd h0 (ev_ok_of hok).2
  · exact h0
set_option maxRecDepth 100000 in
set_option maxHeartbeats 4000000 in
theorem sameEv_yes (l : List Atr) (ad ad' : Option Addr) (cap cap' : Nat) (w : World) (h : EvM w ad l) (h' : EvM w ad' l) :
    Calls Tryz.prog 27 #[.slice ad l.length cap, .slice ad' l.length cap'] w fun e w' => e = .returned (.bool true) ∧ Gr w w' := by
  have hlen := h.len
  obtain ⟨b, off, rfl, hb, hat⟩ := h.at'
  obtain ⟨b', off', rfl, hb', hat'⟩ := h'.at'
  have A1 := Hid.mk' hat
  have A2 := Hid.mk' hat'
  clear h h' hat hat'
  go_enter Tryz.func27, Tryz.ntmps27
  go_wp2_with fail
  go_loopw [5] (fun i wr => ∃ q : Nat, q ≤ l.length ∧ i = .int .i64 q ∧ Hid (Gr w wr)) (fun i _ => l.length - (intOf i).toNat)
  case atStart => exact ⟨0, Nat.zero_le _, rfl, Gr.refl _⟩
  case round =>
    obtain ⟨q, hq, rfl, G⟩ := hrel
    by_cases hlt : q < l.length
    · obtain ⟨c1, c2, c3, c4⟩ := (A1.out.gr G.out hb) q hlt
      obtain ⟨d1, d2, d3, d4⟩ := (A2.out.gr G.out hb') q hlt
      generalize aat l q = z at *
      go_wp2_with fail
      go_quiet (fail)
      have G2 := Hid.mk' (G.out.drewN nq)
      clear c1 c2 c3 c4 d1 d2 d3 d4
      go_wp2_with fail
      exact ⟨⟨q + 1, hlt, by simp, G2⟩, measM_dec _ _ hlt⟩
    · have hqe : q = l.length := by omega
      subst hqe
      go_wp2_with fail
      go_ret
      exact ⟨rfl, G.out⟩
end Go.Proofs.YtecnfgikbmcgoaaGreat
