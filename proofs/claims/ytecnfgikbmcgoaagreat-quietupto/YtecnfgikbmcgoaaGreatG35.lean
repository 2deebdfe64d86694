import Derived.Test.YtecnfgikbmcgoaaGreatG10
import Derived.Test.YtecnfgikbmcgoaaGreatG34
import Derived.Test.YtecnfgikbmcgoaaGreatG2
namespace Go.Proofs.YtecnfgikbmcgoaaGreat
open Go.RowKit

set_option maxHeartbeats 1000000 in
theorem Check_nil (ad : Option Addr) (cap : Nat) (w : World) : Calls Tryz.prog 46 #[.slice ad 0 cap] w fun e w' => e = .returned (.int .i64 2) ∧ w' = w := by
  go_enter Tryz.func46, Tryz.ntmps46
  go_wp2
  go_ret
  exact ⟨rfl, rfl⟩
set_option maxHeartbeats 1000000 in
theorem CheckEvent_nil (ad : Option Addr) (cap : Nat) (w : World) : Calls Tryz.prog 53 #[.slice ad 0 cap] w fun e w' => e = .returned (.int .i64 1) ∧ w' = w := by
  go_enter Tryz.func53, Tryz.ntmps53
  go_wp2
  go_ret
  exact ⟨rfl, rfl⟩
theorem Check_ad (l : List Wnt) (ad : Option Addr) (cap : Nat) (w : World) (hl : l.length ≤ maxLen) (h : FiAt w ad l) (hwf : ∀ x ∈ l, Wnt.Wf x) :
    Calls Tryz.prog 46 #[.slice ad l.length cap] w fun e w' => e = .returned (.int .i64 (chk l)) ∧ Gr w w' := by
  rcases h with rfl | ⟨b, off, rfl, hb, hat⟩
  · exact (Check_nil ad cap w).mono fun e w' ⟨h1, h2⟩ => ⟨h1, by rw [h2]; exact Gr.refl _⟩
  · exact Check_any l b off cap w hl hb hat hwf
theorem CheckEvent_ad (l : List Atr) (ad : Option Addr) (cap : Nat) (w : World) (hl : l.length ≤ maxLen) (h : EvAt w ad l) (hwf : ∀ x ∈ l, Atr.Wf x) :
    Calls Tryz.prog 53 #[.slice ad l.length cap] w fun e w' => e = .returned (.int .i64 (chkE l)) ∧ Gr w w' := by
  rcases h with rfl | ⟨b, off, rfl, hb, hat⟩
  · exact (CheckEvent_nil ad cap w).mono fun e w' ⟨h1, h2⟩ => ⟨h1, by rw [h2]; exact Gr.refl _⟩
  · exact CheckEvent_any l b off cap w hl hb hat hwf
theorem matches_ad (f : List Wnt) (l : List Atr) (ad' ad : Option Addr) (cap' cap : Nat) (m : Int) (w : World) (hf : f.length ≤ maxLen) (hl : l.length ≤ maxLen) (h' : FiAt w ad' f) (h : EvAt w ad l) (he : evOk l = true) (hx : filterOk f = true) (hM : Ml m w) :
    Calls Tryz.prog 92 #[.slice ad' f.length cap', .slice ad l.length cap] w fun e w' => e = .returned (.bool (mat l f)) ∧ Gr w w' := by
  obtain ⟨hv, hne⟩ := ev_ok_of he
  obtain ⟨hw, hne'⟩ := fi_ok_of hx
  rcases h with h | ⟨b, off, rfl, hb, hat⟩
  · exact absurd h hne
  rcases h' with h' | ⟨b', off', rfl, hb', hat'⟩
  · exact absurd h' hne'
  exact matches_any f l b' off' cap' b off cap m w hf hl hb' hat' hb hat hv hw hM

theorem Tryz.infoInt : (Tryz.prog.info? 3).map (fun i => (i.zero, i.size, i.bytes)) = some (some (.int .i64 0), 1, 8) := by kernel_rfl

set_option maxHeartbeats 2000000 in
theorem Match_any (l : List Atr) (fs : List (List Wnt)) (ad : Option Addr) (cap : Nat) (bl offl capl : Nat) (m : Int) (w : World) (hl : l.length ≤ maxLen) (h : EvAt w ad l) (hwf : ∀ x ∈ l, Atr.Wf x)
    (hn : fs.length ≤ 8796093022208) (hbl : bl < w.heap.size) (hfs : FisAt w bl offl fs) (hlen : ∀ f ∈ fs, f.length ≤ maxLen) (hwfs : ∀ f ∈ fs, ∀ x ∈ f, Wnt.Wf x) (hM : Ml m w) :
    Calls Tryz.prog 56 #[.slice ad l.length cap, .slice (some ⟨bl, offl, none⟩) fs.length capl] w
      fun e w' => ∃ v, e = .returned (.tuple #[v, .int .i64 (mErr l fs)]) ∧ Gr w w' ∧ w'.ownsRow w.heap.size 3 1 v (mRes l fs).length (ints (mRes l fs)) := by
  have HE : Hid (EvAt w ad l) := h
  have HF : Hid (∀ x ∈ l, Atr.Wf x) := hwf
  have HL : Hid (l.length ≤ maxLen) := hl
  have HS : Hid (FisAt w bl offl fs) := hfs
  have HN : Hid (∀ f ∈ fs, f.length ≤ maxLen) := hlen
  have HW : Hid (∀ f ∈ fs, ∀ x ∈ f, Wnt.Wf x) := hwfs
  clear h hwf hl hfs hlen hwfs
  obtain ⟨i0, hi, hz0, hz1, hz2⟩ := info_parts Tryz.infoInt
  cases h1 : evOk l
  · have Hc : Hid (chkE l = 1) := by
      show _ = _
      simp [chkE, h1]
    have Hr : Hid (mErr l fs = 1) := by
      show _ = _
      simp [mErr, h1]
    go_enter Tryz.func56, Tryz.ntmps56
    go_wp2_with fail
    refine (CheckEvent_ad _ _ _ _ HL.out HE.out HF.out).mono ?_
    rw [Hc.out]
    rintro e w1 ⟨rfl, hb1⟩
    go_wp2_with fail
    go_ret2
    refine ⟨_, ret_tup Hr.out.symm, hb1, ?_⟩
    have e : mRes l fs = [] := by simp [mRes, Hr.out]
    rw [e]
    exact World.ownsRow_nil _ _ _ _
  have Hc : Hid (chkE l = 0) := by
    show _ = _
    simp [chkE, h1]
  have HE1 : Hid (evOk l = true) := h1
  have Hm : Hid (mErr l fs = if fs.all filterOk then 0 else 2) := by
    show _ = _
    simp [mErr, h1]
  clear h1
  go_enter Tryz.func56, Tryz.ntmps56
  go_wp2_with fail
  refine (CheckEvent_ad _ _ _ _ HL.out HE.out HF.out).mono ?_
  rw [Hc.out]
  rintro e w1 ⟨rfl, hb1⟩
  go_wp2_with fail
  go_loopw [7, 18] (fun v i wr => ∃ k : Nat, k ≤ fs.length ∧ i = .int .i64 k ∧ Gr w wr ∧ Hid ((fs.take k).all filterOk = true) ∧ Hid (wr.ownsRow w.heap.size 3 1 v (hits l fs k).length (ints (hits l fs k)))) (fun _ i _ => fs.length - (intOf i).toNat)
  case atStart => exact ⟨0, Nat.zero_le _, rfl, hb1, rfl, World.ownsRow_nil _ _ _ _⟩
  case round =>
    obtain ⟨k, hk, rfl, g, HA, HO⟩ := hrel
    by_cases hlt : k < fs.length
    · obtain ⟨ak, ck, ck1, ck2⟩ := (HS.out.gr g hbl) k hlt
      have HK : Hid (FiAt wr ak (fat fs k)) := ck2
      clear ck2
      have hbr := g.lt hbl
      go_wp2_with fail
      refine (Check_ad (fat fs k) ak ck _ (HN.out _ (fat_mem hlt)) HK.out (HW.out _ (fat_mem hlt))).mono ?_
      cases h2 : filterOk (fat fs k)
      · rw [show chk (fat fs k) = 2 by simp [chk, h2]]
        rintro e w2 ⟨rfl, hb2⟩
        have Hr : Hid (mErr l fs = 2) := by
          show _ = _
          rw [Hm.out, all_stop filterOk fs k [] hlt h2]; rfl
        go_wp2_with fail
        go_ret2
        refine ⟨_, ret_tup Hr.out.symm, Gr.call g hb2, ?_⟩
        have e : mRes l fs = [] := by simp [mRes, Hr.out]
        rw [e]
        exact World.ownsRow_nil _ _ _ _
      · rw [show chk (fat fs k) = 0 by simp [chk, h2]]
        rintro e w2 ⟨rfl, hb2⟩
        have g2 : Gr w w2 := Gr.call g hb2
        go_wp2_with fail
        refine (matches_ad (fat fs k) l ak ad ck cap m _ (HN.out _ (fat_mem hlt)) HL.out (HK.out.gr hb2) (HE.out.gr g2) HE1.out h2 (g2.ml hM)).mono ?_
        rintro e w3 ⟨rfl, hb3⟩
        have g3 : Gr w w3 := Gr.call g2 hb3
        have HO3 : Hid (w3.ownsRow w.heap.size 3 1 u7 (hits l fs k).length (ints (hits l fs k))) := ownsGr (ownsGr HO.out hb2) hb3
        have hkl := hits_le l fs k
        cases h3 : mat l (fat fs k)
        · have HN' : Hid (hits l fs (k + 1) = hits l fs k) := hits_no h3
          go_wp2_with fail
          go_roundw
          case rel => exact ⟨k + 1, by omega, by go_num, g3, all_snoc filterOk fs k [] hlt HA.out h2, by rw [HN'.out]; exact HO3.out⟩
          case measure => simp [intOf]; omega
        · have HN' : Hid (hits l fs (k + 1) = hits l fs k ++ [k]) := hits_yes h3
          have hsz3 := g3.size
          go_wp2_with (at_builtin; refine wpList_append_own _ rfl _ _ 27 rfl w.heap.size 3 i0 (.int .i64 0) 1 8 Tryz.underlying27 hi hz0 hz1 hz2 rfl (by decide) _ _ _ rfl (HO3.out.alloc _) ⟨w3.heap.size, 0, none⟩ 1 1 [.int .i64 k] rfl rfl (cell_one_new _ _ _) ?c2 ?c3 ?c4 ?c5 ?_)
          case c2 => intro u hu; simp at hu; subst hu; rfl
          case c3 => unfold maxLen; omega
          case c4 => omega
          case c5 => simp; omega
          intro v' w4 hown' hgrow _
          have g4 : Gr w w4 := Below.grown (g3.alloc _) hgrow (by simp; omega) (fun b hb => by
            rcases HO3.out.2 with ⟨hv, _⟩ | ⟨q, cap, cur, hv, hq, _⟩
            · rw [hv] at hb; simp [Value.ownBlock] at hb
            · rw [hv] at hb; simp [Value.ownBlock] at hb; omega)
          have HO4 : Hid (w4.ownsRow w.heap.size 3 1 v' (hits l fs (k + 1)).length (ints (hits l fs (k + 1)))) := by
            show World.ownsRow _ _ _ _ _ _ _
            rw [HN'.out, ints_snoc, List.length_append]; exact hown'
          clear hown' hgrow
          go_wp2
          go_roundw
          case rel => exact ⟨k + 1, by omega, by go_num, g4, all_snoc filterOk fs k [] hlt HA.out h2, HO4⟩
          case measure => simp [intOf]; omega
    · go_wp2
      go_ret2
      have Hr : mErr l fs = 0 := by rw [Hm.out, all_end filterOk fs k hlt HA.out]; rfl
      have e : mRes l fs = hits l fs k := by
        have : k = fs.length := by omega
        simp [mRes, Hr, this]
      refine ⟨_, ret_tup Hr.symm, g, ?_⟩
      rw [e]
      exact HO.out
end Go.Proofs.YtecnfgikbmcgoaaGreat
namespace Go.Proofs.YtecnfgikbmcgoaaGreat
open Go.RowKit
open Go.Maps (Keyed)
open Go.ChangeMaps (setBlock)

/-- So many filters of clients there are. -/
def nCl (T : Tc) (s : Ts) : Nat := sm T.nb fun b => ((s.held b).filter fun h => h.fr == -1).length
theorem sm_cong {f g : Nat → Nat} : ∀ n, (∀ i, i < n → f i = g i) → sm n f = sm n g
  | 0, _ => rfl
  | n + 1, h => by
    show sm n f + f n = sm n g + g n
    rw [sm_cong n (fun i hi => h i (Nat.lt_succ_of_lt hi)), h n (Nat.lt_succ_self n)]
theorem ncl_eq {T : Tc} {r : Nat → Rl} {w : World} {Xs : Nat → List Hm} {qs : Nat → Nat → List Mm} {cls : List Cl} {s : Ts} (h : Tm T r w Xs qs cls) (v : Vw T Xs qs s) (hs : ∀ b, b < T.nb → Srt (s.held b)) : (sm T.nb fun b => ofCl (Xs b)) = nCl T s := by
  refine sm_cong T.nb fun b hb => ?_
  obtain ⟨es, clock, hp⟩ := h.hp hb
  have := ofCl_len hp (L := ((s.held b).filter fun h => h.fr == -1).map fun x => x.key) (by rw [List.pairwise_map]; exact (hs b hb).filter _) (fun k => by
    rw [List.mem_map]
    constructor
    · rintro ⟨g, hg, rfl⟩
      obtain ⟨h1, h2⟩ := List.mem_filter.1 hg
      obtain ⟨x, hx, rfl⟩ := (v.held b hb g).1 h1
      exact ⟨x, hx, by simpa using h2, rfl⟩
    · rintro ⟨x, hx, h1, rfl⟩
      exact ⟨x.1, List.mem_filter.2 ⟨(v.held b hb x.1).2 ⟨x, hx, rfl⟩, by simpa using h1⟩, rfl⟩)
  rw [List.length_map] at this
  exact this.symm
theorem filters_w {T : Tc} {r : Nat → Rl} {w : World} {Xs : Nat → List Hm} {qs : Nat → Nat → List Mm} {cls : List Cl} {s : Ts} (h : Tm T r w Xs qs cls) (v : Vw T Xs qs s) (hs : ∀ b, b < T.nb → Srt (s.held b)) (hm : Sm T s) :
    Calls Tryz.prog 47 #[.pointer (some ⟨T.TB, 0, none⟩)] w fun e w' => e = .returned (.int .i64 (nCl T s : Nat)) ∧ Gr w w' := by
  have hh : Hs w T.TB T.HB 0 T.nb T.hcap (fun b => if b < T.nb then Xs b else []) := by
    refine ⟨h.hs.c0, h.hs.tlt, h.hs.hlt, fun b hb => ?_⟩
    obtain ⟨MB, es, clock, h1, h2⟩ := h.hs.at' b hb
    exact ⟨MB, es, clock, h1, by rw [if_pos hb]; exact h2⟩
  have e : (sm T.nb fun b => ofCl (if b < T.nb then Xs b else [])) = nCl T s := by
    rw [← ncl_eq h v hs]
    exact sm_cong T.nb fun b hb => by rw [if_pos hb]
  have := filtersOfClients_any T.TB T.HB 0 T.nb T.hcap _ w h.b.nb8 (fun b => by
    by_cases hb : b < T.nb
    · rw [if_pos hb]; exact Nat.le_trans (vw_len h v hb) (hm.h b hb)
    · rw [if_neg hb]; simp) hh
  rw [e] at this
  exact this
theorem Tryz.zeroHd (w : World) : (zeroValue 121).run Tryz.prog w = .ok (.agg #[.int .i64 0, .int .i64 0, .slice none 0 0, .int .i64 0]) w := Tryz.zeroValue121 w
theorem Tk.find {T : Tc} {r : Nat → Rl} {w : World} {cls : List Cl} (h : Tk T r w cls) {x : Cl} (hx : x ∈ cls) : (Instr.lookup 116 (.map (some T.CB)) (.int .i64 x.num) true).run Tryz.prog w = .ok (.tuple #[.pointer (some ⟨x.blk, 0, none⟩), .bool true]) w := by
  obtain ⟨es, clock, hmp⟩ := h.mp
  obtain ⟨lk, hlk⟩ := keyI x.num (h.num x hx).1
  exact Mp.look_yes Tryz.keyedI Tryz.underlying116 hmp hlk (List.mem_map.2 ⟨x, hx, rfl⟩) true
/-- A filter is copied, and the copy is the tree's own. -/
theorem copy_own (T : Tc) (r : Nat → Rl) (w w3 : World) (Xs : Nat → List Hm) (qs : Nat → Nat → List Mm) (cls : List Cl) (f : List Wnt) (ad : Option Addr) (cap : Nat) (hT : Tm T r w Xs qs cls) (G : Gr w w3) (hf : FiM w ad f) :
    Calls Tryz.prog 49 #[.slice ad f.length cap] w3 fun e w' => ∃ g cp r4, e = .returned (.slice (some ⟨g, 0, none⟩) f.length cp) ∧ (Tm T r4 w' Xs qs cls ∧ FiR r4 w' (some ⟨g, 0, none⟩) f ∧ Fr r r4 w w') ∧ Gr w3 w' := by
  refine (copyOfFilter_any f ad cap w3 (hf.gr G)).mono ?_
  rintro e w' ⟨v, rfl, ho, g1⟩
  have hne : 0 < f.length := List.length_pos_iff.2 (fi_ok_of hf.ok).2
  obtain ⟨a, cp, rfl, hb⟩ := owns_shape ho
  obtain ⟨g, rfl⟩ := hb hne
  have hlow := own_low ho g rfl
  have hlt := owns_lt ho
  obtain ⟨ad', cap', e1, hfa⟩ := owns_wants ho
  injection e1 with e1 _ _
  subst e1
  have hw := hT.b.ml.pos
  have hs := G.size
  have T3 := (hT.gr (Gr.call G g1)).own (fun k => if k = g then .fx else r k) (fun k hk => by
    by_cases e : k = g
    · subst e; exact absurd (hT.b.top k (by omega)) hk
    · exact if_neg e) (by show (if 0 = g then Rl.fx else r 0) = .no; rw [if_neg (by omega)]; exact hT.b.r0) (fun k hk => by rw [if_neg (by omega)]; exact hT.b.top k (by have := g1.size; omega))
  refine ⟨g, cp, _, rfl, ⟨T3, ⟨⟨?_, hf.wf, hf.ok⟩, g, 0, rfl, if_pos rfl⟩, ?_⟩, g1⟩
  · rcases hfa with h0 | h0
    · rw [h0] at hne; simp at hne
    · exact h0
  · have gg := Gr.call G g1
    exact ⟨gg.os, gg.tape, gg.output, gg.size, fun k hk _ => gg.block k hk, fun k hk => if_neg (by omega)⟩
set_option maxRecDepth 100000 in
set_option maxHeartbeats 4000000 in
theorem Subscribe_ok (T : Tc) (r : Nat → Rl) (w : World) (cls : List Cl) (s : Ts) (x : Cl) (id : Int) (f : List Wnt) (ad : Option Addr) (cap : Nat)
    (hT : Tw T r w cls s) (hx : x ∈ cls) (hid : I64 id) (hf : FiM w ad f) (hs : ∀ b, b < T.nb → Srt (s.held b)) (hn : ∀ g ∈ s.held x.at', g.key ≠ (x.num, id)) (hm : Sm T s) (hc : nCl T s < 64) :
    Calls Tryz.prog 22 #[.pointer (some ⟨T.TB, 0, none⟩), .int .i64 x.num, .int .i64 id, .slice ad f.length cap] w fun e w' => e = .returned (.int .i64 0) ∧ ∃ r', Tw T r' w' cls (s.turn cov T.adj x.at' (ins ⟨(x.num, id), f, -1⟩ (s.held x.at'))) ∧ Fr r r' w w' := by
  obtain ⟨Xs, qs, hT, hV⟩ := hT
  have hnum := (hT.k.num x hx).1
  have hb := (hT.k.num x hx).2
  have hnb := hT.b.nb8
  have hlu := hT.k.find hx
  have c1 := hT.b.c1
  obtain ⟨fb, fo, rfl, hfb, hfa⟩ := hf.at'
  have hlen := hf.len
  have hchk : chk f = 0 := by simp [chk, hf.ok]
  have CK := Hid.mk' (Check_ad f (some ⟨fb, fo, none⟩) cap w (by unfold maxLen; omega) (Or.inr ⟨fb, fo, rfl, hfb, hfa⟩) hf.wf)
  rw [hchk] at CK
  have HT := Hid.mk' hT
  have HV := Hid.mk' hV
  have HF := Hid.mk' hf
  have HS := Hid.mk' hs
  have HN := Hid.mk' hn
  have HM := Hid.mk' hm
  have HC := Hid.mk' hc
  have HX := Hid.mk' hx
  have HI := Hid.mk' (And.intro hnum hid)
  clear hT hV hf hs hn hm hc hx hnum hid hfa hchk
  go_enter Tryz.func22, Tryz.ntmps22
  go_wp2_with fail
  refine CK.out.mono ?_
  rintro e w1 ⟨rfl, g1⟩
  have ga := g1.alloc (.cells #[.int .i64 x.num, .int .i64 id] 112)
  have HB := heap_alloc_new w1 (.cells #[.int .i64 x.num, .int .i64 id] 112)
  have hsz : (w1.alloc (.cells #[.int .i64 x.num, .int .i64 id] 112)).heap.size = w1.heap.size + 1 := by simp
  have G1 := Hid.mk' ga
  have HHB := Hid.mk' HB
  clear CK g1 ga HB hlu c1
  go_wp2_with fail
  generalize (w1.alloc (.cells #[.int .i64 x.num, .int .i64 id] 112)) = W1 at *
  have T1 := HT.out.gr G1.out
  obtain ⟨es, clock, hmp⟩ := (T1.h.at' x.at' hb).2
  obtain ⟨lk, hlk⟩ := keyK (x.num, id) HI.out.1 HI.out.2
  have hno : ∀ v, (pk (x.num, id), v) ∉ (Xs x.at').map mv := by
    intro v hv'
    obtain ⟨y, hy, e⟩ := List.mem_map.1 hv'
    injection e with e1 e2
    exact HN.out y.1 ((HV.out.held _ hb _).2 ⟨y, hy, rfl⟩) (pk_inj e1)
  have gz : Gr W1 (W1.alloc (.cells #[.int .i64 0, .int .i64 0, .slice none 0 0, .int .i64 0] 121)) := (Gr.refl W1).alloc _
  have hlu := Mp.look_no Tryz.keyedK Tryz.underlying123 (hmp.kept (w' := W1.drew) rfl) hlk hno Tryz.zeroHd true
  have hlu2 := Mp.look_no Tryz.keyedK Tryz.underlying123 (hmp.kept (w' := (W1.alloc (.cells #[.int .i64 0, .int .i64 0, .slice none 0 0, .int .i64 0] 121)).drew) (gz.block _ hmp.lt)) hlk hno Tryz.zeroHd true
  unfold pk at hlu hlu2
  have hTB := T1.tlt
  have hHB := T1.hlt
  have hws : w1.heap.size < W1.heap.size := by omega
  have c0 := T1.b.c0
  have cb := T1.b.hb x.at' hb
  obtain ⟨hcr, hcb⟩ := T1.k.blk x HX.out
  have hclt := blk_lt hcb
  have k0 : W1.cell? ⟨w1.heap.size, 0, none⟩ = some (.int .i64 x.num) := by rw [cell_of_row _ _ _ _ _ _ HHB.out]; rfl
  have k1 : W1.cell? ⟨w1.heap.size, 1, none⟩ = some (.int .i64 id) := by rw [cell_of_row _ _ _ _ _ _ HHB.out]; rfl
  have ka : W1.cell? ⟨x.blk, 0, none⟩ = some (.int .i64 x.at') := by rw [cell_of_row _ _ _ _ _ _ hcb]; rfl
  have c0' := (gz.cell (p := ⟨T.TB, 0, none⟩) hTB).trans c0
  have cb' := (gz.cell (p := ⟨T.HB, x.at', none⟩) hHB).trans cb
  have k0' := (gz.cell (p := ⟨w1.heap.size, 0, none⟩) hws).trans k0
  have k1' := (gz.cell (p := ⟨w1.heap.size, 1, none⟩) hws).trans k1
  have ka' := (gz.cell (p := ⟨x.blk, 0, none⟩) hclt).trans ka
  have HT1 := Hid.mk' T1
  have HCB := Hid.mk' hcb
  clear T1 hmp hno gz hcr hcb
  go_region
  all_goals
    clear hlu hlu2 c0' cb' k0' k1' ka' c0 cb k0 k1 ka
    have gz : Gr W1 (W1.alloc (.cells #[.int .i64 0, .int .i64 0, .slice none 0 0, .int .i64 0] 121)).drew := ((Gr.refl W1).alloc _).drew
    have G2 := Hid.mk' (Gr.call G1.out gz)
    have HK2 := Hid.mk' (blk_gr gz HHB.out)
    have T2 := HT1.out.gr gz
    have FC := filters_w T2 HV.out HS.out HM.out
    have HFC := Hid.mk' FC
    have hcc := HC.out
    clear gz T2 FC
    go_wp2_with fail
    generalize (W1.alloc (.cells #[.int .i64 0, .int .i64 0, .slice none 0 0, .int .i64 0] 121)).drew = W2 at *
    refine HFC.out.mono ?_
    rintro e w3 ⟨rfl, g3⟩
    have G3 := Hid.mk' (Gr.call G2.out g3)
    have HK3 := Hid.mk' (blk_gr g3 HK2.out)
    have hcc' : ¬ (64 : Int) ≤ (nCl T s : Int) := by omega
    clear HFC g3
    have HCL3 := Hid.mk' ((HT.out.gr G3.out).k.blk x HX.out).2
    have k0 : w3.cell? ⟨w1.heap.size, 0, none⟩ = some (.int .i64 x.num) := by rw [cell_of_row _ _ _ _ _ _ HK3.out]; rfl
    have k1 : w3.cell? ⟨w1.heap.size, 1, none⟩ = some (.int .i64 id) := by rw [cell_of_row _ _ _ _ _ _ HK3.out]; rfl
    have ka : w3.cell? ⟨x.blk, 0, none⟩ = some (.int .i64 x.at') := by rw [cell_of_row _ _ _ _ _ _ HCL3.out]; rfl
    have CF : Hid (∀ W, W = w3.drew → Calls Tryz.prog 49 #[.slice (some ⟨fb, fo, none⟩) f.length cap] W fun e w' => ∃ g cp r4, e = .returned (.slice (some ⟨g, 0, none⟩) f.length cp) ∧ (Tm T r4 w' Xs qs cls ∧ FiR r4 w' (some ⟨g, 0, none⟩) f ∧ Fr r r4 w w') ∧ w'.cell? ⟨w1.heap.size, 0, none⟩ = some (.int .i64 x.num) ∧ w'.cell? ⟨w1.heap.size, 1, none⟩ = some (.int .i64 id) ∧ w'.cell? ⟨x.blk, 0, none⟩ = some (.int .i64 x.at')) := by
      intro W e
      subst e
      refine (copy_own T r w w3.drew Xs qs cls f _ cap HT.out G3.out.drew HF.out).mono ?_
      rintro e w' ⟨g, cp, r4, h1, h2, h3⟩
      have z1 := blk_gr h3 (show w3.drew.heap[_]? = _ from HK3.out)
      have z2 := blk_gr h3 (show w3.drew.heap[_]? = _ from HCL3.out)
      exact ⟨g, cp, r4, h1, h2, by rw [cell_of_row _ _ _ _ _ _ z1]; rfl, by rw [cell_of_row _ _ _ _ _ _ z1]; rfl, by rw [cell_of_row _ _ _ _ _ _ z2]; rfl⟩
    go_wp2_with fail
    go_region_with (first
      | (go_at_call 49; refine (CF.out _ rfl).mono ?_; rintro e w4 ⟨g, cp, r4, rfl, h4, k0', k1', ka'⟩)
      | (go_at_call 48; refine (hold_w T r4 _ Xs qs cls s x.at' ⟨(x.num, id), f, -1⟩ (some ⟨g, 0, none⟩) cp h4.1 HV.out hb h4.2.1 HI.out (HS.out _ hb) HN.out HM.out).mono ?_; rintro e w5 ⟨rfl, FE⟩))
    all_goals
      have FE2 := Hid.mk' FE
      have H4 := Hid.mk' h4.2.2
      clear FE h4 CF k0' k1' ka' k0 k1 ka
      go_wp2_with fail
      go_ret
      obtain ⟨r', z1, z2⟩ := FE2.out
      exact ⟨rfl, r', z1, H4.out.trans z2⟩
end Go.Proofs.YtecnfgikbmcgoaaGreat
