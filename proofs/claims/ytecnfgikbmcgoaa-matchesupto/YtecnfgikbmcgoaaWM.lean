import Derived.Test.YtecnfgikbmcgoaaWI
import Derived.Test.YtecnfgikbmcgoaaWJ
import Derived.Test.YtecnfgikbmcgoaaWL
import Derived.Test.YtecnfgikbmcgoaaOwn
namespace Go.Proofs.Ytecnfgikbmcgoaa
open Go.RowKit

set_option maxHeartbeats 1000000 in
theorem Check_nil (ad : Option Addr) (cap : Nat) (w : World) : Calls Try.prog 15 #[.slice ad 0 cap] w fun e w' => e = .returned (.int .i64 2) ∧ w' = w := by
  go_enter Try.func15, Try.ntmps15
  go_wp2
  go_ret
  exact ⟨rfl, rfl⟩
set_option maxHeartbeats 1000000 in
theorem CheckEvent_nil (ad : Option Addr) (cap : Nat) (w : World) : Calls Try.prog 12 #[.slice ad 0 cap] w fun e w' => e = .returned (.int .i64 1) ∧ w' = w := by
  go_enter Try.func12, Try.ntmps12
  go_wp2
  go_ret
  exact ⟨rfl, rfl⟩
theorem Check_ad (l : List Wnt) (ad : Option Addr) (cap : Nat) (w : World) (hl : l.length ≤ maxLen) (h : FiAt w ad l) (hwf : ∀ x ∈ l, Wnt.Wf x) :
    Calls Try.prog 15 #[.slice ad l.length cap] w fun e w' => e = .returned (.int .i64 (chk l)) ∧ Gr w w' := by
  rcases h with rfl | ⟨b, off, rfl, hb, hat⟩
  · exact (Check_nil ad cap w).mono fun e w' ⟨h1, h2⟩ => ⟨h1, by rw [h2]; exact Gr.refl _⟩
  · exact Check_any l b off cap w hl hb hat hwf
theorem CheckEvent_ad (l : List Atr) (ad : Option Addr) (cap : Nat) (w : World) (hl : l.length ≤ maxLen) (h : EvAt w ad l) (hwf : ∀ x ∈ l, Atr.Wf x) :
    Calls Try.prog 12 #[.slice ad l.length cap] w fun e w' => e = .returned (.int .i64 (chkE l)) ∧ Gr w w' := by
  rcases h with rfl | ⟨b, off, rfl, hb, hat⟩
  · exact (CheckEvent_nil ad cap w).mono fun e w' ⟨h1, h2⟩ => ⟨h1, by rw [h2]; exact Gr.refl _⟩
  · exact CheckEvent_any l b off cap w hl hb hat hwf
theorem matches_ad (f : List Wnt) (l : List Atr) (ad' ad : Option Addr) (cap' cap : Nat) (m : Int) (w : World) (hf : f.length ≤ maxLen) (hl : l.length ≤ maxLen) (h' : FiAt w ad' f) (h : EvAt w ad l) (he : evOk l = true) (hx : filterOk f = true) (hM : Ml m w) :
    Calls Try.prog 31 #[.slice ad' f.length cap', .slice ad l.length cap] w fun e w' => e = .returned (.bool (mat l f)) ∧ Gr w w' := by
  obtain ⟨hv, hne⟩ := ev_ok_of he
  obtain ⟨hw, hne'⟩ := fi_ok_of hx
  rcases h with h | ⟨b, off, rfl, hb, hat⟩
  · exact absurd h hne
  rcases h' with h' | ⟨b', off', rfl, hb', hat'⟩
  · exact absurd h' hne'
  exact matches_any f l b' off' cap' b off cap m w hf hl hb' hat' hb hat hv hw hM

theorem Try.infoInt : (Try.prog.info? 3).map (fun i => (i.zero, i.size, i.bytes)) = some (some (.int .i64 0), 1, 8) := by kernel_rfl

set_option maxHeartbeats 2000000 in
theorem Match_any (l : List Atr) (fs : List (List Wnt)) (ad : Option Addr) (cap : Nat) (bl offl capl : Nat) (m : Int) (w : World) (hl : l.length ≤ maxLen) (h : EvAt w ad l) (hwf : ∀ x ∈ l, Atr.Wf x)
    (hn : fs.length ≤ 8796093022208) (hbl : bl < w.heap.size) (hfs : FisAt w bl offl fs) (hlen : ∀ f ∈ fs, f.length ≤ maxLen) (hwfs : ∀ f ∈ fs, ∀ x ∈ f, Wnt.Wf x) (hM : Ml m w) :
    Calls Try.prog 7 #[.slice ad l.length cap, .slice (some ⟨bl, offl, none⟩) fs.length capl] w
      fun e w' => ∃ v, e = .returned (.tuple #[v, .int .i64 (mErr l fs)]) ∧ Gr w w' ∧ w'.ownsRow w.heap.size 3 1 v (mRes l fs).length (ints (mRes l fs)) := by
  have HE : Hid (EvAt w ad l) := h
  have HF : Hid (∀ x ∈ l, Atr.Wf x) := hwf
  have HL : Hid (l.length ≤ maxLen) := hl
  have HS : Hid (FisAt w bl offl fs) := hfs
  have HN : Hid (∀ f ∈ fs, f.length ≤ maxLen) := hlen
  have HW : Hid (∀ f ∈ fs, ∀ x ∈ f, Wnt.Wf x) := hwfs
  clear h hwf hl hfs hlen hwfs
  obtain ⟨i0, hi, hz0, hz1, hz2⟩ := info_parts Try.infoInt
  cases h1 : evOk l
  · have Hc : Hid (chkE l = 1) := by
      show _ = _
      simp [chkE, h1]
    have Hr : Hid (mErr l fs = 1) := by
      show _ = _
      simp [mErr, h1]
    go_enter Try.func7, Try.ntmps7
    go_wp2_with fail
    refine (CheckEvent_ad _ _ _ _ HL.out HE.out HF.out).mono ?_
    rw [Hc.out]
    rintro e w1 ⟨rfl, hb1⟩
    go_wp2_with fail
    go_ret2
    refine ⟨_, ret_tup Hr.out.symm, hb1, ?_⟩
    have e : mRes l fs = [] := by simp [mRes, Hr.out]
    rw [e]
    exact World.ownsRow_nil _ _ _ _
  have Hc : Hid (chkE l = 0) := by
    show _ = _
    simp [chkE, h1]
  have HE1 : Hid (evOk l = true) := h1
  have Hm : Hid (mErr l fs = if fs.all filterOk then 0 else 2) := by
    show _ = _
    simp [mErr, h1]
  clear h1
  go_enter Try.func7, Try.ntmps7
  go_wp2_with fail
  refine (CheckEvent_ad _ _ _ _ HL.out HE.out HF.out).mono ?_
  rw [Hc.out]
  rintro e w1 ⟨rfl, hb1⟩
  go_wp2_with fail
  go_loopw [7, 18] (fun v i wr => ∃ k : Nat, k ≤ fs.length ∧ i = .int .i64 k ∧ Gr w wr ∧ Hid ((fs.take k).all filterOk = true) ∧ Hid (wr.ownsRow w.heap.size 3 1 v (hits l fs k).length (ints (hits l fs k)))) (fun _ i _ => fs.length - (intOf i).toNat)
  case atStart => exact ⟨0, Nat.zero_le _, rfl, hb1, rfl, World.ownsRow_nil _ _ _ _⟩
  case round =>
    obtain ⟨k, hk, rfl, g, HA, HO⟩ := hrel
    by_cases hlt : k < fs.length
    · obtain ⟨ak, ck, ck1, ck2⟩ := (HS.out.gr g hbl) k hlt
      have HK : Hid (FiAt wr ak (fat fs k)) := ck2
      clear ck2
      have hbr := g.lt hbl
      go_wp2_with fail
      refine (Check_ad (fat fs k) ak ck _ (HN.out _ (fat_mem hlt)) HK.out (HW.out _ (fat_mem hlt))).mono ?_
      cases h2 : filterOk (fat fs k)
      · rw [show chk (fat fs k) = 2 by simp [chk, h2]]
        rintro e w2 ⟨rfl, hb2⟩
        have Hr : Hid (mErr l fs = 2) := by
          show _ = _
          rw [Hm.out, all_stop filterOk fs k [] hlt h2]; rfl
        go_wp2_with fail
        go_ret2
        refine ⟨_, ret_tup Hr.out.symm, Gr.call g hb2, ?_⟩
        have e : mRes l fs = [] := by simp [mRes, Hr.out]
        rw [e]
        exact World.ownsRow_nil _ _ _ _
      · rw [show chk (fat fs k) = 0 by simp [chk, h2]]
        rintro e w2 ⟨rfl, hb2⟩
        have g2 : Gr w w2 := Gr.call g hb2
        go_wp2_with fail
        refine (matches_ad (fat fs k) l ak ad ck cap m _ (HN.out _ (fat_mem hlt)) HL.out (HK.out.gr hb2) (HE.out.gr g2) HE1.out h2 (g2.ml hM)).mono ?_
        rintro e w3 ⟨rfl, hb3⟩
        have g3 : Gr w w3 := Gr.call g2 hb3
        have HO3 : Hid (w3.ownsRow w.heap.size 3 1 u7 (hits l fs k).length (ints (hits l fs k))) := ownsGr (ownsGr HO.out hb2) hb3
        have hkl := hits_le l fs k
        cases h3 : mat l (fat fs k)
        · have HN' : Hid (hits l fs (k + 1) = hits l fs k) := hits_no h3
          go_wp2_with fail
          go_roundw
          case rel => exact ⟨k + 1, by omega, by go_num, g3, all_snoc filterOk fs k [] hlt HA.out h2, by rw [HN'.out]; exact HO3.out⟩
          case measure => simp [intOf]; omega
        · have HN' : Hid (hits l fs (k + 1) = hits l fs k ++ [k]) := hits_yes h3
          have hsz3 := g3.size
          go_wp2_with (at_builtin; refine wpList_append_own _ rfl _ _ 37 rfl w.heap.size 3 i0 (.int .i64 0) 1 8 Try.underlying37 hi hz0 hz1 hz2 rfl (by decide) _ _ _ rfl (HO3.out.alloc _) ⟨w3.heap.size, 0, none⟩ 1 1 [.int .i64 k] rfl rfl (cell_one_new _ _ _) ?c2 ?c3 ?c4 ?c5 ?_)
          case c2 => intro u hu; simp at hu; subst hu; rfl
          case c3 => unfold maxLen; omega
          case c4 => omega
          case c5 => simp; omega
          intro v' w4 hown' hgrow _
          have g4 : Gr w w4 := Below.grown (g3.alloc _) hgrow (by simp; omega) (fun b hb => by
            rcases HO3.out.2 with ⟨hv, _⟩ | ⟨q, cap, cur, hv, hq, _⟩
            · rw [hv] at hb; simp [Value.ownBlock] at hb
            · rw [hv] at hb; simp [Value.ownBlock] at hb; omega)
          have HO4 : Hid (w4.ownsRow w.heap.size 3 1 v' (hits l fs (k + 1)).length (ints (hits l fs (k + 1)))) := by
            show World.ownsRow _ _ _ _ _ _ _
            rw [HN'.out, ints_snoc, List.length_append]; exact hown'
          clear hown' hgrow
          go_wp2
          go_roundw
          case rel => exact ⟨k + 1, by omega, by go_num, g4, all_snoc filterOk fs k [] hlt HA.out h2, HO4⟩
          case measure => simp [intOf]; omega
    · go_wp2
      go_ret2
      have Hr : mErr l fs = 0 := by rw [Hm.out, all_end filterOk fs k hlt HA.out]; rfl
      have e : mRes l fs = hits l fs k := by
        have : k = fs.length := by omega
        simp [mRes, Hr, this]
      refine ⟨_, ret_tup Hr.symm, g, ?_⟩
      rw [e]
      exact HO.out
end Go.Proofs.Ytecnfgikbmcgoaa
