import Derived.Test.YtecnfgikbmcgoaaGreatG8
import Derived.Test.YtecnfgikbmcgoaaGreatG14
import Derived.Test.YtecnfgikbmcgoaaGreatG18
import Derived.Test.YtecnfgikbmcgoaaGreatG17
import Derived.Test.YtecnfgikbmcgoaaGreatG1
namespace Go.Proofs.YtecnfgikbmcgoaaGreat
open Go.RowKit
open Go.Maps (Keyed)
open Go.ChangeMaps (setBlock)

theorem EvM.len8 {w : World} {ad : Option Addr} {l : List Atr} (h : EvM w ad l) : 1 ≤ l.length ∧ l.length ≤ 8 := by
  have := h.ok
  simp only [evOk, Bool.and_eq_true, decide_eq_true_eq] at this
  omega
def sdP (s : Bool × Int) (x : Hm) : Bool := decide (sd x.1 = s)
theorem Tryz.infoFil : (Tryz.prog.info? 48).map (fun i => (i.zero, i.size, i.bytes)) = some (some (.slice none 0 0), 1, 24) := by kernel_rfl
set_option maxRecDepth 100000 in
set_option maxHeartbeats 4000000 in
theorem side_any (h : Hw) (a : Option Addr) (c : Nat) (w : World) : Calls Tryz.prog 117 #[.agg (hv h a c)] w fun e w' => e = .returned (.agg #[.bool (sd h).1, .int .i64 (sd h).2]) ∧ Gr w w' := by
  unfold hv
  have hsz : ∀ o : Obj, (w.alloc o).heap.size = w.heap.size + 1 := fun o => by simp
  by_cases hf : h.fr = -1
  · have HS : Hid (sd h = (true, h.key.1)) := if_pos hf
    go_enter Tryz.func117, Tryz.ntmps117
    rw [hf]
    go_wp2_with fail
    exact bodyPost_ret (v := .agg #[.bool true, .int .i64 h.key.1]) (by simp [results, Tryz.results117, go_sem]) rfl ⟨by rw [HS.out], ((Gr.refl w).alloc _).alloc _⟩
  · have HS : Hid (sd h = (false, h.fr)) := if_neg hf
    have hf' : (h.fr == -1) = false := by simpa using hf
    go_enter Tryz.func117, Tryz.ntmps117
    go_wp2_with fail
    exact bodyPost_ret (v := .agg #[.bool false, .int .i64 h.fr]) (by simp [results, Tryz.results117, go_sem]) rfl ⟨by rw [HS.out], ((Gr.refl w).alloc _).alloc _⟩
/-- Filters, one cell each. -/
def fcells (L : List Hm) : List Value := L.map fun x => .slice x.2.1 x.1.f.length x.2.2
theorem fcells_snoc (L : List Hm) (x : Hm) : fcells (L ++ [x]) = fcells L ++ [.slice x.2.1 x.1.f.length x.2.2] := by simp [fcells]
set_option maxRecDepth 100000 in
set_option maxHeartbeats 4000000 in
theorem Match_none (l : List Atr) (ad va : Option Addr) (cap vk : Nat) (w : World) (h : EvM w ad l) :
    Calls Tryz.prog 56 #[.slice ad l.length cap, .slice va 0 vk] w fun e w' => e = .returned (.tuple #[.slice none 0 0, .int .i64 0]) ∧ Gr w w' := by
  have HC := Hid.mk' (CheckEvent_ad l ad cap w (by have := h.len8; unfold maxLen; omega) (Or.inr h.at') h.wf)
  rw [show chkE l = 0 by simp [chkE, h.ok]] at HC
  clear h
  go_enter Tryz.func56, Tryz.ntmps56
  go_wp2_with fail
  refine HC.out.mono ?_
  rintro e w1 ⟨rfl, g1⟩
  have G1 := Hid.mk' g1
  clear HC g1
  go_wp2_with fail
  go_loopw [7, 18] (fun v i wr => v = .slice none 0 0 ∧ i = .int .i64 0 ∧ Hid (Gr w wr)) (fun _ _ _ => 0)
  case atStart => exact ⟨rfl, rfl, G1⟩
  case round =>
    obtain ⟨rfl, rfl, G⟩ := hrel
    go_wp2_with fail
    go_ret2
    exact ⟨rfl, G.out⟩
theorem fis_of {w : World} {base g cap : Nat} {L : List Hm} (h : w.ownsRow base 48 1 (.slice (some ⟨g, 0, none⟩) L.length cap) L.length (fcells L)) (hf : ∀ x ∈ L, FiM w x.2.1 x.1.f) : FisAt w g 0 (L.map fun x => x.1.f) := by
  intro i hi
  rw [List.length_map] at hi
  have he : fat (L.map fun x => x.1.f) i = L[i].1.f := by simp [fat, hi]
  refine ⟨L[i].2.1, L[i].2.2, ?_, ?_⟩
  · rw [Nat.zero_add, World.ownsRow.cellAt h i (by omega), he]
    simp [fcells, hi]
  · rw [he]; exact Or.inr (hf _ (List.getElem_mem hi)).at'
theorem hits_any (e : List Atr) (fs : List (List Wnt)) : (0 < (hits e fs fs.length).length) ↔ (fs.any fun f => mat e f) = true := by
  rw [List.length_pos_iff_exists_mem]
  simp only [hits, List.mem_filter, List.mem_range, List.any_eq_true]
  constructor
  · rintro ⟨i, h1, h2⟩; exact ⟨_, fat_mem h1, h2⟩
  · rintro ⟨f, h1, h2⟩
    obtain ⟨i, hi, rfl⟩ := List.mem_iff_getElem.1 h1
    exact ⟨i, hi, by simpa [fat, hi] using h2⟩
set_option maxRecDepth 100000 in
set_option maxHeartbeats 4000000 in
theorem asks_any (TB HB hoff nb hcap b MB : Nat) (s : Bool × Int) (ev : List Atr) (ad : Option Addr) (cap : Nat) (X : List Hm) (es : Array MapEntry) (clock : Nat) (m : Int) (w : World)
    (c0 : w.cell? ⟨TB, 0, none⟩ = some (.slice (some ⟨HB, hoff, none⟩) nb hcap)) (cb : w.cell? ⟨HB, hoff + b, none⟩ = some (.map (some MB))) (hb : b < nb) (hTB : TB < w.heap.size) (hHB : HB < w.heap.size) (hX : X.length ≤ 100000)
    (hp : Hp w MB X es clock) (he : EvM w ad ev) (hM : Ml m w) :
    Calls Tryz.prog 90 #[.pointer (some ⟨TB, 0, none⟩), .int .i64 b, .agg #[.bool s.1, .int .i64 s.2], .slice ad ev.length cap] w fun e w' => e = .returned (.bool (X.any fun x => sdP s x && mat ev x.1.f)) ∧ Gr w w' := by
  obtain ⟨i0, hi, hz0, hz1, hz2⟩ := info_parts Tryz.infoFil
  have HP := Hid.mk' hp
  have HE := Hid.mk' he
  have HM := Hid.mk' hM
  clear hp he hM
  have ga : Gr w (w.alloc (.cells #[.bool s.1, .int .i64 s.2] 142)) := (Gr.refl w).alloc _
  have hrg := run_range_map (P := Tryz.prog) (w.alloc (.cells #[.bool s.1, .int .i64 s.2] 142)) 123 112 121 MB es clock Tryz.underlying123 (HP.out.gr ga).mp.blk
  have hsz : (w.alloc (.cells #[.bool s.1, .int .i64 s.2] 142)).heap.size = w.heap.size + 1 := by simp
  rw [hsz] at hrg
  have GA := Hid.mk' ga
  clear ga hsz
  go_enter Tryz.func90, Tryz.ntmps90
  go_wp2_with fail
  have H0 := Hid.mk' (blk_gr ((Gr.refl _).alloc (.mapIter (some MB) clock #[] clock)) (heap_alloc_new w (.cells #[.bool s.1, .int .i64 s.2] 142)))
  have I0 : Hid (((w.alloc (.cells #[.bool s.1, .int .i64 s.2] 142)).alloc (.mapIter (some MB) clock #[] clock)).heap[w.heap.size + 1]? = some (.mapIter (some MB) clock #[] clock)) := by
    have := heap_alloc_new (w.alloc (.cells #[.bool s.1, .int .i64 s.2] 142)) (.mapIter (some MB) clock #[] clock)
    rw [show (w.alloc (.cells #[.bool s.1, .int .i64 s.2] 142)).heap.size = w.heap.size + 1 by simp] at this
    exact this
  have G0 := Hid.mk' (GA.out.alloc (.mapIter (some MB) clock #[] clock))
  clear hrg GA c0 cb
  go_loopw [9] (fun v wr => ∃ (seen : Array Nat) (L : List Hm), Hid (wr.heap[w.heap.size + 1]? = some (.mapIter (some MB) clock seen clock)) ∧ Hid (Gr w wr) ∧ Hid (wr.heap[w.heap.size]? = some (.cells #[.bool s.1, .int .i64 s.2] 142 (0, 0))) ∧
    Hid (wr.ownsRow (w.heap.size + 1) 48 1 v L.length (fcells L)) ∧ Hid (Hl X es (sdP s) seen L)) (fun _ wr => (leftOf es (wr.iterSeen (w.heap.size + 1))).size)
  case atStart => exact ⟨#[], [], I0, G0, H0, World.ownsRow_nil _ _ _ _, Hl.init X es _⟩
  case round =>
    clear I0 G0 H0
    obtain ⟨seen, L, IT, G, HB1, O, KL⟩ := hrel
    obtain ⟨va, vm, vk, rfl⟩ := owns_slice O.out
    have HMS : Hid (leftOf es (wr.iterSeen (w.heap.size + 1)) = leftOf es seen) := by show _ = _; unfold World.iterSeen; rw [IT.out]
    have HLN := Hid.mk' KL.out.len
    rcases next_law (HP.out.gr G.out) IT.out (Nat.le_succ _) G.out with ⟨h0, hnx⟩ | ⟨e, he, W2, hnx, hen, hit2, g2, hoth, hsz2⟩
    · have HA := Hid.mk' (KL.out.all HP.out h0)
      have ANY : Hid ((X.any fun x => sdP s x && mat ev x.1.f) = (L.map fun x => x.1.f).any fun f => mat ev f) := by
        show _ = _
        rw [Bool.eq_iff_iff]
        simp only [List.any_eq_true, List.mem_map, Bool.and_eq_true]
        constructor
        · rintro ⟨x, h1, h2, h3⟩; exact ⟨_, ⟨x, (HA.out x).2 ⟨h1, h2⟩, rfl⟩, h3⟩
        · rintro ⟨_, ⟨x, h1, rfl⟩, h3⟩; exact ⟨x, ((HA.out x).1 h1).1, ((HA.out x).1 h1).2, h3⟩
      have FW : Hid (∀ x ∈ L, FiM wr x.2.1 x.1.f) := fun x hx => ((HP.out.fi x ((HA.out x).1 hx).1).gr G.out)
      clear h0 KL HMS HB1 IT HA
      obtain ⟨va', vk', he', hsh⟩ := owns_shape O.out
      obtain ⟨rfl, rfl, rfl⟩ : va = va' ∧ vm = L.length ∧ vk = vk' := by injection he' with h1 h2 h3; exact ⟨h1, h2, h3⟩
      clear he'
      by_cases hL : L = []
      · subst hL
        have MT := Hid.mk' (Match_none ev ad va cap vk wr (HE.out.gr G.out))
        go_wp2_with fail
        refine MT.out.mono ?_
        rintro e w3 ⟨rfl, g3⟩
        have G3 := Hid.mk' (Gr.call G.out g3)
        go_wp2_with fail
        go_ret
        exact ⟨by rw [ANY.out]; rfl, G3.out⟩
      · obtain ⟨g, rfl⟩ := hsh (by cases L with | nil => exact absurd rfl hL | cons a t => simp)
        have hlE := HE.out.len8
        have MT := Hid.mk' (Match_any ev (L.map fun x => x.1.f) ad cap g 0 vk m wr (by unfold maxLen; omega) (Or.inr (HE.out.gr G.out).at') HE.out.wf (by have := HLN.out; rw [List.length_map]; omega) (owns_lt O.out) (fis_of O.out FW.out) (fun f hf => by
          obtain ⟨x, hx, rfl⟩ := List.mem_map.1 hf
          have := (FW.out x hx).len; unfold maxLen; omega) (fun f hf => by
          obtain ⟨x, hx, rfl⟩ := List.mem_map.1 hf
          exact (FW.out x hx).wf) (G.out.ml HM.out))
        have hme : mErr ev (L.map fun x => x.1.f) = 0 := by
          have : (L.map fun x => x.1.f).all filterOk = true := by
            rw [List.all_eq_true]
            intro f hf
            obtain ⟨x, hx, rfl⟩ := List.mem_map.1 hf
            exact (FW.out x hx).ok
          simp [mErr, HE.out.ok, this]
        have hmr : mRes ev (L.map fun x => x.1.f) = hits ev (L.map fun x => x.1.f) (L.map fun x => x.1.f).length := if_pos hme
        have HIT := Hid.mk' (hits_any ev (L.map fun x => x.1.f))
        have hle := hits_le ev (L.map fun x => x.1.f) (L.map fun x => x.1.f).length
        rw [hme, hmr, List.length_map] at MT
        rw [List.length_map] at HIT hle
        have hln := HLN.out
        clear hL hsh hme hmr
        have HBB : Hid (((L.map fun x => x.1.f).any fun f => mat ev f) = decide (0 < (hits ev (L.map fun x => x.1.f) L.length).length)) := by
          show _ = _
          rw [Bool.eq_iff_iff, ← HIT.out, decide_eq_true_iff]
        clear HIT
        generalize hits ev (L.map fun x => x.1.f) L.length = H at *
        go_wp2_with fail
        refine MT.out.mono ?_
        rintro e w3 ⟨v3, rfl, g3, ho3⟩
        obtain ⟨xa, xk, rfl, hxa⟩ := owns_shape ho3
        have G3 := Hid.mk' (Gr.call G.out g3)
        clear MT g3 ho3 hxa
        go_wp2_with fail
        go_ret
        exact ⟨by rw [ANY.out, HBB.out]; rfl, G3.out⟩
    · obtain ⟨x, hx, hk, hv'⟩ := HP.out.ent (mem_left he).1
      rw [hv'] at hnx hen
      rw [hk] at hnx hen
      unfold hv pk at hnx hen
      have IT2 := Hid.mk' hit2
      have G2 := Hid.mk' g2
      have B2 : Hid (W2.heap[w.heap.size]? = some (.cells #[.bool s.1, .int .i64 s.2] 142 (0, 0))) := (hoth _ (by omega)).trans HB1.out
      have hW2 : w.heap.size + 2 ≤ W2.heap.size := blk_lt IT2.out
      have HNE : Hid (Value.ownBlock (.slice va vm vk) ≠ some (w.heap.size + 1)) := by
        intro h5
        rcases O.out.2 with ⟨h6, _⟩ | ⟨b', cap', cur, h6, _, h7, _⟩
        · rw [h6] at h5; simp [Value.ownBlock] at h5
        · rw [h6] at h5
          have : b' = w.heap.size + 1 := by simpa [Value.ownBlock] using h5
          subst this
          rw [IT.out] at h7; cases h7
      have O2 : Hid (W2.ownsRow (w.heap.size + 1) 48 1 (.slice va vm vk) L.length (fcells L)) := by
        obtain ⟨q1, q2⟩ := O.out
        refine ⟨q1, ?_⟩
        rcases q2 with q2 | ⟨b', cap', cur, h6, h8, h7, q3⟩
        · exact Or.inl q2
        · refine Or.inr ⟨b', cap', cur, h6, h8, ?_, q3⟩
          rw [hoth b' (fun h9 => HNE.out (by rw [h6, h9]; rfl))]; exact h7
      have NXT : Hid (∀ (L' : List Hm), Hl X es (sdP s) (seen.push e.born) L' → ∀ (v' : Value) (w' : World), w'.heap[w.heap.size + 1]? = some (.mapIter (some MB) clock (seen.push e.born) clock) → Gr w w' → w'.heap[w.heap.size]? = some (.cells #[.bool s.1, .int .i64 s.2] 142 (0, 0)) → w'.ownsRow (w.heap.size + 1) 48 1 v' L'.length (fcells L') →
          (∃ (seen : Array Nat) (L : List Hm), Hid (w'.heap[w.heap.size + 1]? = some (.mapIter (some MB) clock seen clock)) ∧ Hid (Gr w w') ∧ Hid (w'.heap[w.heap.size]? = some (.cells #[.bool s.1, .int .i64 s.2] 142 (0, 0))) ∧ Hid (w'.ownsRow (w.heap.size + 1) 48 1 v' L.length (fcells L)) ∧ Hid (Hl X es (sdP s) seen L)) ∧
          (leftOf es (w'.iterSeen (w.heap.size + 1))).size < (leftOf es (wr.iterSeen (w.heap.size + 1))).size) := by
        intro L' hL' v' w' h1 h2 h3 h4
        refine ⟨⟨_, L', h1, h2, h3, h4, hL'⟩, ?_⟩
        rw [HMS.out]
        unfold World.iterSeen
        rw [h1]
        exact left_shrinks es seen e he
      have SKIP := Hid.mk' (fun hf => KL.out.skip HP.out (mem_left he).1 hx hk hf)
      have TAKE := Hid.mk' (fun hf => KL.out.take HP.out (mem_left he).1 (mem_left he).2 hx hk hf)
      have GX := Hid.mk' ((Gr.refl W2).alloc (.cells #[.int .i64 x.1.key.1, .int .i64 x.1.key.2, .slice x.2.1 x.1.f.length x.2.2, .int .i64 x.1.fr] 121))
      have HXB := Hid.mk' (heap_alloc_new W2 (.cells #[.int .i64 x.1.key.1, .int .i64 x.1.key.2, .slice x.2.1 x.1.f.length x.2.2, .int .i64 x.1.fr] 121))
      clear he hk hx hit2 g2 hoth hsz2 hv' G IT O KL HMS HB1
      have hlt2 : w.heap.size < W2.heap.size := by omega
      have b0 : W2.cell? ⟨w.heap.size, 0, none⟩ = some (.bool s.1) := by rw [cell_of_row _ _ _ _ _ _ B2.out]; rfl
      have b1 : W2.cell? ⟨w.heap.size, 1, none⟩ = some (.int .i64 s.2) := by rw [cell_of_row _ _ _ _ _ _ B2.out]; rfl
      have SD := Hid.mk' (side_any x.1 x.2.1 x.2.2 (W2.alloc (.cells #[.int .i64 x.1.key.1, .int .i64 x.1.key.2, .slice x.2.1 x.1.f.length x.2.2, .int .i64 x.1.fr] 121)))
      unfold hv at SD
      go_wp2_with fail
      clear hnx hen b0 b1
      generalize hW3 : W2.alloc (.cells #[.int .i64 x.1.key.1, .int .i64 x.1.key.2, .slice x.2.1 x.1.f.length x.2.2, .int .i64 x.1.fr] 121) = W3 at *
      have B3 := Hid.mk' (blk_gr GX.out B2.out)
      have b0 : W3.cell? ⟨w.heap.size, 0, none⟩ = some (.bool s.1) := by rw [cell_of_row _ _ _ _ _ _ B3.out]; rfl
      have b1 : W3.cell? ⟨w.heap.size, 1, none⟩ = some (.int .i64 s.2) := by rw [cell_of_row _ _ _ _ _ _ B3.out]; rfl
      have d0 : W3.cell? ⟨W2.heap.size, 0, none⟩ = some (.int .i64 x.1.key.1) := by rw [cell_of_row _ _ _ _ _ _ HXB.out]; rfl
      have d1 : W3.cell? ⟨W2.heap.size, 1, none⟩ = some (.int .i64 x.1.key.2) := by rw [cell_of_row _ _ _ _ _ _ HXB.out]; rfl
      have d2 : W3.cell? ⟨W2.heap.size, 2, none⟩ = some (.slice x.2.1 x.1.f.length x.2.2) := by rw [cell_of_row _ _ _ _ _ _ HXB.out]; rfl
      have d3 : W3.cell? ⟨W2.heap.size, 3, none⟩ = some (.int .i64 x.1.fr) := by rw [cell_of_row _ _ _ _ _ _ HXB.out]; rfl
      have SD2 : Hid (∀ W, W = W3.drew → Calls Tryz.prog 117 #[.agg #[.int .i64 x.1.key.1, .int .i64 x.1.key.2, .slice x.2.1 x.1.f.length x.2.2, .int .i64 x.1.fr]] W fun e w' => e = .returned (.agg #[.bool (sd x.1).1, .int .i64 (sd x.1).2]) ∧ Gr W3 w' ∧ w'.cell? ⟨w.heap.size, 0, none⟩ = some (.bool s.1) ∧ w'.cell? ⟨w.heap.size, 1, none⟩ = some (.int .i64 s.2)) := by
        intro W hW
        subst hW
        refine (side_any x.1 x.2.1 x.2.2 W3.drew).mono ?_
        rintro e w' ⟨h1, h2⟩
        have g : Gr W3 w' := Gr.call (Gr.refl W3).drew h2
        have z := blk_gr g B3.out
        exact ⟨h1, g, by rw [cell_of_row _ _ _ _ _ _ z]; rfl, by rw [cell_of_row _ _ _ _ _ _ z]; rfl⟩
      clear SD hW3
      by_cases hA : sd x.1 = s
      · have KL2 := Hid.mk' (TAKE.out (by simp [sdP, hA]))
        rw [hA] at SD2
        clear SKIP TAKE
        go_region_with (go_at_call 117; refine (SD2.out _ rfl).mono ?_; rintro e w4 ⟨rfl, g4, b0', b1'⟩)
        all_goals
          have GY := Hid.mk' (Gr.call GX.out g4)
          have XC := Hid.mk' (blk_gr g4 HXB.out)
          have O4 := Hid.mk' (ownsGr O2.out GY.out)
          have G4 := Hid.mk' (Gr.call G2.out GY.out)
          have hs4 : w.heap.size + 1 < w4.heap.size := Nat.lt_of_lt_of_le (by omega) GY.out.size
          clear g4 b0' b1' b0 b1 d0 d1 d2 d3
          have g2 : w4.cell? ⟨W2.heap.size, 2, none⟩ = some (.slice x.2.1 x.1.f.length x.2.2) := by rw [cell_of_row _ _ _ _ _ _ XC.out]; rfl
          go_wp2_with (at_builtin; refine wpList_append_own _ rfl _ _ 190 rfl (w.heap.size + 1) 48 i0 _ 1 24 Tryz.underlying190 hi hz0 hz1 hz2 rfl (by decide) _ _ _ rfl (O4.out.alloc _) ⟨w4.heap.size, 0, none⟩ 1 1 [.slice x.2.1 x.1.f.length x.2.2] rfl rfl (World.news_of_block (new_atK rfl)) ?k2 ?k3 ?k4 ?k5 ?_)
          case k2 => intro t ht; simp at ht; subst ht; rfl
          case k3 => have := HLN.out; unfold maxLen; omega
          case k4 => have := HLN.out; omega
          case k5 => simp; omega
          intro v5 w5 ho5 hg5 _
          have low : ∀ q, Value.ownBlock (.slice va vm vk) = some q → w.heap.size + 1 ≤ q := own_low O4.out
          have G5 : Hid (Gr w w5) := Below.grown (G4.out.alloc _) hg5 (Nat.le_trans G4.out.size (by simp)) (fun q hq => by have := low q hq; omega)
          have I5 : Hid (w5.heap[w.heap.size + 1]? = some (.mapIter (some MB) clock (seen.push e.born) clock)) := by
            show _ = _
            rw [hg5.block _ (by simp; omega) (fun h5 => HNE.out h5.symm), Below.heap_alloc _ _ _ (by omega), GY.out.block _ (by omega)]
            exact IT2.out
          have B5 : Hid (w5.heap[w.heap.size]? = some (.cells #[.bool s.1, .int .i64 s.2] 142 (0, 0))) := by
            show _ = _
            rw [hg5.block _ (by simp; omega) (fun h5 => by have := low _ h5.symm; omega), Below.heap_alloc _ _ _ (by omega), GY.out.block _ (by omega)]
            exact B2.out
          have O5 : w5.ownsRow (w.heap.size + 1) 48 1 v5 (L ++ [x]).length (fcells (L ++ [x])) := by
            rw [fcells_snoc, List.length_append]; exact ho5
          have N1 := Hid.mk' (NXT.out (L ++ [x]) KL2.out v5 w5 I5.out G5.out B5.out O5)
          obtain ⟨ya, ym, yk, rfl⟩ := owns_slice ho5
          clear ho5 hg5 O4 O2 NXT O5 low
          go_wp2_with fail
          exact N1.out
      · have SK := Hid.mk' (SKIP.out (by simp [sdP, hA]))
        by_cases hB : (sd x.1).1 = s.1
        · have hC : (sd x.1).2 ≠ s.2 := fun e => hA (Prod.ext hB e)
          have hC' : ((sd x.1).2 == s.2) = false := by simpa using hC
          rw [hB] at SD2
          clear SKIP TAKE
          go_region_with (go_at_call 117; refine (SD2.out _ rfl).mono ?_; rintro e w4 ⟨rfl, g4, b0', b1'⟩)
          all_goals
            have GY := Hid.mk' (Gr.call GX.out g4)
            have N1 := Hid.mk' (NXT.out L SK.out (.slice va vm vk) w4 ((GY.out.block _ (by omega)).trans IT2.out) (Gr.call G2.out GY.out) (blk_gr GY.out B2.out) (ownsGr O2.out GY.out))
            clear NXT g4 b0' b1' b0 b1 d0 d1 d2 d3
            go_wp2_with fail
            exact ⟨⟨_, _, _, _, _, _, _, _, _, _, _, _, _, _, _, N1.out.1, rfl⟩, N1.out.2⟩
        · have hB' : ((sd x.1).1 == s.1) = false := by simpa using hB
          clear SKIP TAKE
          go_region_with (go_at_call 117; refine (SD2.out _ rfl).mono ?_; rintro e w4 ⟨rfl, g4, b0', b1'⟩)
          all_goals
            have GY := Hid.mk' (Gr.call GX.out g4)
            have N1 := Hid.mk' (NXT.out L SK.out (.slice va vm vk) w4 ((GY.out.block _ (by omega)).trans IT2.out) (Gr.call G2.out GY.out) (blk_gr GY.out B2.out) (ownsGr O2.out GY.out))
            clear NXT g4 b0' b1' b0 b1 d0 d1 d2 d3
            go_wp2_with fail
            exact ⟨⟨_, _, _, _, _, _, _, _, _, _, _, _, _, _, _, N1.out.1, rfl⟩, N1.out.2⟩
end Go.Proofs.YtecnfgikbmcgoaaGreat
namespace Go.Proofs.YtecnfgikbmcgoaaGreat
open Go.RowKit

def pcOf (c : Cl) : Pc (List Atr) := ⟨c.num, c.at', c.lost, c.box.map (·.1)⟩
/-- All is well with a tree: what always holds, which keys are about, how much is to do, what was lost. -/
structure Gd (T : Tc) (nxt : Nat → Nat → Int) (rank : Nat → Nat → Nat) (home : Int → Nat) (Ks : List Ky) (s : Ts) (cs : List (Pc (List Atr))) (n M : Nat) : Prop where
  I : Inv cov T.adj nxt home okF s
  K : Kin Ks s
  W : Wgt cov rank T.nb Ks.length s n
  L : ∀ c ∈ cs, 0 ≤ c.lost ∧ c.lost + n ≤ M ∧ c.box.length ≤ 16
  le : n ≤ M
section
variable {T : Tc} {nxt : Nat → Nat → Int} {rank : Nat → Nat → Nat} {home : Int → Nat} {Ks : List Ky} {s : Ts} {cs : List (Pc (List Atr))} {n M : Nat}
theorem Gd.len (G : Gd T nxt rank home Ks s cs n M) (b : Nat) : (s.held b).length ≤ Ks.length := (G.I.srt b).len (G.K.held b)
theorem Gd.sm (S : Sh T nxt rank) (G : Gd T nxt rank home Ks s cs n M) (hK : Ks.length ≤ 100000) (hM : M < 549755813888) : Sm T s :=
  ⟨fun b _ => Nat.le_trans (G.len b) hK, fun a b => by have := G.W.len S.S S.Z.inn G.I.nq a b; have := G.le; omega⟩
theorem Gd.step (S : Sh T nxt rank) (G : Gd T nxt rank home Ks s cs n M) {a b : Nat} (ha : T.adj a b = true) {m : Ms (List Wnt) (List Atr)} {r : List (Ms (List Wnt) (List Atr))} (hq : s.q a b = m :: r) :
    ∃ n', n' < n ∧ Gd T nxt rank home Ks (s.nstep cov T.adj mat a b m) (hrs mat (s.held b) a m cs) n' M := by
  obtain ⟨n', h1, h2⟩ := step_wgt (mt := mat) preF S.N S.S S.Z.inn G.I G.len G.W ha hq
  refine ⟨n', h1, nstep_inv S.N G.I ha hq, nstep_kin G.K hq, h2, fun c hc => ?_, by have := G.le; omega⟩
  unfold hrs at hc
  split at hc
  · rename_i e
    obtain ⟨d, hd, rfl⟩ := List.mem_map.1 hc
    have k1 := G.L d hd
    have k2 := hearAt_lost (mt := mat) (s.held b) (false, (a : Int)) e d
    exact ⟨by omega, by omega, k2.2.2 k1.2.2⟩
  · have k1 := G.L c hc
    exact ⟨k1.1, by omega, k1.2.2⟩
theorem Gd.sub (S : Sh T nxt rank) (G : Gd T nxt rank home Ks s cs n M) (k : Ky) (f : List Wnt) (hf : okF f) (hb : home k.1 < T.nb) (hn : ∀ g ∈ s.held (home k.1), g.key ≠ k) (hk : k ∈ Ks) :
    Gd T nxt rank home Ks (s.turn cov T.adj (home k.1) (ins ⟨k, f, -1⟩ (s.held (home k.1)))) cs (n + T.nb * (Ks.length + 1)) (M + T.nb * (Ks.length + 1)) := by
  refine ⟨sub_inv S.N G.I k f hf hn, turn_kin G.K (fun x hx => ?_), sub_wgt preF S.S G.I G.W k f hf hb hn (G.len _), fun c hc => ?_, Nat.add_le_add_right G.le _⟩
  · rcases mem_ins.1 hx with rfl | ⟨hx, _⟩
    · exact hk
    · exact G.K.held _ x hx
  · have k1 := G.L c hc
    exact ⟨k1.1, by omega, k1.2.2⟩
theorem Gd.uns (S : Sh T nxt rank) (G : Gd T nxt rank home Ks s cs n M) {x : Hw} (hb : home x.key.1 < T.nb) (hm : x ∈ s.held (home x.key.1)) :
    Gd T nxt rank home Ks (s.turn cov T.adj (home x.key.1) (del x.key (s.held (home x.key.1)))) cs (n + T.nb * (Ks.length + 1)) (M + T.nb * (Ks.length + 1)) := by
  refine ⟨uns_inv S.N G.I x.key, turn_kin G.K (fun y hy => G.K.held _ y (mem_del.1 hy).1), uns_wgt preF S.N S.S G.I G.W hb hm (G.len _), fun c hc => ?_, Nat.add_le_add_right G.le _⟩
  have k1 := G.L c hc
  exact ⟨k1.1, by omega, k1.2.2⟩
theorem Gd.pub (S : Sh T nxt rank) (G : Gd T nxt rank home Ks s cs n M) (b : Nat) (hb : b < T.nb) (fr : Int) (fs : Bool × Int) (e : List Atr) :
    Gd T nxt rank home Ks (s.come T.adj mat b fr e) (cs.map (hearAt mat (s.held b) fs e)) (n + T.nb) (M + T.nb + 1) := by
  refine ⟨come_inv G.I b fr e, ⟨G.K.held, fun x y k f hm => G.K.q x y k f ?_⟩, come_wgt S.S G.W b hb fr e, fun c hc => ?_, by have := G.le; omega⟩
  · simp only [TS.come] at hm
    split at hm
    · simpa using hm
    · exact hm
  · obtain ⟨d, hd, rfl⟩ := List.mem_map.1 hc
    have k1 := G.L d hd
    have k2 := hearAt_lost (mt := mat) (s.held b) fs e d
    exact ⟨by omega, by omega, k2.2.2 k1.2.2⟩
theorem Gd.mono (G : Gd T nxt rank home Ks s cs n M) {n' M' : Nat} (h1 : n ≤ n') (h2 : M + n' ≤ M' + n) (h3 : n' ≤ M') : Gd T nxt rank home Ks s cs n' M' :=
  ⟨G.I, G.K, G.W.mono h1, fun c hc => by have k1 := G.L c hc; exact ⟨k1.1, by omega, k1.2.2⟩, h3⟩
end
/-- A tree in memory, its clients plainly. -/
def Tf (T : Tc) (r : Nat → Rl) (w : World) (cs : List (Pc (List Atr))) (s : Ts) : Prop := ∃ cls, Tw T r w cls s ∧ cls.map pcOf = cs
theorem Tf.gr {T : Tc} {r : Nat → Rl} {w w' : World} {cs : List (Pc (List Atr))} {s : Ts} (h : Tf T r w cs s) (g : Gr w w') : Tf T r w' cs s := by
  obtain ⟨cls, h1, h2⟩ := h
  exact ⟨cls, h1.gr g, h2⟩
theorem Tf.tlt {T : Tc} {r : Nat → Rl} {w : World} {cs : List (Pc (List Atr))} {s : Ts} (h : Tf T r w cs s) : T.TB < w.heap.size := by
  obtain ⟨cls, h1, h2⟩ := h; exact h1.tlt
theorem Tf.b {T : Tc} {r : Nat → Rl} {w : World} {cs : List (Pc (List Atr))} {s : Ts} (h : Tf T r w cs s) : Tb T r w := by
  obtain ⟨cls, h1, h2⟩ := h; exact h1.b
theorem Tf.find {T : Tc} {r : Nat → Rl} {w : World} {cs : List (Pc (List Atr))} {s : Ts} (h : Tf T r w cs s) {c : Pc (List Atr)} (hc : c ∈ cs) : ∃ cls x, Tw T r w cls s ∧ cls.map pcOf = cs ∧ x ∈ cls ∧ pcOf x = c := by
  obtain ⟨cls, h1, rfl⟩ := h
  obtain ⟨x, hx, rfl⟩ := List.mem_map.1 hc
  exact ⟨cls, x, h1, rfl, hx, rfl⟩
end Go.Proofs.YtecnfgikbmcgoaaGreat
namespace Go.Proofs.YtecnfgikbmcgoaaGreat
open Go.RowKit

def nOf (zs : List Int) (i : Nat) : Int := if i < zs.length then iat zs i else (i : Int)
def atrF (zs : List Int) (i : Nat) : Atr := ⟨nameF (i : Int), valK ((nOf zs i).tdiv 4), valN ((nOf zs i).tdiv 4), valS ((nOf zs i).tdiv 4)⟩
def ke (zs : List Int) : Nat → List Atr
  | 0 => []
  | k + 1 => if pickF (nOf zs k) 4 = 3 then ke zs k else ke zs k ++ [atrF zs k]
def dAtr : Atr := ⟨⟨#[100]⟩, valK 0, valN 0, valS 0⟩
/-- The event that 'event' makes. -/
def evF (zs : List Int) : List Atr := if ke zs 3 = [] then [dAtr] else ke zs 3

theorem ke_len (zs : List Int) : ∀ k, (ke zs k).length ≤ k
  | 0 => by simp [ke]
  | k + 1 => by
    have := ke_len zs k
    unfold ke; split
    · omega
    · simp; omega
theorem ke_wf (zs : List Int) : ∀ k, ∀ x ∈ ke zs k, x.Wf
  | 0 => by simp [ke]
  | k + 1 => by
    have ih := ke_wf zs k
    have h1 := name_size (k : Int)
    have h3 := val_bd ((nOf zs k).tdiv 4)
    have h4 := valS_size ((nOf zs k).tdiv 4)
    unfold ke; split
    · exact ih
    · intro x hx
      simp at hx
      rcases hx with hx | rfl
      · exact ih x hx
      · constructor <;> simp only [atrF, maxLen, minI, maxI] <;> omega
theorem evF_wf (zs : List Int) : ∀ x ∈ evF zs, x.Wf := by
  unfold evF; split
  · intro x hx
    simp at hx; subst hx
    have h3 := val_bd 0
    have h4 := valS_size 0
    have e : (⟨#[100]⟩ : ByteArray).size = 1 := rfl
    constructor <;> simp only [dAtr, maxLen, minI, maxI] <;> omega
  · exact ke_wf zs 3
theorem evF_len (zs : List Int) : 1 ≤ (evF zs).length ∧ (evF zs).length ≤ 3 := by
  have := ke_len zs 3
  unfold evF; split
  · simp
  · rename_i h
    have hp : 0 < (ke zs 3).length := by
      cases hk : ke zs 3 with
      | nil => exact absurd hk h
      | cons => simp
    omega

theorem one_ok (x : Atr) (hn : nameOk x.a = true) (hv : valOk x.k x.n x.s = true) : evOk [x] = true := by
  simp [evOk, okAt, aat, hn, hv, List.range_succ]
theorem two_ok (x y : Atr) (hn : nameOk x.a = true) (hv : valOk x.k x.n x.s = true) (hn' : nameOk y.a = true) (hv' : valOk y.k y.n y.s = true) (h : Op.bytesLess x.a.toList y.a.toList = true) : evOk [x, y] = true := by
  simp [evOk, okAt, aat, hn, hv, hn', hv', h, List.range_succ]
theorem three_ok (x y z : Atr) (hn : nameOk x.a = true) (hv : valOk x.k x.n x.s = true) (hn' : nameOk y.a = true) (hv' : valOk y.k y.n y.s = true) (hn2 : nameOk z.a = true) (hv2 : valOk z.k z.n z.s = true)
    (h : Op.bytesLess x.a.toList y.a.toList = true) (h' : Op.bytesLess y.a.toList z.a.toList = true) : evOk [x, y, z] = true := by
  simp [evOk, okAt, aat, hn, hv, hn', hv', hn2, hv2, h, h', List.range_succ]
theorem names_rise : Op.bytesLess (nameF 0).toList (nameF 1).toList = true ∧ Op.bytesLess (nameF 1).toList (nameF 2).toList = true ∧ Op.bytesLess (nameF 0).toList (nameF 2).toList = true := by
  simp [nameF, ByteArray.toList_eq, Op.bytesLess]
theorem evF_ok (zs : List Int) : evOk (evF zs) = true := by
  obtain ⟨r1, r2, r3⟩ := names_rise
  have n0 : nameOk (atrF zs 0).a = true := name_ok ((0 : Nat) : Int)
  have n1 : nameOk (atrF zs 1).a = true := name_ok ((1 : Nat) : Int)
  have n2 : nameOk (atrF zs 2).a = true := name_ok ((2 : Nat) : Int)
  have v0 : valOk (atrF zs 0).k (atrF zs 0).n (atrF zs 0).s = true := val_ok _
  have v1 : valOk (atrF zs 1).k (atrF zs 1).n (atrF zs 1).s = true := val_ok _
  have v2 : valOk (atrF zs 2).k (atrF zs 2).n (atrF zs 2).s = true := val_ok _
  have d : evOk [dAtr] = true := one_ok dAtr (by decide) (val_ok 0)
  by_cases h0 : pickF (nOf zs 0) 4 = 3 <;> by_cases h1 : pickF (nOf zs 1) 4 = 3 <;> by_cases h2 : pickF (nOf zs 2) 4 = 3 <;> simp [evF, ke, h0, h1, h2]
  · exact d
  · exact one_ok _ n2 v2
  · exact one_ok _ n1 v1
  · exact two_ok _ _ n1 v1 n2 v2 r2
  · exact one_ok _ n0 v0
  · exact two_ok _ _ n0 v0 n2 v2 r3
  · exact two_ok _ _ n0 v0 n1 v1 r1
  · exact three_ok _ _ _ n0 v0 n1 v1 n2 v2 r1 r2

end Go.Proofs.YtecnfgikbmcgoaaGreat
namespace Go.Proofs.YtecnfgikbmcgoaaGreat
open Go.RowKit

theorem Tryz.infoAttrC : (Tryz.prog.info? 74).map (fun i => (i.zero, i.size, i.bytes)) = some (some (.agg #[.string ⟨#[]⟩, .int .i64 0, .int .i64 0, .string ⟨#[]⟩]), 4, 48) := by kernel_rfl
theorem EvM.len {w : World} {ad : Option Addr} {l : List Atr} (h : EvM w ad l) : 1 ≤ l.length ∧ l.length ≤ 8 := by
  have := h.ok
  simp only [evOk, Bool.and_eq_true, decide_eq_true_eq] at this
  omega
/-- What each place of the copying statement yields. -/
def Rce (B g n q : Nat) (y : Atr) (j : Nat) (x : Value) (_w : World) : Prop :=
  match j with
  | 0 => x = .slice (some ⟨g, 0, none⟩) n n
  | 1 => x = .int .i64 q
  | 2 => x = .pointer (some ⟨B, 0, none⟩)
  | 3 => x = .string y.a
  | 4 => x = .string y.a
  | 5 => x = .pointer (some ⟨B, 1, none⟩)
  | 6 => x = .agg #[.int .i64 y.k, .int .i64 y.n, .string y.s]
  | 7 => x = .agg #[.int .i64 y.k, .int .i64 y.n, .string y.s]
  | 8 => x = .agg #[.string y.a, .int .i64 y.k, .int .i64 y.n, .string y.s]
  | 9 => x = .pointer (some ⟨g, q * 4, none⟩)
  | _ => True
theorem Rce.st {B g n q : Nat} {y : Atr} (j : Nat) (x : Value) (wa wb : World) (h : Rce B g n q y j x wa) : Rce B g n q y j x wb := by
  unfold Rce at h ⊢; split <;> first | exact h | trivial
set_option maxRecDepth 100000 in
set_option maxHeartbeats 4000000 in
theorem copyOfEvent_any (f : List Atr) (ad : Option Addr) (cap : Nat) (w : World) (h : EvM w ad f) :
    Calls Tryz.prog 55 #[.slice ad f.length cap] w fun e w' => ∃ v, e = .returned v ∧ w'.ownsRow w.heap.size 74 4 v f.length (acells f) ∧ Gr w w' := by
  obtain ⟨i0, hi, hz0, hz1, hz2⟩ := info_parts Tryz.infoAttrC
  have HF := Hid.mk' h
  have hlen := h.len
  obtain ⟨b, off, rfl, hbw, hat⟩ := h.at'
  have HAT := Hid.mk' hat
  clear h hat
  go_enter Tryz.func55, Tryz.ntmps55
  go_wp2_with (at_make; refine wpList_make_full _ rfl _ _ 65 rfl w.heap.size 74 i0 _ 4 Tryz.underlying65 hi hz0 hz1 _ _ _ _ f.length rfl rfl (by omega) (by omega) ?b2 ?b3 (Nat.le_refl _) ?_)
  case b2 => rw [hz2]; omega
  case b3 => unfold maxLen; omega
  intro w1 hown1 hgrow1
  have G1 : Hid (Gr w w1) := Below.grown (Gr.refl w) hgrow1 (Nat.le_refl _) (fun b hb => by cases hb)
  have O1 := Hid.mk' hown1
  clear hown1 hgrow1
  go_wp2_with fail
  go_loopw [11] (fun i wr => ∃ (q : Nat) (xs : List Value), q ≤ f.length ∧ i = .int .i64 q ∧ Hid (Gr w wr) ∧ Hid (xs.take (q * 4) = acells (f.take q)) ∧ Hid (wr.ownsRow w.heap.size 74 4 (.slice (some ⟨w.heap.size, 0, none⟩) f.length f.length) f.length xs)) (fun i _ => f.length - (intOf i).toNat)
  case atStart => exact ⟨0, _, Nat.zero_le _, rfl, G1, rfl, O1⟩
  case round =>
    obtain ⟨q, xs, hq, rfl, G, HX, O⟩ := hrel
    clear G1 O1
    by_cases hlt : q < f.length
    · have hxl : xs.length = f.length * 4 := O.out.1
      obtain ⟨d1, d2, d3, d4⟩ := (HAT.out.gr G.out hbw) q hlt
      have hbw2 : b < wr.heap.size := G.out.lt hbw
      have okn : nameOk (aat f q).a = true ∧ valOk (aat f q).k (aat f q).n (aat f q).s = true := by
        have h1 := HF.out.ok
        simp only [evOk, Bool.and_eq_true, List.all_eq_true] at h1
        have h2 := h1.2 q (by simpa using hlt)
        simp only [okAt, Bool.and_eq_true] at h2
        exact ⟨h2.1.1, h2.1.2⟩
      have hsa : (aat f q).a.size ≤ 255 := by
        have := okn.1
        simp only [nameOk, Bool.and_eq_true, decide_eq_true_eq] at this
        omega
      have hss : (aat f q).s.size ≤ 255 := by
        have := val_size okn.2
        omega
      have HSA := Hid.mk' hsa
      have HSS := Hid.mk' hss
      have WT := Hid.mk' (acells_take f q hlt)
      clear hsa hss okn
      generalize aat f q = y at *
      have HNEW := heap_alloc_new wr (.cells #[.string y.a, .int .i64 y.k, .int .i64 y.n, .string y.s] 74)
      have gal : Gr wr (wr.alloc (.cells #[.string y.a, .int .i64 y.k, .int .i64 y.n, .string y.s] 74)) := (Gr.refl wr).alloc _
      have HHN := Hid.mk' HNEW
      have GAL := Hid.mk' gal
      clear HNEW gal
      go_wp2_with fail
      have hws : w.heap.size < wr.heap.size := by
        obtain ⟨r0, rc0⟩ := row_some O.out 0 (by omega)
        exact World.block_lt_of_cell? _ _ rc0
      refine region_S (c := 16) rfl 10 (by rfl) (Rce wr.heap.size w.heap.size f.length q y)
        (Efr [.slice (some ⟨b, off, none⟩) f.length cap, undef, .slice none 0 0, .slice (some ⟨w.heap.size, 0, none⟩) f.length f.length, .int .i64 q, .pointer (some ⟨wr.heap.size, 0, none⟩), .slice (some ⟨b, off, none⟩) f.length cap, .int .i64 f.length, .slice (some ⟨w.heap.size, 0, none⟩) f.length f.length, .slice (some ⟨b, off, none⟩) f.length cap, .int .i64 f.length, .int .i64 q, .bool true, .int .i64 q, .pointer (some ⟨b, off + q * 4, none⟩), .agg #[.string y.a, .int .i64 y.k, .int .i64 y.n, .string y.s]] [u26, undef] 10)
        (fun w' => Gr (wr.alloc (.cells #[.string y.a, .int .i64 y.k, .int .i64 y.n, .string y.s] 74)) w') (fun _ wa wb => Gr wa wb) (fun a i x hi h => Efr.put a i x hi h) (fun a h => by have := h.sz; simp at this; omega) (fun i wa wb h g => Gr.call h g) (fun i j x wa wb _ h g => Rce.st j x wa wb h) ?front ?last ?e0 (Gr.refl _).drew
      case e0 => exact ⟨rfl, [u16, u17, u18, u19, u20, u21, u22, u23, u24, u25], rfl, rfl⟩
      case front =>
        intro i o a' w2 ho hi2 hE hW hd K hK
        have hA := blk_gr hW HHN.out
        have c0 : w2.cell? ⟨wr.heap.size, 0, none⟩ = some (.string y.a) := by rw [cell_of_row _ _ _ _ _ _ hA]; rfl
        have c1 : w2.cell? ⟨wr.heap.size, 1, none⟩ = some (.int .i64 y.k) := by rw [cell_of_row _ _ _ _ _ _ hA]; rfl
        have c2 : w2.cell? ⟨wr.heap.size, 2, none⟩ = some (.int .i64 y.n) := by rw [cell_of_row _ _ _ _ _ _ hA]; rfl
        have c3 : w2.cell? ⟨wr.heap.size, 3, none⟩ = some (.string y.s) := by rw [cell_of_row _ _ _ _ _ _ hA]; rfl
        have t3 : a'.tmps[3]?.getD undef = .slice (some ⟨w.heap.size, 0, none⟩) f.length f.length := (evn a' 3).symm.trans (hE.at_ (by simp))
        have t4 : a'.tmps[4]?.getD undef = .int .i64 q := (evn a' 4).symm.trans (hE.at_ (by simp))
        have t5 : a'.tmps[5]?.getD undef = .pointer (some ⟨wr.heap.size, 0, none⟩) := (evn a' 5).symm.trans (hE.at_ (by simp))
        clear hE hA
        match i, ho, hi2, hd, hK with
        | 0, ho, _, hd, hK =>
          obtain rfl := Option.some.inj ho
          unfold Oper.wp
          go_simp
          exact hK _ _ (Gr.refl _) rfl
        | 1, ho, _, hd, hK =>
          obtain rfl := Option.some.inj ho
          unfold Oper.wp
          go_simp
          exact hK _ _ (Gr.refl _) rfl
        | 2, ho, _, hd, hK =>
          obtain rfl := Option.some.inj ho
          unfold Oper.wp
          go_simp
          exact hK _ _ (Gr.refl _) rfl
        | 3, ho, _, hd, hK =>
          obtain rfl := Option.some.inj ho
          have e0 : a'.eval (.tmp 18) = .pointer (some ⟨wr.heap.size, 0, none⟩) := hd ⟨2, .data⟩ (by simp) rfl
          rw [evn] at e0
          unfold Oper.wp
          go_simp
          exact hK _ _ (Gr.refl _) rfl
        | 4, ho, _, hd, hK =>
          obtain rfl := Option.some.inj ho
          have e0 : a'.eval (.tmp 19) = .string y.a := hd ⟨3, .data⟩ (by simp) rfl
          rw [evn] at e0
          unfold Oper.wp
          go_simp
          refine (CloneS w2 y.a w2 HSA.out (Gr.refl _)).mono ?_
          rintro e w3 ⟨rfl, g3⟩
          go_simp
          exact hK _ _ g3 rfl
        | 5, ho, _, hd, hK =>
          obtain rfl := Option.some.inj ho
          unfold Oper.wp
          go_simp
          exact hK _ _ (Gr.refl _) rfl
        | 6, ho, _, hd, hK =>
          obtain rfl := Option.some.inj ho
          have e0 : a'.eval (.tmp 21) = .pointer (some ⟨wr.heap.size, 1, none⟩) := hd ⟨5, .data⟩ (by simp) rfl
          rw [evn] at e0
          unfold Oper.wp
          go_simp
          exact hK _ _ (Gr.refl _) rfl
        | 7, ho, _, hd, hK =>
          obtain rfl := Option.some.inj ho
          have e0 : a'.eval (.tmp 22) = .agg #[.int .i64 y.k, .int .i64 y.n, .string y.s] := hd ⟨6, .data⟩ (by simp) rfl
          rw [evn] at e0
          unfold Oper.wp
          go_simp
          refine (copyOfValue_any y.k y.n y.s w2 HSS.out).mono ?_
          rintro e w3 ⟨rfl, g3⟩
          go_simp
          exact hK _ _ g3 rfl
        | 8, ho, _, hd, hK =>
          obtain rfl := Option.some.inj ho
          have e0 : a'.eval (.tmp 20) = .string y.a := hd ⟨4, .data⟩ (by simp) rfl
          have e2 : a'.eval (.tmp 23) = .agg #[.int .i64 y.k, .int .i64 y.n, .string y.s] := hd ⟨7, .data⟩ (by simp) rfl
          rw [evn] at e0 e2
          unfold Oper.wp
          go_simp
          exact hK _ _ (Gr.refl _) rfl
        | 9, ho, _, hd, hK =>
          obtain rfl := Option.some.inj ho
          have e0 : a'.eval (.tmp 16) = .slice (some ⟨w.heap.size, 0, none⟩) f.length f.length := hd ⟨0, .data⟩ (by simp) rfl
          have e1 : a'.eval (.tmp 17) = .int .i64 q := hd ⟨1, .data⟩ (by simp) rfl
          rw [evn] at e0 e1
          unfold Oper.wp
          go_simp
          exact hK _ _ (Gr.refl _) rfl
        | k + 10, _, hi2, _, _ => exact absurd hi2 (by omega)
      case last =>
        intro o a' w2 ho hE hW hd K hK
        obtain rfl := Option.some.inj ho
        have e0 : a'.eval (.tmp 25) = .pointer (some ⟨w.heap.size, q * 4, none⟩) := hd 9 (by omega)
        have e1 : a'.eval (.tmp 24) = .agg #[.string y.a, .int .i64 y.k, .int .i64 y.n, .string y.s] := hd 8 (by omega)
        rw [evn] at e0 e1
        have g5 := Gr.call GAL.out hW
        have O5 := Hid.mk' (ownsGr O.out g5)
        have G5 := Hid.mk' (Gr.call G.out g5)
        obtain ⟨r0, rc0⟩ := row_some O5.out (q * 4) (by omega)
        have rf0 := World.ownsRow.frozenAt O5.out (q * 4)
        obtain ⟨r1, rc1⟩ := row_some O5.out (q * 4 + 1) (by omega)
        have rf1 := World.ownsRow.frozenAt O5.out (q * 4 + 1)
        obtain ⟨r2, rc2⟩ := row_some O5.out (q * 4 + 1 + 1) (by omega)
        have rf2 := World.ownsRow.frozenAt O5.out (q * 4 + 1 + 1)
        obtain ⟨r3, rc3⟩ := row_some O5.out (q * 4 + 1 + 1 + 1) (by omega)
        have rf3 := World.ownsRow.frozenAt O5.out (q * 4 + 1 + 1 + 1)
        have O6 := Hid.mk' (owns_set4 O5.out (q * 4) (.string y.a) (.int .i64 y.k) (.int .i64 y.n) (.string y.s))
        have G6 := Hid.mk' (gr_set4 (Nat.le_refl _) G5.out (.string y.a) (.int .i64 y.k) (.int .i64 y.n) (.string y.s) (k := q * 4))
        have X6 : Hid ((set4 xs (q * 4) (.string y.a) (.int .i64 y.k) (.int .i64 y.n) (.string y.s)).take ((q + 1) * 4) = acells (f.take (q + 1))) := by
          show _ = _
          rw [show (q + 1) * 4 = q * 4 + 4 by omega, take4 _ _ _ _ _ _ (by omega), HX.out, WT.out]
        obtain ⟨z, hz, ht⟩ := hE.ts
        have hdf := hE.df
        clear O5 G5 O G HX g5 hd hE hW
        match z, hz with
        | [z0, z1, z2, z3, z4, z5, z6, z7, z8, z9], _ =>
        obtain ⟨tm, df⟩ := a'
        simp only at ht hdf
        subst ht
        subst hdf
        obtain rfl : z9 = .pointer (some ⟨w.heap.size, q * 4, none⟩) := e0
        obtain rfl : z8 = .agg #[.string y.a, .int .i64 y.k, .int .i64 y.n, .string y.s] := e1
        unfold Oper.wp
        go_simp
        refine hK _ _ ?_
        go_wp2_with fail
        exact ⟨⟨q + 1, _, hlt, by simp, G6, X6, O6⟩, measM_dec _ _ hlt⟩
    · have hql : q = f.length := by omega
      have OF : Hid (wr.ownsRow w.heap.size 74 4 (.slice (some ⟨w.heap.size, 0, none⟩) f.length f.length) f.length (acells f)) := by
        have e : xs = acells f := by
          have h1 := HX.out
          have h2 := O.out.1
          rw [hql, List.take_of_length_le (by omega), List.take_of_length_le (Nat.le_refl _)] at h1
          exact h1
        rw [← e]; exact O.out
      clear O HX
      go_wp2_with fail
      go_ret
      exact ⟨_, rfl, OF.out, G.out⟩
end Go.Proofs.YtecnfgikbmcgoaaGreat
