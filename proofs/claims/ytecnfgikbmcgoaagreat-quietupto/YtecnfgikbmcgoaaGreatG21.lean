import Derived.Test.YtecnfgikbmcgoaaGreatG20
namespace Go.Proofs.YtecnfgikbmcgoaaGreat
open Go.RowKit
open Go.Maps (Keyed)
open Go.ChangeMaps (setBlock)

/-- What was collected so far. -/
structure Hl (X : List Hm) (es : Array MapEntry) (p : Hm → Bool) (seen : Array Nat) (L : List Hm) : Prop where
  mem : ∀ x, x ∈ L ↔ ∃ e ∈ es.toList, seen.contains e.born = true ∧ x ∈ X ∧ e.key = pk x.1.key ∧ p x = true
  nd : L.Pairwise fun x y => x.1.key ≠ y.1.key
theorem Hl.len {X : List Hm} {es : Array MapEntry} {p : Hm → Bool} {seen : Array Nat} {L : List Hm} (h : Hl X es p seen L) : L.length ≤ X.length := by
  have := keys_le (L.map fun x => x.1.key) (X.map fun x => x.1.key) (by rw [List.pairwise_map]; exact h.nd) (fun k hk => by
    obtain ⟨x, hx, rfl⟩ := List.mem_map.1 hk
    obtain ⟨_, _, _, hx', _⟩ := (h.mem x).1 hx
    exact List.mem_map.2 ⟨x, hx', rfl⟩)
  simpa using this
theorem Hl.init (X : List Hm) (es : Array MapEntry) (p : Hm → Bool) : Hl X es p #[] [] := ⟨fun x => by simp, List.Pairwise.nil⟩
theorem Hl.skip {w : World} {MB clock : Nat} {X : List Hm} {es : Array MapEntry} {p : Hm → Bool} {seen : Array Nat} {L : List Hm} (h : Hl X es p seen L) (hp : Hp w MB X es clock) {e : MapEntry} (he : e ∈ es.toList) {x : Hm} (hx : x ∈ X) (hk : e.key = pk x.1.key) (hf : p x = false) : Hl X es p (seen.push e.born) L := by
  refine ⟨fun y => ?_, h.nd⟩
  rw [h.mem y]
  constructor
  · rintro ⟨e', h1, h2, h3⟩
    exact ⟨e', h1, by rw [contains_push, h2]; rfl, h3⟩
  · rintro ⟨e', h1, h2, hy, h4, h5⟩
    rw [contains_push] at h2
    rcases Bool.or_eq_true _ _ ▸ h2 with h2 | h2
    · exact ⟨e', h1, h2, hy, h4, h5⟩
    · have hee : e' = e := born_inj hp.mp.bnd h1 he (beq_iff_eq.1 h2)
      subst hee
      have : y = x := hp.inj hy hx (h4.symm.trans hk)
      subst this
      rw [h5] at hf; cases hf
theorem Hl.take {w : World} {MB clock : Nat} {X : List Hm} {es : Array MapEntry} {p : Hm → Bool} {seen : Array Nat} {L : List Hm} (h : Hl X es p seen L) (hp : Hp w MB X es clock) {e : MapEntry} (he : e ∈ es.toList) (hns : seen.contains e.born = false) {x : Hm} (hx : x ∈ X) (hk : e.key = pk x.1.key) (hf : p x = true) : Hl X es p (seen.push e.born) (L ++ [x]) := by
  refine ⟨fun y => ?_, ?_⟩
  · rw [List.mem_append, h.mem y, List.mem_singleton]
    constructor
    · rintro (⟨e', h1, h2, h3⟩ | rfl)
      · exact ⟨e', h1, by rw [contains_push, h2]; rfl, h3⟩
      · exact ⟨e, he, by rw [contains_push]; simp, hx, hk, hf⟩
    · rintro ⟨e', h1, h2, hy, h4, h5⟩
      rw [contains_push] at h2
      rcases Bool.or_eq_true _ _ ▸ h2 with h2 | h2
      · exact Or.inl ⟨e', h1, h2, hy, h4, h5⟩
      · have hee : e' = e := born_inj hp.mp.bnd h1 he (beq_iff_eq.1 h2)
        subst hee
        exact Or.inr (hp.inj hy hx (h4.symm.trans hk))
  · rw [List.pairwise_append]
    refine ⟨h.nd, List.pairwise_singleton _ _, fun a ha b hb => ?_⟩
    simp only [List.mem_singleton] at hb
    subst hb
    intro hab
    obtain ⟨e', h1, h2, hy, h4, h5⟩ := (h.mem a).1 ha
    have : a = b := hp.inj hy hx (by rw [hab])
    subst this
    have hee : e' = e := by
      have hd := hp.mp.nod
      rw [← hp.mp.ent, List.map_map] at hd
      exact inj_map hd h1 he (h4.trans hk.symm)
    subst hee
    rw [h2] at hns; cases hns
theorem Hl.all {X : List Hm} {w : World} {MB clock : Nat} {es : Array MapEntry} {p : Hm → Bool} {seen : Array Nat} {L : List Hm} (h : Hl X es p seen L) (hp : Hp w MB X es clock) (h0 : (leftOf es seen).size = 0) (x : Hm) : x ∈ L ↔ x ∈ X ∧ p x = true := by
  rw [h.mem x]
  constructor
  · rintro ⟨_, _, _, hx, _, h5⟩; exact ⟨hx, h5⟩
  · rintro ⟨hx, h5⟩
    obtain ⟨e, he, h1, _⟩ := hp.all hx
    exact ⟨e, he, all_seen es seen h0 e he, hx, h1, h5⟩
def woP (X : List Hm) (n : Int) (h : Hw) (x : Hm) : Bool := !(x.1.fr == n) && hides cov h x.1 && isT cov (X.map (·.1)) n x.1
set_option maxRecDepth 100000 in
set_option maxHeartbeats 4000000 in
theorem toldWithout_any (TB HB hoff nb hcap b MB : Nat) (n : Int) (h : Hw) (a' : Option Addr) (c' : Nat) (X : List Hm) (es : Array MapEntry) (clock : Nat) (m : Int) (w : World)
    (c0 : w.cell? ⟨TB, 0, none⟩ = some (.slice (some ⟨HB, hoff, none⟩) nb hcap)) (cb : w.cell? ⟨HB, hoff + b, none⟩ = some (.map (some MB))) (hb : b < nb) (hTB : TB < w.heap.size) (hHB : HB < w.heap.size) (hX : X.length ≤ 100000)
    (hp : Hp w MB X es clock) (hh : FiM w a' h.f) (hM : Ml m w) :
    Calls Tryz.prog 79 #[.pointer (some ⟨TB, 0, none⟩), .int .i64 b, .int .i64 n, .agg (hv h a' c')] w fun e w' => ∃ v L, e = .returned v ∧ w'.ownsRow w.heap.size 121 4 v L.length (hcells L) ∧ L.Pairwise (fun x y => klt x.1.key y.1.key = true) ∧ (∀ x, x ∈ L ↔ x ∈ X ∧ woP X n h x = true) ∧ Gr w w' := by
  obtain ⟨i0, hi, hz0, hz1, hz2⟩ := info_parts Tryz.infoHold
  have HP := Hid.mk' hp
  have HH := Hid.mk' hh
  have HM := Hid.mk' hM
  have HC0 := Hid.mk' c0
  have HCB := Hid.mk' cb
  clear hp hh hM
  unfold hv
  have ga : Gr w (w.alloc (.cells #[.int .i64 h.key.1, .int .i64 h.key.2, .slice a' h.f.length c', .int .i64 h.fr] 121)) := (Gr.refl w).alloc _
  have hrg := run_range_map (P := Tryz.prog) (w.alloc (.cells #[.int .i64 h.key.1, .int .i64 h.key.2, .slice a' h.f.length c', .int .i64 h.fr] 121)) 123 112 121 MB es clock Tryz.underlying123 (HP.out.gr ga).mp.blk
  have hsz : (w.alloc (.cells #[.int .i64 h.key.1, .int .i64 h.key.2, .slice a' h.f.length c', .int .i64 h.fr] 121)).heap.size = w.heap.size + 1 := by simp
  rw [hsz] at hrg
  have GA := Hid.mk' ga
  clear ga hsz
  go_enter Tryz.func79, Tryz.ntmps79
  go_wp2_with fail
  have H0 := Hid.mk' (blk_gr ((Gr.refl _).alloc (.mapIter (some MB) clock #[] clock)) (heap_alloc_new w (.cells #[.int .i64 h.key.1, .int .i64 h.key.2, .slice a' h.f.length c', .int .i64 h.fr] 121)))
  have I0 : Hid (((w.alloc (.cells #[.int .i64 h.key.1, .int .i64 h.key.2, .slice a' h.f.length c', .int .i64 h.fr] 121)).alloc (.mapIter (some MB) clock #[] clock)).heap[w.heap.size + 1]? = some (.mapIter (some MB) clock #[] clock)) := by
    have := heap_alloc_new (w.alloc (.cells #[.int .i64 h.key.1, .int .i64 h.key.2, .slice a' h.f.length c', .int .i64 h.fr] 121)) (.mapIter (some MB) clock #[] clock)
    rw [show (w.alloc (.cells #[.int .i64 h.key.1, .int .i64 h.key.2, .slice a' h.f.length c', .int .i64 h.fr] 121)).heap.size = w.heap.size + 1 by simp] at this
    exact this
  have G0 := Hid.mk' (GA.out.alloc (.mapIter (some MB) clock #[] clock))
  clear hrg GA c0 cb
  go_loopw [9] (fun v wr => ∃ (seen : Array Nat) (L : List Hm), Hid (wr.heap[w.heap.size + 1]? = some (.mapIter (some MB) clock seen clock)) ∧ Hid (Gr w wr) ∧ Hid (wr.heap[w.heap.size]? = some (.cells #[.int .i64 h.key.1, .int .i64 h.key.2, .slice a' h.f.length c', .int .i64 h.fr] 121 (0, 0))) ∧
    Hid (wr.ownsRow (w.heap.size + 1) 121 4 v L.length (hcells L)) ∧ Hid (Hl X es (woP X n h) seen L)) (fun _ wr => (leftOf es (wr.iterSeen (w.heap.size + 1))).size)
  case atStart => exact ⟨#[], [], I0, G0, H0, World.ownsRow_nil _ _ _ _, Hl.init X es _⟩
  case round =>
    clear I0 G0 H0
    obtain ⟨seen, L, IT, G, HB1, O, KL⟩ := hrel
    obtain ⟨va, vm, vk, rfl⟩ := owns_slice O.out
    have HMS : Hid (leftOf es (wr.iterSeen (w.heap.size + 1)) = leftOf es seen) := by show _ = _; unfold World.iterSeen; rw [IT.out]
    have HLN := Hid.mk' KL.out.len
    rcases next_law (HP.out.gr G.out) IT.out (Nat.le_succ _) G.out with ⟨h0, hnx⟩ | ⟨e, he, W2, hnx, hen, hit2, g2, hoth, hsz2⟩
    · have HA := Hid.mk' (KL.out.all HP.out h0)
      have HND := Hid.mk' KL.out.nd
      have O1 := Hid.mk' (show wr.ownsRow w.heap.size 121 4 (.slice va vm vk) L.length (hcells L) from ⟨O.out.1, by
        rcases O.out.2 with h1 | ⟨b1, c1, u1, q1, q2, q3⟩
        · exact Or.inl h1
        · exact Or.inr ⟨b1, c1, u1, q1, by omega, q3⟩⟩)
      clear h0 O KL HMS HB1 IT
      obtain ⟨va', vk', he', hsh⟩ := owns_shape O1.out
      obtain ⟨rfl, rfl, rfl⟩ : va = va' ∧ vm = L.length ∧ vk = vk' := by injection he' with h1 h2 h3; exact ⟨h1, h2, h3⟩
      clear he'
      by_cases hL : L = []
      · subst hL
        have HS := Hid.mk' (sortHolds_none va vk wr)
        go_wp2_with fail
        refine HS.out.mono ?_
        rintro e w3 ⟨rfl, g3⟩
        have G3 := Hid.mk' (Gr.call G.out g3)
        have O3 := Hid.mk' (ownsGr O1.out g3)
        go_wp2_with fail
        go_ret
        exact ⟨_, [], rfl, O3.out, List.Pairwise.nil, HA.out, G3.out⟩
      · obtain ⟨g, rfl⟩ := hsh (by cases L with | nil => exact absurd rfl hL | cons a t => simp)
        have HS := Hid.mk' (sortHolds_some L g vk w wr (by have := HLN.out; omega) G.out O1.out)
        clear hL hsh
        go_wp2_with fail
        refine HS.out.mono ?_
        rintro e w3 ⟨rfl, L', hp, hs, ho, g3⟩
        have hlen := hp.length_eq
        have G3 := Hid.mk' g3
        have O3 := Hid.mk' ho
        rw [hlen] at O3
        have SR : Hid (L'.Pairwise fun x y => klt x.1.key y.1.key = true) := by
          have hnd : L'.Pairwise fun x y => x.1.key ≠ y.1.key := hp.symm.pairwise HND.out (fun {a b} h => h.symm)
          refine List.Pairwise.imp ?_ (List.Pairwise.and hs hnd)
          rintro a b ⟨h1, h2⟩
          rcases klt_tri a.1.key b.1.key with h3 | h3 | h3
          · exact h3
          · exact absurd h3 h2
          · rw [h3] at h1; cases h1
        have MB' : Hid (∀ x, x ∈ L' ↔ x ∈ X ∧ woP X n h x = true) := fun x => (hp.mem_iff).trans (HA.out x)
        have HLE := Hid.mk' hlen
        clear hp hs ho g3 hlen
        go_wp2_with fail
        go_ret
        exact ⟨_, L', rfl, by rw [HLE.out]; exact O3.out, SR.out, MB'.out, G3.out⟩
    · obtain ⟨x, hx, hk, hv'⟩ := HP.out.ent (mem_left he).1
      rw [hv'] at hnx hen
      rw [hk] at hnx hen
      unfold hv pk at hnx hen
      have IT2 := Hid.mk' hit2
      have G2 := Hid.mk' g2
      have B2 : Hid (W2.heap[w.heap.size]? = some (.cells #[.int .i64 h.key.1, .int .i64 h.key.2, .slice a' h.f.length c', .int .i64 h.fr] 121 (0, 0))) := (hoth _ (by omega)).trans HB1.out
      have F2 := Hid.mk' ((HP.out.fi x hx).gr g2)
      have HH2 := Hid.mk' (HH.out.gr g2)
      have hW2 : w.heap.size + 2 ≤ W2.heap.size := blk_lt IT2.out
      have HNE : Hid (Value.ownBlock (.slice va vm vk) ≠ some (w.heap.size + 1)) := by
        intro h5
        rcases O.out.2 with ⟨h6, _⟩ | ⟨b', cap', cur, h6, _, h7, _⟩
        · rw [h6] at h5; simp [Value.ownBlock] at h5
        · rw [h6] at h5
          have : b' = w.heap.size + 1 := by simpa [Value.ownBlock] using h5
          subst this
          rw [IT.out] at h7; cases h7
      have O2 : Hid (W2.ownsRow (w.heap.size + 1) 121 4 (.slice va vm vk) L.length (hcells L)) := by
        obtain ⟨q1, q2⟩ := O.out
        refine ⟨q1, ?_⟩
        rcases q2 with q2 | ⟨b', cap', cur, h6, h8, h7, q3⟩
        · exact Or.inl q2
        · refine Or.inr ⟨b', cap', cur, h6, h8, ?_, q3⟩
          rw [hoth b' (fun h9 => HNE.out (by rw [h6, h9]; rfl))]; exact h7
      have NXT : Hid (∀ (L' : List Hm), Hl X es (woP X n h) (seen.push e.born) L' → ∀ (v' : Value) (w' : World), w'.heap[w.heap.size + 1]? = some (.mapIter (some MB) clock (seen.push e.born) clock) → Gr w w' → w'.heap[w.heap.size]? = some (.cells #[.int .i64 h.key.1, .int .i64 h.key.2, .slice a' h.f.length c', .int .i64 h.fr] 121 (0, 0)) → w'.ownsRow (w.heap.size + 1) 121 4 v' L'.length (hcells L') →
          (∃ (seen : Array Nat) (L : List Hm), Hid (w'.heap[w.heap.size + 1]? = some (.mapIter (some MB) clock seen clock)) ∧ Hid (Gr w w') ∧ Hid (w'.heap[w.heap.size]? = some (.cells #[.int .i64 h.key.1, .int .i64 h.key.2, .slice a' h.f.length c', .int .i64 h.fr] 121 (0, 0))) ∧ Hid (w'.ownsRow (w.heap.size + 1) 121 4 v' L.length (hcells L)) ∧ Hid (Hl X es (woP X n h) seen L)) ∧
          (leftOf es (w'.iterSeen (w.heap.size + 1))).size < (leftOf es (wr.iterSeen (w.heap.size + 1))).size) := by
        intro L' hL' v' w' h1 h2 h3 h4
        refine ⟨⟨_, L', h1, h2, h3, h4, hL'⟩, ?_⟩
        rw [HMS.out]
        unfold World.iterSeen
        rw [h1]
        exact left_shrinks es seen e he
      have SKIP := Hid.mk' (fun hf => KL.out.skip HP.out (mem_left he).1 hx hk hf)
      have TAKE := Hid.mk' (fun hf => KL.out.take HP.out (mem_left he).1 (mem_left he).2 hx hk hf)
      have GX := Hid.mk' ((Gr.refl W2).alloc (.cells #[.int .i64 x.1.key.1, .int .i64 x.1.key.2, .slice x.2.1 x.1.f.length x.2.2, .int .i64 x.1.fr] 121))
      clear he hk hx hit2 g2 hoth hsz2 hv' G IT O KL HMS HB1
      have hlt2 : w.heap.size < W2.heap.size := by omega
      have b0 : W2.cell? ⟨w.heap.size, 0, none⟩ = some (.int .i64 h.key.1) := by rw [cell_of_row _ _ _ _ _ _ B2.out]; rfl
      have b1 : W2.cell? ⟨w.heap.size, 1, none⟩ = some (.int .i64 h.key.2) := by rw [cell_of_row _ _ _ _ _ _ B2.out]; rfl
      have b2 : W2.cell? ⟨w.heap.size, 2, none⟩ = some (.slice a' h.f.length c') := by rw [cell_of_row _ _ _ _ _ _ B2.out]; rfl
      have b3 : W2.cell? ⟨w.heap.size, 3, none⟩ = some (.int .i64 h.fr) := by rw [cell_of_row _ _ _ _ _ _ B2.out]; rfl
      by_cases hn : x.1.fr = n
      · subst hn
        have N1 := Hid.mk' (NXT.out L (SKIP.out (by simp [woP])) (.slice va vm vk) _ ((GX.out.block _ (by omega)).trans IT2.out) (Gr.call G2.out GX.out) (blk_gr GX.out B2.out) (ownsGr O2.out GX.out))
        clear NXT SKIP TAKE
        go_wp2_with fail
        exact N1.out
      · have hn' : (x.1.fr == n) = false := by simpa using hn
        go_wp2_with fail
        refine (hides_any h x.1 a' x.2.1 c' x.2.2 m _ (HH2.out.gr GX.out) (F2.out.gr GX.out) ((Gr.call G2.out GX.out).ml HM.out)).mono ?_
        cases hhd : hides cov h x.1 with
        | false =>
          rintro e' w3 ⟨rfl, g3⟩
          have GY := Hid.mk' (Gr.call GX.out g3)
          have N1 := Hid.mk' (NXT.out L (SKIP.out (by simp [woP, hhd])) (.slice va vm vk) w3 ((GY.out.block _ (by omega)).trans IT2.out) (Gr.call G2.out GY.out) (blk_gr GY.out B2.out) (ownsGr O2.out GY.out))
          clear NXT SKIP TAKE g3
          go_wp2_with fail
          exact N1.out
        | true =>
          rintro e' w3 ⟨rfl, g3⟩
          have GY := Hid.mk' (Gr.call GX.out g3)
          have GW := Hid.mk' (Gr.call G2.out GY.out)
          have XB := Hid.mk' (blk_gr g3 (heap_alloc_new W2 (.cells #[.int .i64 x.1.key.1, .int .i64 x.1.key.2, .slice x.2.1 x.1.f.length x.2.2, .int .i64 x.1.fr] 121)))
          clear g3
          have g0 : w3.cell? ⟨W2.heap.size, 0, none⟩ = some (.int .i64 x.1.key.1) := by rw [cell_of_row _ _ _ _ _ _ XB.out]; rfl
          have g1 : w3.cell? ⟨W2.heap.size, 1, none⟩ = some (.int .i64 x.1.key.2) := by rw [cell_of_row _ _ _ _ _ _ XB.out]; rfl
          have g2 : w3.cell? ⟨W2.heap.size, 2, none⟩ = some (.slice x.2.1 x.1.f.length x.2.2) := by rw [cell_of_row _ _ _ _ _ _ XB.out]; rfl
          have g3 : w3.cell? ⟨W2.heap.size, 3, none⟩ = some (.int .i64 x.1.fr) := by rw [cell_of_row _ _ _ _ _ _ XB.out]; rfl
          have HT := Hid.mk' (isTold_any TB HB hoff nb hcap b MB n x.1 x.2.1 x.2.2 X es clock m w3 ((GW.out.cell (p := ⟨TB, 0, none⟩) hTB).trans HC0.out) ((GW.out.cell (p := ⟨HB, hoff + b, none⟩) hHB).trans HCB.out) hb (GW.out.lt hTB) (GW.out.lt hHB) (HP.out.gr GW.out) (F2.out.gr GY.out) (GW.out.ml HM.out))
          unfold hv at HT
          go_wp2_with fail
          refine HT.out.mono ?_
          cases hit : isT cov (X.map (·.1)) n x.1 with
          | false =>
            rintro e' w4 ⟨rfl, g4⟩
            have GZ := Hid.mk' (Gr.call GY.out g4)
            have N1 := Hid.mk' (NXT.out L (SKIP.out (by simp [woP, hit])) (.slice va vm vk) w4 ((GZ.out.block _ (by omega)).trans IT2.out) (Gr.call G2.out GZ.out) (blk_gr GZ.out B2.out) (ownsGr O2.out GZ.out))
            clear NXT SKIP TAKE g4 HT
            go_wp2_with fail
            exact N1.out
          | true =>
            rintro e' w4 ⟨rfl, g4⟩
            have GZ := Hid.mk' (Gr.call GY.out g4)
            have XC := Hid.mk' (blk_gr g4 XB.out)
            have KL2 := Hid.mk' (TAKE.out (by simp [woP, hn', hhd, hit]))
            have O4 := Hid.mk' (ownsGr O2.out GZ.out)
            have G4 := Hid.mk' (Gr.call G2.out GZ.out)
            have hs4 : w.heap.size + 1 < w4.heap.size := Nat.lt_of_lt_of_le (by omega) GZ.out.size
            clear SKIP TAKE g4 HT g0 g1 g2 g3
            have g0 : w4.cell? ⟨W2.heap.size, 0, none⟩ = some (.int .i64 x.1.key.1) := by rw [cell_of_row _ _ _ _ _ _ XC.out]; rfl
            have g1 : w4.cell? ⟨W2.heap.size, 1, none⟩ = some (.int .i64 x.1.key.2) := by rw [cell_of_row _ _ _ _ _ _ XC.out]; rfl
            have g2 : w4.cell? ⟨W2.heap.size, 2, none⟩ = some (.slice x.2.1 x.1.f.length x.2.2) := by rw [cell_of_row _ _ _ _ _ _ XC.out]; rfl
            have g3 : w4.cell? ⟨W2.heap.size, 3, none⟩ = some (.int .i64 x.1.fr) := by rw [cell_of_row _ _ _ _ _ _ XC.out]; rfl
            go_wp2_with (at_builtin; refine wpList_append_own _ rfl _ _ 177 rfl (w.heap.size + 1) 121 i0 _ 4 48 Tryz.underlying177 hi hz0 hz1 hz2 rfl (by decide) _ _ _ rfl (O4.out.alloc _) ⟨w4.heap.size, 0, none⟩ 1 1 [.int .i64 x.1.key.1, .int .i64 x.1.key.2, .slice x.2.1 x.1.f.length x.2.2, .int .i64 x.1.fr] rfl rfl (World.news_of_block (new_atK rfl)) ?k2 ?k3 ?k4 ?k5 ?_)
            case k2 => intro t ht; simp at ht; rcases ht with rfl | rfl | rfl | rfl <;> rfl
            case k3 => have := HLN.out; unfold maxLen; omega
            case k4 => have := HLN.out; omega
            case k5 => simp; omega
            intro v5 w5 ho5 hg5 _
            have low : ∀ q, Value.ownBlock (.slice va vm vk) = some q → w.heap.size + 1 ≤ q := own_low O4.out
            have G5 : Hid (Gr w w5) := Below.grown (G4.out.alloc _) hg5 (Nat.le_trans G4.out.size (by simp)) (fun q hq => by have := low q hq; omega)
            have I5 : Hid (w5.heap[w.heap.size + 1]? = some (.mapIter (some MB) clock (seen.push e.born) clock)) := by
              show _ = _
              rw [hg5.block _ (by simp; omega) (fun h5 => HNE.out h5.symm), Below.heap_alloc _ _ _ (by omega), GZ.out.block _ (by omega)]
              exact IT2.out
            have B5 : Hid (w5.heap[w.heap.size]? = some (.cells #[.int .i64 h.key.1, .int .i64 h.key.2, .slice a' h.f.length c', .int .i64 h.fr] 121 (0, 0))) := by
              show _ = _
              rw [hg5.block _ (by simp; omega) (fun h5 => by have := low _ h5.symm; omega), Below.heap_alloc _ _ _ (by omega), GZ.out.block _ (by omega)]
              exact B2.out
            have O5 : w5.ownsRow (w.heap.size + 1) 121 4 v5 (L ++ [x]).length (hcells (L ++ [x])) := by
              rw [hcells_snoc, List.length_append]; exact ho5
            have N1 := Hid.mk' (NXT.out (L ++ [x]) KL2.out v5 w5 I5.out G5.out B5.out O5)
            obtain ⟨ya, ym, yk, rfl⟩ := owns_slice ho5
            clear ho5 hg5 O4 O2 NXT O5 low
            go_wp2_with fail
            exact N1.out
end Go.Proofs.YtecnfgikbmcgoaaGreat
