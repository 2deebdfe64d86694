import Derived.Test.YtecnfgikbmcgoaaGreatG14
import Derived.Test.YtecnfgikbmcgoaaGreatG15
import Derived.Test.YtecnfgikbmcgoaaGreatG16
namespace Go.Proofs.YtecnfgikbmcgoaaGreat
open Go.RowKit
open Go.Maps (Keyed)
open Go.ChangeMaps (setBlock)

theorem Tryz.infoKey : (Tryz.prog.info? 112).map (fun i => (i.zero, i.size, i.bytes)) = some (some (.agg #[.int .i64 0, .int .i64 0]), 2, 16) := by kernel_rfl
theorem new_atK {W : World} {o : Obj} {B : Nat} (h : W.heap.size = B) : (W.alloc o).heap[B]? = some o := by subst h; exact heap_alloc_new W o
theorem pk_inj {a b : Ky} (h : pk a = pk b) : a = b := by
  obtain ⟨a1, a2⟩ := a
  obtain ⟨b1, b2⟩ := b
  simp [pk] at h
  rw [h.1, h.2]
/-- The keys that were collected so far. -/
structure Kl (X : List Hm) (es : Array MapEntry) (from_ : Int) (seen : Array Nat) (L : List Ky) : Prop where
  mem : ∀ k, k ∈ L ↔ ∃ e ∈ es.toList, seen.contains e.born = true ∧ ∃ x ∈ X, e.key = pk x.1.key ∧ x.1.fr = from_ ∧ x.1.key = k
  nd : L.Pairwise fun x y => x ≠ y
theorem Kl.len {X : List Hm} {es : Array MapEntry} {from_ : Int} {seen : Array Nat} {L : List Ky} (h : Kl X es from_ seen L) : L.length ≤ X.length := by
  have := keys_le L (X.map fun x => x.1.key) h.nd (fun k hk => by
    obtain ⟨_, _, _, x, hx, _, _, rfl⟩ := (h.mem k).1 hk
    exact List.mem_map.2 ⟨x, hx, rfl⟩)
  simpa using this
theorem Kl.init (X : List Hm) (es : Array MapEntry) (from_ : Int) : Kl X es from_ #[] [] :=
  ⟨fun k => by simp, List.Pairwise.nil⟩
theorem Kl.skip {w : World} {MB clock : Nat} {X : List Hm} {es : Array MapEntry} {from_ : Int} {seen : Array Nat} {L : List Ky} (h : Kl X es from_ seen L) (hp : Hp w MB X es clock) {e : MapEntry} (he : e ∈ es.toList) {x : Hm} (hx : x ∈ X) (hk : e.key = pk x.1.key) (hf : x.1.fr ≠ from_) : Kl X es from_ (seen.push e.born) L := by
  refine ⟨fun k => ?_, h.nd⟩
  rw [h.mem k]
  constructor
  · rintro ⟨e', h1, h2, h3⟩
    exact ⟨e', h1, by rw [contains_push, h2]; rfl, h3⟩
  · rintro ⟨e', h1, h2, y, hy, h4, h5, h6⟩
    rw [contains_push] at h2
    rcases Bool.or_eq_true _ _ ▸ h2 with h2 | h2
    · exact ⟨e', h1, h2, y, hy, h4, h5, h6⟩
    · have hee : e' = e := born_inj hp.mp.bnd h1 he (beq_iff_eq.1 h2)
      subst hee
      have : y = x := hp.inj hy hx (h4.symm.trans hk)
      subst this
      exact absurd h5 hf
theorem Kl.take {w : World} {MB clock : Nat} {X : List Hm} {es : Array MapEntry} {from_ : Int} {seen : Array Nat} {L : List Ky} (h : Kl X es from_ seen L) (hp : Hp w MB X es clock) {e : MapEntry} (he : e ∈ es.toList) (hns : seen.contains e.born = false) {x : Hm} (hx : x ∈ X) (hk : e.key = pk x.1.key) (hf : x.1.fr = from_) : Kl X es from_ (seen.push e.born) (L ++ [x.1.key]) := by
  refine ⟨fun k => ?_, ?_⟩
  · rw [List.mem_append, h.mem k, List.mem_singleton]
    constructor
    · rintro (⟨e', h1, h2, h3⟩ | rfl)
      · exact ⟨e', h1, by rw [contains_push, h2]; rfl, h3⟩
      · exact ⟨e, he, by rw [contains_push]; simp, x, hx, hk, hf, rfl⟩
    · rintro ⟨e', h1, h2, y, hy, h4, h5, h6⟩
      rw [contains_push] at h2
      rcases Bool.or_eq_true _ _ ▸ h2 with h2 | h2
      · exact Or.inl ⟨e', h1, h2, y, hy, h4, h5, h6⟩
      · have hee : e' = e := born_inj hp.mp.bnd h1 he (beq_iff_eq.1 h2)
        subst hee
        have : y = x := hp.inj hy hx (h4.symm.trans hk)
        subst this
        exact Or.inr h6.symm
  · rw [List.pairwise_append]
    refine ⟨h.nd, List.pairwise_singleton _ _, fun a ha b hb => ?_⟩
    simp only [List.mem_singleton] at hb
    subst hb
    intro hab
    obtain ⟨e', h1, h2, y, hy, h4, h5, h6⟩ := (h.mem a).1 ha
    have : y = x := hp.inj hy hx (by rw [h6, hab])
    subst this
    have hkk : e'.key = e.key := h4.trans hk.symm
    have hee : e' = e := by
      have hd := hp.mp.nod
      rw [← hp.mp.ent, List.map_map] at hd
      exact inj_map hd h1 he hkk
    subst hee
    rw [h2] at hns; cases hns
theorem Kl.all {X : List Hm} {w : World} {MB clock : Nat} {es : Array MapEntry} {from_ : Int} {seen : Array Nat} {L : List Ky} (h : Kl X es from_ seen L) (hp : Hp w MB X es clock) (h0 : (leftOf es seen).size = 0) (k : Ky) : k ∈ L ↔ ∃ x ∈ X, x.1.fr = from_ ∧ x.1.key = k := by
  rw [h.mem k]
  constructor
  · rintro ⟨_, _, _, x, hx, _, h5, h6⟩; exact ⟨x, hx, h5, h6⟩
  · rintro ⟨x, hx, h5, h6⟩
    obtain ⟨e, he, h1, _⟩ := hp.all hx
    exact ⟨e, he, all_seen es seen h0 e he, x, hx, h1, h5, h6⟩
set_option maxRecDepth 100000 in
set_option maxHeartbeats 4000000 in
theorem keysFrom_any (TB HB hoff nb hcap b MB : Nat) (from_ : Int) (X : List Hm) (es : Array MapEntry) (clock : Nat) (w : World)
    (c0 : w.cell? ⟨TB, 0, none⟩ = some (.slice (some ⟨HB, hoff, none⟩) nb hcap)) (cb : w.cell? ⟨HB, hoff + b, none⟩ = some (.map (some MB))) (hb : b < nb) (hX : X.length ≤ 100000)
    (hp : Hp w MB X es clock) :
    Calls Tryz.prog 41 #[.pointer (some ⟨TB, 0, none⟩), .int .i64 b, .int .i64 from_] w fun e w' => ∃ v L, e = .returned v ∧ w'.ownsRow w.heap.size 112 2 v L.length (kcells L) ∧ L.Pairwise (fun x y => klt x y = true) ∧ (∀ k, k ∈ L ↔ ∃ x ∈ X, x.1.fr = from_ ∧ x.1.key = k) ∧ Gr w w' := by
  obtain ⟨i0, hi, hz0, hz1, hz2⟩ := info_parts Tryz.infoKey
  have HP := Hid.mk' hp
  clear hp
  have hrg := run_range_map (P := Tryz.prog) w 123 112 121 MB es clock Tryz.underlying123 HP.out.mp.blk
  go_enter Tryz.func41, Tryz.ntmps41
  go_wp2_with fail
  have I0 := Hid.mk' (heap_alloc_new w (.mapIter (some MB) clock #[] clock))
  have G0 := Hid.mk' ((Gr.refl w).alloc (.mapIter (some MB) clock #[] clock))
  clear hrg c0 cb
  go_loopw [7] (fun v wr => ∃ (seen : Array Nat) (L : List Ky), Hid (wr.heap[w.heap.size]? = some (.mapIter (some MB) clock seen clock)) ∧ Hid (Gr w wr) ∧ Hid (wr.ownsRow w.heap.size 112 2 v L.length (kcells L)) ∧ Hid (Kl X es from_ seen L)) (fun _ wr => (leftOf es (wr.iterSeen w.heap.size)).size)
  case atStart => exact ⟨#[], [], I0, G0, World.ownsRow_nil _ _ _ _, Kl.init X es from_⟩
  case round =>
    clear I0 G0
    obtain ⟨seen, L, IT, G, O, KL⟩ := hrel
    obtain ⟨va, vm, vk, rfl⟩ := owns_slice O.out
    have HMS : Hid (leftOf es (wr.iterSeen w.heap.size) = leftOf es seen) := by show _ = _; unfold World.iterSeen; rw [IT.out]
    rcases next_law (HP.out.gr G.out) IT.out (Nat.le_refl _) G.out with ⟨h0, hnx⟩ | ⟨e, he, W2, hnx, hen, hit2, g2, hoth, hsz2⟩
    · have HA := Hid.mk' (KL.out.all HP.out h0)
      have HND := Hid.mk' KL.out.nd
      have HLN := Hid.mk' KL.out.len
      clear h0
      obtain ⟨va', vk', he', hsh⟩ := owns_shape O.out
      obtain ⟨rfl, rfl, rfl⟩ : va = va' ∧ vm = L.length ∧ vk = vk' := by injection he' with h1 h2 h3; exact ⟨h1, h2, h3⟩
      clear he'
      by_cases hL : L = []
      · subst hL
        have HS := Hid.mk' (sortKeys_none va vk wr)
        go_wp2_with fail
        refine HS.out.mono ?_
        rintro e w3 ⟨rfl, g3⟩
        have G3 := Hid.mk' (Gr.call G.out g3)
        have O3 := Hid.mk' (ownsGr O.out g3)
        go_wp2_with fail
        go_ret
        exact ⟨_, [], rfl, O3.out, List.Pairwise.nil, HA.out, G3.out⟩
      · obtain ⟨g, rfl⟩ := hsh (by cases L with | nil => exact absurd rfl hL | cons a t => simp)
        have HS := Hid.mk' (sortKeys_some L g vk w wr (by have := HLN.out; omega) G.out O.out)
        clear hL hsh
        go_wp2_with fail
        refine HS.out.mono ?_
        rintro e w3 ⟨rfl, L', hp, hs, ho, g3⟩
        have hlen := hp.length_eq
        have G3 := Hid.mk' g3
        have O3 := Hid.mk' ho
        rw [hlen] at O3
        have SR : Hid (L'.Pairwise fun x y => klt x y = true) := by
          have hnd : L'.Pairwise fun x y => x ≠ y := hp.symm.pairwise HND.out (fun {a b} h => h.symm)
          refine List.Pairwise.imp ?_ (List.Pairwise.and hs hnd)
          rintro a b ⟨h1, h2⟩
          rcases klt_tri a b with h3 | h3 | h3
          · exact h3
          · exact absurd h3 h2
          · rw [h3] at h1; cases h1
        have MB' : Hid (∀ k, k ∈ L' ↔ ∃ x ∈ X, x.1.fr = from_ ∧ x.1.key = k) := fun k => (hp.mem_iff).trans (HA.out k)
        have HLE := Hid.mk' hlen
        clear hp hs ho g3 hlen
        go_wp2_with fail
        go_ret
        exact ⟨_, L', rfl, by rw [HLE.out]; exact O3.out, SR.out, MB'.out, G3.out⟩
    · obtain ⟨x, hx, hk, hv'⟩ := HP.out.ent (mem_left he).1
      rw [hv'] at hnx hen
      rw [hk] at hnx hen
      unfold hv pk at hnx hen
      have HLN := Hid.mk' KL.out.len
      have IT2 := Hid.mk' hit2
      have G2 := Hid.mk' g2
      have hW2 : w.heap.size + 1 ≤ W2.heap.size := blk_lt IT2.out
      have HNE : Hid (Value.ownBlock (.slice va vm vk) ≠ some w.heap.size) := by
        intro h5
        rcases O.out.2 with ⟨h6, _⟩ | ⟨b', cap', cur, h6, _, h7, _⟩
        · rw [h6] at h5; simp [Value.ownBlock] at h5
        · rw [h6] at h5
          have : b' = w.heap.size := by simpa [Value.ownBlock] using h5
          subst this
          rw [IT.out] at h7; cases h7
      have O2 : Hid (W2.ownsRow w.heap.size 112 2 (.slice va vm vk) L.length (kcells L)) := by
        obtain ⟨q1, q2⟩ := O.out
        refine ⟨q1, ?_⟩
        rcases q2 with q2 | ⟨b', cap', cur, h6, h8, h7, q3⟩
        · exact Or.inl q2
        · refine Or.inr ⟨b', cap', cur, h6, h8, ?_, q3⟩
          rw [hoth b' (fun h9 => HNE.out (by rw [h6, h9]; rfl))]; exact h7
      have MS : Hid (∀ w' : World, w'.heap[w.heap.size]? = some (.mapIter (some MB) clock (seen.push e.born) clock) → (leftOf es (w'.iterSeen w.heap.size)).size < (leftOf es (wr.iterSeen w.heap.size)).size) := by
        intro w' hi
        rw [HMS.out]
        unfold World.iterSeen
        rw [hi]
        exact left_shrinks es seen e he
      have G3 := Hid.mk' (((Gr.refl W2).alloc (.cells #[.int .i64 x.1.key.1, .int .i64 x.1.key.2] 112)).alloc (.cells #[.int .i64 x.1.key.1, .int .i64 x.1.key.2, .slice x.2.1 x.1.f.length x.2.2, .int .i64 x.1.fr] 121))
      have G23 := Hid.mk' (Gr.call G2.out G3.out)
      have O3 := Hid.mk' (ownsGr O2.out G3.out)
      by_cases hf : x.1.fr = from_
      · have KL2 := Hid.mk' (KL.out.take HP.out (mem_left he).1 (mem_left he).2 hx hk hf)
        subst hf
        clear he hk hx hit2 g2 hoth hsz2 hv' G IT O KL HMS
        have hs3 : ((W2.alloc (.cells #[.int .i64 x.1.key.1, .int .i64 x.1.key.2] 112)).alloc (.cells #[.int .i64 x.1.key.1, .int .i64 x.1.key.2, .slice x.2.1 x.1.f.length x.2.2, .int .i64 x.1.fr] 121)).heap.size = W2.heap.size + 1 + 1 := by simp
        go_wp2_with (at_builtin; refine wpList_append_own _ rfl _ _ 41 rfl w.heap.size 112 i0 _ 2 16 Tryz.underlying41 hi hz0 hz1 hz2 rfl (by decide) _ _ _ rfl (O3.out.alloc _) ⟨W2.heap.size + 1 + 1, 0, none⟩ 1 1 [.int .i64 x.1.key.1, .int .i64 x.1.key.2] rfl rfl ?k1 ?k2 ?k3 ?k4 ?k5 ?_)
        case k1 => exact World.news_of_block (new_atK hs3)
        case k2 => intro t ht; simp at ht; rcases ht with rfl | rfl <;> rfl
        case k3 => have := HLN.out; unfold maxLen; omega
        case k4 => have := HLN.out; omega
        case k5 => simp; omega
        intro v5 w5 ho5 hg5 _
        have G5 : Hid (Gr w w5) := Below.grown (G23.out.alloc _) hg5 (Nat.le_trans G23.out.size (by simp)) (own_low O3.out)
        have I5 : Hid (w5.heap[w.heap.size]? = some (.mapIter (some MB) clock (seen.push e.born) clock)) := by
          show _ = _
          rw [hg5.block w.heap.size (by simp; omega) (fun h5 => HNE.out h5.symm), Below.heap_alloc _ _ _ (by simp; omega), G3.out.block w.heap.size (by omega)]
          exact IT2.out
        have O5 : Hid (w5.ownsRow w.heap.size 112 2 v5 (L ++ [x.1.key]).length (kcells (L ++ [x.1.key]))) := by
          show World.ownsRow _ _ _ _ _ _ _
          rw [kcells_snoc, List.length_append]; exact ho5
        have M5 := Hid.mk' (MS.out w5 I5.out)
        obtain ⟨ya, ym, yk, rfl⟩ := owns_slice ho5
        clear ho5 hg5 O3 O2 MS
        go_wp2_with fail
        exact ⟨⟨_, _, I5, G5, O5, KL2⟩, M5.out⟩
      · have KL2 := Hid.mk' (KL.out.skip HP.out (mem_left he).1 hx hk hf)
        have hf' : (x.1.fr == from_) = false := by simpa using hf
        clear he hk hx hit2 g2 hoth hsz2 hv' G IT O KL HMS
        have I3 : Hid (((W2.alloc (.cells #[.int .i64 x.1.key.1, .int .i64 x.1.key.2] 112)).alloc (.cells #[.int .i64 x.1.key.1, .int .i64 x.1.key.2, .slice x.2.1 x.1.f.length x.2.2, .int .i64 x.1.fr] 121)).heap[w.heap.size]? = some (.mapIter (some MB) clock (seen.push e.born) clock)) := (G3.out.block w.heap.size (by omega)).trans IT2.out
        have M3 := Hid.mk' (MS.out _ I3.out)
        clear MS
        go_wp2_with fail
        exact ⟨⟨_, L, I3, G23, O3, KL2⟩, M3.out⟩
end Go.Proofs.YtecnfgikbmcgoaaGreat
namespace Go.Proofs.YtecnfgikbmcgoaaGreat
open Go.RowKit

/-- What all brokers hold. -/
structure Hs (w : World) (TB HB hoff nb hcap : Nat) (Xs : Nat → List Hm) : Prop where
  c0 : w.cell? ⟨TB, 0, none⟩ = some (.slice (some ⟨HB, hoff, none⟩) nb hcap)
  tlt : TB < w.heap.size
  hlt : HB < w.heap.size
  at' : ∀ b, b < nb → ∃ MB es clock, w.cell? ⟨HB, hoff + b, none⟩ = some (.map (some MB)) ∧ Hp w MB (Xs b) es clock
theorem Hs.gr {w w' : World} {TB HB hoff nb hcap : Nat} {Xs : Nat → List Hm} (h : Hs w TB HB hoff nb hcap Xs) (g : Gr w w') : Hs w' TB HB hoff nb hcap Xs :=
  ⟨(g.cell (p := ⟨TB, 0, none⟩) h.tlt).trans h.c0, g.lt h.tlt, g.lt h.hlt, fun b hb => by
    obtain ⟨MB, es, clock, h1, h2⟩ := h.at' b hb
    exact ⟨MB, es, clock, (g.cell (p := ⟨HB, hoff + b, none⟩) h.hlt).trans h1, h2.gr g⟩⟩
/-- So many filters of clients a broker holds. -/
def ofCl (X : List Hm) : Nat := (X.filter fun x => x.1.fr == -1).length
theorem ofCl_len {w : World} {MB : Nat} {X : List Hm} {es : Array MapEntry} {clock : Nat} (h : Hp w MB X es clock) {L : List Ky} (hs : L.Pairwise fun x y => klt x y = true) (hm : ∀ k, k ∈ L ↔ ∃ x ∈ X, x.1.fr = -1 ∧ x.1.key = k) : L.length = ofCl X := by
  have hnd : ((X.filter fun x => x.1.fr == -1).map fun x => x.1.key).Pairwise fun x y => x ≠ y := by
    have hd := h.mp.nod
    rw [List.map_map] at hd
    rw [List.pairwise_map]
    have hd' : X.Pairwise fun x y => x.1.key ≠ y.1.key := by
      have := List.pairwise_map.1 hd
      refine List.Pairwise.imp ?_ this
      intro a b hab e
      exact hab (by show pk a.1.key = pk b.1.key; rw [e])
    exact hd'.filter _
  have h1 := keys_le L ((X.filter fun x => x.1.fr == -1).map fun x => x.1.key) (List.Pairwise.imp (fun h => klt_ne h) hs) (fun k hk => by
    obtain ⟨x, hx, h1, h2⟩ := (hm k).1 hk
    exact List.mem_map.2 ⟨x, List.mem_filter.2 ⟨hx, by simpa using h1⟩, h2⟩)
  have h2 := keys_le ((X.filter fun x => x.1.fr == -1).map fun x => x.1.key) L hnd (fun k hk => by
    obtain ⟨x, hx, rfl⟩ := List.mem_map.1 hk
    have := List.mem_filter.1 hx
    exact (hm _).2 ⟨x, this.1, by simpa using this.2, rfl⟩)
  simp only [List.length_map] at h1 h2
  unfold ofCl; omega
set_option maxRecDepth 100000 in
set_option maxHeartbeats 4000000 in
theorem measM_dec (n j : Nat) (h : j < n) : n - (intOf (.int .i64 ((j : Int) + 1))).toNat < n - (intOf (.int .i64 (j : Int))).toNat := by
  simp [intOf]; omega
theorem filtersOfClients_any (TB HB hoff nb hcap : Nat) (Xs : Nat → List Hm) (w : World) (hnb : nb ≤ 8) (hX : ∀ b, (Xs b).length ≤ 100000) (h : Hs w TB HB hoff nb hcap Xs) :
    Calls Tryz.prog 47 #[.pointer (some ⟨TB, 0, none⟩)] w fun e w' => e = .returned (.int .i64 (sm nb fun b => ofCl (Xs b))) ∧ Gr w w' := by
  have HH := Hid.mk' h
  have HX := Hid.mk' hX
  have c0 := h.c0
  clear h hX
  go_enter Tryz.func47, Tryz.ntmps47
  go_wp2_with fail
  go_loopw [3, 10] (fun n i wr => ∃ q : Nat, q ≤ nb ∧ i = .int .i64 q ∧ n = .int .i64 ((sm q fun b => ofCl (Xs b) : Nat) : Int) ∧ Hid (Gr w wr)) (fun _ i _ => nb - (intOf i).toNat)
  case atStart => exact ⟨0, Nat.zero_le _, rfl, rfl, Gr.refl _⟩
  case round =>
    obtain ⟨q, hq, rfl, rfl, G⟩ := hrel
    clear c0
    by_cases hlt : q < nb
    · have H2 := HH.out.gr G.out
      obtain ⟨MB, es, clock, cb, hp⟩ := H2.at' q hlt
      have KF := Hid.mk' (keysFrom_any TB HB hoff nb hcap q MB (-1) (Xs q) es clock wr H2.c0 cb hlt (HX.out q) hp)
      have HP := Hid.mk' hp
      have hsum : (sm q fun b => ofCl (Xs b)) ≤ q * 100000 := by
        rw [← sm_const 100000 q]
        exact sm_le q (fun i _ => Nat.le_trans (List.length_filter_le _ _) (HX.out i))
      have hone : ofCl (Xs q) ≤ 100000 := Nat.le_trans (List.length_filter_le _ _) (HX.out q)
      have hnext : (sm (q + 1) fun b => ofCl (Xs b)) = (sm q fun b => ofCl (Xs b)) + ofCl (Xs q) := rfl
      have HN := Hid.mk' hnext
      clear H2 cb hp hnext
      generalize (sm q fun b => ofCl (Xs b)) = t at *
      go_wp2_with fail
      refine KF.out.mono ?_
      rintro e w1 ⟨v, L, rfl, ho, hs, hm, g1⟩
      have hl := ofCl_len HP.out hs hm
      obtain ⟨va, vk, rfl, _⟩ := owns_shape ho
      have G1 := Hid.mk' (Gr.call G.out g1)
      rw [hl]
      clear ho hs hm g1 KF hl
      generalize ofCl (Xs q) = c at *
      have hw : wrap64 ((t : Int) + (c : Int)) = ((t + c : Nat) : Int) := by unfold wrap64; omega
      go_wp2_with fail
      refine ⟨⟨q + 1, by omega, by simp, ?_, G1⟩, measM_dec _ _ hlt⟩
      rw [HN.out]; simp
    · have hqn : q = nb := by omega
      subst hqn
      go_wp2_with fail
      go_ret
      exact ⟨rfl, G.out⟩
end Go.Proofs.YtecnfgikbmcgoaaGreat
