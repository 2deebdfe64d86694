import Derived.Test.YtecnfgikbmcgoaaGreatG11
import Derived.Test.YtecnfgikbmcgoaaGreatG9
import Derived.Test.YtecnfgikbmcgoaaGreatG13
import Derived.Laws.IdiomRangeMap
import Derived.Test.YtecnfgikbmcgoaaGreatG7
import Derived.WalkSpells
namespace Go.Proofs.YtecnfgikbmcgoaaGreat
open Go.RowKit
open Go.Maps (Keyed)
open Go.ChangeMaps (setBlock)

/-- What a broker holds, each with the place of its filter. -/
abbrev Hm := Hw × Option Addr × Nat
def mv (x : Hm) : Value × Value := (pk x.1.key, .agg (hv x.1 x.2.1 x.2.2))
/-- A broker's map. -/
structure Hp (w : World) (MB : Nat) (X : List Hm) (es : Array MapEntry) (clock : Nat) : Prop where
  mp : Mp Tryz.prog 112 w MB (X.map mv) es clock
  fi : ∀ x ∈ X, FiM w x.2.1 x.1.f
theorem Hp.gr {w w' : World} {MB : Nat} {X : List Hm} {es : Array MapEntry} {clock : Nat} (h : Hp w MB X es clock) (g : Gr w w') : Hp w' MB X es clock :=
  ⟨h.mp.kept (g.block MB h.mp.lt), fun x hx => (h.fi x hx).gr g⟩
theorem Hp.ent {w : World} {MB : Nat} {X : List Hm} {es : Array MapEntry} {clock : Nat} (h : Hp w MB X es clock) {e : MapEntry} (he : e ∈ es.toList) : ∃ x ∈ X, e.key = pk x.1.key ∧ e.val = .agg (hv x.1 x.2.1 x.2.2) := by
  obtain ⟨x, hx, hxe⟩ := List.mem_map.1 (h.mp.mem he)
  injection hxe with h1 h2
  exact ⟨x, hx, h1.symm, h2.symm⟩
theorem Hp.all {w : World} {MB : Nat} {X : List Hm} {es : Array MapEntry} {clock : Nat} (h : Hp w MB X es clock) {x : Hm} (hx : x ∈ X) : ∃ e ∈ es.toList, e.key = pk x.1.key ∧ e.val = .agg (hv x.1 x.2.1 x.2.2) := by
  have : mv x ∈ es.toList.map (fun e => (e.key, e.val)) := by rw [h.mp.ent]; exact List.mem_map.2 ⟨x, hx, rfl⟩
  obtain ⟨e, he, hee⟩ := List.mem_map.1 this
  injection hee with h1 h2
  exact ⟨e, he, h1, h2⟩
theorem inj_map {α β : Type} {f : α → β} {l : List α} (h : (l.map f).Nodup) {x y : α} (hx : x ∈ l) (hy : y ∈ l) (e : f x = f y) : x = y := by
  induction l with
  | nil => cases hx
  | cons a t ih =>
    simp only [List.map_cons, List.nodup_cons] at h
    rcases List.mem_cons.1 hx with rfl | hx'
    · rcases List.mem_cons.1 hy with rfl | hy'
      · rfl
      · exact absurd (List.mem_map.2 ⟨y, hy', e.symm⟩) h.1
    · rcases List.mem_cons.1 hy with rfl | hy'
      · exact absurd (List.mem_map.2 ⟨x, hx', e⟩) h.1
      · exact ih h.2 hx' hy'
theorem Hp.inj {w : World} {MB : Nat} {X : List Hm} {es : Array MapEntry} {clock : Nat} (h : Hp w MB X es clock) {x y : Hm} (hx : x ∈ X) (hy : y ∈ X) (e : pk x.1.key = pk y.1.key) : x = y := by
  have hd := h.mp.nod
  rw [List.map_map] at hd
  exact inj_map hd hx hy e
theorem gr_setBlock {w w' : World} {B : Nat} {o : Obj} (h : Gr w w') (hB : w.heap.size ≤ B) : Gr w (setBlock w' B o) :=
  ⟨h.os, h.tape, h.output, by simp only [setBlock]; simpa using h.size, fun k hk => by rw [setBlock_other (by omega)]; exact h.block k hk⟩
/-- One step of a range over a map that stays. -/
theorem next_law {w wr : World} {IT MB : Nat} {X : List Hm} {es : Array MapEntry} {clock : Nat} {seen : Array Nat} (h : Hp wr MB X es clock) (hit : wr.heap[IT]? = some (.mapIter (some MB) clock seen clock)) (hI : w.heap.size ≤ IT) (g : Gr w wr) :
    ((leftOf es seen).size = 0 ∧ ∀ ty, (Instr.next (.pointer (some ⟨IT, 0, none⟩)) false ty).run Tryz.prog wr = .ok (.tuple #[.bool false]) wr) ∨
    ∃ e ∈ (leftOf es seen).toList, ∃ W2 : World, (∀ ty, (Instr.next (.pointer (some ⟨IT, 0, none⟩)) false ty).run Tryz.prog wr = .ok (.tuple #[.bool true, e.key, e.val]) W2) ∧ (Instr.entry (.pointer (some ⟨IT, 0, none⟩))).run Tryz.prog W2 = .ok (.tuple #[e.key, e.val]) W2 ∧
      W2.heap[IT]? = some (.mapIter (some MB) clock (seen.push e.born) clock) ∧ Gr w W2 ∧ (∀ k, k ≠ IT → W2.heap[k]? = wr.heap[k]?) ∧ W2.heap.size = wr.heap.size := by
  rcases run_next_at (P := Tryz.prog) wr 0 IT MB clock clock seen es clock hit h.mp.blk h.mp.brn (Nat.le_refl _) with ⟨h0, hr⟩ | ⟨e, he, w1, hw1, hr⟩
  · exact Or.inl ⟨h0, fun _ => hr⟩
  · have hne : MB ≠ IT := by
      intro e'
      have := h.mp.blk
      rw [e', hit] at this; cases this
    have hh : w1.heap = wr.heap := by rcases hw1 with rfl | rfl <;> rfl
    have hg1 : Gr w w1 := by
      rcases hw1 with rfl | rfl
      · exact g
      · exact g.drew
    have hit1 : w1.heap[IT]? = some (.mapIter (some MB) clock seen clock) := by rw [hh]; exact hit
    refine Or.inr ⟨e, he, setBlock w1 IT (.mapIter (some MB) clock (seen.push e.born) clock), fun _ => hr, ?_, setBlock_get hit1, gr_setBlock hg1 hI, fun k hk => by rw [setBlock_other hk, hh], by simp [setBlock, hh]⟩
    refine run_entry_at _ IT MB clock seen es clock e (setBlock_get hit1) ?_ (mem_left he).1 h.mp.bnd
    rw [setBlock_other hne, hh]; exact h.mp.blk
set_option maxRecDepth 100000 in
set_option maxHeartbeats 4000000 in
theorem isTold_any (TB HB hoff nb hcap b MB : Nat) (n : Int) (h : Hw) (a' : Option Addr) (c' : Nat) (X : List Hm) (es : Array MapEntry) (clock : Nat) (m : Int) (w : World)
    (c0 : w.cell? ⟨TB, 0, none⟩ = some (.slice (some ⟨HB, hoff, none⟩) nb hcap)) (cb : w.cell? ⟨HB, hoff + b, none⟩ = some (.map (some MB))) (hb : b < nb) (hTB : TB < w.heap.size) (hHB : HB < w.heap.size)
    (hp : Hp w MB X es clock) (hh : FiM w a' h.f) (hM : Ml m w) :
    Calls Tryz.prog 81 #[.pointer (some ⟨TB, 0, none⟩), .int .i64 b, .int .i64 n, .agg (hv h a' c')] w fun e w' => e = .returned (.bool (isT cov (X.map (·.1)) n h)) ∧ Gr w w' := by
  have HP := Hid.mk' hp
  have HH := Hid.mk' hh
  have HM := Hid.mk' hM
  clear hp hh hM
  unfold hv
  have ga : Gr w (w.alloc (.cells #[.int .i64 h.key.1, .int .i64 h.key.2, .slice a' h.f.length c', .int .i64 h.fr] 121)) := (Gr.refl w).alloc _
  have hrg := run_range_map (P := Tryz.prog) (w.alloc (.cells #[.int .i64 h.key.1, .int .i64 h.key.2, .slice a' h.f.length c', .int .i64 h.fr] 121)) 123 112 121 MB es clock Tryz.underlying123 (HP.out.gr ga).mp.blk
  have hsz : (w.alloc (.cells #[.int .i64 h.key.1, .int .i64 h.key.2, .slice a' h.f.length c', .int .i64 h.fr] 121)).heap.size = w.heap.size + 1 := by simp
  rw [hsz] at hrg
  have GA := Hid.mk' ga
  clear ga hsz
  go_enter Tryz.func81, Tryz.ntmps81
  go_wp2_with fail
  have H0 := Hid.mk' (blk_gr ((Gr.refl _).alloc (.mapIter (some MB) clock #[] clock)) (heap_alloc_new w (.cells #[.int .i64 h.key.1, .int .i64 h.key.2, .slice a' h.f.length c', .int .i64 h.fr] 121)))
  have I0 : Hid (((w.alloc (.cells #[.int .i64 h.key.1, .int .i64 h.key.2, .slice a' h.f.length c', .int .i64 h.fr] 121)).alloc (.mapIter (some MB) clock #[] clock)).heap[w.heap.size + 1]? = some (.mapIter (some MB) clock #[] clock)) := by
    have := heap_alloc_new (w.alloc (.cells #[.int .i64 h.key.1, .int .i64 h.key.2, .slice a' h.f.length c', .int .i64 h.fr] 121)) (.mapIter (some MB) clock #[] clock)
    rw [show (w.alloc (.cells #[.int .i64 h.key.1, .int .i64 h.key.2, .slice a' h.f.length c', .int .i64 h.fr] 121)).heap.size = w.heap.size + 1 by simp] at this
    exact this
  have G0 := Hid.mk' (GA.out.alloc (.mapIter (some MB) clock #[] clock))
  clear hrg GA c0 cb
  go_loopw [] (fun wr => ∃ seen : Array Nat, Hid (wr.heap[w.heap.size + 1]? = some (.mapIter (some MB) clock seen clock)) ∧ Hid (Gr w wr) ∧ Hid (wr.heap[w.heap.size]? = some (.cells #[.int .i64 h.key.1, .int .i64 h.key.2, .slice a' h.f.length c', .int .i64 h.fr] 121 (0, 0))) ∧
    Hid (∀ e ∈ es.toList, seen.contains e.born = true → ∀ x ∈ X, e.key = pk x.1.key → x.1.fr ≠ n → hides cov x.1 h = false)) (fun wr => (leftOf es (wr.iterSeen (w.heap.size + 1))).size)
  case atStart => exact ⟨#[], I0, G0, H0, fun e _ hc => by simp at hc⟩
  case round =>
    clear I0 G0 H0
    obtain ⟨seen, IT, G, HB1, NO⟩ := hrel
    have hms : leftOf es (wr.iterSeen (w.heap.size + 1)) = leftOf es seen := by unfold World.iterSeen; rw [IT.out]
    have HMS := Hid.mk' hms
    clear hms
    rcases next_law (HP.out.gr G.out) IT.out (Nat.le_succ _) G.out with ⟨h0, hnx⟩ | ⟨e, he, W2, hnx, hen, hit2, g2, hoth, hsz2⟩
    · have HT : Hid (isT cov (X.map (·.1)) n h = true) := by
        show _ = _
        rw [isT_iff]
        intro g hg hgn
        obtain ⟨x, hx, rfl⟩ := List.mem_map.1 hg
        obtain ⟨e, he, h1, _⟩ := HP.out.all hx
        exact NO.out e he (all_seen es seen h0 e he) x hx h1 hgn
      clear h0
      go_wp2_with fail
      go_ret
      exact ⟨by rw [HT.out]; rfl, G.out⟩
    · obtain ⟨x, hx, hk, hv'⟩ := HP.out.ent (mem_left he).1
      rw [hv'] at hnx hen
      rw [hk] at hnx hen
      unfold hv pk at hnx hen
      have HE := Hid.mk' he
      have HK := Hid.mk' hk
      have HX := Hid.mk' hx
      have IT2 := Hid.mk' hit2
      have G2 := Hid.mk' g2
      have B2 : Hid (W2.heap[w.heap.size]? = some (.cells #[.int .i64 h.key.1, .int .i64 h.key.2, .slice a' h.f.length c', .int .i64 h.fr] 121 (0, 0))) := (hoth _ (by omega)).trans HB1.out
      have F2 := Hid.mk' ((HP.out.fi x hx).gr g2)
      have HH2 := Hid.mk' (HH.out.gr g2)
      have hW2 : w.heap.size + 2 ≤ W2.heap.size := blk_lt IT2.out
      clear he hk hx hit2 g2 hoth hsz2 hv' G IT HB1
      have gx : Gr W2 (W2.alloc (.cells #[.int .i64 x.1.key.1, .int .i64 x.1.key.2, .slice x.2.1 x.1.f.length x.2.2, .int .i64 x.1.fr] 121)) := (Gr.refl W2).alloc _
      have GX := Hid.mk' gx
      clear gx
      have b0 : W2.cell? ⟨w.heap.size, 0, none⟩ = some (.int .i64 h.key.1) := by rw [cell_of_row _ _ _ _ _ _ B2.out]; rfl
      have b1 : W2.cell? ⟨w.heap.size, 1, none⟩ = some (.int .i64 h.key.2) := by rw [cell_of_row _ _ _ _ _ _ B2.out]; rfl
      have b2 : W2.cell? ⟨w.heap.size, 2, none⟩ = some (.slice a' h.f.length c') := by rw [cell_of_row _ _ _ _ _ _ B2.out]; rfl
      have b3 : W2.cell? ⟨w.heap.size, 3, none⟩ = some (.int .i64 h.fr) := by rw [cell_of_row _ _ _ _ _ _ B2.out]; rfl
      have hlt2 : w.heap.size < W2.heap.size := by omega
      have NXT : Hid ((x.1.fr ≠ n → hides cov x.1 h = false) → ∀ w', Gr W2 w' → (∃ seen : Array Nat, Hid (w'.heap[w.heap.size + 1]? = some (.mapIter (some MB) clock seen clock)) ∧ Hid (Gr w w') ∧ Hid (w'.heap[w.heap.size]? = some (.cells #[.int .i64 h.key.1, .int .i64 h.key.2, .slice a' h.f.length c', .int .i64 h.fr] 121 (0, 0))) ∧
          Hid (∀ e ∈ es.toList, seen.contains e.born = true → ∀ x ∈ X, e.key = pk x.1.key → x.1.fr ≠ n → hides cov x.1 h = false)) ∧ (leftOf es (w'.iterSeen (w.heap.size + 1))).size < (leftOf es (wr.iterSeen (w.heap.size + 1))).size) := by
        intro hno w' g'
        have hi : w'.heap[w.heap.size + 1]? = some (.mapIter (some MB) clock (seen.push e.born) clock) := (g'.block _ (by omega)).trans IT2.out
        refine ⟨⟨seen.push e.born, hi, Gr.call G2.out g', blk_gr g' B2.out, ?_⟩, ?_⟩
        · intro e2 he2 hc y hy hky hyn
          rw [contains_push] at hc
          rcases Bool.or_eq_true _ _ ▸ hc with h1 | h1
          · exact NO.out e2 he2 h1 y hy hky hyn
          · have hee : e2 = e := born_inj HP.out.mp.bnd he2 (mem_left HE.out).1 (beq_iff_eq.1 h1)
            subst hee
            have hkk : pk y.1.key = pk x.1.key := hky.symm.trans HK.out
            have hyx : y = x := HP.out.inj hy HX.out hkk
            subst hyx
            exact hno hyn
        · rw [HMS.out]
          unfold World.iterSeen
          rw [hi]
          exact left_shrinks es seen e HE.out
      by_cases hn : x.1.fr = n
      · have hn' : (x.1.fr == n) = true := by simpa using hn
        have N1 := Hid.mk' (NXT.out (fun h => absurd hn h) _ GX.out)
        clear NXT
        rw [hn] at N1
        go_wp2_with fail
        exact N1.out
      · have hn' : (x.1.fr == n) = false := by simpa using hn
        go_wp2_with fail
        refine (hides_any x.1 h x.2.1 a' x.2.2 c' m _ (F2.out.gr GX.out) (HH2.out.gr GX.out) ((Gr.call G2.out GX.out).ml HM.out)).mono ?_
        cases hhd : hides cov x.1 h with
        | true =>
          rintro e' w3 ⟨rfl, g3⟩
          have HT : Hid (isT cov (X.map (·.1)) n h = false) := by
            show _ = _
            cases ht : isT cov (X.map (·.1)) n h with
            | false => rfl
            | true =>
              have := isT_iff.1 ht x.1 (List.mem_map.2 ⟨x, HX.out, rfl⟩) hn
              rw [hhd] at this; cases this
          have G3 := Hid.mk' (Gr.call (Gr.call G2.out GX.out) g3)
          clear NXT g3
          go_wp2_with fail
          go_ret
          exact ⟨by rw [HT.out]; rfl, G3.out⟩
        | false =>
          rintro e' w3 ⟨rfl, g3⟩
          have N1 := Hid.mk' (NXT.out (fun _ => hhd) _ (Gr.call GX.out g3))
          clear NXT g3
          go_wp2_with fail
          exact N1.out
end Go.Proofs.YtecnfgikbmcgoaaGreat
namespace Go.Proofs.YtecnfgikbmcgoaaGreat
open Go.RowKit
open Go.Maps (Keyed)

theorem Tryz.infoIntQ : (Tryz.prog.info? 3).map (fun i => (i.zero, i.size, i.bytes)) = some (some (.int .i64 0), 1, 8) := by kernel_rfl
theorem Tryz.zeroQ (w : World) : (zeroValue 129).run Tryz.prog w = .ok (.slice none 0 0) w := Tryz.zeroValue129 w
set_option maxRecDepth 100000 in
set_option maxHeartbeats 4000000 in
theorem hasLink_any (TB LB : Nat) (k : Ky) (m : List (Value × Value)) (es : Array MapEntry) (clock : Nat) (r : Bool) (w : World) (h1 : I64 k.1) (h2 : I64 k.2)
    (c2 : w.cell? ⟨TB, 2, none⟩ = some (.map (some LB))) (hm : Mp Tryz.prog 81 w LB m es clock) (hr : r = true ↔ ∃ v, (pk k, v) ∈ m) :
    Calls Tryz.prog 40 #[.pointer (some ⟨TB, 0, none⟩), .int .i64 k.1, .int .i64 k.2] w fun e w' => e = .returned (.bool r) ∧ w' = w := by
  obtain ⟨l, hk⟩ := keyE k h1 h2
  cases r with
  | true =>
    obtain ⟨v, hv⟩ := hr.1 rfl
    have hlk := Mp.look_yes Tryz.keyedE Tryz.underlying117 hm hk hv true
    unfold pk at hlk
    clear hm hr hv hk h1 h2
    go_enter Tryz.func40, Tryz.ntmps40
    go_wp2_with fail
    go_ret
    exact ⟨rfl, rfl⟩
  | false =>
    have hno : ∀ v, (pk k, v) ∉ m := fun v hv => by have := hr.2 ⟨v, hv⟩; cases this
    have hlk := Mp.look_no Tryz.keyedE Tryz.underlying117 hm hk hno Tryz.zeroQ true
    unfold pk at hlk
    clear hm hr hno hk h1 h2
    go_enter Tryz.func40, Tryz.ntmps40
    go_wp2_with fail
    go_ret
    exact ⟨rfl, rfl⟩
/-- The neighbours of a broker, by their numbers. -/
def nbs (adj : Nat → Nat → Bool) (nb b : Nat) (k : Nat) : List Nat := (List.range k).filter fun n => n < nb && adj b n
theorem nbs_yes {adj : Nat → Nat → Bool} {nb b k : Nat} (hk : k < nb) (h : adj b k = true) : nbs adj nb b (k + 1) = nbs adj nb b k ++ [k] := by
  simp [nbs, List.range_succ, List.filter_append, hk, h]
theorem nbs_no {adj : Nat → Nat → Bool} {nb b k : Nat} (h : adj b k = false) : nbs adj nb b (k + 1) = nbs adj nb b k := by
  simp [nbs, List.range_succ, List.filter_append, h]
theorem nbs_le (adj : Nat → Nat → Bool) (nb b k : Nat) : (nbs adj nb b k).length ≤ k := by
  have := List.length_filter_le (fun n => decide (n < nb) && adj b n) (List.range k)
  simpa [nbs] using this
/-- The links of a tree: just those of its neighbours. -/
structure Lk (adj : Nat → Nat → Bool) (nb : Nat) (m : List (Value × Value)) : Prop where
  iff : ∀ a b : Nat, a < nb → b < nb → (adj a b = true ↔ ∃ v, (pk ((a : Int), (b : Int)), v) ∈ m)
set_option maxRecDepth 100000 in
set_option maxHeartbeats 4000000 in
theorem neighbours_any (TB LB HB hoff nb hcap b : Nat) (adj : Nat → Nat → Bool) (m : List (Value × Value)) (es : Array MapEntry) (clock : Nat) (w : World) (hnb : nb ≤ 8) (hb : b < nb)
    (c0 : w.cell? ⟨TB, 0, none⟩ = some (.slice (some ⟨HB, hoff, none⟩) nb hcap)) (c2 : w.cell? ⟨TB, 2, none⟩ = some (.map (some LB))) (hTB : TB < w.heap.size) (hm : Mp Tryz.prog 81 w LB m es clock) (hl : Lk adj nb m) :
    Calls Tryz.prog 43 #[.pointer (some ⟨TB, 0, none⟩), .int .i64 b] w fun e w' => ∃ v, e = .returned v ∧ w'.ownsRow w.heap.size 3 1 v (nbs adj nb b nb).length (ints (nbs adj nb b nb)) ∧ Gr w w' := by
  obtain ⟨i0, hi, hz0, hz1, hz2⟩ := info_parts Tryz.infoIntQ
  have HM := Hid.mk' hm
  have HL := Hid.mk' hl
  clear hm hl
  go_enter Tryz.func43, Tryz.ntmps43
  go_wp2_with fail
  go_loopw [5, 12] (fun v i wr => ∃ q : Nat, q ≤ nb ∧ i = .int .i64 q ∧ Hid (Gr w wr) ∧ Hid (wr.ownsRow w.heap.size 3 1 v (nbs adj nb b q).length (ints (nbs adj nb b q)))) (fun _ i _ => nb - (intOf i).toNat)
  case atStart => exact ⟨0, Nat.zero_le _, rfl, Gr.refl _, World.ownsRow_nil _ _ _ _⟩
  case round =>
    obtain ⟨q, hq, rfl, G, O⟩ := hrel
    obtain ⟨va, vm, vk, rfl⟩ := owns_slice O.out
    have c2' : wr.cell? ⟨TB, 2, none⟩ = some (.map (some LB)) := (G.out.cell (p := ⟨TB, 2, none⟩) hTB).trans c2
    clear c0 c2
    have hlen := nbs_le adj nb b q
    by_cases hlt : q < nb
    · have hM' := HM.out.kept (G.out.block LB HM.out.lt)
      have hI : I64 ((b : Int)) := ⟨by omega, by omega⟩
      have hJ : I64 ((q : Int)) := ⟨by omega, by omega⟩
      have HC := Hid.mk' (hasLink_any TB LB ((b : Int), (q : Int)) m es clock (adj b q) wr hI hJ c2' hM' (HL.out.iff b q hb hlt))
      clear hM' hI hJ
      cases ha : adj b q with
      | true =>
        rw [ha] at HC
        go_wp2_with fail
        refine HC.out.mono ?_
        rintro e w1 ⟨rfl, hw⟩
        have hw' := hw.symm
        clear hw
        subst hw'
        go_wp2_with (at_builtin; refine wpList_append_own _ rfl _ _ 27 rfl w.heap.size 3 i0 (.int .i64 0) 1 8 Tryz.underlying27 hi hz0 hz1 hz2 rfl (by decide) _ _ _ rfl (O.out.alloc _) ⟨wr.heap.size, 0, none⟩ 1 1 [.int .i64 q] rfl rfl (cell_one_new _ _ _) ?k2 ?k3 ?k4 ?k5 ?_)
        case k2 => intro t ht; simp at ht; subst ht; rfl
        case k3 => unfold maxLen; omega
        case k4 => omega
        case k5 => have := G.out.size; simp; omega
        intro v5 w5 ho5 hg5 _
        have G5 : Hid (Gr w w5) := Below.grown (G.out.alloc _) hg5 (Nat.le_trans G.out.size (by simp)) (own_low O.out)
        have O5 : Hid (w5.ownsRow w.heap.size 3 1 v5 (nbs adj nb b (q + 1)).length (ints (nbs adj nb b (q + 1)))) := by
          show World.ownsRow _ _ _ _ _ _ _
          rw [nbs_yes hlt ha, List.length_append, ints_snoc]; exact ho5
        obtain ⟨ya, ym, yk, rfl⟩ := owns_slice ho5
        clear ho5 hg5 O G
        go_wp2_with fail
        go_roundw
        case rel => exact ⟨q + 1, by omega, by go_num, G5, O5⟩
        case measure => simp [intOf]; omega
      | false =>
        rw [ha] at HC
        go_wp2_with fail
        refine HC.out.mono ?_
        rintro e w1 ⟨rfl, hw⟩
        have hw' := hw.symm
        clear hw
        subst hw'
        have O5 : Hid (wr.ownsRow w.heap.size 3 1 (.slice va vm vk) (nbs adj nb b (q + 1)).length (ints (nbs adj nb b (q + 1)))) := by
          show World.ownsRow _ _ _ _ _ _ _
          rw [nbs_no ha]; exact O.out
        go_wp2_with fail
        go_roundw
        case rel => exact ⟨q + 1, by omega, by go_num, G, O5⟩
        case measure => simp [intOf]; omega
    · have hqn : q = nb := by omega
      subst hqn
      go_wp2_with fail
      go_ret
      exact ⟨_, rfl, O.out, G.out⟩
end Go.Proofs.YtecnfgikbmcgoaaGreat
