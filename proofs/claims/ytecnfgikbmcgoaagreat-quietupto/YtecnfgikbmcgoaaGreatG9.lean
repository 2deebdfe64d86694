import Derived.Test.YtecnfgikbmcgoaaGreatG0
import Derived.Test.YtecnfgikbmcgoaaGreatG1
import Derived.Test.YtecnfgikbmcgoaaGreatG3
import Derived.Test.YtecnfgikbmcgoaaGreatG8
import Derived.Deep.RegionHeld3
import Derived.LoopN
import Derived.Sort.Grow
import Derived.OpenShut
import Derived.WalkArith
import Derived.Test.YtecnfgikbmcgoaaGreatRows
import Derived.Test.YtecnfgikbmcgoaaGreatG2
import Derived.ProofKit
import Derived.HandedShaped
import Derived.Deep.Slices
import Derived.SizedLaws
import Derived.JoinedCond
import Derived.Test.YtecnfgikbmcgoaaGreatG6
namespace Go.Proofs.YtecnfgikbmcgoaaGreat
open Go.RowKit

/-- -1, 0 or 1. -/
def cI (x y : Int) : Int := Lib.compareInt x y
def cK (a b : Ky) : Int := if cI a.1 b.1 = 0 then cI a.2 b.2 else cI a.1 b.1
theorem cI_eq (x y : Int) : cI x y = if x < y then -1 else if y < x then 1 else 0 := rfl
theorem cK_lt (a b : Ky) : decide (cK a b < 0) = klt a b := by
  simp only [cK, cI_eq, klt]
  by_cases h1 : a.1 < b.1
  · simp [h1]
  · by_cases h2 : b.1 < a.1
    · have : ¬ a.1 = b.1 := by omega
      simp [h1, h2, this]
    · have : a.1 = b.1 := by omega
      by_cases h3 : a.2 < b.2
      · simp [this, h3]
      · by_cases h4 : b.2 < a.2
        · simp [this, h3, h4]
        · simp [this, h3, h4]
set_option maxRecDepth 100000 in
set_option maxHeartbeats 4000000 in
theorem Or2_any (x y : Int) (B : Nat) (w : World) (h0 : w.cell? ⟨B, 0, none⟩ = some (.int .i64 x)) (h1 : w.cell? ⟨B, 1, none⟩ = some (.int .i64 y)) :
    Calls Tryz.prog 110 #[.slice (some ⟨B, 0, none⟩) 2 2] w fun e w' => e = .returned (.int .i64 (if x = 0 then y else x)) ∧ w' = w := by
  go_enter Tryz.func110, Tryz.ntmps110
  by_cases hx : x = 0
  · subst hx
    have e : (if (0 : Int) = 0 then y else 0) = y := if_pos rfl
    rw [e]
    by_cases hy : y = 0
    · subst hy
      go_wp2_with fail
      refine wp_loop_rounds 3 ?_
      rw [rounds_succ]
      go_wp2_with fail
      rw [rounds_succ]
      go_wp2_with fail
      rw [rounds_succ]
      go_wp2_with fail
      go_ret
      exact ⟨rfl, rfl⟩
    · have hy' : (y == 0) = false := by simpa using hy
      go_wp2_with fail
      refine wp_loop_rounds 2 ?_
      rw [rounds_succ]
      go_wp2_with fail
      rw [rounds_succ]
      go_wp2_with fail
      go_ret
      exact ⟨rfl, rfl⟩
  · have hx' : (x == 0) = false := by simpa using hx
    have e : (if x = 0 then y else x) = x := if_neg hx
    rw [e]
    go_wp2_with fail
    refine wp_loop_rounds 1 ?_
    rw [rounds_succ]
    go_wp2_with fail
    go_ret
    exact ⟨rfl, rfl⟩
theorem Compare_s (wz : World) (x y : Int) (w : World) (h : Gr wz w) : Calls Tryz.prog 111 #[.int .i64 x, .int .i64 y] w fun e w' => e = .returned (.int .i64 (cI x y)) ∧ Gr wz w' :=
  (Tryz.cmp_Compare_int x y w).mono fun _ _ ⟨h1, h2⟩ => ⟨h1, by rw [h2]; exact h⟩
theorem evn (a : Act) (k : Nat) : a.eval (.tmp k) = a.tmps[k]?.getD undef := by simp [Act.eval]
/-- New blocks and draws alone. -/
def Gx (a b : World) : Prop := ∃ q os, b = Go.Sort.grow (a.drewN q) os
theorem Gx.refl (a : World) : Gx a a := ⟨0, #[], by rw [Go.Sort.grow_empty]; rfl⟩
theorem Gx.trans {a b c : World} (h : Gx a b) (k : Gx b c) : Gx a c := by
  obtain ⟨q, os, rfl⟩ := h
  obtain ⟨q', os', rfl⟩ := k
  refine ⟨q + q', os ++ os', ?_⟩
  rw [← Go.Sort.grow_grow]
  congr 1
  rw [← World.drewN_drewN]; rfl
theorem Gx.alloc {a b : World} (h : Gx a b) (o : Obj) : Gx a (b.alloc o) := h.trans ⟨0, #[o], by rw [Go.Sort.alloc_eq_grow]; rfl⟩
theorem Gx.drew {a b : World} (h : Gx a b) : Gx a b.drew := h.trans ⟨1, #[], by rw [Go.Sort.grow_empty]; rfl⟩
theorem Gx.gr {a b : World} (h : Gx a b) : Gr a b := by
  obtain ⟨q, os, rfl⟩ := h
  refine ⟨rfl, rfl, rfl, by simp [Go.Sort.grow], fun k hk => ?_⟩
  simp only [Go.Sort.grow, World.heap_drewN]
  rw [Array.getElem?_append_left hk]
def RK (A Bk : Nat) (a b : Ky) (j : Nat) (x : Value) (w : World) : Prop :=
  match j with
  | 0 => x = .pointer (some ⟨A, 0, none⟩)
  | 1 => x = .int .i64 a.1
  | 2 => x = .pointer (some ⟨Bk, 0, none⟩)
  | 3 => x = .int .i64 b.1
  | 4 => x = .int .i64 (cI a.1 b.1)
  | 5 => x = .pointer (some ⟨A, 1, none⟩)
  | 6 => x = .int .i64 a.2
  | 7 => x = .pointer (some ⟨Bk, 1, none⟩)
  | 8 => x = .int .i64 b.2
  | 9 => x = .int .i64 (cI a.2 b.2)
  | 10 => ∃ g, x = .slice (some ⟨g, 0, none⟩) 2 2 ∧ w.heap[g]? = some (.cells #[.int .i64 (cI a.1 b.1), .int .i64 (cI a.2 b.2)] 3 (0, 0))
  | 11 => x = .int .i64 (cK a b)
  | _ => True
theorem RK.gr {A Bk : Nat} {a b : Ky} (j : Nat) (x : Value) (wa wb : World) (h : RK A Bk a b j x wa) (g : Gr wa wb) : RK A Bk a b j x wb := by
  match j, h with
  | 0, h => exact h
  | 1, h => exact h
  | 2, h => exact h
  | 3, h => exact h
  | 4, h => exact h
  | 5, h => exact h
  | 6, h => exact h
  | 7, h => exact h
  | 8, h => exact h
  | 9, h => exact h
  | 10, h => obtain ⟨q, h1, h2⟩ := h; exact ⟨q, h1, blk_gr g h2⟩
  | 11, h => exact h
  | _ + 12, _ => trivial
structure EKk (A Bk : Nat) (a : Act) : Prop where
  sz : 17 ≤ a.tmps.size
  df : a.defers = []
  t2 : a.eval (.tmp 2) = .pointer (some ⟨A, 0, none⟩)
  t3 : a.eval (.tmp 3) = .pointer (some ⟨Bk, 0, none⟩)
theorem EKk.put {A Bk : Nat} (a : Act) (i : Nat) (x : Value) (hi : i < 12) (h : EKk A Bk a) : EKk A Bk (a.put (some (5 + i)) x) := by
  refine ⟨by simpa [Act.put] using h.sz, h.df, ?_, ?_⟩ <;> rw [eval_put_other (by omega)]
  · exact h.t2
  · exact h.t3
set_option maxRecDepth 100000 in
set_option maxHeartbeats 4000000 in
theorem compareKeys_x (a b : Ky) (w : World) :
    Calls Tryz.prog 78 #[.agg #[.int .i64 a.1, .int .i64 a.2], .agg #[.int .i64 b.1, .int .i64 b.2]] w fun e w' => e = .returned (.int .i64 (cK a b)) ∧ Gx w w' := by
  go_enter Tryz.func78, Tryz.ntmps78
  go_wp2_with fail
  have HA := Hid.mk' (heap_alloc_new w (.cells #[.int .i64 a.1, .int .i64 a.2] 112))
  have HA2 := Hid.mk' (blk_gr ((Gr.refl _).alloc (.cells #[.int .i64 b.1, .int .i64 b.2] 112)) HA.out)
  have HB2 := Hid.mk' (heap_alloc_new (w.alloc (.cells #[.int .i64 a.1, .int .i64 a.2] 112)) (.cells #[.int .i64 b.1, .int .i64 b.2] 112))
  have G0 := Hid.mk' (((Gx.refl w).alloc (.cells #[.int .i64 a.1, .int .i64 a.2] 112)).alloc (.cells #[.int .i64 b.1, .int .i64 b.2] 112))
  have hsz : (w.alloc (.cells #[.int .i64 a.1, .int .i64 a.2] 112)).heap.size = w.heap.size + 1 := by simp
  rw [hsz] at HB2
  refine region_S (c := 5) rfl 12 (by rfl) (RK w.heap.size (w.heap.size + 1) a b) (EKk w.heap.size (w.heap.size + 1))
    (fun wr => Gx w wr ∧ wr.heap[w.heap.size]? = some (.cells #[.int .i64 a.1, .int .i64 a.2] 112 (0, 0)) ∧ wr.heap[w.heap.size + 1]? = some (.cells #[.int .i64 b.1, .int .i64 b.2] 112 (0, 0)))
    (fun _ wa wb => Gx wa wb) (fun a i x hi h => EKk.put a i x hi h) (fun a h => by have := h.sz; omega) (fun i wa wb h g => ⟨h.1.trans g, blk_gr g.gr h.2.1, blk_gr g.gr h.2.2⟩) (fun i j x wa wb _ h g => RK.gr j x wa wb h g.gr) ?front ?last ?e0 ⟨G0.out.drew, HA2.out, HB2.out⟩
  case e0 => exact ⟨by simp, rfl, rfl, rfl⟩
  case front =>
    intro i o a' wr ho hi hE hW hd K hK
    have ca0 : wr.cell? ⟨w.heap.size, 0, none⟩ = some (.int .i64 a.1) := by rw [cell_of_row _ _ _ _ _ _ hW.2.1]; rfl
    have ca1 : wr.cell? ⟨w.heap.size, 1, none⟩ = some (.int .i64 a.2) := by rw [cell_of_row _ _ _ _ _ _ hW.2.1]; rfl
    have cb0 : wr.cell? ⟨w.heap.size + 1, 0, none⟩ = some (.int .i64 b.1) := by rw [cell_of_row _ _ _ _ _ _ hW.2.2]; rfl
    have cb1 : wr.cell? ⟨w.heap.size + 1, 1, none⟩ = some (.int .i64 b.2) := by rw [cell_of_row _ _ _ _ _ _ hW.2.2]; rfl
    match i, ho, hi, hd, hK with
    | 0, ho, _, hd, hK =>
      obtain rfl := Option.some.inj ho
      have e0 := (evn a' 2).symm.trans hE.t2
      unfold Oper.wp
      go_simp
      exact hK _ _ (Gx.refl _) rfl
    | 5, ho, _, hd, hK =>
      obtain rfl := Option.some.inj ho
      have e0 := (evn a' 2).symm.trans hE.t2
      unfold Oper.wp
      go_simp
      exact hK _ _ (Gx.refl _) rfl
    | 2, ho, _, hd, hK =>
      obtain rfl := Option.some.inj ho
      have e0 := (evn a' 3).symm.trans hE.t3
      unfold Oper.wp
      go_simp
      exact hK _ _ (Gx.refl _) rfl
    | 7, ho, _, hd, hK =>
      obtain rfl := Option.some.inj ho
      have e0 := (evn a' 3).symm.trans hE.t3
      unfold Oper.wp
      go_simp
      exact hK _ _ (Gx.refl _) rfl
    | 1, ho, _, hd, hK =>
      obtain rfl := Option.some.inj ho
      have e0 : a'.eval (.tmp 5) = .pointer (some ⟨w.heap.size, 0, none⟩) := hd ⟨0, .data⟩ (by simp) rfl
      rw [evn] at e0
      unfold Oper.wp
      go_simp
      exact hK _ _ (Gx.refl _) rfl
    | 3, ho, _, hd, hK =>
      obtain rfl := Option.some.inj ho
      have e0 : a'.eval (.tmp 7) = .pointer (some ⟨w.heap.size + 1, 0, none⟩) := hd ⟨2, .data⟩ (by simp) rfl
      rw [evn] at e0
      unfold Oper.wp
      go_simp
      exact hK _ _ (Gx.refl _) rfl
    | 6, ho, _, hd, hK =>
      obtain rfl := Option.some.inj ho
      have e0 : a'.eval (.tmp 10) = .pointer (some ⟨w.heap.size, 1, none⟩) := hd ⟨5, .data⟩ (by simp) rfl
      rw [evn] at e0
      unfold Oper.wp
      go_simp
      exact hK _ _ (Gx.refl _) rfl
    | 8, ho, _, hd, hK =>
      obtain rfl := Option.some.inj ho
      have e0 : a'.eval (.tmp 12) = .pointer (some ⟨w.heap.size + 1, 1, none⟩) := hd ⟨7, .data⟩ (by simp) rfl
      rw [evn] at e0
      unfold Oper.wp
      go_simp
      exact hK _ _ (Gx.refl _) rfl
    | 4, ho, _, hd, hK =>
      obtain rfl := Option.some.inj ho
      have e0 : a'.eval (.tmp 6) = .int .i64 a.1 := hd ⟨1, .data⟩ (by simp) rfl
      have e1 : a'.eval (.tmp 8) = .int .i64 b.1 := hd ⟨3, .data⟩ (by simp) rfl
      rw [evn] at e0 e1
      unfold Oper.wp
      go_simp
      refine (Tryz.cmp_Compare_int a.1 b.1 wr).mono ?_
      rintro e w2 ⟨rfl, rfl⟩
      go_simp
      exact hK _ _ (Gx.refl _) rfl
    | 9, ho, _, hd, hK =>
      obtain rfl := Option.some.inj ho
      have e0 : a'.eval (.tmp 11) = .int .i64 a.2 := hd ⟨6, .data⟩ (by simp) rfl
      have e1 : a'.eval (.tmp 13) = .int .i64 b.2 := hd ⟨8, .data⟩ (by simp) rfl
      rw [evn] at e0 e1
      unfold Oper.wp
      go_simp
      refine (Tryz.cmp_Compare_int a.2 b.2 wr).mono ?_
      rintro e w2 ⟨rfl, rfl⟩
      go_simp
      exact hK _ _ (Gx.refl _) rfl
    | 10, ho, _, hd, hK =>
      obtain rfl := Option.some.inj ho
      have e0 : a'.eval (.tmp 9) = .int .i64 (cI a.1 b.1) := hd ⟨4, .data⟩ (by simp) rfl
      have e1 : a'.eval (.tmp 14) = .int .i64 (cI a.2 b.2) := hd ⟨9, .data⟩ (by simp) rfl
      rw [evn] at e0 e1
      unfold Oper.wp
      go_simp
      exact hK _ _ ((Gx.refl _).alloc _) ⟨_, rfl, heap_alloc_new _ _⟩
    | 11, ho, _, hd, hK =>
      obtain rfl := Option.some.inj ho
      obtain ⟨g, e0, hg⟩ : RK _ _ _ _ 10 (a'.eval (.tmp 15)) wr := hd ⟨10, .data⟩ (by simp) rfl
      rw [evn] at e0
      have c0 : wr.cell? ⟨g, 0, none⟩ = some (.int .i64 (cI a.1 b.1)) := by rw [cell_of_row _ _ _ _ _ _ hg]; rfl
      have c1 : wr.cell? ⟨g, 1, none⟩ = some (.int .i64 (cI a.2 b.2)) := by rw [cell_of_row _ _ _ _ _ _ hg]; rfl
      unfold Oper.wp
      go_simp
      refine (Or2_any _ _ g wr c0 c1).mono ?_
      rintro e w2 ⟨rfl, rfl⟩
      go_simp
      exact hK _ _ (Gx.refl _) rfl
    | k + 12, _, hi, _, _ => exact absurd hi (by omega)
  case last =>
    intro o a' wr ho hE hW hd K hK
    obtain rfl := Option.some.inj ho
    have e0 : a'.eval (.tmp 16) = .int .i64 (cK a b) := hd 11 (by omega)
    rw [evn] at e0
    have hdf := hE.df
    have hs4 : 4 < a'.tmps.size := by have := hE.sz; omega
    have G9 := hW.1
    unfold Oper.wp
    go_simp
    refine hK _ _ ?_
    go_wp2_with fail
    exact bodyPost_ret (v := .int .i64 (cK a b)) (by simp [results, Tryz.results78, go_sem, hs4]) rfl ⟨rfl, G9⟩
theorem compareKeys_any (a b : Ky) (w : World) :
    Calls Tryz.prog 78 #[.agg #[.int .i64 a.1, .int .i64 a.2], .agg #[.int .i64 b.1, .int .i64 b.2]] w fun e w' => e = .returned (.int .i64 (cK a b)) ∧ Gr w w' :=
  (compareKeys_x a b w).mono fun _ _ ⟨h1, h2⟩ => ⟨h1, h2.gr⟩
end Go.Proofs.YtecnfgikbmcgoaaGreat
namespace Go.Proofs.YtecnfgikbmcgoaaGreat
open Go.RowKit
open Go.Maps (Keyed)
open Go.ChangeMaps (setBlock)

theorem Tryz.laidOut : laidOutB Tryz.prog = true := by kernel_rfl
/-! ### The three kinds of keys -/
theorem Tryz.keyedE : Keyed Tryz.prog 81 := Keyed.of_law (deep_law_laid Tryz.laidOut (m := 2) (by omega) (of_decide_eq_true (by kernel_rfl)) (by kernel_rfl) (by kernel_rfl))
theorem Tryz.keyedK : Keyed Tryz.prog 112 := Keyed.of_law (deep_law_laid Tryz.laidOut (m := 2) (by omega) (of_decide_eq_true (by kernel_rfl)) (by kernel_rfl) (by kernel_rfl))
theorem Tryz.keyedI : Keyed Tryz.prog 3 := Go.Maps.int_keyed Tryz.underlying3
theorem Tryz.tsz : 2 ≤ Tryz.prog.types.size := of_decide_eq_true (by kernel_rfl)
theorem Tryz.ktE : Tryz.prog.keyType 81 = true := by kernel_rfl
theorem Tryz.ktK : Tryz.prog.keyType 112 = true := by kernel_rfl
theorem Tryz.coI : Tryz.prog.cellsOf 3 = 1 := by kernel_rfl
theorem Tryz.coE : Tryz.prog.cellsOf 81 = 2 := by kernel_rfl
theorem Tryz.coK : Tryz.prog.cellsOf 112 = 2 := by kernel_rfl
def pk (k : Ky) : Value := .agg #[.int .i64 k.1, .int .i64 k.2]
def I64 (x : Int) : Prop := -9223372036854775808 ≤ x ∧ x ≤ 9223372036854775807
theorem I64.wf {x : Int} (h : I64 x) : (Lit.int .i64 x).wf = true := WalkArith.wf_i64 h
theorem key_arr {P : Program} {t e : TypeId} (hu : P.underlying t = some (.array 2 e)) (he : P.underlying e = some (.int .i64)) (hk : P.keyType t = true) (hc : P.cellsOf t = 2) (hce : P.cellsOf e = 1) (hs : 2 ≤ P.types.size) (k : Ky) (h1 : I64 k.1) (h2 : I64 k.2) : ∃ l, keyOf P t (pk k) = some l := by
  obtain ⟨d, hd⟩ : ∃ d, P.types.size = d + 1 := ⟨P.types.size - 1, by omega⟩
  refine ⟨.string (keyBytes [.int .i64 k.1, .int .i64 k.2]), ?_⟩
  unfold keyOf
  rw [hu]
  simp [hk, pk, Value.formed, Value.cells, hu, Program.keyLits, hd, hc, hce, he, h1.wf, h2.wf, List.range_succ]
theorem key_str {P : Program} {t e : TypeId} {f g : Field} (hu : P.underlying t = some (.struct #[f, g])) (hf : f.name ≠ "_" ∧ f.type = e ∧ f.offset = 0) (hg : g.name ≠ "_" ∧ g.type = e ∧ g.offset = 1) (he : P.underlying e = some (.int .i64)) (hk : P.keyType t = true) (hc : P.cellsOf t = 2) (hce : P.cellsOf e = 1) (hs : 2 ≤ P.types.size) (k : Ky) (h1 : I64 k.1) (h2 : I64 k.2) : ∃ l, keyOf P t (pk k) = some l := by
  obtain ⟨d, hd⟩ : ∃ d, P.types.size = d + 1 := ⟨P.types.size - 1, by omega⟩
  refine ⟨.string (keyBytes [.int .i64 k.1, .int .i64 k.2]), ?_⟩
  unfold keyOf
  rw [hu]
  simp [hk, pk, Value.formed, Value.cells, hu, Program.keyLits, hd, hc, hce, he, h1.wf, h2.wf, hf, hg]
theorem keyE (k : Ky) (h1 : I64 k.1) (h2 : I64 k.2) : ∃ l, keyOf Tryz.prog 81 (pk k) = some l := key_arr Tryz.underlying81 Tryz.underlying3 Tryz.ktE Tryz.coE Tryz.coI Tryz.tsz k h1 h2
theorem keyK (k : Ky) (h1 : I64 k.1) (h2 : I64 k.2) : ∃ l, keyOf Tryz.prog 112 (pk k) = some l := key_str Tryz.underlying112 ⟨by decide, rfl, rfl⟩ ⟨by decide, rfl, rfl⟩ Tryz.underlying3 Tryz.ktK Tryz.coK Tryz.coI Tryz.tsz k h1 h2
theorem keyI (x : Int) (h : I64 x) : ∃ l, keyOf Tryz.prog 3 (.int .i64 x) = some l := ⟨_, Go.Maps.keyOf_int_mk Tryz.underlying3 h.wf⟩
end Go.Proofs.YtecnfgikbmcgoaaGreat
namespace Go.Proofs.YtecnfgikbmcgoaaGreat
open Go.ChangeShapes Go.WideShapes Go.ChangeAt Go.RowKit

theorem Tryz.own : ownKnob Tryz.prog.godebug = none := by kernel_rfl
theorem ml_of {W : World} (h : W.ShapedOpen Tryz.prog) : ∃ m, Ml m W := by
  obtain ⟨m, hm⟩ := Tryz.laysM144.s1_3 W h
  exact ⟨m, hm, World.block_lt_of_cell? _ _ hm⟩
theorem addr_add (b off i : Nat) : (⟨b, off, none⟩ : Addr).add i = ⟨b, off + i, none⟩ := by
  unfold Addr.add; split <;> simp_all
theorem bulk_one {H : Type} (d : DataW H) : 1 ≤ Rows.uptoBulk d := by
  cases d with
  | lit l => cases l <;> simp [Rows.uptoBulk]
  | nil => simp [Rows.uptoBulk]
  | ptr d => simp [Rows.uptoBulk]
  | slice elems spare => simp [Rows.uptoBulk]
  | agg parts => simp [Rows.uptoBulk]
  | iface t d => simp [Rows.uptoBulk]
  | map entries => simp [Rows.uptoBulk]
  | held h => simp [Rows.uptoBulk]
theorem bulk_in {H : Type} {d : DataW H} {l : List (DataW H)} (h : d ∈ l) : Rows.uptoBulk d ≤ Rows.uptoBulkAll l := by
  induction l with
  | nil => cases h
  | cons x r ih =>
    simp only [Rows.uptoBulkAll]
    rcases List.mem_cons.1 h with e | e
    · subst e; omega
    · have := ih e; omega
theorem bulk_len {H : Type} (l : List (DataW H)) : l.length ≤ Rows.uptoBulkAll l := by
  induction l with
  | nil => simp [Rows.uptoBulkAll]
  | cons x r ih => have := bulk_one x; simp only [Rows.uptoBulkAll, List.length_cons]; omega
theorem bulk_slice {H : Type} {d : DataW H} {len : Nat} (h : len = 0 ∨ ∃ es sp, d = .slice es sp ∧ es.length = len) : len ≤ Rows.uptoBulk d := by
  rcases h with h | ⟨es, sp, rfl, rfl⟩
  · omega
  · have := bulk_len es
    simp only [Rows.uptoBulk]; omega
/-- A slice of ints that came in, as the walks want it, and how long it is. -/
theorem ints_up {H : Type} {enc : TypeId × Value → H} {W : World} {a : Option Addr} {len cap : Nat} {d : DataW H} {p : List MemPlace} (h : DataW.Trod enc Tryz.prog W 0 (fun _ => true) true 27 (.slice a len cap) d p) :
    ∃ f : List Int, f.length = len ∧ InAt W a f ∧ IntWf f ∧ len ≤ Rows.uptoBulk d := by
  obtain ⟨fuel, hf⟩ := h
  rcases open_ints Tryz.underlying27 Tryz.underlying3 (by kernel_rfl) hf with ⟨hcs, _⟩ | ⟨x, l, c, zs, hcs, _, hl, hm, hz, hd, hcell, hwz⟩
  · simp [Value.cells] at hcs
    obtain ⟨rfl, rfl, rfl⟩ := hcs
    exact ⟨[], rfl, Or.inl rfl, fun z hz => by simp at hz, Nat.zero_le _⟩
  · simp [Value.cells] at hcs
    obtain ⟨rfl, rfl, rfl⟩ := hcs
    have hz' : zs.length = cap := by simpa using hz
    have hlen : (zs.take len).length = len := by simp; omega
    refine ⟨zs.take len, hlen, ?_, fun z hzm => bounds_i64 (hwz z (List.mem_of_mem_take hzm)), bulk_slice (Or.inr ⟨_, _, (Prod.mk.injEq _ _ _ _ ▸ hd).1, by simp [lits]; omega⟩)⟩
    by_cases h0 : len = 0
    · exact Or.inl (List.length_eq_zero_iff.1 (by rw [hlen, h0]))
    · obtain ⟨b, off, spot⟩ := x
      have hc := hcell 0 (by omega)
      have hspot : spot = none := by simpa [Addr.add] using World.cell?_spot hc
      subst hspot
      refine Or.inr ⟨b, off, rfl, ?_, fun i hi => ?_⟩
      · have := World.block_lt_of_cell? _ _ hc
        simpa [Addr.add] using this
      · rw [hlen] at hi
        have := hcell i (by omega)
        have e : iat (zs.take len) i = zs.getD i 0 := by
          simp only [iat, List.getD_eq_getElem?_getD, List.getElem?_take, if_pos hi]
        rw [e, ← addr_add]
        exact this
/-- A row with a condition of its own, and the world's shape. -/
theorem returns_cond_shaped {H : Type} {enc : TypeId × Value → H} {a : Assume} {C : Checked} {os : Os} {f : FuncId} {fn : Func} {s : OpenSpec} {k : (H : Type) → List (DataW H) → Bool} (hk : s.cond = some k) {F : Stop.Interp} {conds : List PathCond} {apart fresh handsOn again : Bool}
    (own : ownKnob C.prog.godebug = none) (started : os.Started) (noInit : C.prog.inits.idxOf? f = none) (hfn : C.prog.funcs[f]? = some fn)
    (witness : ∃ (w : World) (tape : Tape) (i : Input), w.os = os ∧ (w.forCall tape i).Shaped C.prog ∧ i.vars = [] ∧ Input.okWide C.prog (w.forCall tape i) .any w.heap.size f i ∧
      s.pre6 enc C.prog fn conds apart (w.forCall tape i).memory i.args ∧ a.holds C.prog (lone (Frame.enter C.prog f i.args .normal) [] (w.forCall tape i)))
    (contract : ∀ (W : World) (base : Nat) (args : Array Value) (ds gs : List (DataW H)) (before : List MemPlace),
      (∀ (j : Nat) t v, fn.params[j]? = some t → args[j]? = some v → Value.okWide C.prog W .any base t v) →
      DataW.Whole enc C.prog fn.params.toList s.vars apart W args.toList ds gs before → k H (ds ++ gs) = true → W.ShapedOpen C.prog →
      Calls C.prog f args W fun e W' => ∃ v, e = .returned v ∧ (s.at F).post enc C.prog fn apart fresh handsOn again W args v W') :
    ReturnsInHanded a C os f .any (s.pre6 enc C.prog fn conds apart) ((s.at F).post enc C.prog fn apart fresh handsOn again) := by
  refine returnsInHanded_of_calls own started noInit witness ?_
  intro w tape i _ hsh _ hok hpre _
  obtain ⟨_, _, _, fn', hfn', _, _, _, _, hval⟩ := hok
  obtain rfl : fn' = fn := Option.some.inj (hfn'.symm.trans hfn)
  obtain ⟨ds, gs, before, hw, _, hkk⟩ := (OpenSpec.pre_some hk conds apart _ _).1 hpre.1
  refine (contract (w.forCall tape i) w.heap.size i.args ds gs before hval (DataW.Whole.of_heap (w' := w.forCall tape i) (by rfl) hw) hkk hsh).mono fun e W' ⟨v, he, hp⟩ => ?_
  subst he
  exact ChangeSpec.post_blind hp

end Go.Proofs.YtecnfgikbmcgoaaGreat
namespace Go.Proofs.YtecnfgikbmcgoaaGreat
open Go.RowKit

set_option maxHeartbeats 1000000 in
theorem letsBy_any (a : ByteArray) (y k n : Int) (s : ByteArray) (k' n' : Int) (s' : ByteArray) (m : Int) (w : World) (hw : wayOk y k n s = true) (hv : valOk k' n' s' = true) (hM : Ml m w) :
    Calls Tryz.prog 140 #[.agg #[.string a, .int .i64 y, .int .i64 k, .int .i64 n, .string s], .agg #[.int .i64 k', .int .i64 n', .string s']] w fun e w' => e = .returned (.bool (lets y k n s k' n' s')) ∧ Below w.heap.size w w' := by
  have hs' := val_size hv
  have Hw : Hid (wayOk y k n s = true) := hw
  have Hv : Hid (valOk k' n' s' = true) := hv
  clear hw hv
  rcases way_cases Hw.out with rfl | rfl | rfl | rfl | rfl | rfl | rfl | rfl | rfl | rfl
  · go_enter Tryz.func140, Tryz.ntmps140
    go_wp2
    go_ret
    exact ⟨ret_bool (by simp [lets]), ((Below.refl _ _).alloc (Nat.le_refl _) _).alloc (by simp) _⟩
  all_goals
    by_cases hk : (k != k') = true
    · go_enter Tryz.func140, Tryz.ntmps140
      go_wp2
      go_ret
      exact ⟨ret_bool (by simp [lets, hk]), ((Below.refl _ _).alloc (Nat.le_refl _) _).alloc (by simp) _⟩
    · have hk' : k = k' := by simpa using hk
      subst hk'
      clear hk
      go_enter Tryz.func140, Tryz.ntmps140
      go_wp2_with (first | (go_at_call 160; refine (Tryz.strings_HasPrefix _ _ _).mono ?_; rintro e w' ⟨rfl, rfl⟩) | (go_at_call 161; refine (Tryz.strings_HasSuffix _ _ _ (by omega)).mono ?_; rintro e w' ⟨rfl, rfl⟩) | (go_at_call 162; refine (Tryz.strings_Contains _ _ m _ (by omega) ((hM.alloc _).alloc _).cell).mono ?_; rintro e w' ⟨rfl, rfl⟩))
      all_goals
        go_ret
        refine ⟨ret_bool ?_, ((Below.refl _ _).alloc (Nat.le_refl _) _).alloc (by simp) _⟩
        go_light
        first | (have h1 := way_mid Hw.out (by omega) (by omega); obtain ⟨rfl, h1⟩ := h1; have h2 := val_int Hv.out; simp_all [lets]; done) | (simp_all [lets]; done) | (simp [lets]; omega)
end Go.Proofs.YtecnfgikbmcgoaaGreat
