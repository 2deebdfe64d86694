import Derived.Test.YtecnfgikbmcgoaaDoorRows
import Derived.Test.YtecnfgikbmcgoaaDoorG0
import Derived.Test.YtecnfgikbmcgoaaDoorG1
import Derived.Test.YtecnfgikbmcgoaaDoorG9
import Derived.ProofKit
import Derived.OpenShut
import Derived.HandedShaped
import Derived.Stop.LaidErr
namespace Go.Proofs.YtecnfgikbmcgoaaDoor
open Go.ChangeShapes Go.WideShapes Go.ChangeAt Go.RowKit

theorem Tryd.own : ownKnob Tryd.prog.godebug = none := by kernel_rfl
theorem Tryd.laidOut : laidOutB Tryd.prog = true := by kernel_rfl

theorem addr_add (b off i : Nat) : (⟨b, off, none⟩ : Addr).add i = ⟨b, off + i, none⟩ := by
  unfold Addr.add; split <;> simp_all

/-- A slice of ints that came in, as the walks want it. -/
theorem ints_of {H : Type} {enc : TypeId × Value → H} {W : World} {a : Option Addr} {len cap : Nat} {d : DataW H} {p : List MemPlace} (h : DataW.Trod enc Tryd.prog W 0 (fun _ => true) true 72 (.slice a len cap) d p) :
    ∃ f : List Int, f.length = len ∧ InAt W a f ∧ IntWf f ∧ len ≤ maxLen := by
  obtain ⟨fuel, hf⟩ := h
  rcases open_ints Tryd.underlying72 Tryd.underlying3 (by kernel_rfl) hf with ⟨hcs, _⟩ | ⟨x, l, c, zs, hcs, _, hl, hm, hz, _, hcell, hwz⟩
  · simp [Value.cells] at hcs
    obtain ⟨rfl, rfl, rfl⟩ := hcs
    exact ⟨[], rfl, Or.inl rfl, fun z hz => by simp at hz, by simp⟩
  · simp [Value.cells] at hcs
    obtain ⟨rfl, rfl, rfl⟩ := hcs
    have hz' : zs.length = cap := by simpa using hz
    have hlen : (zs.take len).length = len := by simp; omega
    refine ⟨zs.take len, hlen, ?_, fun z hzm => bounds_i64 (hwz z (List.mem_of_mem_take hzm)), by omega⟩
    by_cases h0 : len = 0
    · exact Or.inl (List.length_eq_zero_iff.1 (by rw [hlen, h0]))
    · obtain ⟨b, off, spot⟩ := x
      have hc := hcell 0 (by omega)
      have hspot : spot = none := by simpa [Addr.add] using World.cell?_spot hc
      subst hspot
      refine Or.inr ⟨b, off, rfl, ?_, fun i hi => ?_⟩
      · have := World.block_lt_of_cell? _ _ hc
        simpa [Addr.add] using this
      · rw [hlen] at hi
        have := hcell i (by omega)
        have e : iat (zs.take len) i = zs.getD i 0 := by
          simp only [iat, List.getD_eq_getElem?_getD, List.getElem?_take, if_pos hi]
        rw [e, ← addr_add]
        exact this

/-! ### The one package-level variable: an error of errors.New's make -/
theorem Tryd.gE : Tryd.prog.globalNamed "herald/wire.errTooFew" = some 0 := by kernel_rfl
theorem Tryd.gEType : (Tryd.prog.globals[0]?).map (·.type) = some 130 := by kernel_rfl
theorem Tryd.cellsE : Tryd.prog.cellsOf 147 = 1 := by kernel_rfl
theorem Tryd.cellsSt : Tryd.prog.cellsOf 9 = 1 := by kernel_rfl
theorem Tryd.star : "*" ++ "errors.errorString" = "*errors.errorString" := by decide
theorem Tryd.rowE (u : TypeId) (h : Tryd.prog.typeName? 3 u = some "*errors.errorString") : u = 132 :=
  typeName_ptr_named (nm := "errors.errorString") (by rw [Tryd.star]; kernel_rfl) (by kernel_rfl) (by decide) u (by rw [Tryd.star]; exact h)

/-- What the listed variable gives the walks. -/
theorem te_of {W : World} (h : laidMetH Tryd.prog [("herald/wire.errTooFew", Rows.laid_herald_wire_errTooFew)] W) : ∃ pv, Te 132 pv W := by
  have h' : laidMet Tryd.prog [("herald/wire.errTooFew", Rows.laid_herald_wire_errTooFew)] W := h
  obtain ⟨a, s, hv, _⟩ := laid_sentinel h' Tryd.gE Tryd.gEType Tryd.underlying130 Tryd.rowE Tryd.underlying132 Tryd.underlying147 rfl rfl Tryd.underlying9 Tryd.cellsE Tryd.cellsSt
  have hc : W.cell? ⟨0, 0, none⟩ = some (.iface 132 (.pointer (some a))) := by simpa using World.var?_cell Tryd.gE hv 0
  exact ⟨_, hc, World.block_lt_of_cell? _ _ hc⟩

/-! ### One start that fits: the variable as its initialiser lays it -/
abbrev fewS : ByteArray := { data := #[116, 104, 101, 32, 98, 121, 116, 101, 115, 32, 101, 110, 100, 32, 116, 111, 111, 32, 101, 97, 114, 108, 121] }
/-- So many blocks has the settled world. -/
noncomputable def low : Nat := (World.holding Tryd.prog default ⟨#[], #[], []⟩).heap.size
noncomputable def laidWorld (os : Os) : World :=
  let w0 := World.holding Tryd.prog os ⟨#[.cells #[.string fewS] 147], #[], []⟩
  { w0 with heap := w0.heap.modify 0 fun
      | .cells _ t frozen => .cells #[.iface 132 (.pointer (some ⟨low, 0, none⟩))] t frozen
      | o => o }
theorem laid_met (os : Os) (args : Array Value) : laidMet Tryd.prog [("herald/wire.errTooFew", Rows.laid_herald_wire_errTooFew)] ((laidWorld os).forCall (fun _ _ => 0) ⟨#[], args, []⟩).memory :=
  laidMet_of_run (ps := [.cell 0 0, .cell low 0]) 8 (by kernel_rfl) (by kernel_rfl) (by kernel_rfl)
end Go.Proofs.YtecnfgikbmcgoaaDoor
namespace Go.Proofs.YtecnfgikbmcgoaaDoor
open Go.RowKit

/-- One byte more of a number. -/
def stp (x : Int) (b : Nat) : Int := wrap64 (x * 256 + b)
theorem or8 (z b : Nat) (h : b < 256) : 256 * z ||| b = 256 * z + b := by
  have := Nat.shiftLeft_add_eq_or_of_lt (i := 8) (by omega : b < 2 ^ 8) z
  rw [Nat.shiftLeft_eq, show (2 : Nat) ^ 8 = 256 by decide, Nat.mul_comm z 256] at this
  exact this.symm
theorem bits_stp (x : Int) (b : Nat) (h : b < 256) : bits .or .i64 (wrap64 (x * 256)) (b : Int) = stp x b := by
  show IntKind.i64.wrap ((BitVec.ofInt 64 (wrap64 (x * 256)) ||| BitVec.ofInt 64 (b : Int)).toNat : Int) = _
  obtain ⟨z, hz⟩ : ∃ z : Nat, (x * 256) % 18446744073709551616 = ((256 * z : Nat) : Int) := ⟨(x % 72057594037927936).toNat, by omega⟩
  have h1 : (BitVec.ofInt 64 (wrap64 (x * 256))).toNat = 256 * z := by
    rw [BitVec.toNat_ofInt]
    unfold wrap64
    have : ((2 : Nat) ^ 64 : Nat) = 18446744073709551616 := by decide
    rw [this]
    omega
  have h2 : (BitVec.ofInt 64 (b : Int)).toNat = b := by
    rw [BitVec.ofInt_natCast, BitVec.toNat_ofNat]; exact Nat.mod_eq_of_lt (by omega)
  rw [BitVec.toNat_or, h1, h2, or8 z b h, IntKind.wrap_i64]
  unfold stp wrap64
  omega
/-- So many bytes more. -/
def pNk : Nat → Int → List UInt8 → Option (Int × List UInt8)
  | 0, x, l => some (x, l)
  | k + 1, x, l => (pB l).bind fun y => pNk k (stp x y.1) y.2
def pN (l : List UInt8) : Option (Int × List UInt8) := pNk 8 0 l
set_option maxRecDepth 100000 in
set_option maxHeartbeats 4000000 in
theorem number_any (u : TypeId) (pv : Value) (R : Nat) (l : List UInt8) (w : World) (hR : 0 < R) (hr : Rd w R l) (ht : Te u pv w) :
    Calls Tryd.prog 68 #[.pointer (some ⟨R, 0, none⟩)] w (Rs u pv R w (fun x : Int => .int .i64 x) (pN l)) := by
  have HR := Hid.mk' hr
  have HT := Hid.mk' ht
  clear hr ht
  go_enter Tryd.func68, Tryd.ntmps68
  go_wp2_with fail
  go_loopw [3, 4] (fun n i wr => ∃ (q : Nat) (x : Int) (lq : List UInt8), q ≤ 8 ∧ i = .int .i64 q ∧ n = .int .i64 x ∧ Hid (w.grownBy wr (some R)) ∧ Hid (Rd wr R lq) ∧ Hid (pN l = pNk (8 - q) x lq)) (fun _ i _ => 8 - (intOf i).toNat)
  case atStart => exact ⟨0, 0, l, by omega, rfl, rfl, grown_refl _ _, HR, rfl⟩
  case round =>
    obtain ⟨q, x, lq, hq, rfl, rfl, G, D, E⟩ := hrel
    by_cases hlt : q < 8
    · have e8 : 8 - q = (8 - (q + 1)) + 1 := by omega
      go_wp2_with fail
      refine (oneByte_any u pv R lq wr D.out (HT.out.grown G.out hR)).mono ?_
      intro e w1 q1
      cases h1 : pB lq with
      | none =>
        obtain ⟨g1, rfl⟩ := q1.none h1
        have hp : pN l = none := by rw [E.out, e8, pNk, h1]; rfl
        go_wp2_with fail
        exact ⟨rfl, Rs.mkNone (grown_trans G.out g1) hp⟩
      | some y =>
        obtain ⟨b, r⟩ := y
        obtain ⟨g1, rfl, r1⟩ := q1.some h1
        have hbt := bits_stp x b (pB_lt h1)
        have E2 : Hid (pN l = pNk (8 - (q + 1)) (stp x b) r) := by
          show _ = _
          rw [E.out, e8, pNk, h1]; rfl
        have G2 := Hid.mk' (grown_trans G.out g1)
        have D2 := Hid.mk' r1
        clear G D E g1 r1 q1
        go_wp2_with fail
        refine ⟨⟨q + 1, stp x b, r, by omega, by go_num, rfl, G2, D2, E2⟩, ?_⟩
        simp [intOf]; omega
    · have hq8 : q = 8 := by omega
      subst hq8
      go_wp2_with fail
      go_ret
      exact Rs.mkSome G.out E.out rfl D.out
end Go.Proofs.YtecnfgikbmcgoaaDoor
namespace Go.Proofs.YtecnfgikbmcgoaaDoor
open Go.RowKit

structure Vl where
  k : Int
  n : Int
  s : List UInt8
def Vl.val (v : Vl) : Value := .agg #[.int .i64 v.k, .int .i64 v.n, .string (str v.s)]
def pV (l : List UInt8) : Option (Vl × List UInt8) := (pB l).bind fun y =>
  if y.1 = 1 then (pN y.2).map fun z => (⟨1, z.1, []⟩, z.2)
  else if y.1 = 2 then (pS y.2).map fun z => (⟨2, 0, z.1⟩, z.2)
  else if y.1 = 3 then (pB y.2).map fun z => (⟨3, z.1, []⟩, z.2)
  else some (⟨y.1, 0, []⟩, y.2)
theorem grown_new {w w' : World} {R B j : Nat} (h : w.grownBy w' (some R)) (hB : w.heap.size ≤ B) (u : Value) : w.grownBy (w'.setCell ⟨B, j, none⟩ u) (some R) :=
  ⟨h.os, h.tape, h.output, by rw [size_set]; exact h.size, fun i hi hr => by rw [Below.heap_setCell w' ⟨B, j, none⟩ u i (show i ≠ B by omega)]; exact h.block i hi hr⟩
theorem Rd.set {w : World} {R B j : Nat} {l : List UInt8} (h : Rd w R l) (hB : R ≠ B) (u : Value) : Rd (w.setCell ⟨B, j, none⟩ u) R l := blk_set h (p := ⟨B, j, none⟩) hB u
theorem str_nil : str [] = ⟨#[]⟩ := rfl
set_option maxRecDepth 100000 in
set_option maxHeartbeats 4000000 in
theorem readValue_any (u : TypeId) (pv : Value) (R : Nat) (l : List UInt8) (w : World) (hR : 0 < R) (hRw : R < w.heap.size) (hr : Rd w R l) (ht : Te u pv w) :
    Calls Tryd.prog 58 #[.pointer (some ⟨R, 0, none⟩)] w (Rs u pv R w Vl.val (pV l)) := by
  have HR := Hid.mk' hr
  have HT := Hid.mk' ht
  clear hr ht
  go_enter Tryd.func58, Tryd.ntmps58
  go_wp2_with fail
  have ga : Gr w (w.alloc (.cells #[.int .i64 0, .int .i64 0, .string ⟨#[]⟩] 35)) := (Gr.refl w).alloc _
  have hne : (some R : Option Nat) ≠ some w.heap.size := by simp; omega
  refine (oneByte_any u pv R l _ (HR.out.gr ga) (HT.out.gr ga)).mono ?_
  intro e w1 q1
  cases h1 : pB l with
  | none =>
    obtain ⟨g1, rfl⟩ := q1.none h1
    have HP : Hid (pV l = none) := by
      show _ = _
      rw [pV, h1]; rfl
    go_wp2_with fail
    exact ⟨rfl, Rs.mkNone (grown_trans (grown_gr ga) g1) HP.out⟩
  | some y =>
    obtain ⟨b, r⟩ := y
    obtain ⟨g1, rfl, r1⟩ := q1.some h1
    have hb := pB_lt h1
    have V1 := Hid.mk' (grown_block g1 (heap_alloc_new w _) hne)
    have G1 := Hid.mk' (grown_trans (grown_gr ga) g1)
    have D1 := Hid.mk' r1
    have v0 : w1.cell? ⟨w.heap.size, 0, none⟩ = some (.int .i64 0) := by rw [cell_of_row _ _ _ _ _ _ V1.out]; rfl
    have v1 : w1.cell? ⟨w.heap.size, 1, none⟩ = some (.int .i64 0) := by rw [cell_of_row _ _ _ _ _ _ V1.out]; rfl
    have v2 : w1.cell? ⟨w.heap.size, 2, none⟩ = some (.string ⟨#[]⟩) := by rw [cell_of_row _ _ _ _ _ _ V1.out]; rfl
    have f0 : w1.frozen? ⟨w.heap.size, 0, none⟩ = false := frozen_of_row _ _ _ _ _ V1.out
    have f1 : w1.frozen? ⟨w.heap.size, 1, none⟩ = false := frozen_of_row _ _ _ _ _ V1.out
    have f2 : w1.frozen? ⟨w.heap.size, 2, none⟩ = false := frozen_of_row _ _ _ _ _ V1.out
    clear g1 r1 q1
    by_cases hb1 : b = 1
    · subst hb1
      have gb : Gr w1 (w1.alloc (.cells #[.int .i64 1, .int .i64 0, .string ⟨#[]⟩] 35)) := (Gr.refl w1).alloc _
      have hw1 : w.heap.size + 1 ≤ w1.heap.size := blk_lt V1.out
      have hne1 : (some R : Option Nat) ≠ some w1.heap.size := by simp; omega
      go_wp2_with fail
      refine (number_any u pv R r _ hR (D1.out.gr gb) ((HT.out.grown G1.out hR).gr gb)).mono ?_
      intro e w3 q3
      cases h3 : pN r with
      | none =>
        obtain ⟨g3, rfl⟩ := q3.none h3
        have HP : Hid (pV l = none) := by
          show _ = _
          rw [pV, h1]; simp [h3]
        go_wp2_with fail
        exact ⟨rfl, Rs.mkNone (grown_trans G1.out (grown_trans (grown_gr gb) g3)) HP.out⟩
      | some z =>
        obtain ⟨n, r'⟩ := z
        obtain ⟨g3, rfl, r3⟩ := q3.some h3
        have HP : Hid (pV l = some (⟨1, n, []⟩, r')) := by
          show _ = _
          rw [pV, h1]; simp [h3]
        have V3 := Hid.mk' (grown_block g3 (blk_gr gb V1.out) hne)
        have N3 := Hid.mk' (grown_block g3 (heap_alloc_new w1 (.cells #[.int .i64 1, .int .i64 0, .string ⟨#[]⟩] 35)) hne1)
        have G3 := Hid.mk' (grown_trans G1.out (grown_trans (grown_gr gb) g3))
        have D3 := Hid.mk' r3
        clear v0 v1 v2 f0 f1 f2 g3 r3 q3
        have v0 : w3.cell? ⟨w.heap.size, 0, none⟩ = some (.int .i64 0) := by rw [cell_of_row _ _ _ _ _ _ V3.out]; rfl
        have v1 : w3.cell? ⟨w.heap.size, 1, none⟩ = some (.int .i64 0) := by rw [cell_of_row _ _ _ _ _ _ V3.out]; rfl
        have v2 : w3.cell? ⟨w.heap.size, 2, none⟩ = some (.string ⟨#[]⟩) := by rw [cell_of_row _ _ _ _ _ _ V3.out]; rfl
        have f0 : w3.frozen? ⟨w.heap.size, 0, none⟩ = false := frozen_of_row _ _ _ _ _ V3.out
        have f1 : w3.frozen? ⟨w.heap.size, 1, none⟩ = false := frozen_of_row _ _ _ _ _ V3.out
        have f2 : w3.frozen? ⟨w.heap.size, 2, none⟩ = false := frozen_of_row _ _ _ _ _ V3.out
        have n0 : w3.cell? ⟨w1.heap.size, 0, none⟩ = some (.int .i64 1) := by rw [cell_of_row _ _ _ _ _ _ N3.out]; rfl
        have n1 : w3.cell? ⟨w1.heap.size, 1, none⟩ = some (.int .i64 0) := by rw [cell_of_row _ _ _ _ _ _ N3.out]; rfl
        have n2 : w3.cell? ⟨w1.heap.size, 2, none⟩ = some (.string ⟨#[]⟩) := by rw [cell_of_row _ _ _ _ _ _ N3.out]; rfl
        have m1 : w3.frozen? ⟨w1.heap.size, 1, none⟩ = false := frozen_of_row _ _ _ _ _ N3.out
        have m2 : w3.frozen? ⟨w1.heap.size, 2, none⟩ = false := frozen_of_row _ _ _ _ _ N3.out
        have hne2 : w.heap.size ≠ w1.heap.size := by omega
        have hne3 : w1.heap.size ≠ w.heap.size := by omega
        go_wp2_with fail
        exact bodyPost_ret (v := .agg #[.int .i64 1, .int .i64 n, .string ⟨#[]⟩]) (by simp [results, Tryd.results58, go_sem, v0, v1, v2]) rfl
          (Rs.mkSome (grown_new (grown_new (grown_new (grown_new G3.out (by omega) _) (Nat.le_refl _) _) (Nat.le_refl _) _) (Nat.le_refl _) _) HP.out rfl ((((D3.out.set (by omega) _).set (by omega) _).set (by omega) _).set (by omega) _))
    · by_cases hb2 : b = 2
      · subst hb2
        have gb : Gr w1 (w1.alloc (.cells #[.int .i64 2, .int .i64 0, .string ⟨#[]⟩] 35)) := (Gr.refl w1).alloc _
        have hw1 : w.heap.size + 1 ≤ w1.heap.size := blk_lt V1.out
        have hne1 : (some R : Option Nat) ≠ some w1.heap.size := by simp; omega
        go_wp2_with fail
        refine (string_any u pv R r _ hR (D1.out.gr gb) ((HT.out.grown G1.out hR).gr gb)).mono ?_
        intro e w3 q3
        cases h3 : pS r with
        | none =>
          obtain ⟨g3, rfl⟩ := q3.none h3
          have HP : Hid (pV l = none) := by
            show _ = _
            rw [pV, h1]; simp [h3]
          go_wp2_with fail
          exact ⟨rfl, Rs.mkNone (grown_trans G1.out (grown_trans (grown_gr gb) g3)) HP.out⟩
        | some z =>
          obtain ⟨n, r'⟩ := z
          obtain ⟨g3, rfl, r3⟩ := q3.some h3
          have HP : Hid (pV l = some (⟨2, 0, n⟩, r')) := by
            show _ = _
            rw [pV, h1]; simp [h3]
          have V3 := Hid.mk' (grown_block g3 (blk_gr gb V1.out) hne)
          have N3 := Hid.mk' (grown_block g3 (heap_alloc_new w1 (.cells #[.int .i64 2, .int .i64 0, .string ⟨#[]⟩] 35)) hne1)
          have G3 := Hid.mk' (grown_trans G1.out (grown_trans (grown_gr gb) g3))
          have D3 := Hid.mk' r3
          clear v0 v1 v2 f0 f1 f2 g3 r3 q3
          have v0 : w3.cell? ⟨w.heap.size, 0, none⟩ = some (.int .i64 0) := by rw [cell_of_row _ _ _ _ _ _ V3.out]; rfl
          have v1 : w3.cell? ⟨w.heap.size, 1, none⟩ = some (.int .i64 0) := by rw [cell_of_row _ _ _ _ _ _ V3.out]; rfl
          have v2 : w3.cell? ⟨w.heap.size, 2, none⟩ = some (.string ⟨#[]⟩) := by rw [cell_of_row _ _ _ _ _ _ V3.out]; rfl
          have f0 : w3.frozen? ⟨w.heap.size, 0, none⟩ = false := frozen_of_row _ _ _ _ _ V3.out
          have f1 : w3.frozen? ⟨w.heap.size, 1, none⟩ = false := frozen_of_row _ _ _ _ _ V3.out
          have f2 : w3.frozen? ⟨w.heap.size, 2, none⟩ = false := frozen_of_row _ _ _ _ _ V3.out
          have n0 : w3.cell? ⟨w1.heap.size, 0, none⟩ = some (.int .i64 2) := by rw [cell_of_row _ _ _ _ _ _ N3.out]; rfl
          have n1 : w3.cell? ⟨w1.heap.size, 1, none⟩ = some (.int .i64 0) := by rw [cell_of_row _ _ _ _ _ _ N3.out]; rfl
          have n2 : w3.cell? ⟨w1.heap.size, 2, none⟩ = some (.string ⟨#[]⟩) := by rw [cell_of_row _ _ _ _ _ _ N3.out]; rfl
          have m1 : w3.frozen? ⟨w1.heap.size, 1, none⟩ = false := frozen_of_row _ _ _ _ _ N3.out
          have m2 : w3.frozen? ⟨w1.heap.size, 2, none⟩ = false := frozen_of_row _ _ _ _ _ N3.out
          have hne2 : w.heap.size ≠ w1.heap.size := by omega
          have hne3 : w1.heap.size ≠ w.heap.size := by omega
          go_wp2_with fail
          exact bodyPost_ret (v := .agg #[.int .i64 2, .int .i64 0, .string (str n)]) (by simp [results, Tryd.results58, go_sem, v0, v1, v2]) rfl
            (Rs.mkSome (grown_new (grown_new (grown_new (grown_new G3.out (by omega) _) (Nat.le_refl _) _) (Nat.le_refl _) _) (Nat.le_refl _) _) HP.out rfl ((((D3.out.set (by omega) _).set (by omega) _).set (by omega) _).set (by omega) _))
      · by_cases hb3 : b = 3
        · subst hb3
          have gb : Gr w1 (w1.alloc (.cells #[.int .i64 3, .int .i64 0, .string ⟨#[]⟩] 35)) := (Gr.refl w1).alloc _
          have hw1 : w.heap.size + 1 ≤ w1.heap.size := blk_lt V1.out
          have hne1 : (some R : Option Nat) ≠ some w1.heap.size := by simp; omega
          go_wp2_with fail
          refine (oneByte_any u pv R r _ (D1.out.gr gb) ((HT.out.grown G1.out hR).gr gb)).mono ?_
          intro e w3 q3
          cases h3 : pB r with
          | none =>
            obtain ⟨g3, rfl⟩ := q3.none h3
            have HP : Hid (pV l = none) := by
              show _ = _
              rw [pV, h1]; simp [h3]
            go_wp2_with fail
            exact ⟨rfl, Rs.mkNone (grown_trans G1.out (grown_trans (grown_gr gb) g3)) HP.out⟩
          | some z =>
            obtain ⟨n, r'⟩ := z
            obtain ⟨g3, rfl, r3⟩ := q3.some h3
            have HP : Hid (pV l = some (⟨3, n, []⟩, r')) := by
              show _ = _
              rw [pV, h1]; simp [h3]
            have V3 := Hid.mk' (grown_block g3 (blk_gr gb V1.out) hne)
            have N3 := Hid.mk' (grown_block g3 (heap_alloc_new w1 (.cells #[.int .i64 3, .int .i64 0, .string ⟨#[]⟩] 35)) hne1)
            have G3 := Hid.mk' (grown_trans G1.out (grown_trans (grown_gr gb) g3))
            have D3 := Hid.mk' r3
            clear v0 v1 v2 f0 f1 f2 g3 r3 q3
            have v0 : w3.cell? ⟨w.heap.size, 0, none⟩ = some (.int .i64 0) := by rw [cell_of_row _ _ _ _ _ _ V3.out]; rfl
            have v1 : w3.cell? ⟨w.heap.size, 1, none⟩ = some (.int .i64 0) := by rw [cell_of_row _ _ _ _ _ _ V3.out]; rfl
            have v2 : w3.cell? ⟨w.heap.size, 2, none⟩ = some (.string ⟨#[]⟩) := by rw [cell_of_row _ _ _ _ _ _ V3.out]; rfl
            have f0 : w3.frozen? ⟨w.heap.size, 0, none⟩ = false := frozen_of_row _ _ _ _ _ V3.out
            have f1 : w3.frozen? ⟨w.heap.size, 1, none⟩ = false := frozen_of_row _ _ _ _ _ V3.out
            have f2 : w3.frozen? ⟨w.heap.size, 2, none⟩ = false := frozen_of_row _ _ _ _ _ V3.out
            have n0 : w3.cell? ⟨w1.heap.size, 0, none⟩ = some (.int .i64 3) := by rw [cell_of_row _ _ _ _ _ _ N3.out]; rfl
            have n1 : w3.cell? ⟨w1.heap.size, 1, none⟩ = some (.int .i64 0) := by rw [cell_of_row _ _ _ _ _ _ N3.out]; rfl
            have n2 : w3.cell? ⟨w1.heap.size, 2, none⟩ = some (.string ⟨#[]⟩) := by rw [cell_of_row _ _ _ _ _ _ N3.out]; rfl
            have m1 : w3.frozen? ⟨w1.heap.size, 1, none⟩ = false := frozen_of_row _ _ _ _ _ N3.out
            have m2 : w3.frozen? ⟨w1.heap.size, 2, none⟩ = false := frozen_of_row _ _ _ _ _ N3.out
            have hne2 : w.heap.size ≠ w1.heap.size := by omega
            have hne3 : w1.heap.size ≠ w.heap.size := by omega
            go_wp2_with fail
            exact bodyPost_ret (v := .agg #[.int .i64 3, .int .i64 n, .string ⟨#[]⟩]) (by simp [results, Tryd.results58, go_sem, v0, v1, v2]) rfl
              (Rs.mkSome (grown_new (grown_new (grown_new (grown_new G3.out (by omega) _) (Nat.le_refl _) _) (Nat.le_refl _) _) (Nat.le_refl _) _) HP.out rfl ((((D3.out.set (by omega) _).set (by omega) _).set (by omega) _).set (by omega) _))
        · have e1 : ((b : Int) == 1) = false := by simp; omega
          have e2 : ((b : Int) == 2) = false := by simp; omega
          have e3 : ((b : Int) == 3) = false := by simp; omega
          have HP : Hid (pV l = some (⟨b, 0, []⟩, r)) := by
            show _ = _
            rw [pV, h1]; simp [hb1, hb2, hb3]
          have hw1 : w.heap.size < w1.heap.size := blk_lt V1.out
          have hne2 : w.heap.size ≠ w1.heap.size := by omega
          have hne3 : w1.heap.size ≠ w.heap.size := by omega
          go_wp2_with fail
          exact bodyPost_ret (v := .agg #[.int .i64 b, .int .i64 0, .string ⟨#[]⟩]) (by simp [results, Tryd.results58, go_sem, v0, v1, v2, World.cell?_alloc_past, hw1]) rfl
            (Rs.mkSome (grown_trans (grown_new (grown_new (grown_new G1.out (Nat.le_refl _) _) (Nat.le_refl _) _) (Nat.le_refl _) _) (grown_gr ((Gr.refl _).alloc _))) HP.out rfl ((((D1.out.set (by omega) _).set (by omega) _).set (by omega) _).gr ((Gr.refl _).alloc _)))
end Go.Proofs.YtecnfgikbmcgoaaDoor
