import Derived.Test.YtecnfgikbmcgoaaDoorRows
import Derived.Test.YtecnfgikbmcgoaaDoorShelf
import Derived.Test.YtecnfgikbmcgoaaDoorWants
import Derived.Test.YtecnfgikbmcgoaaDoorUg
import Derived.ProofKit
import Derived.OpenShut
import Derived.HandedShaped
import Derived.Stop.LaidErr
namespace Go.Proofs.YtecnfgikbmcgoaaDoor
open Go.ChangeShapes Go.WideShapes Go.ChangeAt Go.RowKit

theorem Tryd.own : ownKnob Tryd.prog.godebug = none := by kernel_rfl
theorem Tryd.laidOut : laidOutB Tryd.prog = true := by kernel_rfl

theorem addr_add (b off i : Nat) : (⟨b, off, none⟩ : Addr).add i = ⟨b, off + i, none⟩ := by
  unfold Addr.add; split <;> simp_all

/-- A slice of ints that came in, as the walks want it. -/
theorem ints_of {H : Type} {enc : TypeId × Value → H} {W : World} {a : Option Addr} {len cap : Nat} {d : DataW H} {p : List MemPlace} (h : DataW.Trod enc Tryd.prog W 0 (fun _ => true) true 72 (.slice a len cap) d p) :
    ∃ f : List Int, f.length = len ∧ InAt W a f ∧ IntWf f ∧ len ≤ maxLen := by
  obtain ⟨fuel, hf⟩ := h
  rcases open_ints Tryd.underlying72 Tryd.underlying3 (by kernel_rfl) hf with ⟨hcs, _⟩ | ⟨x, l, c, zs, hcs, _, hl, hm, hz, _, hcell, hwz⟩
  · simp [Value.cells] at hcs
    obtain ⟨rfl, rfl, rfl⟩ := hcs
    exact ⟨[], rfl, Or.inl rfl, fun z hz => by simp at hz, by simp⟩
  · simp [Value.cells] at hcs
    obtain ⟨rfl, rfl, rfl⟩ := hcs
    have hz' : zs.length = cap := by simpa using hz
    have hlen : (zs.take len).length = len := by simp; omega
    refine ⟨zs.take len, hlen, ?_, fun z hzm => bounds_i64 (hwz z (List.mem_of_mem_take hzm)), by omega⟩
    by_cases h0 : len = 0
    · exact Or.inl (List.length_eq_zero_iff.1 (by rw [hlen, h0]))
    · obtain ⟨b, off, spot⟩ := x
      have hc := hcell 0 (by omega)
      have hspot : spot = none := by simpa [Addr.add] using World.cell?_spot hc
      subst hspot
      refine Or.inr ⟨b, off, rfl, ?_, fun i hi => ?_⟩
      · have := World.block_lt_of_cell? _ _ hc
        simpa [Addr.add] using this
      · rw [hlen] at hi
        have := hcell i (by omega)
        have e : iat (zs.take len) i = zs.getD i 0 := by
          simp only [iat, List.getD_eq_getElem?_getD, List.getElem?_take, if_pos hi]
        rw [e, ← addr_add]
        exact this

/-! ### The one package-level variable: an error of errors.New's make -/
theorem Tryd.gE : Tryd.prog.globalNamed "herald/wire.errTooFew" = some 0 := by kernel_rfl
theorem Tryd.gEType : (Tryd.prog.globals[0]?).map (·.type) = some 130 := by kernel_rfl
theorem Tryd.cellsE : Tryd.prog.cellsOf 147 = 1 := by kernel_rfl
theorem Tryd.cellsSt : Tryd.prog.cellsOf 9 = 1 := by kernel_rfl
theorem Tryd.star : "*" ++ "errors.errorString" = "*errors.errorString" := by decide
theorem Tryd.rowE (u : TypeId) (h : Tryd.prog.typeName? 3 u = some "*errors.errorString") : u = 132 :=
  typeName_ptr_named (nm := "errors.errorString") (by rw [Tryd.star]; kernel_rfl) (by kernel_rfl) (by decide) u (by rw [Tryd.star]; exact h)

/-- What the listed variable gives the walks. -/
theorem te_of {W : World} (h : laidMetH Tryd.prog [("herald/wire.errTooFew", Rows.laid_herald_wire_errTooFew)] W) : ∃ pv, Te 132 pv W := by
  have h' : laidMet Tryd.prog [("herald/wire.errTooFew", Rows.laid_herald_wire_errTooFew)] W := h
  obtain ⟨a, s, hv, _⟩ := laid_sentinel h' Tryd.gE Tryd.gEType Tryd.underlying130 Tryd.rowE Tryd.underlying132 Tryd.underlying147 rfl rfl Tryd.underlying9 Tryd.cellsE Tryd.cellsSt
  have hc : W.cell? ⟨0, 0, none⟩ = some (.iface 132 (.pointer (some a))) := by simpa using World.var?_cell Tryd.gE hv 0
  exact ⟨_, hc, World.block_lt_of_cell? _ _ hc⟩

/-! ### One start that fits: the variable as its initialiser lays it -/
abbrev fewS : ByteArray := { data := #[116, 104, 101, 32, 98, 121, 116, 101, 115, 32, 101, 110, 100, 32, 116, 111, 111, 32, 101, 97, 114, 108, 121] }
/-- So many blocks has the settled world. -/
noncomputable def low : Nat := (World.holding Tryd.prog default ⟨#[], #[], []⟩).heap.size
noncomputable def laidWorld (os : Os) : World :=
  let w0 := World.holding Tryd.prog os ⟨#[.cells #[.string fewS] 147], #[], []⟩
  { w0 with heap := w0.heap.modify 0 fun
      | .cells _ t frozen => .cells #[.iface 132 (.pointer (some ⟨low, 0, none⟩))] t frozen
      | o => o }
theorem laid_met (os : Os) (args : Array Value) : laidMet Tryd.prog [("herald/wire.errTooFew", Rows.laid_herald_wire_errTooFew)] ((laidWorld os).forCall (fun _ _ => 0) ⟨#[], args, []⟩).memory :=
  laidMet_of_run (ps := [.cell 0 0, .cell low 0]) 8 (by kernel_rfl) (by kernel_rfl) (by kernel_rfl)
end Go.Proofs.YtecnfgikbmcgoaaDoor
