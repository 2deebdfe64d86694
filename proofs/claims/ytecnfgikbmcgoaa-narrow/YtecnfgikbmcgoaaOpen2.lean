import Derived.Test.YtecnfgikbmcgoaaOpen
import Derived.Test.YtecnfgikbmcgoaaWS
import Derived.Deep.Slices
namespace Go.Proofs.Ytecnfgikbmcgoaa
open Go.ChangeShapes Go.WideShapes Go.ChangeAt Go.RowKit

theorem ints_raw {H : Type} {enc : TypeId × Value → H} {W : World} {fuel : Nat} {cs : List Value} {x : DataW H × List MemPlace} (h : DataW.trod enc Try.prog W 0 (fun _ => true) true fuel 37 cs = some x) :
    ∃ (a : Option Addr) (cap : Nat) (f : List Int), cs = [.slice a f.length cap] ∧ InAt W a f ∧ IntWf f ∧ f.length ≤ maxLen := by
  rcases open_ints Try.underlying37 Try.underlying3 (by kernel_rfl) h with ⟨hcs, _⟩ | ⟨y, l, c, zs, hcs, _⟩
  · obtain ⟨f, h1, h2, h3, h4⟩ := ints_of (enc := enc) (W := W) (a := none) (len := 0) (cap := 0) (d := x.1) (p := x.2) ⟨fuel, by rw [hcs] at h; exact h⟩
    exact ⟨none, 0, f, by rw [h1]; exact hcs, h2, h3, by rw [h1]; exact h4⟩
  · obtain ⟨f, h1, h2, h3, h4⟩ := ints_of (enc := enc) (W := W) (a := some y) (len := l) (cap := c) (d := x.1) (p := x.2) ⟨fuel, by rw [hcs] at h; exact h⟩
    exact ⟨some y, c, f, by rw [h1]; exact hcs, h2, h3, by rw [h1]; exact h4⟩

theorem ins_of {H : Type} {enc : TypeId × Value → H} {W : World} {a : Option Addr} {len cap : Nat} {d : DataW H} {p : List MemPlace} (h : DataW.Trod enc Try.prog W 0 (fun _ => true) true 31 (.slice a len cap) d p) :
    ∃ zss : List (List Int), zss.length = len ∧ InsAd W a zss ∧ (∀ z ∈ zss, z.length ≤ maxLen) ∧ (∀ z ∈ zss, IntWf z) ∧ len ≤ maxLen := by
  obtain ⟨fuel, hf⟩ := h
  rcases Go.Deep.open_slice1 Try.underlying31 (by kernel_rfl) hf with ⟨hcs, _⟩ | ⟨x, l, c, m, n, V, D, Pl, hcs, _, hl, hm, hmm, _, hcell⟩
  · simp [Value.cells] at hcs
    obtain ⟨rfl, rfl, rfl⟩ := hcs
    exact ⟨[], rfl, Or.inl rfl, fun z hz => by simp at hz, fun z hz => by simp at hz, by simp⟩
  · simp [Value.cells] at hcs
    obtain ⟨rfl, rfl, rfl⟩ := hcs
    have hmm' : m = cap := by simpa using hmm
    subst hmm'
    obtain ⟨F, hF⟩ := Go.Deep.choose_lt (α := List Int) (n := len) (p := fun i f => ∃ ad cp, V i = .slice ad f.length cp ∧ InAt W ad f ∧ IntWf f ∧ f.length ≤ maxLen) (fun i hi => by
      obtain ⟨ad, cp, f, h1, h2, h3, h4⟩ := ints_raw (hcell i (by omega)).2
      exact ⟨f, ad, cp, by simpa using h1, h2, h3, h4⟩)
    have hlen : ((List.range len).map F).length = len := by simp
    refine ⟨(List.range len).map F, hlen, ?_, fun z hz => ?_, fun z hz => ?_, by omega⟩
    · by_cases h0 : len = 0
      · exact Or.inl (List.length_eq_zero_iff.1 (by rw [hlen, h0]))
      · obtain ⟨b, off, spot⟩ := x
        have hc := (hcell 0 (by omega)).1
        have hspot : spot = none := by simpa [Addr.add] using World.cell?_spot hc
        subst hspot
        refine Or.inr ⟨b, off, rfl, ?_, fun i hi => ?_⟩
        · have := World.block_lt_of_cell? _ _ hc
          simpa [Addr.add] using this
        · rw [hlen] at hi
          obtain ⟨ad, cp, h1, h2, _⟩ := hF i hi
          have hc' := (hcell i (by omega)).1
          have e : zat ((List.range len).map F) i = F i := by
            simp [zat, List.getD_eq_getElem?_getD, hi]
          rw [e, ← addr_add, hc', h1]
          exact ⟨ad, cp, rfl, h2⟩
    · obtain ⟨i, hi, rfl⟩ := List.mem_map.1 hz
      obtain ⟨ad, cp, _, _, _, h4⟩ := hF i (by simpa using hi)
      exact h4
    · obtain ⟨i, hi, rfl⟩ := List.mem_map.1 hz
      obtain ⟨ad, cp, _, _, h3, _⟩ := hF i (by simpa using hi)
      exact h3

end Go.Proofs.Ytecnfgikbmcgoaa
