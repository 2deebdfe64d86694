import Derived.Test.YtecnfgikbmcgoaaOpen
import Derived.Test.YtecnfgikbmcgoaaYF
import Derived.Deep.Slices
import Derived.SizedLaws
namespace Go.Proofs.Ytecnfgikbmcgoaa
open Go.ChangeShapes Go.WideShapes Go.ChangeAt Go.RowKit

theorem Try.cellsW : Try.prog.cellsOf 51 = 5 := by kernel_rfl
theorem Try.cellsV : Try.prog.cellsOf 49 = 3 := by kernel_rfl
theorem Try.cellsS : Try.prog.cellsOf 9 = 1 := by kernel_rfl
theorem Try.cellsI : Try.prog.cellsOf 3 = 1 := by kernel_rfl
theorem Try.bytesW : Try.prog.bytesOf 51 = 56 := by kernel_rfl

theorem len3 {cs : List Value} (h : cs.length = 3) : ∃ a b c, cs = [a, b, c] := by
  rcases cs with _ | ⟨a, _ | ⟨b, _ | ⟨c, _ | _⟩⟩⟩ <;> simp at h
  exact ⟨a, b, c, rfl⟩
theorem len5 {cs : List Value} (h : cs.length = 5) : ∃ a b c d e, cs = [a, b, c, d, e] := by
  rcases cs with _ | ⟨a, _ | ⟨b, _ | ⟨c, _ | ⟨d, _ | ⟨e, _ | _⟩⟩⟩⟩⟩ <;> simp at h
  exact ⟨a, b, c, d, e, rfl⟩
instance : Inhabited Wnt := ⟨dW⟩
set_option maxRecDepth 100000 in
theorem val_raw {H : Type} {enc : TypeId × Value → H} {W : World} {fuel : Nat} {cs : List Value} {x : DataW H × List MemPlace} (h : DataW.trod enc Try.prog W 0 (fun _ => true) true fuel 49 cs = some x) :
    ∃ (k n : Int) (s : ByteArray), cs = [.int .i64 k, .int .i64 n, .string s] ∧ (Lit.int .i64 k).wf = true ∧ (Lit.int .i64 n).wf = true ∧ s.size ≤ maxLen := by
  obtain ⟨xs, m, _, _, hl, hxl, hf⟩ := DataW.trod_struct Try.underlying49 h
  rw [Try.cellsV] at hl
  obtain ⟨c0, c1, c2, rfl⟩ := len3 hl
  have e3 : xs.length = 3 := hxl
  have h0 := hf 0 _ rfl
  have h1 := hf 1 _ rfl
  have h2 := hf 2 _ rfl
  rw [List.getElem?_eq_getElem (by omega)] at h0 h1 h2
  have h0' : DataW.trod enc Try.prog W 0 (fun _ => true) true m 3 [c0] = some xs[0] := h0
  have h1' : DataW.trod enc Try.prog W 0 (fun _ => true) true m 3 [c1] = some xs[1] := h1
  have h2' : DataW.trod enc Try.prog W 0 (fun _ => true) true m 9 [c2] = some xs[2] := h2
  obtain ⟨k, hk, _, wk⟩ := DataW.trod_int Try.underlying3 h0'
  obtain ⟨n, hn, _, wn⟩ := DataW.trod_int Try.underlying3 h1'
  obtain ⟨s, hs, _, ws⟩ := DataW.trod_string Try.underlying9 h2'
  simp only [List.cons.injEq, and_true] at hk hn hs
  exact ⟨k, n, s, by rw [hk, hn, hs], wk, wn, ws⟩

set_option maxRecDepth 100000 in
theorem want_raw {H : Type} {enc : TypeId × Value → H} {W : World} {fuel : Nat} {cs : List Value} {x : DataW H × List MemPlace} (h : DataW.trod enc Try.prog W 0 (fun _ => true) true fuel 51 cs = some x) :
    ∃ v : Wnt, cs = [.string v.a, .int .i64 v.y, .int .i64 v.k, .int .i64 v.n, .string v.s] ∧ v.Wf := by
  obtain ⟨xs, m, _, _, hl, hxl, hf⟩ := DataW.trod_struct Try.underlying51 h
  rw [Try.cellsW] at hl
  obtain ⟨c0, c1, c2, c3, c4, rfl⟩ := len5 hl
  have e3 : xs.length = 3 := hxl
  have h0 := hf 0 _ rfl
  have h1 := hf 1 _ rfl
  have h2 := hf 2 _ rfl
  rw [List.getElem?_eq_getElem (by omega)] at h0 h1 h2
  have h0' : DataW.trod enc Try.prog W 0 (fun _ => true) true m 9 [c0] = some xs[0] := h0
  have h1' : DataW.trod enc Try.prog W 0 (fun _ => true) true m 3 [c1] = some xs[1] := h1
  have h2' : DataW.trod enc Try.prog W 0 (fun _ => true) true m 49 [c2, c3, c4] = some xs[2] := h2
  obtain ⟨a, ha, _, wa⟩ := DataW.trod_string Try.underlying9 h0'
  obtain ⟨y, hy, _, wy⟩ := DataW.trod_int Try.underlying3 h1'
  obtain ⟨k, n, s, hv, wk, wn, ws⟩ := val_raw h2'
  simp only [List.cons.injEq, and_true] at ha hy hv
  obtain ⟨rfl, rfl, rfl⟩ := hv
  exact ⟨⟨a, y, k, n, s⟩, by rw [ha, hy], ⟨wa, ws, (bounds_i64 wn).1, (bounds_i64 wn).2⟩⟩

theorem want_of {H : Type} {enc : TypeId × Value → H} {W : World} {v : Value} {d : DataW H} {p : List MemPlace} (h : DataW.Trod enc Try.prog W 0 (fun _ => true) true 51 v d p) :
    ∃ x : Wnt, v = .agg #[.string x.a, .int .i64 x.y, .int .i64 x.k, .int .i64 x.n, .string x.s] ∧ x.Wf := by
  obtain ⟨fuel, hf⟩ := h
  obtain ⟨x, hx, hw⟩ := want_raw hf
  refine ⟨x, ?_, hw⟩
  cases v <;> simp [Value.cells] at hx
  rename_i cs
  congr 1
  cases cs; simp_all

theorem wants_of {H : Type} {enc : TypeId × Value → H} {W : World} {a : Option Addr} {len cap : Nat} {d : DataW H} {p : List MemPlace} (h : DataW.Trod enc Try.prog W 0 (fun _ => true) true 53 (.slice a len cap) d p) :
    ∃ f : List Wnt, f.length = len ∧ FiAt W a f ∧ (∀ x ∈ f, x.Wf) ∧ (len = 0 ∨ ∃ es sp, d = .slice es sp ∧ es.length = len) := by
  obtain ⟨fuel, hf⟩ := h
  rcases Go.Deep.open_slice Try.underlying53 hf with ⟨hcs, _⟩ | ⟨x, l, c, m, n, D, Pl, hcs, _, hl, hm, hmm, hd, hcell⟩
  · simp [Value.cells] at hcs
    obtain ⟨rfl, rfl, rfl⟩ := hcs
    exact ⟨[], rfl, Or.inl rfl, by simp, Or.inl rfl⟩
  · simp [Value.cells] at hcs
    obtain ⟨rfl, rfl, rfl⟩ := hcs
    have hmm' : m = cap := by simpa using hmm
    subst hmm'
    rw [Try.cellsW] at hcell
    obtain ⟨F, hF⟩ := Go.Deep.choose_lt (α := Wnt) (n := len) (p := fun i v => W.cells? 0 (x.add (i * 5)) 5 = some [.string v.a, .int .i64 v.y, .int .i64 v.k, .int .i64 v.n, .string v.s] ∧ v.Wf) (fun i hi => by
      obtain ⟨cs', h1, h2⟩ := hcell i (by omega)
      obtain ⟨v, rfl, hw⟩ := want_raw h2
      exact ⟨v, h1, hw⟩)
    have hlen : ((List.range len).map F).length = len := by simp
    refine ⟨(List.range len).map F, hlen, ?_, fun z hz => ?_, Or.inr ⟨_, _, (Prod.mk.injEq _ _ _ _ ▸ hd).1, by simp⟩⟩
    · by_cases h0 : len = 0
      · exact Or.inl (List.length_eq_zero_iff.1 (by rw [hlen, h0]))
      · obtain ⟨b, off, spot⟩ := x
        have cc := fun (i : Nat) (hi : i < len) => (World.cells?_some (hF i hi).1).2.2
        have hc := cc 0 (by omega) 0 (by omega)
        simp only [Nat.zero_mul, List.getElem?_cons_zero] at hc
        have hspot : spot = none := by simpa [Addr.add] using World.cell?_spot hc
        subst hspot
        refine Or.inr ⟨b, off, rfl, ?_, fun i hi => ?_⟩
        · have := World.block_lt_of_cell? _ _ hc
          simpa [Addr.add] using this
        · rw [hlen] at hi
          have e : wat ((List.range len).map F) i = F i := by
            simp [wat, List.getD_eq_getElem?_getD, hi]
          rw [e]
          have k0 := cc i hi 0 (by omega)
          have k1 := cc i hi 1 (by omega)
          have k2 := cc i hi 2 (by omega)
          have k3 := cc i hi 3 (by omega)
          have k4 := cc i hi 4 (by omega)
          rw [addr_add, addr_add] at k0 k1 k2 k3 k4
          exact ⟨k0, k1, k2, k3, k4⟩
    · obtain ⟨i, hi, rfl⟩ := List.mem_map.1 hz
      exact (hF i (by simpa using hi)).2
end Go.Proofs.Ytecnfgikbmcgoaa
