import Derived.Test.YtecnfgikbmcgoaaOpen
import Derived.Test.YtecnfgikbmcgoaaWants
import Derived.Test.YtecnfgikbmcgoaaOwn
import Derived.Deep.Slices
import Derived.SizedLaws
import Derived.JoinedCond
namespace Go.Proofs.Ytecnfgikbmcgoaa
open Go.ChangeShapes Go.WideShapes Go.ChangeAt Go.RowKit

theorem Try.cellsW : Try.prog.cellsOf 51 = 5 := by kernel_rfl
theorem Try.cellsA : Try.prog.cellsOf 84 = 4 := by kernel_rfl
theorem Try.cellsV : Try.prog.cellsOf 49 = 3 := by kernel_rfl
theorem Try.cellsS : Try.prog.cellsOf 9 = 1 := by kernel_rfl
theorem Try.cellsI : Try.prog.cellsOf 3 = 1 := by kernel_rfl

theorem len3 {cs : List Value} (h : cs.length = 3) : ∃ a b c, cs = [a, b, c] := by
  rcases cs with _ | ⟨a, _ | ⟨b, _ | ⟨c, _ | _⟩⟩⟩ <;> simp at h
  exact ⟨a, b, c, rfl⟩
theorem len5 {cs : List Value} (h : cs.length = 5) : ∃ a b c d e, cs = [a, b, c, d, e] := by
  rcases cs with _ | ⟨a, _ | ⟨b, _ | ⟨c, _ | ⟨d, _ | ⟨e, _ | _⟩⟩⟩⟩⟩ <;> simp at h
  exact ⟨a, b, c, d, e, rfl⟩
theorem len4 {cs : List Value} (h : cs.length = 4) : ∃ a b c d, cs = [a, b, c, d] := by
  rcases cs with _ | ⟨a, _ | ⟨b, _ | ⟨c, _ | ⟨d, _ | _⟩⟩⟩⟩ <;> simp at h
  exact ⟨a, b, c, d, rfl⟩
instance : Inhabited Wnt := ⟨dW⟩
instance : Inhabited Atr := ⟨dA⟩
set_option maxRecDepth 100000 in
theorem val_raw {H : Type} {enc : TypeId × Value → H} {W : World} {fuel : Nat} {cs : List Value} {x : DataW H × List MemPlace} (h : DataW.trod enc Try.prog W 0 (fun _ => true) true fuel 49 cs = some x) :
    ∃ (k n : Int) (s : ByteArray), cs = [.int .i64 k, .int .i64 n, .string s] ∧ (Lit.int .i64 k).wf = true ∧ (Lit.int .i64 n).wf = true ∧ s.size ≤ maxLen := by
  obtain ⟨xs, m, _, _, hl, hxl, hf⟩ := DataW.trod_struct Try.underlying49 h
  rw [Try.cellsV] at hl
  obtain ⟨c0, c1, c2, rfl⟩ := len3 hl
  have e3 : xs.length = 3 := hxl
  have h0 := hf 0 _ rfl
  have h1 := hf 1 _ rfl
  have h2 := hf 2 _ rfl
  rw [List.getElem?_eq_getElem (by omega)] at h0 h1 h2
  have h0' : DataW.trod enc Try.prog W 0 (fun _ => true) true m 3 [c0] = some xs[0] := h0
  have h1' : DataW.trod enc Try.prog W 0 (fun _ => true) true m 3 [c1] = some xs[1] := h1
  have h2' : DataW.trod enc Try.prog W 0 (fun _ => true) true m 9 [c2] = some xs[2] := h2
  obtain ⟨k, hk, _, wk⟩ := DataW.trod_int Try.underlying3 h0'
  obtain ⟨n, hn, _, wn⟩ := DataW.trod_int Try.underlying3 h1'
  obtain ⟨s, hs, _, ws⟩ := DataW.trod_string Try.underlying9 h2'
  simp only [List.cons.injEq, and_true] at hk hn hs
  exact ⟨k, n, s, by rw [hk, hn, hs], wk, wn, ws⟩

set_option maxRecDepth 100000 in
theorem want_raw {H : Type} {enc : TypeId × Value → H} {W : World} {fuel : Nat} {cs : List Value} {x : DataW H × List MemPlace} (h : DataW.trod enc Try.prog W 0 (fun _ => true) true fuel 51 cs = some x) :
    ∃ v : Wnt, cs = [.string v.a, .int .i64 v.y, .int .i64 v.k, .int .i64 v.n, .string v.s] ∧ v.Wf := by
  obtain ⟨xs, m, _, _, hl, hxl, hf⟩ := DataW.trod_struct Try.underlying51 h
  rw [Try.cellsW] at hl
  obtain ⟨c0, c1, c2, c3, c4, rfl⟩ := len5 hl
  have e3 : xs.length = 3 := hxl
  have h0 := hf 0 _ rfl
  have h1 := hf 1 _ rfl
  have h2 := hf 2 _ rfl
  rw [List.getElem?_eq_getElem (by omega)] at h0 h1 h2
  have h0' : DataW.trod enc Try.prog W 0 (fun _ => true) true m 9 [c0] = some xs[0] := h0
  have h1' : DataW.trod enc Try.prog W 0 (fun _ => true) true m 3 [c1] = some xs[1] := h1
  have h2' : DataW.trod enc Try.prog W 0 (fun _ => true) true m 49 [c2, c3, c4] = some xs[2] := h2
  obtain ⟨a, ha, _, wa⟩ := DataW.trod_string Try.underlying9 h0'
  obtain ⟨y, hy, _, wy⟩ := DataW.trod_int Try.underlying3 h1'
  obtain ⟨k, n, s, hv, wk, wn, ws⟩ := val_raw h2'
  simp only [List.cons.injEq, and_true] at ha hy hv
  obtain ⟨rfl, rfl, rfl⟩ := hv
  exact ⟨⟨a, y, k, n, s⟩, by rw [ha, hy], ⟨wa, ws, (bounds_i64 wn).1, (bounds_i64 wn).2⟩⟩

theorem want_of {H : Type} {enc : TypeId × Value → H} {W : World} {v : Value} {d : DataW H} {p : List MemPlace} (h : DataW.Trod enc Try.prog W 0 (fun _ => true) true 51 v d p) :
    ∃ x : Wnt, v = .agg #[.string x.a, .int .i64 x.y, .int .i64 x.k, .int .i64 x.n, .string x.s] ∧ x.Wf := by
  obtain ⟨fuel, hf⟩ := h
  obtain ⟨x, hx, hw⟩ := want_raw hf
  refine ⟨x, ?_, hw⟩
  cases v <;> simp [Value.cells] at hx
  rename_i cs
  congr 1
  cases cs; simp_all

set_option maxRecDepth 100000 in
theorem attr_raw {H : Type} {enc : TypeId × Value → H} {W : World} {fuel : Nat} {cs : List Value} {x : DataW H × List MemPlace} (h : DataW.trod enc Try.prog W 0 (fun _ => true) true fuel 84 cs = some x) :
    ∃ v : Atr, cs = [.string v.a, .int .i64 v.k, .int .i64 v.n, .string v.s] ∧ v.Wf := by
  obtain ⟨xs, m, _, _, hl, hxl, hf⟩ := DataW.trod_struct Try.underlying84 h
  rw [Try.cellsA] at hl
  obtain ⟨c0, c2, c3, c4, rfl⟩ := len4 hl
  have e3 : xs.length = 2 := hxl
  have h0 := hf 0 _ rfl
  have h2 := hf 1 _ rfl
  rw [List.getElem?_eq_getElem (by omega)] at h0 h2
  have h0' : DataW.trod enc Try.prog W 0 (fun _ => true) true m 9 [c0] = some xs[0] := h0
  have h2' : DataW.trod enc Try.prog W 0 (fun _ => true) true m 49 [c2, c3, c4] = some xs[1] := h2
  obtain ⟨a, ha, _, wa⟩ := DataW.trod_string Try.underlying9 h0'
  obtain ⟨k, n, s, hv, wk, wn, ws⟩ := val_raw h2'
  simp only [List.cons.injEq, and_true] at ha hv
  obtain ⟨rfl, rfl, rfl⟩ := hv
  exact ⟨⟨a, k, n, s⟩, by rw [ha], ⟨wa, ws, (bounds_i64 wn).1, (bounds_i64 wn).2⟩⟩
theorem wants_of {H : Type} {enc : TypeId × Value → H} {W : World} {a : Option Addr} {len cap : Nat} {d : DataW H} {p : List MemPlace} (h : DataW.Trod enc Try.prog W 0 (fun _ => true) true 53 (.slice a len cap) d p) :
    ∃ f : List Wnt, f.length = len ∧ FiAt W a f ∧ (∀ x ∈ f, x.Wf) ∧ (len = 0 ∨ ∃ es sp, d = .slice es sp ∧ es.length = len) := by
  obtain ⟨fuel, hf⟩ := h
  rcases Go.Deep.open_slice Try.underlying53 hf with ⟨hcs, _⟩ | ⟨x, l, c, m, n, D, Pl, hcs, _, hl, hm, hmm, hd, hcell⟩
  · simp [Value.cells] at hcs
    obtain ⟨rfl, rfl, rfl⟩ := hcs
    exact ⟨[], rfl, Or.inl rfl, by simp, Or.inl rfl⟩
  · simp [Value.cells] at hcs
    obtain ⟨rfl, rfl, rfl⟩ := hcs
    have hmm' : m = cap := by simpa using hmm
    subst hmm'
    rw [Try.cellsW] at hcell
    obtain ⟨F, hF⟩ := Go.Deep.choose_lt (α := Wnt) (n := len) (p := fun i v => W.cells? 0 (x.add (i * 5)) 5 = some [.string v.a, .int .i64 v.y, .int .i64 v.k, .int .i64 v.n, .string v.s] ∧ v.Wf) (fun i hi => by
      obtain ⟨cs', h1, h2⟩ := hcell i (by omega)
      obtain ⟨v, rfl, hw⟩ := want_raw h2
      exact ⟨v, h1, hw⟩)
    have hlen : ((List.range len).map F).length = len := by simp
    refine ⟨(List.range len).map F, hlen, ?_, fun z hz => ?_, Or.inr ⟨_, _, (Prod.mk.injEq _ _ _ _ ▸ hd).1, by simp⟩⟩
    · by_cases h0 : len = 0
      · exact Or.inl (List.length_eq_zero_iff.1 (by rw [hlen, h0]))
      · obtain ⟨b, off, spot⟩ := x
        have cc := fun (i : Nat) (hi : i < len) => (World.cells?_some (hF i hi).1).2.2
        have hc := cc 0 (by omega) 0 (by omega)
        simp only [Nat.zero_mul, List.getElem?_cons_zero] at hc
        have hspot : spot = none := by simpa [Addr.add] using World.cell?_spot hc
        subst hspot
        refine Or.inr ⟨b, off, rfl, ?_, fun i hi => ?_⟩
        · have := World.block_lt_of_cell? _ _ hc
          simpa [Addr.add] using this
        · rw [hlen] at hi
          have e : wat ((List.range len).map F) i = F i := by
            simp [wat, List.getD_eq_getElem?_getD, hi]
          rw [e]
          have k0 := cc i hi 0 (by omega)
          have k1 := cc i hi 1 (by omega)
          have k2 := cc i hi 2 (by omega)
          have k3 := cc i hi 3 (by omega)
          have k4 := cc i hi 4 (by omega)
          rw [addr_add, addr_add] at k0 k1 k2 k3 k4
          exact ⟨k0, k1, k2, k3, k4⟩
    · obtain ⟨i, hi, rfl⟩ := List.mem_map.1 hz
      exact (hF i (by simpa using hi)).2
theorem attrs_of {H : Type} {enc : TypeId × Value → H} {W : World} {a : Option Addr} {len cap : Nat} {d : DataW H} {p : List MemPlace} (h : DataW.Trod enc Try.prog W 0 (fun _ => true) true 22 (.slice a len cap) d p) :
    ∃ f : List Atr, f.length = len ∧ EvAt W a f ∧ (∀ x ∈ f, x.Wf) ∧ (len = 0 ∨ ∃ es sp, d = .slice es sp ∧ es.length = len) := by
  obtain ⟨fuel, hf⟩ := h
  rcases Go.Deep.open_slice Try.underlying22 hf with ⟨hcs, _⟩ | ⟨x, l, c, m, n, D, Pl, hcs, _, hl, hm, hmm, hd, hcell⟩
  · simp [Value.cells] at hcs
    obtain ⟨rfl, rfl, rfl⟩ := hcs
    exact ⟨[], rfl, Or.inl rfl, by simp, Or.inl rfl⟩
  · simp [Value.cells] at hcs
    obtain ⟨rfl, rfl, rfl⟩ := hcs
    have hmm' : m = cap := by simpa using hmm
    subst hmm'
    rw [Try.cellsA] at hcell
    obtain ⟨F, hF⟩ := Go.Deep.choose_lt (α := Atr) (n := len) (p := fun i v => W.cells? 0 (x.add (i * 4)) 4 = some [.string v.a, .int .i64 v.k, .int .i64 v.n, .string v.s] ∧ v.Wf) (fun i hi => by
      obtain ⟨cs', h1, h2⟩ := hcell i (by omega)
      obtain ⟨v, rfl, hw⟩ := attr_raw h2
      exact ⟨v, h1, hw⟩)
    have hlen : ((List.range len).map F).length = len := by simp
    refine ⟨(List.range len).map F, hlen, ?_, fun z hz => ?_, Or.inr ⟨_, _, (Prod.mk.injEq _ _ _ _ ▸ hd).1, by simp⟩⟩
    · by_cases h0 : len = 0
      · exact Or.inl (List.length_eq_zero_iff.1 (by rw [hlen, h0]))
      · obtain ⟨b, off, spot⟩ := x
        have cc := fun (i : Nat) (hi : i < len) => (World.cells?_some (hF i hi).1).2.2
        have hc := cc 0 (by omega) 0 (by omega)
        simp only [Nat.zero_mul, List.getElem?_cons_zero] at hc
        have hspot : spot = none := by simpa [Addr.add] using World.cell?_spot hc
        subst hspot
        refine Or.inr ⟨b, off, rfl, ?_, fun i hi => ?_⟩
        · have := World.block_lt_of_cell? _ _ hc
          simpa [Addr.add] using this
        · rw [hlen] at hi
          have e : aat ((List.range len).map F) i = F i := by
            simp [aat, List.getD_eq_getElem?_getD, hi]
          rw [e]
          have k0 := cc i hi 0 (by omega)
          have k1 := cc i hi 1 (by omega)
          have k2 := cc i hi 2 (by omega)
          have k3 := cc i hi 3 (by omega)
          rw [addr_add, addr_add] at k0 k1 k2 k3
          exact ⟨k0, k1, k2, k3⟩
    · obtain ⟨i, hi, rfl⟩ := List.mem_map.1 hz
      exact (hF i (by simpa using hi)).2

theorem bulk_one {H : Type} (d : DataW H) : 1 ≤ Rows.uptoBulk d := by
  cases d with
  | lit l => cases l <;> simp [Rows.uptoBulk]
  | nil => simp [Rows.uptoBulk]
  | ptr d => simp [Rows.uptoBulk]
  | slice elems spare => simp [Rows.uptoBulk]
  | agg parts => simp [Rows.uptoBulk]
  | iface t d => simp [Rows.uptoBulk]
  | map entries => simp [Rows.uptoBulk]
  | held h => simp [Rows.uptoBulk]
theorem bulk_in {H : Type} {d : DataW H} {l : List (DataW H)} (h : d ∈ l) : Rows.uptoBulk d ≤ Rows.uptoBulkAll l := by
  induction l with
  | nil => cases h
  | cons x r ih =>
    simp only [Rows.uptoBulkAll]
    rcases List.mem_cons.1 h with e | e
    · subst e; omega
    · have := ih e; omega
theorem bulk_len {H : Type} (l : List (DataW H)) : l.length ≤ Rows.uptoBulkAll l := by
  induction l with
  | nil => simp [Rows.uptoBulkAll]
  | cons x r ih => have := bulk_one x; simp only [Rows.uptoBulkAll, List.length_cons]; omega
theorem bulk_slice {H : Type} {d : DataW H} {len : Nat} (h : len = 0 ∨ ∃ es sp, d = .slice es sp ∧ es.length = len) : len ≤ Rows.uptoBulk d := by
  rcases h with h | ⟨es, sp, rfl, rfl⟩
  · omega
  · have := bulk_len es
    simp only [Rows.uptoBulk]; omega
theorem wants_raw {H : Type} {enc : TypeId × Value → H} {W : World} {fuel : Nat} {cs : List Value} {x : DataW H × List MemPlace} (h : DataW.trod enc Try.prog W 0 (fun _ => true) true fuel 53 cs = some x) :
    ∃ (a : Option Addr) (cap : Nat) (f : List Wnt), cs = [.slice a f.length cap] ∧ FiAt W a f ∧ (∀ z ∈ f, z.Wf) ∧ f.length ≤ Rows.uptoBulk x.1 := by
  rcases Go.Deep.open_slice Try.underlying53 h with ⟨hcs, _⟩ | ⟨y, l, c, m, n, D, Pl, hcs, _⟩
  · obtain ⟨f, h1, h2, h3, h4⟩ := wants_of (enc := enc) (W := W) (a := none) (len := 0) (cap := 0) (d := x.1) (p := x.2) ⟨fuel, by rw [hcs] at h; exact h⟩
    exact ⟨none, 0, f, by rw [h1]; exact hcs, h2, h3, by rw [h1]; omega⟩
  · obtain ⟨f, h1, h2, h3, h4⟩ := wants_of (enc := enc) (W := W) (a := some y) (len := l) (cap := c) (d := x.1) (p := x.2) ⟨fuel, by rw [hcs] at h; exact h⟩
    exact ⟨some y, c, f, by rw [h1]; exact hcs, h2, h3, by rw [h1]; exact bulk_slice h4⟩
theorem wantss_of {H : Type} {enc : TypeId × Value → H} {W : World} {a : Option Addr} {len cap : Nat} {d : DataW H} {p : List MemPlace} (h : DataW.Trod enc Try.prog W 0 (fun _ => true) true 23 (.slice a len cap) d p) :
    ∃ fs : List (List Wnt), fs.length = len ∧ (fs = [] ∨ ∃ b off, a = some ⟨b, off, none⟩ ∧ b < W.heap.size ∧ FisAt W b off fs) ∧ (∀ f ∈ fs, ∀ z ∈ f, z.Wf) ∧ len ≤ Rows.uptoBulk d ∧ (∀ f ∈ fs, f.length ≤ Rows.uptoBulk d) := by
  obtain ⟨fuel, hf⟩ := h
  rcases Go.Deep.open_slice1 Try.underlying23 (by kernel_rfl) hf with ⟨hcs, _⟩ | ⟨x, l, c, m, n, V, D, Pl, hcs, _, hl, hm, hmm, hd, hcell⟩
  · simp [Value.cells] at hcs
    obtain ⟨rfl, rfl, rfl⟩ := hcs
    exact ⟨[], rfl, Or.inl rfl, by simp, by omega, by simp⟩
  · simp [Value.cells] at hcs
    obtain ⟨rfl, rfl, rfl⟩ := hcs
    have hmm' : m = cap := by simpa using hmm
    subst hmm'
    have hd1 := (Prod.mk.injEq _ _ _ _ ▸ hd).1
    obtain ⟨F, hF⟩ := Go.Deep.choose_lt (α := List Wnt) (n := len) (p := fun i f => ∃ ad cp, V i = .slice ad f.length cp ∧ FiAt W ad f ∧ (∀ z ∈ f, z.Wf) ∧ f.length ≤ Rows.uptoBulk (D i)) (fun i hi => by
      obtain ⟨ad, cp, f, h1, h2, h3, h4⟩ := wants_raw (hcell i (by omega)).2
      exact ⟨f, ad, cp, by simpa using h1, h2, h3, h4⟩)
    have hlen : ((List.range len).map F).length = len := by simp
    refine ⟨(List.range len).map F, hlen, ?_, fun z hz => ?_, ?_, fun z hz => ?_⟩
    · by_cases h0 : len = 0
      · exact Or.inl (List.length_eq_zero_iff.1 (by rw [hlen, h0]))
      · obtain ⟨b, off, spot⟩ := x
        have hc := (hcell 0 (by omega)).1
        have hspot : spot = none := by simpa [Addr.add] using World.cell?_spot hc
        subst hspot
        refine Or.inr ⟨b, off, rfl, ?_, fun i hi => ?_⟩
        · have := World.block_lt_of_cell? _ _ hc
          simpa [Addr.add] using this
        · rw [hlen] at hi
          obtain ⟨ad, cp, h1, h2, _⟩ := hF i hi
          have hc' := (hcell i (by omega)).1
          have e : fat ((List.range len).map F) i = F i := by
            simp [fat, List.getD_eq_getElem?_getD, hi]
          rw [e, ← addr_add, hc', h1]
          exact ⟨ad, cp, rfl, h2⟩
    · obtain ⟨i, hi, rfl⟩ := List.mem_map.1 hz
      obtain ⟨ad, cp, _, _, h3, _⟩ := hF i (by simpa using hi)
      exact h3
    · exact bulk_slice (Or.inr ⟨_, _, hd1, by simp⟩)
    · obtain ⟨i, hi, rfl⟩ := List.mem_map.1 hz
      obtain ⟨ad, cp, _, _, _, h4⟩ := hF i (by simpa using hi)
      have : Rows.uptoBulk (D i) ≤ Rows.uptoBulk d := by
        rw [hd1]
        simp only [Rows.uptoBulk]
        have := bulk_in (H := H) (d := D i) (l := (List.range len).map D) (List.mem_map.2 ⟨i, hi, rfl⟩)
        omega
      omega
end Go.Proofs.Ytecnfgikbmcgoaa
