import Derived.Test.YtecnfgikbmcgoaaDoorOpenD
import Derived.Test.YtecnfgikbmcgoaaDoorOwn
import Derived.Deep.Slices
import Derived.SizedLaws
namespace Go.Proofs.YtecnfgikbmcgoaaDoor
open Go.ChangeShapes Go.WideShapes Go.ChangeAt Go.RowKit

theorem Tryd.bytesW : Tryd.prog.bytesOf 69 = 56 := by kernel_rfl
theorem Tryd.bytesA : Tryd.prog.bytesOf 84 = 48 := by kernel_rfl
theorem Tryd.cellsW : Tryd.prog.cellsOf 69 = 5 := by kernel_rfl
theorem Tryd.cellsA : Tryd.prog.cellsOf 84 = 4 := by kernel_rfl
theorem Tryd.cellsV : Tryd.prog.cellsOf 67 = 3 := by kernel_rfl
theorem Tryd.cellsS : Tryd.prog.cellsOf 9 = 1 := by kernel_rfl
theorem Tryd.cellsI : Tryd.prog.cellsOf 3 = 1 := by kernel_rfl

theorem len3 {cs : List Value} (h : cs.length = 3) : ∃ a b c, cs = [a, b, c] := by
  rcases cs with _ | ⟨a, _ | ⟨b, _ | ⟨c, _ | _⟩⟩⟩ <;> simp at h
  exact ⟨a, b, c, rfl⟩
theorem len5 {cs : List Value} (h : cs.length = 5) : ∃ a b c d e, cs = [a, b, c, d, e] := by
  rcases cs with _ | ⟨a, _ | ⟨b, _ | ⟨c, _ | ⟨d, _ | ⟨e, _ | _⟩⟩⟩⟩⟩ <;> simp at h
  exact ⟨a, b, c, d, e, rfl⟩
theorem len4 {cs : List Value} (h : cs.length = 4) : ∃ a b c d, cs = [a, b, c, d] := by
  rcases cs with _ | ⟨a, _ | ⟨b, _ | ⟨c, _ | ⟨d, _ | _⟩⟩⟩⟩ <;> simp at h
  exact ⟨a, b, c, d, rfl⟩
instance : Inhabited Wnt := ⟨dW⟩
instance : Inhabited Atr := ⟨dA⟩
set_option maxRecDepth 100000 in
theorem val_raw {H : Type} {enc : TypeId × Value → H} {W : World} {fuel : Nat} {cs : List Value} {x : DataW H × List MemPlace} (h : DataW.trod enc Tryd.prog W 0 (fun _ => true) true fuel 67 cs = some x) :
    ∃ (k n : Int) (s : ByteArray), cs = [.int .i64 k, .int .i64 n, .string s] ∧ (Lit.int .i64 k).wf = true ∧ (Lit.int .i64 n).wf = true ∧ s.size ≤ maxLen := by
  obtain ⟨xs, m, _, _, hl, hxl, hf⟩ := DataW.trod_struct Tryd.underlying67 h
  rw [Tryd.cellsV] at hl
  obtain ⟨c0, c1, c2, rfl⟩ := len3 hl
  have e3 : xs.length = 3 := hxl
  have h0 := hf 0 _ rfl
  have h1 := hf 1 _ rfl
  have h2 := hf 2 _ rfl
  rw [List.getElem?_eq_getElem (by omega)] at h0 h1 h2
  have h0' : DataW.trod enc Tryd.prog W 0 (fun _ => true) true m 3 [c0] = some xs[0] := h0
  have h1' : DataW.trod enc Tryd.prog W 0 (fun _ => true) true m 3 [c1] = some xs[1] := h1
  have h2' : DataW.trod enc Tryd.prog W 0 (fun _ => true) true m 9 [c2] = some xs[2] := h2
  obtain ⟨k, hk, _, wk⟩ := DataW.trod_int Tryd.underlying3 h0'
  obtain ⟨n, hn, _, wn⟩ := DataW.trod_int Tryd.underlying3 h1'
  obtain ⟨s, hs, _, ws⟩ := DataW.trod_string Tryd.underlying9 h2'
  simp only [List.cons.injEq, and_true] at hk hn hs
  exact ⟨k, n, s, by rw [hk, hn, hs], wk, wn, ws⟩

set_option maxRecDepth 100000 in
theorem want_raw {H : Type} {enc : TypeId × Value → H} {W : World} {fuel : Nat} {cs : List Value} {x : DataW H × List MemPlace} (h : DataW.trod enc Tryd.prog W 0 (fun _ => true) true fuel 69 cs = some x) :
    ∃ v : Wnt, cs = [.string v.a, .int .i64 v.y, .int .i64 v.k, .int .i64 v.n, .string v.s] ∧ v.Wf := by
  obtain ⟨xs, m, _, _, hl, hxl, hf⟩ := DataW.trod_struct Tryd.underlying69 h
  rw [Tryd.cellsW] at hl
  obtain ⟨c0, c1, c2, c3, c4, rfl⟩ := len5 hl
  have e3 : xs.length = 3 := hxl
  have h0 := hf 0 _ rfl
  have h1 := hf 1 _ rfl
  have h2 := hf 2 _ rfl
  rw [List.getElem?_eq_getElem (by omega)] at h0 h1 h2
  have h0' : DataW.trod enc Tryd.prog W 0 (fun _ => true) true m 9 [c0] = some xs[0] := h0
  have h1' : DataW.trod enc Tryd.prog W 0 (fun _ => true) true m 3 [c1] = some xs[1] := h1
  have h2' : DataW.trod enc Tryd.prog W 0 (fun _ => true) true m 67 [c2, c3, c4] = some xs[2] := h2
  obtain ⟨a, ha, _, wa⟩ := DataW.trod_string Tryd.underlying9 h0'
  obtain ⟨y, hy, _, wy⟩ := DataW.trod_int Tryd.underlying3 h1'
  obtain ⟨k, n, s, hv, wk, wn, ws⟩ := val_raw h2'
  simp only [List.cons.injEq, and_true] at ha hy hv
  obtain ⟨rfl, rfl, rfl⟩ := hv
  exact ⟨⟨a, y, k, n, s⟩, by rw [ha, hy], ⟨wa, ws, (bounds_i64 wn).1, (bounds_i64 wn).2⟩⟩

theorem want_of {H : Type} {enc : TypeId × Value → H} {W : World} {v : Value} {d : DataW H} {p : List MemPlace} (h : DataW.Trod enc Tryd.prog W 0 (fun _ => true) true 69 v d p) :
    ∃ x : Wnt, v = .agg #[.string x.a, .int .i64 x.y, .int .i64 x.k, .int .i64 x.n, .string x.s] ∧ x.Wf := by
  obtain ⟨fuel, hf⟩ := h
  obtain ⟨x, hx, hw⟩ := want_raw hf
  refine ⟨x, ?_, hw⟩
  cases v <;> simp [Value.cells] at hx
  rename_i cs
  congr 1
  cases cs; simp_all

set_option maxRecDepth 100000 in
theorem attr_raw {H : Type} {enc : TypeId × Value → H} {W : World} {fuel : Nat} {cs : List Value} {x : DataW H × List MemPlace} (h : DataW.trod enc Tryd.prog W 0 (fun _ => true) true fuel 84 cs = some x) :
    ∃ v : Atr, cs = [.string v.a, .int .i64 v.k, .int .i64 v.n, .string v.s] ∧ v.Wf := by
  obtain ⟨xs, m, _, _, hl, hxl, hf⟩ := DataW.trod_struct Tryd.underlying84 h
  rw [Tryd.cellsA] at hl
  obtain ⟨c0, c2, c3, c4, rfl⟩ := len4 hl
  have e3 : xs.length = 2 := hxl
  have h0 := hf 0 _ rfl
  have h2 := hf 1 _ rfl
  rw [List.getElem?_eq_getElem (by omega)] at h0 h2
  have h0' : DataW.trod enc Tryd.prog W 0 (fun _ => true) true m 9 [c0] = some xs[0] := h0
  have h2' : DataW.trod enc Tryd.prog W 0 (fun _ => true) true m 67 [c2, c3, c4] = some xs[1] := h2
  obtain ⟨a, ha, _, wa⟩ := DataW.trod_string Tryd.underlying9 h0'
  obtain ⟨k, n, s, hv, wk, wn, ws⟩ := val_raw h2'
  simp only [List.cons.injEq, and_true] at ha hv
  obtain ⟨rfl, rfl, rfl⟩ := hv
  exact ⟨⟨a, k, n, s⟩, by rw [ha], ⟨wa, ws, (bounds_i64 wn).1, (bounds_i64 wn).2⟩⟩
theorem wants_of {H : Type} {enc : TypeId × Value → H} {W : World} {a : Option Addr} {len cap : Nat} {d : DataW H} {p : List MemPlace} (h : DataW.Trod enc Tryd.prog W 0 (fun _ => true) true 23 (.slice a len cap) d p) :
    ∃ f : List Wnt, f.length = len ∧ FiAt W a f ∧ (∀ x ∈ f, x.Wf) ∧ (len = 0 ∨ ∃ es sp, d = .slice es sp ∧ es.length = len) := by
  obtain ⟨fuel, hf⟩ := h
  rcases Go.Deep.open_slice Tryd.underlying23 hf with ⟨hcs, _⟩ | ⟨x, l, c, m, n, D, Pl, hcs, _, hl, hm, hmm, hd, hcell⟩
  · simp [Value.cells] at hcs
    obtain ⟨rfl, rfl, rfl⟩ := hcs
    exact ⟨[], rfl, Or.inl rfl, by simp, Or.inl rfl⟩
  · simp [Value.cells] at hcs
    obtain ⟨rfl, rfl, rfl⟩ := hcs
    have hmm' : m = cap := by simpa using hmm
    subst hmm'
    rw [Tryd.cellsW] at hcell
    obtain ⟨F, hF⟩ := Go.Deep.choose_lt (α := Wnt) (n := len) (p := fun i v => W.cells? 0 (x.add (i * 5)) 5 = some [.string v.a, .int .i64 v.y, .int .i64 v.k, .int .i64 v.n, .string v.s] ∧ v.Wf) (fun i hi => by
      obtain ⟨cs', h1, h2⟩ := hcell i (by omega)
      obtain ⟨v, rfl, hw⟩ := want_raw h2
      exact ⟨v, h1, hw⟩)
    have hlen : ((List.range len).map F).length = len := by simp
    refine ⟨(List.range len).map F, hlen, ?_, fun z hz => ?_, Or.inr ⟨_, _, (Prod.mk.injEq _ _ _ _ ▸ hd).1, by simp⟩⟩
    · by_cases h0 : len = 0
      · exact Or.inl (List.length_eq_zero_iff.1 (by rw [hlen, h0]))
      · obtain ⟨b, off, spot⟩ := x
        have cc := fun (i : Nat) (hi : i < len) => (World.cells?_some (hF i hi).1).2.2
        have hc := cc 0 (by omega) 0 (by omega)
        simp only [Nat.zero_mul, List.getElem?_cons_zero] at hc
        have hspot : spot = none := by simpa [Addr.add] using World.cell?_spot hc
        subst hspot
        refine Or.inr ⟨b, off, rfl, ?_, fun i hi => ?_⟩
        · have := World.block_lt_of_cell? _ _ hc
          simpa [Addr.add] using this
        · rw [hlen] at hi
          have e : wat ((List.range len).map F) i = F i := by
            simp [wat, List.getD_eq_getElem?_getD, hi]
          rw [e]
          have k0 := cc i hi 0 (by omega)
          have k1 := cc i hi 1 (by omega)
          have k2 := cc i hi 2 (by omega)
          have k3 := cc i hi 3 (by omega)
          have k4 := cc i hi 4 (by omega)
          rw [addr_add, addr_add] at k0 k1 k2 k3 k4
          exact ⟨k0, k1, k2, k3, k4⟩
    · obtain ⟨i, hi, rfl⟩ := List.mem_map.1 hz
      exact (hF i (by simpa using hi)).2
theorem attrs_of {H : Type} {enc : TypeId × Value → H} {W : World} {a : Option Addr} {len cap : Nat} {d : DataW H} {p : List MemPlace} (h : DataW.Trod enc Tryd.prog W 0 (fun _ => true) true 22 (.slice a len cap) d p) :
    ∃ f : List Atr, f.length = len ∧ EvAt W a f ∧ (∀ x ∈ f, x.Wf) ∧ (len = 0 ∨ ∃ es sp, d = .slice es sp ∧ es.length = len) := by
  obtain ⟨fuel, hf⟩ := h
  rcases Go.Deep.open_slice Tryd.underlying22 hf with ⟨hcs, _⟩ | ⟨x, l, c, m, n, D, Pl, hcs, _, hl, hm, hmm, hd, hcell⟩
  · simp [Value.cells] at hcs
    obtain ⟨rfl, rfl, rfl⟩ := hcs
    exact ⟨[], rfl, Or.inl rfl, by simp, Or.inl rfl⟩
  · simp [Value.cells] at hcs
    obtain ⟨rfl, rfl, rfl⟩ := hcs
    have hmm' : m = cap := by simpa using hmm
    subst hmm'
    rw [Tryd.cellsA] at hcell
    obtain ⟨F, hF⟩ := Go.Deep.choose_lt (α := Atr) (n := len) (p := fun i v => W.cells? 0 (x.add (i * 4)) 4 = some [.string v.a, .int .i64 v.k, .int .i64 v.n, .string v.s] ∧ v.Wf) (fun i hi => by
      obtain ⟨cs', h1, h2⟩ := hcell i (by omega)
      obtain ⟨v, rfl, hw⟩ := attr_raw h2
      exact ⟨v, h1, hw⟩)
    have hlen : ((List.range len).map F).length = len := by simp
    refine ⟨(List.range len).map F, hlen, ?_, fun z hz => ?_, Or.inr ⟨_, _, (Prod.mk.injEq _ _ _ _ ▸ hd).1, by simp⟩⟩
    · by_cases h0 : len = 0
      · exact Or.inl (List.length_eq_zero_iff.1 (by rw [hlen, h0]))
      · obtain ⟨b, off, spot⟩ := x
        have cc := fun (i : Nat) (hi : i < len) => (World.cells?_some (hF i hi).1).2.2
        have hc := cc 0 (by omega) 0 (by omega)
        simp only [Nat.zero_mul, List.getElem?_cons_zero] at hc
        have hspot : spot = none := by simpa [Addr.add] using World.cell?_spot hc
        subst hspot
        refine Or.inr ⟨b, off, rfl, ?_, fun i hi => ?_⟩
        · have := World.block_lt_of_cell? _ _ hc
          simpa [Addr.add] using this
        · rw [hlen] at hi
          have e : aat ((List.range len).map F) i = F i := by
            simp [aat, List.getD_eq_getElem?_getD, hi]
          rw [e]
          have k0 := cc i hi 0 (by omega)
          have k1 := cc i hi 1 (by omega)
          have k2 := cc i hi 2 (by omega)
          have k3 := cc i hi 3 (by omega)
          rw [addr_add, addr_add] at k0 k1 k2 k3
          exact ⟨k0, k1, k2, k3⟩
    · obtain ⟨i, hi, rfl⟩ := List.mem_map.1 hz
      exact (hF i (by simpa using hi)).2

theorem reach_wants {H : Type} {ts : List TypeId} {ds : List (DataW H)} (hsz : (DataW.weightsEach Tryd.prog ts ds).all (· ≤ reachBytes) = true) {j len : Nat} {d : DataW H} (ht : ts[j]? = some 23) (hd : ds[j]? = some d) (h : len = 0 ∨ ∃ es sp, d = .slice es sp ∧ es.length = len) : len ≤ 2513169434845 := by
  rcases h with h | ⟨es, sp, rfl, rfl⟩
  · omega
  · have := sized_slice hsz ht hd Tryd.underlying23
    rw [Tryd.bytesW] at this
    simp only [reachBytes] at this
    omega

theorem reach_attrs {H : Type} {ts : List TypeId} {ds : List (DataW H)} (hsz : (DataW.weightsEach Tryd.prog ts ds).all (· ≤ reachBytes) = true) {j len : Nat} {d : DataW H} (ht : ts[j]? = some 22) (hd : ds[j]? = some d) (h : len = 0 ∨ ∃ es sp, d = .slice es sp ∧ es.length = len) : len ≤ 2932031007402 := by
  rcases h with h | ⟨es, sp, rfl, rfl⟩
  · omega
  · have := sized_slice hsz ht hd Tryd.underlying22
    rw [Tryd.bytesA] at this
    simp only [reachBytes] at this
    omega

end Go.Proofs.YtecnfgikbmcgoaaDoor
