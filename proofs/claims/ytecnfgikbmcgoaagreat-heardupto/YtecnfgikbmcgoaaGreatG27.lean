import Derived.Test.YtecnfgikbmcgoaaGreatG4
import Derived.Test.YtecnfgikbmcgoaaGreatG26
namespace Go.Proofs.YtecnfgikbmcgoaaGreat
open Go.ChangeShapes Go.WideShapes Go.ChangeAt Go.RowKit

theorem Tryz.cellsD : Tryz.prog.cellsOf 33 = 5 := by kernel_rfl
theorem len5 {cs : List Value} (h : cs.length = 5) : ∃ a b c d e, cs = [a, b, c, d, e] := by
  rcases cs with _ | ⟨a, _ | ⟨b, _ | ⟨c, _ | ⟨d, _ | ⟨e, _ | _⟩⟩⟩⟩⟩ <;> simp at h
  exact ⟨a, b, c, d, e, rfl⟩
instance : Inhabited Dm := ⟨(⟨0, 0, 0, 0, []⟩, none, 0)⟩
theorem ints_raw {H : Type} {enc : TypeId × Value → H} {W : World} {fuel : Nat} {cs : List Value} {x : DataW H × List MemPlace} (h : DataW.trod enc Tryz.prog W 0 (fun _ => true) true fuel 27 cs = some x) :
    ∃ (a : Option Addr) (cap : Nat) (f : List Int), cs = [.slice a f.length cap] ∧ InAt W a f ∧ IntWf f ∧ f.length ≤ maxLen := by
  rcases open_ints Tryz.underlying27 Tryz.underlying3 (by kernel_rfl) h with ⟨hcs, _⟩ | ⟨y, l, c, zs, hcs, _, hl, hm, hz, _, hcell, hwz⟩
  · exact ⟨none, 0, [], hcs, Or.inl rfl, fun z hz => by simp at hz, by simp⟩
  · have hz' : zs.length = c := by simpa using hz
    have hlen : (zs.take l).length = l := by simp; omega
    refine ⟨some y, c, zs.take l, by rw [hlen]; exact hcs, ?_, fun z hzm => bounds_i64 (hwz z (List.mem_of_mem_take hzm)), by rw [hlen]; omega⟩
    by_cases h0 : l = 0
    · exact Or.inl (List.length_eq_zero_iff.1 (by rw [hlen, h0]))
    · obtain ⟨b, off, spot⟩ := y
      have hc := hcell 0 (by omega)
      have hspot : spot = none := by simpa [Addr.add] using World.cell?_spot hc
      subst hspot
      refine Or.inr ⟨b, off, rfl, ?_, fun i hi => ?_⟩
      · have := World.block_lt_of_cell? _ _ hc
        simpa [Addr.add] using this
      · rw [hlen] at hi
        have := hcell i (by omega)
        have e : iat (zs.take l) i = zs.getD i 0 := by
          simp only [iat, List.getD_eq_getElem?_getD, List.getElem?_take, if_pos hi]
        rw [e, ← addr_add]
        exact this
theorem ins_up {H : Type} {enc : TypeId × Value → H} {W : World} {a : Option Addr} {len cap : Nat} {d : DataW H} {p : List MemPlace} (h : DataW.Trod enc Tryz.prog W 0 (fun _ => true) true 60 (.slice a len cap) d p) :
    ∃ zss : List (List Int), zss.length = len ∧ InsAd W a zss ∧ (∀ z ∈ zss, IntWf z ∧ z.length ≤ maxLen) ∧ len ≤ Rows.uptoBulk d := by
  obtain ⟨fuel, hf⟩ := h
  rcases Go.Deep.open_slice1 Tryz.underlying60 (by kernel_rfl) hf with ⟨hcs, _⟩ | ⟨x, l, c, m, n, V, D, Pl, hcs, _, hl, hm, hmm, hd, hcell⟩
  · simp [Value.cells] at hcs
    obtain ⟨rfl, rfl, rfl⟩ := hcs
    exact ⟨[], rfl, Or.inl rfl, fun z hz => by simp at hz, Nat.zero_le _⟩
  · simp [Value.cells] at hcs
    obtain ⟨rfl, rfl, rfl⟩ := hcs
    have hmm' : m = cap := by simpa using hmm
    subst hmm'
    obtain ⟨F, hF⟩ := Go.Deep.choose_lt (α := List Int) (n := len) (p := fun i f => ∃ ad cp, V i = .slice ad f.length cp ∧ InAt W ad f ∧ IntWf f ∧ f.length ≤ maxLen) (fun i hi => by
      obtain ⟨ad, cp, f, h1, h2, h3, h4⟩ := ints_raw (hcell i (by omega)).2
      exact ⟨f, ad, cp, by simpa using h1, h2, h3, h4⟩)
    have hlen : ((List.range len).map F).length = len := by simp
    refine ⟨(List.range len).map F, hlen, ?_, fun z hz => ?_, bulk_slice (Or.inr ⟨_, _, (Prod.mk.injEq _ _ _ _ ▸ hd).1, by simp⟩)⟩
    · by_cases h0 : len = 0
      · exact Or.inl (List.length_eq_zero_iff.1 (by rw [hlen, h0]))
      · obtain ⟨b, off, spot⟩ := x
        have hc := (hcell 0 (by omega)).1
        have hspot : spot = none := by simpa [Addr.add] using World.cell?_spot hc
        subst hspot
        refine Or.inr ⟨b, off, rfl, ?_, fun i hi => ?_⟩
        · have := World.block_lt_of_cell? _ _ hc
          simpa [Addr.add] using this
        · rw [hlen] at hi
          obtain ⟨ad, cp, h1, h2, _⟩ := hF i hi
          have hc' := (hcell i (by omega)).1
          have e : zat ((List.range len).map F) i = F i := by
            simp [zat, List.getD_eq_getElem?_getD, hi]
          rw [e, ← addr_add, hc', h1]
          exact ⟨ad, cp, rfl, h2⟩
    · obtain ⟨i, hi, rfl⟩ := List.mem_map.1 hz
      obtain ⟨ad, cp, _, _, h3, h4⟩ := hF i (by simpa using hi)
      exact ⟨h3, h4⟩
set_option maxRecDepth 100000 in
theorem deed_raw {H : Type} {enc : TypeId × Value → H} {W : World} {fuel : Nat} {cs : List Value} {x : DataW H × List MemPlace} (h : DataW.trod enc Tryz.prog W 0 (fun _ => true) true fuel 33 cs = some x) :
    ∃ v : Dm, cs = [.int .i64 v.1.kind, .int .i64 v.1.client, .int .i64 v.1.id, .int .i64 v.1.turn, .slice v.2.1 v.1.wants.length v.2.2] ∧ InAt W v.2.1 v.1.wants ∧ (I64 v.1.kind ∧ I64 v.1.client ∧ I64 v.1.id ∧ I64 v.1.turn) ∧ IntWf v.1.wants ∧ v.1.wants.length ≤ maxLen := by
  obtain ⟨xs, m, _, _, hl, hxl, hf⟩ := DataW.trod_struct Tryz.underlying33 h
  rw [Tryz.cellsD] at hl
  obtain ⟨c0, c1, c2, c3, c4, rfl⟩ := len5 hl
  have e3 : xs.length = 5 := hxl
  have h0 := hf 0 _ rfl
  have h1 := hf 1 _ rfl
  have h2 := hf 2 _ rfl
  have h3 := hf 3 _ rfl
  have h4 := hf 4 _ rfl
  rw [List.getElem?_eq_getElem (by omega)] at h0 h1 h2 h3 h4
  have h0' : DataW.trod enc Tryz.prog W 0 (fun _ => true) true m 3 [c0] = some xs[0] := h0
  have h1' : DataW.trod enc Tryz.prog W 0 (fun _ => true) true m 3 [c1] = some xs[1] := h1
  have h2' : DataW.trod enc Tryz.prog W 0 (fun _ => true) true m 3 [c2] = some xs[2] := h2
  have h3' : DataW.trod enc Tryz.prog W 0 (fun _ => true) true m 3 [c3] = some xs[3] := h3
  have h4' : DataW.trod enc Tryz.prog W 0 (fun _ => true) true m 27 [c4] = some xs[4] := h4
  obtain ⟨a, ha, _, wa⟩ := DataW.trod_int Tryz.underlying3 h0'
  obtain ⟨b, hb, _, wb⟩ := DataW.trod_int Tryz.underlying3 h1'
  obtain ⟨c, hc, _, wc⟩ := DataW.trod_int Tryz.underlying3 h2'
  obtain ⟨d, hd, _, wd⟩ := DataW.trod_int Tryz.underlying3 h3'
  obtain ⟨ad, cap, f, he, hi, hw, hll⟩ := ints_raw h4'
  simp only [List.cons.injEq, and_true] at ha hb hc hd he
  exact ⟨(⟨a, b, c, d, f⟩, ad, cap), by rw [ha, hb, hc, hd, he], hi, ⟨bounds_i64 wa, bounds_i64 wb, bounds_i64 wc, bounds_i64 wd⟩, hw, hll⟩
theorem deeds_up {H : Type} {enc : TypeId × Value → H} {W : World} {a : Option Addr} {len cap : Nat} {d : DataW H} {p : List MemPlace} (h : DataW.Trod enc Tryz.prog W 0 (fun _ => true) true 28 (.slice a len cap) d p) :
    ∃ ds : List Dm, ds.length = len ∧ DsAd W a ds ∧ DdWf ds ∧ len ≤ Rows.uptoBulk d := by
  obtain ⟨fuel, hf⟩ := h
  rcases Go.Deep.open_slice Tryz.underlying28 hf with ⟨hcs, _⟩ | ⟨x, l, c, m, n, D, Pl, hcs, _, hl, hm, hmm, hd, hcell⟩
  · simp [Value.cells] at hcs
    obtain ⟨rfl, rfl, rfl⟩ := hcs
    exact ⟨[], rfl, Or.inl rfl, fun x hx => (by cases hx), Nat.zero_le _⟩
  · simp [Value.cells] at hcs
    obtain ⟨rfl, rfl, rfl⟩ := hcs
    have hmm' : m = cap := by simpa using hmm
    subst hmm'
    rw [Tryz.cellsD] at hcell
    obtain ⟨F, hF⟩ := Go.Deep.choose_lt (α := Dm) (n := len) (p := fun i v => W.cells? 0 (x.add (i * 5)) 5 = some [.int .i64 v.1.kind, .int .i64 v.1.client, .int .i64 v.1.id, .int .i64 v.1.turn, .slice v.2.1 v.1.wants.length v.2.2] ∧ InAt W v.2.1 v.1.wants ∧ (I64 v.1.kind ∧ I64 v.1.client ∧ I64 v.1.id ∧ I64 v.1.turn) ∧ IntWf v.1.wants ∧ v.1.wants.length ≤ maxLen) (fun i hi => by
      obtain ⟨cs', h1, h2⟩ := hcell i (by omega)
      obtain ⟨v, rfl, hw⟩ := deed_raw h2
      exact ⟨v, h1, hw⟩)
    have hlen : ((List.range len).map F).length = len := by simp
    refine ⟨(List.range len).map F, hlen, ?_, fun z hz => ?_, bulk_slice (Or.inr ⟨_, _, (Prod.mk.injEq _ _ _ _ ▸ hd).1, by simp⟩)⟩
    · by_cases h0 : len = 0
      · exact Or.inl (List.length_eq_zero_iff.1 (by rw [hlen, h0]))
      · obtain ⟨b, off, spot⟩ := x
        have cc := fun (i : Nat) (hi : i < len) => (World.cells?_some (hF i hi).1).2.2
        have hc := cc 0 (by omega) 0 (by omega)
        simp only [Nat.zero_mul, List.getElem?_cons_zero] at hc
        have hspot : spot = none := by simpa [Addr.add] using World.cell?_spot hc
        subst hspot
        refine Or.inr ⟨b, off, rfl, ?_, fun i hi => ?_⟩
        · have := World.block_lt_of_cell? _ _ hc
          simpa [Addr.add] using this
        · rw [hlen] at hi
          have e : dmt ((List.range len).map F) i = F i := by
            simp [dmt, List.getD_eq_getElem?_getD, hi]
          rw [e]
          have k0 := cc i hi 0 (by omega)
          have k1 := cc i hi 1 (by omega)
          have k2 := cc i hi 2 (by omega)
          have k3 := cc i hi 3 (by omega)
          have k4 := cc i hi 4 (by omega)
          rw [addr_add, addr_add] at k0 k1 k2 k3 k4
          exact ⟨⟨k0, k1, k2, k3, k4⟩, (hF i hi).2.1⟩
    · obtain ⟨i, hi, rfl⟩ := List.mem_map.1 hz
      exact (hF i (by simpa using hi)).2.2
end Go.Proofs.YtecnfgikbmcgoaaGreat
namespace Go.Proofs.YtecnfgikbmcgoaaGreat
open Go.ChangeShapes Go.WideShapes Go.ChangeAt Go.RowKit

set_option maxRecDepth 100000 in
theorem heard_lifted (os : Os) (started : os.Started) (H : Type) (enc : TypeId × Value → H) (F : Stop.Interp) :
    ReturnsInHanded {} Tryz.checked os 6 .any ((Rows.OpenSpec.upto Rows.heardSpec).pre6 enc Tryz.prog Tryz.f6 Rows.heardUptoRow.domain false) (((Rows.OpenSpec.upto Rows.heardSpec).at F).post enc Tryz.prog Tryz.f6 false true false false) := by
  refine returns_cond_shaped (C := Tryz.checked) (s := Rows.OpenSpec.upto Rows.heardSpec) (k := Rows.uptoSmall) rfl Tryz.own started (by kernel_rfl) Tryz.func6
    (OpenSpec.witness (enc := enc) (C := Tryz.checked) (s := Rows.OpenSpec.upto Rows.heardSpec) (k := Rows.uptoSmall) rfl false ⟨#[], #[.slice none 0 0, .slice none 0 0, .slice none 0 0, .slice none 0 0, .slice none 0 0], []⟩ 8 (by kernel_rfl) (by kernel_rfl) (by kernel_rfl)
      (x := ([.nil, .nil, .nil, .nil, .nil], [], [])) (by kernel_rfl) rfl (by kernel_rfl)) ?_
  intro W base args ds gs before hval0 hW hk hsh
  have hval : ∀ (j : Nat) t v, Tryz.f6.params[j]? = some t → args[j]? = some v → Value.okWide Tryz.prog W .any base t v := hval0
  have hW' := hW
  obtain ⟨p, q, hA0, hV, rfl, hfz, hnd⟩ := hW
  have hA : DataW.TrodAll enc Tryz.prog W 0 (fun _ => true) true Tryz.f6.params.toList args.toList ds p := hA0
  rw [Tryz.params6] at hA hval
  obtain ⟨v0, vs0, d0, ds0, p0, q0, hargs, rfl, rfl, h0, r0⟩ := trodAll_cons hA
  obtain ⟨v1, vs1, d1, ds1, p1, q1, rfl, rfl, rfl, h1, r1⟩ := trodAll_cons r0
  obtain ⟨v2, vs2, d2, ds2, p2, q2, rfl, rfl, rfl, h2, r2⟩ := trodAll_cons r1
  obtain ⟨v3, vs3, d3, ds3, p3, q3, rfl, rfl, rfl, h3, r3⟩ := trodAll_cons r2
  obtain ⟨v4, vs4, d4, ds4, p4, q4, rfl, rfl, rfl, h4, r4⟩ := trodAll_cons r3
  obtain ⟨rfl, rfl, rfl⟩ := trodAll_nil r4
  obtain rfl : args = #[v0, v1, v2, v3, v4] := by cases args; simp_all
  obtain ⟨rfl, rfl⟩ := trodVars_none hV
  obtain ⟨a0, len0, cap0, rfl⟩ := okWide_slice Tryz.underlying27 (hval 0 27 v0 rfl rfl)
  obtain ⟨a1, len1, cap1, rfl⟩ := okWide_slice Tryz.underlying27 (hval 1 27 v1 rfl rfl)
  obtain ⟨a2, len2, cap2, rfl⟩ := okWide_slice Tryz.underlying28 (hval 2 28 v2 rfl rfl)
  obtain ⟨a3, len3, cap3, rfl⟩ := okWide_slice Tryz.underlying60 (hval 3 60 v3 rfl rfl)
  obtain ⟨a4, len4, cap4, rfl⟩ := okWide_slice Tryz.underlying27 (hval 4 27 v4 rfl rfl)
  have lt0 : ∀ x ∈ p0, x.block < W.heap.size := by obtain ⟨m, hm⟩ := h0; exact DataW.trod_lt m _ _ _ hm
  have lt1 : ∀ x ∈ p1, x.block < W.heap.size := by obtain ⟨m, hm⟩ := h1; exact DataW.trod_lt m _ _ _ hm
  have lt2 : ∀ x ∈ p2, x.block < W.heap.size := by obtain ⟨m, hm⟩ := h2; exact DataW.trod_lt m _ _ _ hm
  have lt3 : ∀ x ∈ p3, x.block < W.heap.size := by obtain ⟨m, hm⟩ := h3; exact DataW.trod_lt m _ _ _ hm
  have lt4 : ∀ x ∈ p4, x.block < W.heap.size := by obtain ⟨m, hm⟩ := h4; exact DataW.trod_lt m _ _ _ hm
  have hb : Rows.uptoBulkAll ([d0, d1, d2, d3, d4] ++ []) ≤ 1048576 := of_decide_eq_true hk
  have b0 := bulk_in (H := H) (d := d0) (l := [d0, d1, d2, d3, d4] ++ []) (by simp)
  have b1 := bulk_in (H := H) (d := d1) (l := [d0, d1, d2, d3, d4] ++ []) (by simp)
  have b2 := bulk_in (H := H) (d := d2) (l := [d0, d1, d2, d3, d4] ++ []) (by simp)
  have b3 := bulk_in (H := H) (d := d3) (l := [d0, d1, d2, d3, d4] ++ []) (by simp)
  have b4 := bulk_in (H := H) (d := d4) (l := [d0, d1, d2, d3, d4] ++ []) (by simp)
  generalize Rows.uptoBulkAll ([d0, d1, d2, d3, d4] ++ []) = BB at *
  clear hk
  obtain ⟨zs, e0, i0, w0, l0⟩ := ints_up h0
  obtain ⟨ps, e1, i1, w1, l1⟩ := ints_up h1
  obtain ⟨dl, e2, i2, w2, l2⟩ := deeds_up h2
  obtain ⟨es, e3, i3, w3, l3⟩ := ins_up h3
  obtain ⟨ts, e4, i4, w4, l4⟩ := ints_up h4
  subst e0 e1 e2 e3 e4
  obtain ⟨m, hM⟩ := ml_of hsh
  clear hA0 hval0
  refine (Heard_any zs ps dl es ts a0 a1 a2 a3 a4 cap0 cap1 cap2 cap3 cap4 m W (by omega) i0 w0 (by omega) i1 w1 (by omega) i2 w2 (by omega) i3 w3 (by omega) i4 w4 hM).mono fun e W' ⟨he, bel⟩ => ?_
  subst he
  exact ⟨_, rfl, _, _, _, [], _, [], hW', trodAll_mk1 (shut_bool Tryz.underlying4 _),
    (trodAll_cons_mk (Below.trod Tryz.laidOut (by kernel_rfl) (of_decide_eq_true (by kernel_rfl)) h0 bel lt0) (trodAll_cons_mk (Below.trod Tryz.laidOut (by kernel_rfl) (of_decide_eq_true (by kernel_rfl)) h1 bel lt1)
      (trodAll_cons_mk (Below.trod Tryz.laidOut (by kernel_rfl) (of_decide_eq_true (by kernel_rfl)) h2 bel lt2)
        (trodAll_cons_mk (Below.trod Tryz.laidOut (by kernel_rfl) (of_decide_eq_true (by kernel_rfl)) h3 bel lt3) (trodAll_cons_mk (Below.trod Tryz.laidOut (by kernel_rfl) (of_decide_eq_true (by kernel_rfl)) h4 bel lt4) trodAll_mk0))))), rfl, Below.frame bel _, fun h => by cases h⟩

theorem heard_holds : Rows.HeardUptoSaid :=
  OpenClaim.holds_of_cond 6 Tryz.f6 rfl rfl rfl rfl rfl rfl rfl ⟨rfl, rfl, rfl, rfl, rfl⟩ rfl rfl rfl rfl rfl (by kernel_rfl) Tryz.func6 (by kernel_rfl)
    (of_decide_eq_true (by kernel_rfl)) (by unfold Func.isWrapper; first | (rw [if_pos (by decide +kernel)]; kernel_rfl) | (rw [if_neg (by decide +kernel)]; exact ⟨rfl, rfl⟩))
    (fun os started H enc _ F => heard_lifted os started H enc F)
#print axioms heard_holds
end Go.Proofs.YtecnfgikbmcgoaaGreat
