import Derived.Test.YtecnfgikbmcgoaaGreatG4
import Derived.Test.YtecnfgikbmcgoaaGreatG26
namespace Go.Proofs.YtecnfgikbmcgoaaGreat
open Go.ChangeShapes Go.WideShapes Go.ChangeAt Go.RowKit

theorem Tryz.cellsD : Tryz.prog.cellsOf 33 = 5 := by kernel_rfl
theorem len5 {cs : List Value} (h : cs.length = 5) : ∃ a b c d e, cs = [a, b, c, d, e] := by
  rcases cs with _ | ⟨a, _ | ⟨b, _ | ⟨c, _ | ⟨d, _ | ⟨e, _ | _⟩⟩⟩⟩⟩ <;> simp at h
  exact ⟨a, b, c, d, e, rfl⟩
instance : Inhabited Dm := ⟨(⟨0, 0, 0, 0, []⟩, none, 0)⟩
theorem ints_raw {H : Type} {enc : TypeId × Value → H} {W : World} {fuel : Nat} {cs : List Value} {x : DataW H × List MemPlace} (h : DataW.trod enc Tryz.prog W 0 (fun _ => true) true fuel 27 cs = some x) :
    ∃ (a : Option Addr) (cap : Nat) (f : List Int), cs = [.slice a f.length cap] ∧ InAt W a f ∧ IntWf f ∧ f.length ≤ maxLen := by
  rcases open_ints Tryz.underlying27 Tryz.underlying3 (by kernel_rfl) h with ⟨hcs, _⟩ | ⟨y, l, c, zs, hcs, _, hl, hm, hz, _, hcell, hwz⟩
  · exact ⟨none, 0, [], hcs, Or.inl rfl, fun z hz => by simp at hz, by simp⟩
  · have hz' : zs.length = c := by simpa using hz
    have hlen : (zs.take l).length = l := by simp; omega
    refine ⟨some y, c, zs.take l, by rw [hlen]; exact hcs, ?_, fun z hzm => bounds_i64 (hwz z (List.mem_of_mem_take hzm)), by rw [hlen]; omega⟩
    by_cases h0 : l = 0
    · exact Or.inl (List.length_eq_zero_iff.1 (by rw [hlen, h0]))
    · obtain ⟨b, off, spot⟩ := y
      have hc := hcell 0 (by omega)
      have hspot : spot = none := by simpa [Addr.add] using World.cell?_spot hc
      subst hspot
      refine Or.inr ⟨b, off, rfl, ?_, fun i hi => ?_⟩
      · have := World.block_lt_of_cell? _ _ hc
        simpa [Addr.add] using this
      · rw [hlen] at hi
        have := hcell i (by omega)
        have e : iat (zs.take l) i = zs.getD i 0 := by
          simp only [iat, List.getD_eq_getElem?_getD, List.getElem?_take, if_pos hi]
        rw [e, ← addr_add]
        exact this
theorem ins_up {H : Type} {enc : TypeId × Value → H} {W : World} {a : Option Addr} {len cap : Nat} {d : DataW H} {p : List MemPlace} (h : DataW.Trod enc Tryz.prog W 0 (fun _ => true) true 60 (.slice a len cap) d p) :
    ∃ zss : List (List Int), zss.length = len ∧ InsAd W a zss ∧ (∀ z ∈ zss, IntWf z ∧ z.length ≤ maxLen) ∧ len ≤ Rows.uptoBulk d := by
  obtain ⟨fuel, hf⟩ := h
  rcases Go.Deep.open_slice1 Tryz.underlying60 (by kernel_rfl) hf with ⟨hcs, _⟩ | ⟨x, l, c, m, n, V, D, Pl, hcs, _, hl, hm, hmm, hd, hcell⟩
  · simp [Value.cells] at hcs
    obtain ⟨rfl, rfl, rfl⟩ := hcs
    exact ⟨[], rfl, Or.inl rfl, fun z hz => by simp at hz, Nat.zero_le _⟩
  · simp [Value.cells] at hcs
    obtain ⟨rfl, rfl, rfl⟩ := hcs
    have hmm' : m = cap := by simpa using hmm
    subst hmm'
    obtain ⟨F, hF⟩ := Go.Deep.choose_lt (α := List Int) (n := len) (p := fun i f => ∃ ad cp, V i = .slice ad f.length cp ∧ InAt W ad f ∧ IntWf f ∧ f.length ≤ maxLen) (fun i hi => by
      obtain ⟨ad, cp, f, h1, h2, h3, h4⟩ := ints_raw (hcell i (by omega)).2
      exact ⟨f, ad, cp, by simpa using h1, h2, h3, h4⟩)
    have hlen : ((List.range len).map F).length = len := by simp
    refine ⟨(List.range len).map F, hlen, ?_, fun z hz => ?_, bulk_slice (Or.inr ⟨_, _, (Prod.mk.injEq _ _ _ _ ▸ hd).1, by simp⟩)⟩
    · by_cases h0 : len = 0
      · exact Or.inl (List.length_eq_zero_iff.1 (by rw [hlen, h0]))
      · obtain ⟨b, off, spot⟩ := x
        have hc := (hcell 0 (by omega)).1
        have hspot : spot = none := by simpa [Addr.add] using World.cell?_spot hc
        subst hspot
        refine Or.inr ⟨b, off, rfl, ?_, fun i hi => ?_⟩
        · have := World.block_lt_of_cell? _ _ hc
          simpa [Addr.add] using this
        · rw [hlen] at hi
          obtain ⟨ad, cp, h1, h2, _⟩ := hF i hi
          have hc' := (hcell i (by omega)).1
          have e : zat ((List.range len).map F) i = F i := by
            simp [zat, List.getD_eq_getElem?_getD, hi]
          rw [e, ← addr_add, hc', h1]
          exact ⟨ad, cp, rfl, h2⟩
    · obtain ⟨i, hi, rfl⟩ := List.mem_map.1 hz
      obtain ⟨ad, cp, _, _, h3, h4⟩ := hF i (by simpa using hi)
      exact ⟨h3, h4⟩
set_option maxRecDepth 100000 in
theorem deed_raw {H : Type} {enc : TypeId × Value → H} {W : World} {fuel : Nat} {cs : List Value} {x : DataW H × List MemPlace} (h : DataW.trod enc Tryz.prog W 0 (fun _ => true) true fuel 33 cs = some x) :
    ∃ v : Dm, cs = [.int .i64 v.1.kind, .int .i64 v.1.client, .int .i64 v.1.id, .int .i64 v.1.turn, .slice v.2.1 v.1.wants.length v.2.2] ∧ InAt W v.2.1 v.1.wants ∧ (I64 v.1.kind ∧ I64 v.1.client ∧ I64 v.1.id ∧ I64 v.1.turn) ∧ IntWf v.1.wants ∧ v.1.wants.length ≤ maxLen := by
  obtain ⟨xs, m, _, _, hl, hxl, hf⟩ := DataW.trod_struct Tryz.underlying33 h
  rw [Tryz.cellsD] at hl
  obtain ⟨c0, c1, c2, c3, c4, rfl⟩ := len5 hl
  have e3 : xs.length = 5 := hxl
  have h0 := hf 0 _ rfl
  have h1 := hf 1 _ rfl
  have h2 := hf 2 _ rfl
  have h3 := hf 3 _ rfl
  have h4 := hf 4 _ rfl
  rw [List.getElem?_eq_getElem (by omega)] at h0 h1 h2 h3 h4
  have h0' : DataW.trod enc Tryz.prog W 0 (fun _ => true) true m 3 [c0] = some xs[0] := h0
  have h1' : DataW.trod enc Tryz.prog W 0 (fun _ => true) true m 3 [c1] = some xs[1] := h1
  have h2' : DataW.trod enc Tryz.prog W 0 (fun _ => true) true m 3 [c2] = some xs[2] := h2
  have h3' : DataW.trod enc Tryz.prog W 0 (fun _ => true) true m 3 [c3] = some xs[3] := h3
  have h4' : DataW.trod enc Tryz.prog W 0 (fun _ => true) true m 27 [c4] = some xs[4] := h4
  obtain ⟨a, ha, _, wa⟩ := DataW.trod_int Tryz.underlying3 h0'
  obtain ⟨b, hb, _, wb⟩ := DataW.trod_int Tryz.underlying3 h1'
  obtain ⟨c, hc, _, wc⟩ := DataW.trod_int Tryz.underlying3 h2'
  obtain ⟨d, hd, _, wd⟩ := DataW.trod_int Tryz.underlying3 h3'
  obtain ⟨ad, cap, f, he, hi, hw, hll⟩ := ints_raw h4'
  simp only [List.cons.injEq, and_true] at ha hb hc hd he
  exact ⟨(⟨a, b, c, d, f⟩, ad, cap), by rw [ha, hb, hc, hd, he], hi, ⟨bounds_i64 wa, bounds_i64 wb, bounds_i64 wc, bounds_i64 wd⟩, hw, hll⟩
theorem deeds_up {H : Type} {enc : TypeId × Value → H} {W : World} {a : Option Addr} {len cap : Nat} {d : DataW H} {p : List MemPlace} (h : DataW.Trod enc Tryz.prog W 0 (fun _ => true) true 28 (.slice a len cap) d p) :
    ∃ ds : List Dm, ds.length = len ∧ DsAd W a ds ∧ DdWf ds ∧ len ≤ Rows.uptoBulk d := by
  obtain ⟨fuel, hf⟩ := h
  rcases Go.Deep.open_slice Tryz.underlying28 hf with ⟨hcs, _⟩ | ⟨x, l, c, m, n, D, Pl, hcs, _, hl, hm, hmm, hd, hcell⟩
  · simp [Value.cells] at hcs
    obtain ⟨rfl, rfl, rfl⟩ := hcs
    exact ⟨[], rfl, Or.inl rfl, fun x hx => (by cases hx), Nat.zero_le _⟩
  · simp [Value.cells] at hcs
    obtain ⟨rfl, rfl, rfl⟩ := hcs
    have hmm' : m = cap := by simpa using hmm
    subst hmm'
    rw [Tryz.cellsD] at hcell
    obtain ⟨F, hF⟩ := Go.Deep.choose_lt (α := Dm) (n := len) (p := fun i v => W.cells? 0 (x.add (i * 5)) 5 = some [.int .i64 v.1.kind, .int .i64 v.1.client, .int .i64 v.1.id, .int .i64 v.1.turn, .slice v.2.1 v.1.wants.length v.2.2] ∧ InAt W v.2.1 v.1.wants ∧ (I64 v.1.kind ∧ I64 v.1.client ∧ I64 v.1.id ∧ I64 v.1.turn) ∧ IntWf v.1.wants ∧ v.1.wants.length ≤ maxLen) (fun i hi => by
      obtain ⟨cs', h1, h2⟩ := hcell i (by omega)
      obtain ⟨v, rfl, hw⟩ := deed_raw h2
      exact ⟨v, h1, hw⟩)
    have hlen : ((List.range len).map F).length = len := by simp
    refine ⟨(List.range len).map F, hlen, ?_, fun z hz => ?_, bulk_slice (Or.inr ⟨_, _, (Prod.mk.injEq _ _ _ _ ▸ hd).1, by simp⟩)⟩
    · by_cases h0 : len = 0
      · exact Or.inl (List.length_eq_zero_iff.1 (by rw [hlen, h0]))
      · obtain ⟨b, off, spot⟩ := x
        have cc := fun (i : Nat) (hi : i < len) => (World.cells?_some (hF i hi).1).2.2
        have hc := cc 0 (by omega) 0 (by omega)
        simp only [Nat.zero_mul, List.getElem?_cons_zero] at hc
        have hspot : spot = none := by simpa [Addr.add] using World.cell?_spot hc
        subst hspot
        refine Or.inr ⟨b, off, rfl, ?_, fun i hi => ?_⟩
        · have := World.block_lt_of_cell? _ _ hc
          simpa [Addr.add] using this
        · rw [hlen] at hi
          have e : dmt ((List.range len).map F) i = F i := by
            simp [dmt, List.getD_eq_getElem?_getD, hi]
          rw [e]
          have k0 := cc i hi 0 (by omega)
          have k1 := cc i hi 1 (by omega)
          have k2 := cc i hi 2 (by omega)
          have k3 := cc i hi 3 (by omega)
          have k4 := cc i hi 4 (by omega)
          rw [addr_add, addr_add] at k0 k1 k2 k3 k4
          exact ⟨⟨k0, k1, k2, k3, k4⟩, (hF i hi).2.1⟩
    · obtain ⟨i, hi, rfl⟩ := List.mem_map.1 hz
      exact (hF i (by simpa using hi)).2.2
end Go.Proofs.YtecnfgikbmcgoaaGreat
namespace Go.Proofs.YtecnfgikbmcgoaaGreat
open Go.RowKit

/-- Two trees beside one another, and the lists of their clients' filters. -/
structure Two (w0 w : World) (nxt : Nat → Nat → Int) (rank : Nat → Nat → Nat) (home : Int → Nat) (T1 T2 : Tc) (r1 r2 : Nat → Rl) (cs1 cs2 : List (Pc (List Atr))) (s1 s2 : Ts) (n1 n2 M1 M2 : Nat) (A B : Nat → Prop) (L1 L2 : List Mn) (v1 v2 : Value) (l1 l2 : List (Ky × List Wnt)) : Prop where
  t1 : Tf T1 r1 w cs1 s1
  g1 : Gd T1 nxt rank home k24 s1 cs1 n1 M1
  o1 : Ow home s1 l1
  d1 : Idn home cs1
  m1 : Mi A w v1 L1
  e1 : L1.map (·.1) = l1
  k1 : NK l1
  z1 : ∀ k, k < w0.heap.size → r1 k = .no
  t2 : Tf T2 r2 w cs2 s2
  g2 : Gd T2 nxt rank home k24 s2 cs2 n2 M2
  o2 : Ow home s2 l2
  d2 : Idn home cs2
  m2 : Mi B w v2 L2
  e2 : L2.map (·.1) = l2
  k2 : NK l2
  z2 : ∀ k, k < w0.heap.size → r2 k = .no
  F : Gr w0 w
  dj : ∀ k, r1 k = .no ∨ r2 k = .no
  a : ∀ k, A k → w0.heap.size ≤ k ∧ k < w.heap.size ∧ r1 k = .no ∧ r2 k = .no ∧ ¬ B k
  b : ∀ k, B k → w0.heap.size ≤ k ∧ k < w.heap.size ∧ r1 k = .no ∧ r2 k = .no ∧ ¬ A k
section
variable {w0 w : World} {nxt : Nat → Nat → Int} {rank : Nat → Nat → Nat} {home : Int → Nat} {T1 T2 : Tc} {r1 r2 : Nat → Rl} {cs1 cs2 : List (Pc (List Atr))} {s1 s2 : Ts} {n1 n2 M1 M2 : Nat} {A B : Nat → Prop} {L1 L2 : List Mn} {v1 v2 : Value} {l1 l2 : List (Ky × List Wnt)}
theorem Two.swap (h : Two w0 w nxt rank home T1 T2 r1 r2 cs1 cs2 s1 s2 n1 n2 M1 M2 A B L1 L2 v1 v2 l1 l2) : Two w0 w nxt rank home T2 T1 r2 r1 cs2 cs1 s2 s1 n2 n1 M2 M1 B A L2 L1 v2 v1 l2 l1 :=
  ⟨h.t2, h.g2, h.o2, h.d2, h.m2, h.e2, h.k2, h.z2, h.t1, h.g1, h.o1, h.d1, h.m1, h.e1, h.k1, h.z1, h.F, fun k => (h.dj k).symm, fun k hk => by
    obtain ⟨a, b, c, d, e⟩ := h.b k hk
    exact ⟨a, b, d, c, e⟩, fun k hk => by
    obtain ⟨a, b, c, d, e⟩ := h.a k hk
    exact ⟨a, b, d, c, e⟩⟩
/-- Something is done to the first tree. -/
theorem Two.op (h : Two w0 w nxt rank home T1 T2 r1 r2 cs1 cs2 s1 s2 n1 n2 M1 M2 A B L1 L2 v1 v2 l1 l2) (hw0 : 0 < w0.heap.size) {r1' : Nat → Rl} {w' : World} {cs1' : List (Pc (List Atr))} {s1' : Ts} {n1' M1' : Nat} {A' : Nat → Prop} {L1' : List Mn} {v1' : Value} {l1' : List (Ky × List Wnt)} {x : Option Nat}
    (f : Fr (msk x r1) (msk x r1') w w') (hx : ∀ k, x = some k → A k) (sm : ∀ k, k < w.heap.size → r1' k = r1 k) (t' : Tf T1 r1' w' cs1' s1') (g' : Gd T1 nxt rank home k24 s1' cs1' n1' M1') (o' : Ow home s1' l1') (d' : Idn home cs1') (m' : Mi A' w' v1' L1') (hA : ∀ k, A' k → A k ∨ (w.heap.size ≤ k ∧ k < w'.heap.size ∧ r1' k = .no)) (e' : L1'.map (·.1) = l1') (k' : NK l1') :
    Two w0 w' nxt rank home T1 T2 r1' r2 cs1' cs2 s1' s2 n1' n2 M1' M2 A' B L1' L2 v1' v2 l1' l2 := by
  have hsz := f.size
  have top2 := h.t2.b.top
  have mno : ∀ k, r1 k = .no → x ≠ some k → msk x r1 k = .no := fun k h1 h2 => by unfold msk; rw [if_neg h2]; exact h1
  refine ⟨t', g', o', d', m', e', k', fun k hk => (sm k (Nat.lt_of_lt_of_le hk h.F.size)).trans (h.z1 k hk), h.t2.apart f (fun k => ?_) (mno 0 h.t1.b.r0 (fun e => by have := (h.a 0 (hx 0 e)).1; omega)), h.g2, h.o2, h.d2, h.m2.keep hsz (fun k hk hB => ⟨f.keep k hk (Or.inl (mno k (h.b k hB).2.2.1 (fun e => (h.b k hB).2.2.2.2 (hx k e)))), hB⟩), h.e2, h.k2, h.z2, gr_of_fr h.F f (fun k hk => mno k (h.z1 k hk) (fun e => by have := (h.a k (hx k e)).1; omega)), fun k => ?_, fun k hk => ?_, fun k hk => ?_⟩
  · by_cases e : x = some k
    · exact Or.inl (h.a k (hx k e)).2.2.2.1
    · rcases h.dj k with h1 | h1
      · exact Or.inr (mno k h1 e)
      · exact Or.inl h1
  · rcases Nat.lt_or_ge k w.heap.size with hlt | hge
    · rw [sm k hlt]; exact h.dj k
    · exact Or.inr (top2 k hge)
  · rcases hA k hk with h1 | ⟨h1, h2, h3⟩
    · obtain ⟨a, b, c, d, e⟩ := h.a k h1
      exact ⟨a, by omega, (sm k b).trans c, d, e⟩
    · exact ⟨Nat.le_trans h.F.size h1, h2, h3, top2 k h1, fun hB => by have := (h.b k hB).2.1; omega⟩
  · obtain ⟨a, b, c, d, e⟩ := h.b k hk
    refine ⟨a, by omega, (sm k b).trans c, d, fun hA' => ?_⟩
    rcases hA k hA' with h1 | ⟨h1, _⟩
    · exact e h1
    · omega
theorem Two.fr (h : Two w0 w nxt rank home T1 T2 r1 r2 cs1 cs2 s1 s2 n1 n2 M1 M2 A B L1 L2 v1 v2 l1 l2) (hw0 : 0 < w0.heap.size) {r1' : Nat → Rl} {w' : World} {cs1' : List (Pc (List Atr))} {s1' : Ts} {n1' M1' : Nat}
    (f : Fr r1 r1' w w') (t' : Tf T1 r1' w' cs1' s1') (g' : Gd T1 nxt rank home k24 s1' cs1' n1' M1') (o' : Ow home s1' l1) (d' : Idn home cs1') : Two w0 w' nxt rank home T1 T2 r1' r2 cs1' cs2 s1' s2 n1' n2 M1' M2 A B L1 L2 v1 v2 l1 l2 :=
  h.op hw0 (x := none) (f.msk none) (fun k hk => by cases hk) f.same t' g' o' d' (h.m1.keep f.size (fun k hk hA => ⟨f.keep k hk (Or.inl (h.a k hA).2.2.1), hA⟩)) (fun k hk => Or.inl hk) h.e1 h.k1
theorem Two.gr (h : Two w0 w nxt rank home T1 T2 r1 r2 cs1 cs2 s1 s2 n1 n2 M1 M2 A B L1 L2 v1 v2 l1 l2) (hw0 : 0 < w0.heap.size) {w' : World} (g : Gr w w') : Two w0 w' nxt rank home T1 T2 r1 r2 cs1 cs2 s1 s2 n1 n2 M1 M2 A B L1 L2 v1 v2 l1 l2 :=
  h.fr hw0 (Fr.gr g) (h.t1.gr g) h.g1 h.o1 h.d1
end
theorem Two.up {w0 w : World} {nxt : Nat → Nat → Int} {rank : Nat → Nat → Nat} {home : Int → Nat} {T1 T2 : Tc} {r1 r2 : Nat → Rl} {cs1 cs2 : List (Pc (List Atr))} {s1 s2 : Ts} {n1 n2 M1 M2 M1' M2' : Nat} {A B : Nat → Prop} {L1 L2 : List Mn} {v1 v2 : Value} {l1 l2 : List (Ky × List Wnt)} (h : Two w0 w nxt rank home T1 T2 r1 r2 cs1 cs2 s1 s2 n1 n2 M1 M2 A B L1 L2 v1 v2 l1 l2) (h1 : M1 ≤ M1') (h2 : M2 ≤ M2') : Two w0 w nxt rank home T1 T2 r1 r2 cs1 cs2 s1 s2 n1 n2 M1' M2' A B L1 L2 v1 v2 l1 l2 :=
  ⟨h.t1, h.g1.mono (Nat.le_refl _) (by omega) (by have := h.g1.le; omega), h.o1, h.d1, h.m1, h.e1, h.k1, h.z1, h.t2, h.g2.mono (Nat.le_refl _) (by omega) (by have := h.g2.le; omega), h.o2, h.d2, h.m2, h.e2, h.k2, h.z2, h.F, h.dj, h.a, h.b⟩
/-- A block of the caller's own that nobody turns. -/
structure Dk (w : World) (r1 r2 : Nat → Rl) (A B : Nat → Prop) (k0 : Nat) (y : Dm) : Prop where
  blk : w.heap[k0]? = some (.cells #[.int .i64 y.1.kind, .int .i64 y.1.client, .int .i64 y.1.id, .int .i64 y.1.turn, .slice y.2.1 y.1.wants.length y.2.2] 33 (0, 0))
  r1 : r1 k0 = .no
  r2 : r2 k0 = .no
  a : ¬ A k0
  b : ¬ B k0
theorem Dk.cells {w : World} {r1 r2 : Nat → Rl} {A B : Nat → Prop} {k0 : Nat} {y : Dm} (h : Dk w r1 r2 A B k0 y) : w.cell? ⟨k0, 0, none⟩ = some (.int .i64 y.1.kind) ∧ w.cell? ⟨k0, 1, none⟩ = some (.int .i64 y.1.client) ∧ w.cell? ⟨k0, 2, none⟩ = some (.int .i64 y.1.id) ∧ w.cell? ⟨k0, 3, none⟩ = some (.int .i64 y.1.turn) ∧ w.cell? ⟨k0, 4, none⟩ = some (.slice y.2.1 y.1.wants.length y.2.2) := by
  refine ⟨?_, ?_, ?_, ?_, ?_⟩ <;> (rw [cell_of_row _ _ _ _ _ _ h.blk]; rfl)
/-- A deed on the first tree. -/
theorem happens_2 (w0 w : World) (nxt : Nat → Nat → Int) (rank : Nat → Nat → Nat) (home : Int → Nat) (T1 T2 : Tc) (r1 r2 : Nat → Rl) (cs1 cs2 : List (Pc (List Atr))) (s1 s2 : Ts) (n1 n2 M1 M2 : Nat) (A B : Nat → Prop) (L1 L2 : List Mn) (va : Option Addr) (vk : Nat) (v2 : Value) (l1 l2 : List (Ky × List Wnt)) (d : Dd) (wa : Option Addr) (wc : Nat)
    (h : Two w0 w nxt rank home T1 T2 r1 r2 cs1 cs2 s1 s2 n1 n2 M1 M2 A B L1 L2 (.slice va L1.length vk) v2 l1 l2) (S : Sh T1 nxt rank) (hh : ∀ c, home c < T1.nb) (hM : M1 + dD T1 < 549755813888) (hw0 : 0 < w0.heap.size) (hwa : InAt w0 wa d.wants) (hwf : IntWf d.wants) (hwl : d.wants.length ≤ maxLen) (hd : I64 d.kind ∧ I64 d.client ∧ I64 d.id ∧ I64 d.turn) :
    Calls Tryz.prog 12 #[.pointer (some ⟨T1.TB, 0, none⟩), .agg #[.int .i64 d.kind, .int .i64 d.client, .int .i64 d.id, .int .i64 d.turn, .slice wa d.wants.length wc], .slice va L1.length vk] w fun e w' => ∃ va' vk' L' s' cs' r' n' A', e = .returned (.tuple #[.slice va' L'.length vk', .bool true]) ∧ Two w0 w' nxt rank home T1 T2 r' r2 cs' cs2 s' s2 n' n2 (M1 + dD T1) M2 A' B L' L2 (.slice va' L'.length vk') v2 (dmF d l1) l2 ∧ ∀ k, k < w.heap.size → r1 k = .no → ¬ A k → w'.heap[k]? = w.heap[k]? ∧ r' k = .no ∧ ¬ A' k := by
  obtain ⟨k1, k2⟩ := nk_of (show NK (L1.map (·.1)) by rw [h.e1]; exact h.k1)
  refine (happens_t T1 r1 w cs1 s1 nxt rank home k24 n1 M1 L1 va vk A d wa wc w0 h.t1 S h.g1 (by rw [k24_len]; omega) (by unfold dD at hM; omega) (fun a b h1 h2 h3 h4 => k24_mem h1 h2 h3 h4) hh (by rw [h.e1]; exact h.o1) k1 k2 h.d1 h.m1 (fun k hk => ⟨(h.a k hk).2.2.1, (h.a k hk).1⟩) hw0 h.F h.z1 hwa hwf hwl hd).mono ?_
  rintro e w' ⟨va', vk', L', s', cs', r', n', h1, h2, h3, h4, h5, h6, h7, h8, h9⟩
  rw [h.e1] at h5
  refine ⟨va', vk', L', s', cs', r', n', _, h1, h.op hw0 h3 (fun k hk => (h.m1.q.own k hk).1) h9 h2 (by unfold dD; simpa [Nat.add_assoc] using h6) (by rw [← h5]; exact h7) h8 h4 (fun k hk => hk) h5 (nk_dm h.k1 d), fun k hk hr hA => ⟨h3.keep k hk (Or.inl ?_), (h9 k hk).trans hr, fun hA' => ?_⟩⟩
  · unfold msk
    rw [if_neg (fun e => hA (h.m1.q.own k e).1)]
    exact hr
  · rcases hA' with h1 | ⟨h1, _⟩
    · exact hA h1
    · omega
end Go.Proofs.YtecnfgikbmcgoaaGreat
namespace Go.Proofs.YtecnfgikbmcgoaaGreat
open Go.RowKit

theorem nbs_count (adj : Nat → Nat → Bool) (nb a : Nat) : ∀ k, k ≤ nb → (nbs adj nb a k).length = sm k (fun b => if adj a b = true then 1 else 0)
  | 0, _ => by simp [nbs, sm]
  | k + 1, h => by
    have ih := nbs_count adj nb a k (by omega)
    show _ = sm k _ + _
    cases hk : adj a k with
    | true => rw [nbs_yes (by omega) hk, List.length_append, ih]; simp [hk]
    | false => rw [nbs_no hk, ih]; simp [hk]
theorem lkTo_count (T : Tc) (s : Ts) : ∀ k, (lkTo T s k).length = sm k (fun a => sm T.nb fun b => if T.adj a b = true then 1 else 0)
  | 0 => by simp [lkTo, sm]
  | k + 1 => by
    rw [lkTo_succ, List.length_append, lkTo_count T s k]
    show _ = sm k _ + _
    congr 1
    show _ = sm T.nb fun b => if T.adj k b = true then 1 else 0
    rw [← nbs_count T.adj T.nb k T.nb (Nat.le_refl _)]
    simp [lk1]
theorem links_len {T : Tc} {nxt : Nat → Nat → Int} {rank : Nat → Nat → Nat} (S : Sh T nxt rank) (hp : 0 < T.nb) (s : Ts) : (lkTo T s T.nb).length + 2 = 2 * T.nb := by
  rw [lkTo_count]
  exact links_count S.N S.Z S.R hp
theorem drop_key {L : List Mn} (hk : L.Pairwise fun x y => x.1.1 ≠ y.1.1) {i : Nat} (hi : i < L.length) (x : Ky × List Wnt) : x ∈ (L.map (·.1)).drop (i + 1) ↔ x ∈ (L.map (·.1)).drop i ∧ x.1 ≠ (nat' L i).1.1 := by
  have e : L.drop i = nat' L i :: L.drop (i + 1) := by
    rw [List.drop_eq_getElem_cons hi]; simp [nat', hi]
  have hp : (L.drop i).Pairwise fun x y => x.1.1 ≠ y.1.1 := hk.sublist (List.drop_sublist _ _)
  rw [e] at hp
  have hh := (List.pairwise_cons.1 hp).1
  rw [← List.map_drop, ← List.map_drop, e, List.map_cons]
  constructor
  · intro h
    obtain ⟨y, hy, rfl⟩ := List.mem_map.1 h
    exact ⟨List.mem_cons_of_mem _ h, fun e2 => hh y hy e2.symm⟩
  · rintro ⟨h1, h2⟩
    rcases List.mem_cons.1 h1 with h1 | h1
    · rw [h1] at h2; exact absurd rfl h2
    · exact h1
/-- Held of both trees, and that they are the same. -/
def canAsk (T : Tc) (b : Nat) (from_ : Int) : Prop := from_ = -1 ∨ ∃ a : Nat, from_ = (a : Int) ∧ T.adj b a = true
theorem keysOf_len (s : Ts) (b : Nat) (from_ : Int) : (keysOf s b from_).length ≤ (s.held b).length := by
  unfold keysOf; rw [List.length_map]; exact List.length_filter_le _ _
/-- What the last part of Settled keeps. -/
structure Ust (w0 w : World) (T : Tc) (nxt : Nat → Nat → Int) (rank : Nat → Nat → Nat) (home : Int → Nat) (r : Nat → Rl) (cs : List (Pc (List Atr))) (s : Ts) (n M : Nat) (A : Nat → Prop) (L : List Mn) (v : Value) (l : List (Ky × List Wnt)) : Prop where
  t : Tf T r w cs s
  G : Gd T nxt rank home k24 s cs n M
  O : Ow home s l
  D : Idn home cs
  m : Mi A w v L
  F : Gr w0 w
  z : ∀ k, k < w0.heap.size → r k = .no
  a : ∀ k, A k → r k = .no ∧ k < w.heap.size
theorem Ust.fr {w0 w w' : World} {T : Tc} {nxt : Nat → Nat → Int} {rank : Nat → Nat → Nat} {home : Int → Nat} {r r' : Nat → Rl} {cs cs' : List (Pc (List Atr))} {s s' : Ts} {n n' M M' : Nat} {A : Nat → Prop} {L : List Mn} {v : Value} {l l' : List (Ky × List Wnt)} (h : Ust w0 w T nxt rank home r cs s n M A L v l) (f : Fr r r' w w') (t : Tf T r' w' cs' s') (g : Gd T nxt rank home k24 s' cs' n' M') (o : Ow home s' l') (d : Idn home cs') : Ust w0 w' T nxt rank home r' cs' s' n' M' A L v l' :=
  ⟨t, g, o, d, h.m.keep f.size (fun k hk hA => ⟨f.keep k hk (Or.inl (h.a k hA).1), hA⟩), gr_of_fr h.F f h.z, fun k hk => (f.same k (Nat.lt_of_lt_of_le hk h.F.size)).trans (h.z k hk), fun k hk => ⟨(f.same k (h.a k hk).2).trans (h.a k hk).1, Nat.lt_of_lt_of_le (h.a k hk).2 f.size⟩⟩
theorem Ust.gr {w0 w w' : World} {T : Tc} {nxt : Nat → Nat → Int} {rank : Nat → Nat → Nat} {home : Int → Nat} {r : Nat → Rl} {cs : List (Pc (List Atr))} {s : Ts} {n M : Nat} {A : Nat → Prop} {L : List Mn} {v : Value} {l : List (Ky × List Wnt)} (h : Ust w0 w T nxt rank home r cs s n M A L v l) (g : Gr w w') : Ust w0 w' T nxt rank home r cs s n M A L v l := h.fr (Fr.gr g) (h.t.gr g) h.G h.O h.D
end Go.Proofs.YtecnfgikbmcgoaaGreat
