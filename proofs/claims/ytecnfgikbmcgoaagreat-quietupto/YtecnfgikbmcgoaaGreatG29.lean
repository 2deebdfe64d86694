import Derived.Test.YtecnfgikbmcgoaaGreatG28
import Derived.Deep.RegionWith
namespace Go.Proofs.YtecnfgikbmcgoaaGreat
open Go.RowKit

abbrev Ts := TS (List Wnt) (List Atr)
/-- A plain tree lies in memory. -/
def Tw (T : Tc) (r : Nat → Rl) (w : World) (cls : List Cl) (s : Ts) : Prop := ∃ Xs qs, Tm T r w Xs qs cls ∧ Vw T Xs qs s
theorem Tw.gr {T : Tc} {r : Nat → Rl} {w w' : World} {cls : List Cl} {s : Ts} (h : Tw T r w cls s) (g : Gr w w') : Tw T r w' cls s := by
  obtain ⟨Xs, qs, h1, h2⟩ := h
  exact ⟨Xs, qs, h1.gr g, h2⟩
theorem vw_len {T : Tc} {r : Nat → Rl} {w : World} {Xs : Nat → List Hm} {qs : Nat → Nat → List Mm} {cls : List Cl} {s : Ts} (h : Tm T r w Xs qs cls) (v : Vw T Xs qs s) {b : Nat} (hb : b < T.nb) : (Xs b).length ≤ (s.held b).length := by
  obtain ⟨_, es, clock, hm⟩ := h.h.at' b hb
  have hd := hm.nod
  rw [List.map_map] at hd
  have hnd : ((Xs b).map fun x => x.1.key).Pairwise fun x y => x ≠ y := by
    rw [List.pairwise_map]
    have := List.pairwise_map.1 hd
    exact this.imp (fun hab e => hab (by show pk _ = pk _; rw [e]))
  have := keys_le ((Xs b).map fun x => x.1.key) ((s.held b).map fun x => x.key) hnd (fun k hk => by
    obtain ⟨x, hx, rfl⟩ := List.mem_map.1 hk
    exact List.mem_map.2 ⟨x.1, (v.held b hb x.1).2 ⟨x, hx, rfl⟩, rfl⟩)
  simpa using this
theorem vw_qlen {T : Tc} {Xs : Nat → List Hm} {qs : Nat → Nat → List Mm} {s : Ts} (v : Vw T Xs qs s) (a b : Nat) : (qs a b).length = (s.q a b).length := by
  rw [v.q, List.length_map]
theorem vw_hold {T : Tc} {Xs : Nat → List Hm} {qs qs' : Nat → Nat → List Mm} {s : Ts} (v : Vw T Xs qs s) (hadj : ∀ a b, T.adj a b = true → a < T.nb ∧ b < T.nb) {b : Nat} (hb : b < T.nb) {h : Hw} (a' : Option Addr) (c' : Nat) (hs : Srt (s.held b)) (hn : ∀ g ∈ s.held b, g.key ≠ h.key)
    (hq : ∀ x y, (qs' x y).map Mm.ms = outB (fun x y => (qs x y).map Mm.ms) b (outH (s.held b) h) (nbs T.adj T.nb b T.nb) x y) : Vw T (fun c => if c = b then Xs b ++ [(h, a', c')] else Xs c) qs' (s.turn cov T.adj b (ins h (s.held b))) := by
  refine ⟨fun c hc g => ?_, fun x y => ?_⟩
  · by_cases hcb : c = b
    · subst hcb
      simp only [TS.turn, if_true]
      rw [mem_ins]
      constructor
      · rintro (rfl | ⟨h1, _⟩)
        · exact ⟨(g, a', c'), by simp, rfl⟩
        · obtain ⟨x, hx, rfl⟩ := (v.held c hc g).1 h1
          exact ⟨x, by simp [hx], rfl⟩
      · rintro ⟨x, hx, rfl⟩
        rcases List.mem_append.1 hx with hx | hx
        · have := (v.held c hc x.1).2 ⟨x, hx, rfl⟩
          exact Or.inr ⟨this, hn _ this⟩
        · rw [List.mem_singleton.1 hx]; exact Or.inl rfl
    · simp only [TS.turn, if_neg hcb]
      exact v.held c hc g
  · rw [hq x y]
    simp only [TS.turn, outB]
    by_cases hx : x = b
    · subst hx
      by_cases hy : T.adj x y = true
      · have hm : y ∈ nbs T.adj T.nb x T.nb := nbs_mem.2 ⟨(hadj x y hy).2, (hadj x y hy).2, hy⟩
        rw [if_pos ⟨rfl, hy⟩, if_pos ⟨rfl, hm⟩, v.q]
        congr 1
        unfold outH
        by_cases hf : (y : Int) = h.fr
        · rw [if_pos hf, hf, chg_ins_same hs hn]
        · rw [if_neg hf, chg_ins hs hn (fun e => hf e.symm)]
      · rw [if_neg (fun e => hy e.2), if_neg (fun e => hy (nbs_mem.1 e.2).2.2), List.append_nil, v.q]
    · rw [if_neg (fun e => hx e.1), if_neg (fun e => hx e.1), List.append_nil, v.q]
theorem vw_drop {T : Tc} {Xs : Nat → List Hm} {qs qs' : Nat → Nat → List Mm} {s : Ts} (v : Vw T Xs qs s) (hadj : ∀ a b, T.adj a b = true → a < T.nb ∧ b < T.nb) {b : Nat} (hb : b < T.nb) {h : Hw} {X' : List Hm} (hX : ∀ y, y ∈ X' ↔ y ∈ Xs b ∧ y.1.key ≠ h.key) (hs : Srt (s.held b)) (hm : h ∈ s.held b)
    (hq : ∀ x y, (qs' x y).map Mm.ms = outB (fun x y => (qs x y).map Mm.ms) b (outD (del h.key (s.held b)) h) (nbs T.adj T.nb b T.nb) x y) : Vw T (fun c => if c = b then X' else Xs c) qs' (s.turn cov T.adj b (del h.key (s.held b))) := by
  refine ⟨fun c hc g => ?_, fun x y => ?_⟩
  · by_cases hcb : c = b
    · subst hcb
      simp only [TS.turn, if_true]
      rw [mem_del]
      constructor
      · rintro ⟨h1, h2⟩
        obtain ⟨x, hx, rfl⟩ := (v.held c hc g).1 h1
        exact ⟨x, (hX x).2 ⟨hx, h2⟩, rfl⟩
      · rintro ⟨x, hx, rfl⟩
        have := (hX x).1 hx
        exact ⟨(v.held c hc x.1).2 ⟨x, this.1, rfl⟩, this.2⟩
    · simp only [TS.turn, if_neg hcb]
      exact v.held c hc g
  · rw [hq x y]
    simp only [TS.turn, outB]
    by_cases hx : x = b
    · subst hx
      by_cases hy : T.adj x y = true
      · have hm' : y ∈ nbs T.adj T.nb x T.nb := nbs_mem.2 ⟨(hadj x y hy).2, (hadj x y hy).2, hy⟩
        rw [if_pos ⟨rfl, hy⟩, if_pos ⟨rfl, hm'⟩, v.q]
        congr 1
        unfold outD
        by_cases hf : (y : Int) = h.fr
        · rw [if_pos hf, hf, chg_del_same hs hm]
        · rw [if_neg hf, chg_del hs hm (fun e => hf e.symm)]
      · rw [if_neg (fun e => hy e.2), if_neg (fun e => hy (nbs_mem.1 e.2).2.2), List.append_nil, v.q]
    · rw [if_neg (fun e => hx e.1), if_neg (fun e => hx e.1), List.append_nil, v.q]
theorem vw_pop {T : Tc} {Xs : Nat → List Hm} {qs : Nat → Nat → List Mm} {s : Ts} (v : Vw T Xs qs s) (a b : Nat) : Vw T Xs (popq qs a b) (s.pop a b) := by
  refine ⟨v.held, fun x y => ?_⟩
  simp only [TS.pop, popq]
  split
  · rw [v.q, List.map_tail]
  · exact v.q x y
/-- What every call wants: nothing is too long. -/
structure Sm (T : Tc) (s : Ts) : Prop where
  h : ∀ b, b < T.nb → (s.held b).length ≤ 100000
  q : ∀ a b, (s.q a b).length < 549755813888
theorem hold_w (T : Tc) (r : Nat → Rl) (w : World) (Xs : Nat → List Hm) (qs : Nat → Nat → List Mm) (cls : List Cl) (s : Ts) (b : Nat) (h : Hw) (a' : Option Addr) (c' : Nat)
    (hT : Tm T r w Xs qs cls) (v : Vw T Xs qs s) (hb : b < T.nb) (hf : FiR r w a' h.f) (hk : I64 h.key.1 ∧ I64 h.key.2) (hs : Srt (s.held b)) (hn : ∀ g ∈ s.held b, g.key ≠ h.key) (hm : Sm T s) :
    Calls Tryz.prog 48 #[.pointer (some ⟨T.TB, 0, none⟩), .int .i64 b, .agg (hv h a' c')] w fun e w' => e = .returned (.tuple #[]) ∧ ∃ r', Tw T r' w' cls (s.turn cov T.adj b (ins h (s.held b))) ∧ Fr r r' w w' := by
  refine (hold_any T r w Xs qs cls b h a' c' (s.held b) hT hb hf hk hs (v.held b hb) (fun x hx => hn _ ((v.held b hb x.1).2 ⟨x, hx, rfl⟩)) (Nat.le_trans (vw_len hT v hb) (hm.h b hb)) (fun n => by rw [vw_qlen v]; exact hm.q b n)).mono ?_
  rintro e w' ⟨he, r', qs', h1, h2, h3⟩
  exact ⟨he, r', ⟨_, qs', h1, vw_hold v hT.b.adj hb a' c' hs hn h3⟩, h2⟩
theorem drop_w (T : Tc) (r : Nat → Rl) (w : World) (Xs : Nat → List Hm) (qs : Nat → Nat → List Mm) (cls : List Cl) (s : Ts) (b : Nat) (h : Hw)
    (hT : Tm T r w Xs qs cls) (v : Vw T Xs qs s) (hb : b < T.nb) (hs : Srt (s.held b)) (hh : h ∈ s.held b) (hm : Sm T s) :
    Calls Tryz.prog 42 #[.pointer (some ⟨T.TB, 0, none⟩), .int .i64 b, .agg #[.int .i64 h.key.1, .int .i64 h.key.2]] w fun e w' => e = .returned (.tuple #[]) ∧ ∃ r', Tw T r' w' cls (s.turn cov T.adj b (del h.key (s.held b))) ∧ Fr r r' w w' := by
  obtain ⟨⟨h', a', c'⟩, hx, rfl⟩ := (v.held b hb h).1 hh
  refine (drop_any T r w Xs qs cls b h' a' c' (del h'.key (s.held b)) hT hb hx (hs.del _) (fun g => ?_) (Nat.le_trans (vw_len hT v hb) (hm.h b hb)) (fun n => by rw [vw_qlen v]; exact hm.q b n)).mono ?_
  · rw [mem_del, v.held b hb g]
    constructor
    · rintro ⟨⟨x, hx, rfl⟩, h2⟩; exact ⟨x, hx, rfl, h2⟩
    · rintro ⟨x, hx, rfl, h2⟩; exact ⟨⟨x, hx, rfl⟩, h2⟩
  · rintro e w' ⟨he, X', r', qs', h0, _, h1, h2, h3⟩
    exact ⟨he, r', ⟨_, qs', h1, vw_drop v hT.b.adj hb h0 hs hh h3⟩, h2⟩
set_option maxRecDepth 100000 in
set_option maxHeartbeats 4000000 in
theorem arrive_sub (T : Tc) (r : Nat → Rl) (w : World) (Xs : Nat → List Hm) (qs : Nat → Nat → List Mm) (cls : List Cl) (s : Ts) (a b : Nat) (k : Ky) (f : List Wnt) (ad : Option Addr) (cap : Nat)
    (hT : Tm T r w Xs qs cls) (v : Vw T Xs qs s) (hb : b < T.nb) (hf : FiR r w ad f) (hk : I64 k.1 ∧ I64 k.2) (hs : Srt (s.held b)) (hn : ∀ g ∈ s.held b, g.key ≠ k) (hm : Sm T s) :
    Calls Tryz.prog 75 #[.pointer (some ⟨T.TB, 0, none⟩), .agg #[.int .i64 a, .int .i64 b], .agg #[.slice none 0 0, .int .i64 k.1, .int .i64 k.2, .slice ad f.length cap]] w fun e w' => e = .returned (.tuple #[]) ∧ ∃ r', Tw T r' w' cls (s.turn cov T.adj b (ins ⟨k, f, a⟩ (s.held b))) ∧ Fr r r' w w' := by
  obtain ⟨fb, fo, hfa, _⟩ := hf.r
  have HT := Hid.mk' hT
  have HV := Hid.mk' v
  have HF := Hid.mk' hf
  have HK := Hid.mk' hk
  have HS := Hid.mk' hs
  have HN := Hid.mk' hn
  have HM := Hid.mk' hm
  clear hT v hf hk hs hn hm
  subst hfa
  go_enter Tryz.func75, Tryz.ntmps75
  go_wp2_with fail
  go_quiet (fail)
  have G2 : Hid (Gr w ((((w.alloc (.cells #[.int .i64 a, .int .i64 b] 81)).alloc (.cells #[.slice none 0 0, .int .i64 k.1, .int .i64 k.2, .slice (some ⟨fb, fo, none⟩) f.length cap] 172)).drewN nq))) := ((((Gr.refl w).alloc _).alloc _).drewN nq)
  go_wp2_with fail
  refine (hold_w T r _ Xs qs cls s b ⟨k, f, a⟩ (some ⟨fb, fo, none⟩) cap (HT.out.gr G2.out) HV.out hb (HF.out.keep G2.out.size (fun i hi _ => G2.out.block i hi) (fun _ _ => rfl)) HK.out HS.out HN.out HM.out).mono ?_
  rintro e w2 ⟨rfl, r', h1, h2⟩
  have FE := Hid.mk' (And.intro h1 ((Fr.gr (r := r) G2.out).trans h2))
  clear h1 h2 G2
  go_wp2_with fail
  exact bodyPost_end (v := .tuple #[]) (by simp [results, Tryz.results75, go_sem]) rfl ⟨rfl, r', FE.out⟩
set_option maxRecDepth 100000 in
set_option maxHeartbeats 4000000 in
theorem arrive_uns (T : Tc) (r : Nat → Rl) (w : World) (Xs : Nat → List Hm) (qs : Nat → Nat → List Mm) (cls : List Cl) (s : Ts) (a b : Nat) (h : Hw)
    (hT : Tm T r w Xs qs cls) (v : Vw T Xs qs s) (hb : b < T.nb) (hs : Srt (s.held b)) (hh : h ∈ s.held b) (hm : Sm T s) :
    Calls Tryz.prog 75 #[.pointer (some ⟨T.TB, 0, none⟩), .agg #[.int .i64 a, .int .i64 b], .agg #[.slice none 0 0, .int .i64 h.key.1, .int .i64 h.key.2, .slice none 0 0]] w fun e w' => e = .returned (.tuple #[]) ∧ ∃ r', Tw T r' w' cls (s.turn cov T.adj b (del h.key (s.held b))) ∧ Fr r r' w w' := by
  have HT := Hid.mk' hT
  have HV := Hid.mk' v
  have HS := Hid.mk' hs
  have HN := Hid.mk' hh
  have HM := Hid.mk' hm
  clear hT v hs hh hm
  go_enter Tryz.func75, Tryz.ntmps75
  go_wp2_with fail
  go_quiet (fail)
  have G2 : Hid (Gr w ((((w.alloc (.cells #[.int .i64 a, .int .i64 b] 81)).alloc (.cells #[.slice none 0 0, .int .i64 h.key.1, .int .i64 h.key.2, .slice none 0 0] 172)).drewN nq))) := ((((Gr.refl w).alloc _).alloc _).drewN nq)
  go_wp2_with fail
  refine (drop_w T r _ Xs qs cls s b h (HT.out.gr G2.out) HV.out hb HS.out HN.out HM.out).mono ?_
  rintro e w2 ⟨rfl, r', h1, h2⟩
  have FE := Hid.mk' (And.intro h1 ((Fr.gr (r := r) G2.out).trans h2))
  clear h1 h2 G2
  go_wp2_with fail
  exact bodyPost_end (v := .tuple #[]) (by simp [results, Tryz.results75, go_sem]) rfl ⟨rfl, r', FE.out⟩
/-- A message of a filter comes. -/
theorem arrive_f (T : Tc) (r : Nat → Rl) (w : World) (Xs : Nat → List Hm) (qs : Nat → Nat → List Mm) (cls : List Cl) (s : Ts) (nxt : Nat → Nat → Int) (home : Int → Nat) (ok : List Wnt → Prop) (a b : Nat) (x : Mm) (rest : List (Ms (List Wnt) (List Atr))) (m0 m1 m2 m3 : Value) (hx : mcells x = [m0, m1, m2, m3])
    (hT : Tm T r w Xs (popq qs a b) cls) (v : Vw T Xs qs s) (I : Inv cov T.adj nxt home ok s) (hab : T.adj a b = true) (hq : s.q a b = x.ms :: rest) (hne : ∀ e, x.ms ≠ .ev e) (hok : MmOk r w x) (hm : Sm T s) :
    Calls Tryz.prog 75 #[.pointer (some ⟨T.TB, 0, none⟩), .agg #[.int .i64 a, .int .i64 b], .agg #[m0, m1, m2, m3]] w fun e w' => e = .returned (.tuple #[]) ∧ ∃ r', Tw T r' w' cls (s.nstep cov T.adj mat a b x.ms) ∧ Fr r r' w w' := by
  have hb := (hT.b.adj a b hab).2
  have v' := vw_pop v a b
  have hm' : Sm T (s.pop a b) := ⟨hm.h, fun p q => by
    have : ((s.pop a b).q p q).length ≤ (s.q p q).length := by
      simp only [TS.pop]; split
      · rw [List.length_tail]; omega
      · exact Nat.le_refl _
    have := hm.q p q
    omega⟩
  obtain ⟨ms, ad, cap⟩ := x
  unfold mcells at hx
  cases ms with
  | sub k f =>
    simp only [List.cons.injEq, and_true] at hx
    obtain ⟨rfl, rfl, rfl, rfl⟩ := hx
    exact arrive_sub T r w Xs (popq qs a b) cls (s.pop a b) a b k f ad cap hT v' hb hok.2 hok.1 (I.srt b) (head_sub I hab hq) hm'
  | uns k =>
    simp only [List.cons.injEq, and_true] at hx
    obtain ⟨rfl, rfl, rfl, rfl⟩ := hx
    obtain ⟨h, hh, rfl⟩ := head_uns I hab hq
    exact arrive_uns T r w Xs (popq qs a b) cls (s.pop a b) a b h hT v' hb (I.srt b) hh hm'
  | ev e => exact absurd rfl (hne e)
set_option maxRecDepth 100000 in
set_option maxHeartbeats 4000000 in
theorem Step_f (T : Tc) (r : Nat → Rl) (w : World) (cls : List Cl) (s : Ts) (nxt : Nat → Nat → Int) (home : Int → Nat) (ok : List Wnt → Prop) (a b : Nat) (m : Ms (List Wnt) (List Atr)) (rest : List (Ms (List Wnt) (List Atr)))
    (hT : Tw T r w cls s) (I : Inv cov T.adj nxt home ok s) (hab : T.adj a b = true) (hq : s.q a b = m :: rest) (hne : ∀ e, m ≠ .ev e) (hm : Sm T s) :
    Calls Tryz.prog 37 #[.pointer (some ⟨T.TB, 0, none⟩), .int .i64 a, .int .i64 b] w fun e w' => e = .returned (.int .i64 0) ∧ ∃ r', Tw T r' w' cls (s.nstep cov T.adj mat a b m) ∧ Fr r r' w w' := by
  obtain ⟨Xs, qs, hT, hV⟩ := hT
  obtain ⟨x, xs, hqs, rfl⟩ : ∃ x xs, qs a b = x :: xs ∧ x.ms = m := by
    have := hV.q a b
    rw [hq] at this
    obtain ⟨x, xs, e1, e2, e3⟩ := List.map_eq_cons_iff.1 this.symm
    exact ⟨x, xs, e1, e2⟩
  obtain ⟨a0, n0, c0, k1, k2, a3, n3, c3, hx⟩ := mcells_shape x
  have ga : Gr w (w.alloc (.cells #[.int .i64 a, .int .i64 b] 81)) := (Gr.refl w).alloc _
  have HB := heap_alloc_new w (.cells #[.int .i64 a, .int .i64 b] 81)
  have hT1 := hT.gr ga
  obtain ⟨mm, es, clock, hmp, _, hall, hev⟩ := hT1.l.lk
  obtain ⟨v, hv⟩ := hev a b hab
  have hQ : Qr (w.alloc (.cells #[.int .i64 a, .int .i64 b] 81)) 172 4 (fun k => r k = .qu a b) v (xs.length + 1) ((qs a b).flatMap mcells) := by
    obtain ⟨a', b', e, _, hQ⟩ := hall _ v hv
    have := pk_inj e
    simp only [Prod.mk.injEq, Int.natCast_inj] at this
    rw [← this.1, ← this.2] at hQ
    rw [show xs.length + 1 = (qs a b).length by rw [hqs]; rfl]; exact hQ
  obtain ⟨va, vc, rfl⟩ := hQ.shape
  have hltn := hT.b.adj a b hab
  have hnb := hT.b.nb8
  obtain ⟨lk, hlk⟩ := keyE ((a : Int), (b : Int)) ⟨by omega, by omega⟩ ⟨by omega, by omega⟩
  have hlu : ∀ n : Nat, (Instr.lookup 117 (.map (some T.LB)) (.agg #[.int .i64 a, .int .i64 b]) false).run Tryz.prog ((w.alloc (.cells #[.int .i64 a, .int .i64 b] 81)).drewN n) = .ok (.slice va (xs.length + 1) vc) ((w.alloc (.cells #[.int .i64 a, .int .i64 b] 81)).drewN n) := fun n => Mp.look_yes Tryz.keyedE Tryz.underlying117 (hmp.kept (by rw [World.heap_drewN])) hlk hv false
  have hc2 := hT1.b.c2
  have ka0 : (w.alloc (.cells #[.int .i64 a, .int .i64 b] 81)).cell? ⟨w.heap.size, 0, none⟩ = some (.int .i64 a) := by rw [cell_of_row _ _ _ _ _ _ HB]; rfl
  have ka1 : (w.alloc (.cells #[.int .i64 a, .int .i64 b] 81)).cell? ⟨w.heap.size, 1, none⟩ = some (.int .i64 b) := by rw [cell_of_row _ _ _ _ _ _ HB]; rfl
  have hz : ((xs.length : Int) + 1 == 0) = false := by simp; omega
  have HT1 := Hid.mk' hT1
  have HV := Hid.mk' hV
  have HI := Hid.mk' I
  have HQ := Hid.mk' hq
  have HQS := Hid.mk' hqs
  have HX := Hid.mk' hx
  have HNE := Hid.mk' hne
  have HM := Hid.mk' hm
  have GA := Hid.mk' ga
  have HTOP := Hid.mk' hT.b.top
  have hTB := hT1.tlt
  have HHB := Hid.mk' HB
  clear hT hV I hq hqs hx hne hm hall hev hv hQ hmp hT1 ga HB
  go_enter Tryz.func37, Tryz.ntmps37
  go_wp2_with fail
  generalize (w.alloc (.cells #[.int .i64 a, .int .i64 b] 81)) = W1 at *
  go_quiet (fail)
  have gd := (Gr.refl W1).drewN nq
  have T2 := HT1.out.gr gd
  have G2 := Hid.mk' (GA.out.drewN nq)
  have HB2 := blk_gr gd HHB.out
  clear hlu ka0 ka1 hc2 HT1
  go_wp2_with fail
  generalize W1.drewN nq = W2 at *
  have rb : r w.heap.size = .no := by
    rcases Nat.lt_or_ge w.heap.size w.heap.size with h | h
    · omega
    · exact HTOP.out _ h
  have ka0 : W2.cell? ⟨w.heap.size, 0, none⟩ = some (.int .i64 a) := by rw [cell_of_row _ _ _ _ _ _ HB2]; rfl
  have ka1 : W2.cell? ⟨w.heap.size, 1, none⟩ = some (.int .i64 b) := by rw [cell_of_row _ _ _ _ _ _ HB2]; rfl
  have TF : Hid (∀ W3, W3 = W2.drew → Calls Tryz.prog 76 #[.pointer (some ⟨T.TB, 0, none⟩), .agg #[.int .i64 a, .int .i64 b]] W3 fun e w' => e = .returned (.agg #[.slice a0 n0 c0, .int .i64 k1, .int .i64 k2, .slice a3 n3 c3]) ∧ Tm T r w' Xs (popq qs a b) cls ∧ Fr r r W3 w' ∧ w'.cell? ⟨w.heap.size, 0, none⟩ = some (.int .i64 a) ∧ w'.cell? ⟨w.heap.size, 1, none⟩ = some (.int .i64 b)) := by
    intro W3 e
    subst e
    refine (takeFirst_any T r W2.drew Xs qs cls a b x xs a0 a3 n0 c0 n3 c3 k1 k2 HX.out (T2.gr (Gr.refl W2).drew) hab HQS.out).mono ?_
    rintro e w' ⟨h1, h2, h3⟩
    have hk := (h3.keep w.heap.size (blk_lt (w := W2.drew) HB2) (Or.inl rb)).trans HB2
    exact ⟨h1, h2, h3, by rw [cell_of_row _ _ _ _ _ _ hk]; rfl, by rw [cell_of_row _ _ _ _ _ _ hk]; rfl⟩
  have MOK : Hid (∀ w', Fr r r W2.drew w' → MmOk r w' x) := fun w' k => by
    have h1 : MmOk r W2.drew x := (T2.gr (Gr.refl W2).drew).l.ms a b x (by rw [HQS.out]; simp)
    exact h1.keep k.size (fun i hi hr => k.keep i hi (Or.inr hr)) k.same
  clear T2 HB2 gd
  go_region_with (first
    | (go_at_call 76; refine (TF.out _ rfl).mono ?_; rintro e w3 ⟨rfl, h1, h2, ka0', ka1'⟩)
    | (go_at_call 75; refine (arrive_f T r _ Xs qs cls s nxt home ok a b x rest _ _ _ _ HX.out h1 HV.out HI.out hab HQ.out HNE.out (MOK.out _ h2) HM.out).mono ?_; rintro e w4 ⟨rfl, FE⟩))
  all_goals
    have GG := Hid.mk' ((Fr.gr (r := r) G2.out.drew).trans h2)
    have FE2 := Hid.mk' FE
    clear h1 h2 ka0' ka1' FE TF MOK
    go_wp2_with fail
    go_ret
    obtain ⟨r', z1, z2⟩ := FE2.out
    exact ⟨rfl, r', z1, GG.out.trans z2⟩
end Go.Proofs.YtecnfgikbmcgoaaGreat
