import Derived.Test.YtecnfgikbmcgoaaGreatG35
import Derived.Test.YtecnfgikbmcgoaaGreatG26
namespace Go.Proofs.YtecnfgikbmcgoaaGreat
open Go.RowKit
open Go.Maps (Keyed)

set_option maxRecDepth 100000 in
set_option maxHeartbeats 4000000 in
theorem Unsubscribe_ok (T : Tc) (r : Nat → Rl) (w : World) (cls : List Cl) (s : Ts) (x : Cl) (id : Int) (h : Hw)
    (hT : Tw T r w cls s) (hx : x ∈ cls) (hid : I64 id) (hs : Srt (s.held x.at')) (hh : h ∈ s.held x.at') (hk : h.key = (x.num, id)) (hm : Sm T s) :
    Calls Tryz.prog 18 #[.pointer (some ⟨T.TB, 0, none⟩), .int .i64 x.num, .int .i64 id] w fun e w' => e = .returned (.int .i64 0) ∧ ∃ r', Tw T r' w' cls (s.turn cov T.adj x.at' (del h.key (s.held x.at'))) ∧ Fr r r' w w' := by
  obtain ⟨Xs, qs, hT, hV⟩ := hT
  have hnum := (hT.k.num x hx).1
  have hb := (hT.k.num x hx).2
  have hnb := hT.b.nb8
  have hlu0 := hT.k.find hx
  have c1 := hT.b.c1
  obtain ⟨⟨h', a', c'⟩, hy, rfl⟩ := (hV.held _ hb h).1 hh
  have ga : Gr w (w.alloc (.cells #[.int .i64 x.num, .int .i64 id] 112)) := (Gr.refl w).alloc _
  have HB := heap_alloc_new w (.cells #[.int .i64 x.num, .int .i64 id] 112)
  have hsz : (w.alloc (.cells #[.int .i64 x.num, .int .i64 id] 112)).heap.size = w.heap.size + 1 := by simp
  have HT := Hid.mk' hT
  have HV := Hid.mk' hV
  have HS := Hid.mk' hs
  have HH := Hid.mk' hh
  have HK := Hid.mk' hk
  have HM := Hid.mk' hm
  have HX := Hid.mk' hx
  have HY := Hid.mk' hy
  have HI := Hid.mk' (And.intro hnum hid)
  have G1 := Hid.mk' ga
  have HHB := Hid.mk' HB
  clear hT hV hs hh hk hm hx hy hnum hid ga HB
  simp only at *
  go_enter Tryz.func18, Tryz.ntmps18
  go_wp2_with fail
  generalize (w.alloc (.cells #[.int .i64 x.num, .int .i64 id] 112)) = W1 at *
  have T1 := HT.out.gr G1.out
  obtain ⟨es, clock, hmp⟩ := (T1.h.at' x.at' hb).2
  obtain ⟨lk, hlk⟩ := keyK (x.num, id) HI.out.1 HI.out.2
  have hyes : (pk (x.num, id), .agg (hv h' a' c')) ∈ (Xs x.at').map mv := by
    rw [← HK.out]; exact List.mem_map.2 ⟨_, HY.out, rfl⟩
  have gz : Gr W1 (W1.alloc (.cells #[.int .i64 0, .int .i64 0, .slice none 0 0, .int .i64 0] 121)) := (Gr.refl W1).alloc _
  have hlu := Mp.look_yes Tryz.keyedK Tryz.underlying123 (hmp.kept (w' := W1.drew) rfl) hlk hyes true
  have hlu2 := Mp.look_yes Tryz.keyedK Tryz.underlying123 (hmp.kept (w' := (W1.alloc (.cells #[.int .i64 0, .int .i64 0, .slice none 0 0, .int .i64 0] 121)).drew) (gz.block _ hmp.lt)) hlk hyes true
  unfold pk hv at hlu hlu2
  have hTB := T1.tlt
  have hHB := T1.hlt
  have hws : w.heap.size < W1.heap.size := by omega
  have c0 := T1.b.c0
  have cb := T1.b.hb x.at' hb
  obtain ⟨hcr, hcb⟩ := T1.k.blk x HX.out
  have hclt := blk_lt hcb
  have k0 : W1.cell? ⟨w.heap.size, 0, none⟩ = some (.int .i64 x.num) := by rw [cell_of_row _ _ _ _ _ _ HHB.out]; rfl
  have k1 : W1.cell? ⟨w.heap.size, 1, none⟩ = some (.int .i64 id) := by rw [cell_of_row _ _ _ _ _ _ HHB.out]; rfl
  have ka : W1.cell? ⟨x.blk, 0, none⟩ = some (.int .i64 x.at') := by rw [cell_of_row _ _ _ _ _ _ hcb]; rfl
  have c0' := (gz.cell (p := ⟨T.TB, 0, none⟩) hTB).trans c0
  have cb' := (gz.cell (p := ⟨T.HB, x.at', none⟩) hHB).trans cb
  have k0' := (gz.cell (p := ⟨w.heap.size, 0, none⟩) hws).trans k0
  have k1' := (gz.cell (p := ⟨w.heap.size, 1, none⟩) hws).trans k1
  have ka' := (gz.cell (p := ⟨x.blk, 0, none⟩) hclt).trans ka
  clear T1 hmp hyes gz hcr hcb hlu0 c1
  go_region
  all_goals
    clear hlu hlu2 c0' cb' k0' k1' ka' c0 cb k0 k1 ka
    have gz : Gr W1 (W1.alloc (.cells #[.int .i64 h'.key.1, .int .i64 h'.key.2, .slice a' h'.f.length c', .int .i64 h'.fr] 121)).drew := ((Gr.refl W1).alloc _).drew
    have G2 := Hid.mk' (Gr.call G1.out gz)
    have HK2 := Hid.mk' (blk_gr gz HHB.out)
    go_wp2_with fail
    generalize (W1.alloc (.cells #[.int .i64 h'.key.1, .int .i64 h'.key.2, .slice a' h'.f.length c', .int .i64 h'.fr] 121)).drew = w3 at *
    have HCL3 := Hid.mk' ((HT.out.gr G2.out).k.blk x HX.out).2
    have k0 : w3.cell? ⟨w.heap.size, 0, none⟩ = some (.int .i64 x.num) := by rw [cell_of_row _ _ _ _ _ _ HK2.out]; rfl
    have k1 : w3.cell? ⟨w.heap.size, 1, none⟩ = some (.int .i64 id) := by rw [cell_of_row _ _ _ _ _ _ HK2.out]; rfl
    have ka : w3.cell? ⟨x.blk, 0, none⟩ = some (.int .i64 x.at') := by rw [cell_of_row _ _ _ _ _ _ HCL3.out]; rfl
    have DR : Hid (∀ W, W = w3.drew → Calls Tryz.prog 42 #[.pointer (some ⟨T.TB, 0, none⟩), .int .i64 x.at', .agg #[.int .i64 x.num, .int .i64 id]] W fun e w' => e = .returned (.tuple #[]) ∧ ∃ r', Tw T r' w' cls (s.turn cov T.adj x.at' (del h'.key (s.held x.at'))) ∧ Fr r r' w w') := by
      intro W e
      subst e
      have := drop_w T r w3.drew Xs qs cls s x.at' h' (HT.out.gr G2.out.drew) HV.out hb HS.out HH.out HM.out
      rw [HK.out] at this ⊢
      refine this.mono ?_
      rintro e w' ⟨h1, r', h2, h3⟩
      exact ⟨h1, r', h2, (Fr.gr G2.out.drew).trans h3⟩
    clear gz
    go_region_with (go_at_call 42; refine (DR.out _ rfl).mono ?_; rintro e w5 ⟨rfl, FE⟩)
    all_goals
      have FE2 := Hid.mk' FE
      clear FE DR k0 k1 ka
      go_wp2_with fail
      go_ret
      exact ⟨rfl, FE2.out⟩
end Go.Proofs.YtecnfgikbmcgoaaGreat
namespace Go.Proofs.YtecnfgikbmcgoaaGreat

/-! ### What isTree lets by is a tree -/
def prt (n : Nat) (p : List Nat) : Nat → Nat := fun x => if x < n then pat p x else x
theorem pat_map {p : List Nat} {f : Nat → Nat} {x : Nat} (h : x < p.length) : pat (p.map f) x = f (pat p x) := by simp [pat, h]
theorem pat_lt {n : Nat} {p : List Nat} (hl : p.length = n) (hp : ∀ x ∈ p, x < n) {x : Nat} (h : x < n) : pat p x < n := by
  refine hp _ ?_
  unfold pat
  rw [List.getD_eq_getElem?_getD, List.getElem?_eq_getElem (by omega)]
  exact List.getElem_mem _
theorem prt_join {n : Nat} {p : List Nat} (hl : p.length = n) (hp : ∀ x ∈ p, x < n) {u v : Nat} (hu : u < n) (hv : v < n) : prt n (p.map fun x => if x = pat p v then pat p u else x) = joinP (prt n p) u v := by
  funext x
  simp only [prt, joinP, if_pos hu, if_pos hv]
  by_cases hx : x < n
  · rw [if_pos hx, if_pos hx, pat_map (by omega)]
  · have := pat_lt hl hp hv
    rw [if_neg hx, if_neg hx, if_neg (by omega)]
theorem prt_range (n : Nat) : prt n (List.range n) = fun b => b := by
  funext x
  simp only [prt]
  split
  · rename_i h; simp [pat, h]
  · rfl
/-- The edges, as neighbours. -/
def EdgeOf (es : List Ky) (a b : Nat) : Prop := ((a : Int), (b : Int)) ∈ es ∨ ((b : Int), (a : Int)) ∈ es
theorem tRun_fo {n : Nat} : ∀ (es : List Ky) (p : List Nat) (adj : Nat → Nat → Bool) (nxt : Nat → Nat → Int) (p' : List Nat), p.length = n → (∀ x ∈ p, x < n) → (∀ b, prt n p (prt n p b) = prt n p b) → Fo n (prt n p) adj nxt → tRun n p es = some p' →
    ∃ adj' nxt', Fo n (prt n p') adj' nxt' ∧ (∀ a b, adj' a b = true ↔ adj a b = true ∨ EdgeOf es a b) ∧ reps n (prt n p') + es.length = reps n (prt n p) ∧ (∀ b, prt n p' (prt n p' b) = prt n p' b) ∧ (∀ b, b < n → prt n p' b < n)
  | [], p, adj, nxt, p', hl, hp, hi, hF, h => by
    injection h with h
    subst h
    exact ⟨adj, nxt, hF, fun a b => by simp [EdgeOf], by simp, hi, fun b hb => by simp only [prt, if_pos hb]; exact pat_lt hl hp hb⟩
  | e :: es, p, adj, nxt, p', hl, hp, hi, hF, h => by
    rw [tRun] at h
    cases hs : tStep n p e with
    | none => rw [hs] at h; cases h
    | some q =>
      rw [hs] at h
      have h : tRun n q es = some p' := h
      unfold tStep at hs
      split at hs
      · rename_i hc
        obtain ⟨h1, h2, h3, h4, h5⟩ := hc
        obtain ⟨e1, e2⟩ := e
        simp only at h1 h2 h3 h4 h5 hs
        obtain ⟨u, rfl⟩ : ∃ u : Nat, e1 = u := ⟨e1.toNat, by omega⟩
        obtain ⟨v, rfl⟩ : ∃ v : Nat, e2 = v := ⟨e2.toNat, by omega⟩
        have hu : u < n := by omega
        have hv : v < n := by omega
        simp only [Int.toNat_natCast] at h5 hs
        injection hs with hs
        have hq := prt_join hl hp hu hv
        rw [hs] at hq
        have hne : prt n p u ≠ prt n p v := by simp only [prt, if_pos hu, if_pos hv]; exact h5
        have hF' := hF.join hu hv hne
        rw [← hq] at hF'
        have hl' : q.length = n := by rw [← hs]; simp [hl]
        have hp' : ∀ x ∈ q, x < n := by
          intro x hx
          rw [← hs] at hx
          obtain ⟨y, hy, rfl⟩ := List.mem_map.1 hx
          split
          · exact pat_lt hl hp hu
          · exact hp y hy
        have hi' : ∀ b, prt n q (prt n q b) = prt n q b := by rw [hq]; exact joinP_rep hi u v
        obtain ⟨adj', nxt', A, B, C, D, E⟩ := tRun_fo es q _ _ p' hl' hp' hi' hF' h
        refine ⟨adj', nxt', A, fun a b => ?_, ?_, D, E⟩
        · rw [B a b, joinA_iff]
          simp only [EdgeOf, List.mem_cons, Prod.mk.injEq]
          constructor
          · rintro ((h | ⟨rfl, rfl⟩ | ⟨rfl, rfl⟩) | (h | h))
            · exact Or.inl h
            · exact Or.inr (Or.inl (Or.inl ⟨rfl, rfl⟩))
            · exact Or.inr (Or.inr (Or.inl ⟨rfl, rfl⟩))
            · exact Or.inr (Or.inl (Or.inr h))
            · exact Or.inr (Or.inr (Or.inr h))
          · rintro (h | (⟨h1, h2⟩ | h) | (⟨h1, h2⟩ | h))
            · exact Or.inl (Or.inl h)
            · exact Or.inl (Or.inr (Or.inl ⟨by omega, by omega⟩))
            · exact Or.inr (Or.inl h)
            · exact Or.inl (Or.inr (Or.inr ⟨by omega, by omega⟩))
            · exact Or.inr (Or.inr h)
        · have := reps_join hi (fun b hb => by simp only [prt, if_pos hb]; exact pat_lt hl hp hb) (u := u) hv hne
          rw [← hq] at this
          simp only [List.length_cons]; omega
      · cases hs
/-- What isTree lets by. -/
theorem tree_of {n : Int} {es : List Ky} (h : treeB n es = true) : ∃ (nb : Nat) (adj : Nat → Nat → Bool) (nxt : Nat → Nat → Int), n = nb ∧ 1 ≤ nb ∧ nb ≤ 8 ∧ es.length + 1 = nb ∧ (∀ a b, adj a b = true ↔ EdgeOf es a b) ∧ Nx adj (dom nb nxt) ∧ Nz nb adj (dom nb nxt) ∧ Rk adj (dom nb nxt) (behind nb (dom nb nxt)) := by
  simp only [treeB, Bool.and_eq_true, decide_eq_true_eq] at h
  obtain ⟨⟨⟨h1, h2⟩, h3⟩, h4⟩ := h
  obtain ⟨nb, rfl⟩ : ∃ k : Nat, n = k := ⟨n.toNat, by omega⟩
  simp only [Int.toNat_natCast] at h4
  cases hr : tRun nb (List.range nb) es with
  | none => rw [hr] at h4; cases h4
  | some p' =>
    have hF : Fo nb (prt nb (List.range nb)) (fun _ _ => false) (fun _ _ => -1) := by rw [prt_range]; exact Fo.init nb
    obtain ⟨adj, nxt, A, B, C, D, E⟩ := tRun_fo es (List.range nb) _ _ p' (by simp) (fun x hx => by simpa using hx) (fun b => by rw [prt_range]) hF hr
    rw [prt_range, reps_init] at C
    have one := one_part D E (by omega)
    exact ⟨nb, adj, nxt, rfl, by omega, by omega, by omega, fun a b => by rw [B a b]; simp, A.nx one, A.nz one, A.rk one⟩
end Go.Proofs.YtecnfgikbmcgoaaGreat
