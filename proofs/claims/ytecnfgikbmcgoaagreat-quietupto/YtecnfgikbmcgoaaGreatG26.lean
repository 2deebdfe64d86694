import Derived.Test.YtecnfgikbmcgoaaGreatG14
import Derived.Test.YtecnfgikbmcgoaaGreatG25
import Derived.Deep.QuietTactic
namespace Go.Proofs.YtecnfgikbmcgoaaGreat
open Go.RowKit

theorem gr_set {a b : World} {B j : Nat} (h : Gr a b) (hB : a.heap.size ≤ B) (u : Value) : Gr a (b.setCell ⟨B, j, none⟩ u) := Below.setCell h (p := ⟨B, j, none⟩) hB u
/-! ### isTree -/
def pat (p : List Nat) (i : Nat) : Nat := p.getD i 0
/-- One edge joins two parts, or it is none of a tree. -/
def tStep (n : Nat) (p : List Nat) (e : Ky) : Option (List Nat) :=
  if 0 ≤ e.1 ∧ 0 ≤ e.2 ∧ e.1 < n ∧ e.2 < n ∧ pat p e.1.toNat ≠ pat p e.2.toNat then some (p.map fun x => if x = pat p e.2.toNat then pat p e.1.toNat else x) else none
def tRun (n : Nat) : List Nat → List Ky → Option (List Nat)
  | p, [] => some p
  | p, e :: es => (tStep n p e).bind fun q => tRun n q es
def treeB (n : Int) (es : List Ky) : Bool := decide (1 ≤ n) && decide (n ≤ 8) && decide ((es.length : Int) = n - 1) && (tRun n.toNat (List.range n.toNat) es).isSome
def eat (es : List Ky) (i : Nat) : Ky := es.getD i (0, 0)
/-- Edges in memory. -/
def EdAt (w : World) (ad : Option Addr) (es : List Ky) : Prop := es = [] ∨ ∃ b off, ad = some ⟨b, off, none⟩ ∧ b < w.heap.size ∧ ∀ i, i < es.length → w.cell? ⟨b, off + i * 2, none⟩ = some (.int .i64 (eat es i).1) ∧ w.cell? ⟨b, off + i * 2 + 1, none⟩ = some (.int .i64 (eat es i).2)
theorem meas_dec (n j : Nat) (h : j < n) : n - (intOf (.int .i64 ((j + 1 : Nat) : Int))).toNat < n - (intOf (.int .i64 (j : Int))).toNat := by
  simp [intOf]; omega
/-- Half written over. -/
def mix (f : Nat → Nat) (p : List Nat) (z : Nat) : List Nat := (p.map f).take z ++ p.drop z
theorem mix_len (f : Nat → Nat) (p : List Nat) (z : Nat) : (mix f p z).length = p.length := by simp [mix]; omega
theorem mix_at {f : Nat → Nat} {p : List Nat} {z : Nat} (h : z < p.length) : pat (mix f p z) z = pat p z := by
  simp only [pat, mix, List.getD_eq_getElem?_getD]
  rw [List.getElem?_append_right (by simp; omega)]
  simp [Nat.min_eq_left (Nat.le_of_lt h)]
theorem mix_set {f : Nat → Nat} {p : List Nat} {z : Nat} (h : z < p.length) : (mix f p z).set z (f (pat p z)) = mix f p (z + 1) := by
  simp only [mix]
  rw [List.set_append_right _ _ (by simp; omega)]
  have e : z - (List.take z (List.map f p)).length = 0 := by simp; omega
  rw [e, List.drop_eq_getElem_cons h, List.set_cons_zero]
  have e2 : (p.map f).take (z + 1) = (p.map f).take z ++ [f (pat p z)] := by
    rw [List.take_add_one]; simp [pat, h]
  rw [e2]; simp
theorem mix_same {f : Nat → Nat} {p : List Nat} {z : Nat} (h : z < p.length) (hf : f (pat p z) = pat p z) : mix f p (z + 1) = mix f p z := by
  rw [← mix_set h, hf]
  apply List.ext_getElem?
  intro i
  rw [List.getElem?_set]
  split
  · rename_i hi
    subst hi
    have hl : z < (mix f p z).length := by rw [mix_len]; exact h
    have := mix_at (f := f) h
    rw [if_pos hl, ← this]
    simp [pat, hl]
  · rfl
theorem mix_end (f : Nat → Nat) (p : List Nat) : mix f p p.length = p.map f := by unfold mix; rw [List.drop_length, List.append_nil, List.take_of_length_le (by simp)]
theorem ints_set (l : List Nat) (z x : Nat) : (ints l).set z (.int .i64 (x : Int)) = ints (l.set z x) := by simp [ints, List.map_set]
theorem ints_at {p : List Nat} {i : Nat} (h : i < p.length) : (ints p)[i]? = some (.int .i64 (pat p i)) := by
  simp [ints, pat, h]
set_option maxRecDepth 100000 in
set_option maxHeartbeats 1000000 in
theorem isTree_bad (n : Int) (es : List Ky) (ad : Option Addr) (cap : Nat) (w : World) (hn : ¬ (1 ≤ n ∧ n ≤ 8 ∧ (es.length : Int) = n - 1)) :
    Calls Tryz.prog 73 #[.int .i64 n, .slice ad es.length cap] w fun e w' => e = .returned (.bool (treeB n es)) ∧ Gr w w' := by
  have TB : Hid (treeB n es = false) := by
    show _ = _
    simp only [treeB, Bool.and_eq_false_iff, decide_eq_false_iff_not]
    by_cases h1 : 1 ≤ n
    · by_cases h2 : n ≤ 8
      · exact Or.inl (Or.inr (fun h3 => hn ⟨h1, h2, h3⟩))
      · exact Or.inl (Or.inl (Or.inr h2))
    · exact Or.inl (Or.inl (Or.inl h1))
  have HN := Hid.mk' hn
  clear hn
  by_cases h1 : n < 1
  · go_enter Tryz.func73, Tryz.ntmps73
    go_wp2_with fail
    go_ret
    exact ⟨by rw [TB.out]; rfl, Gr.refl _⟩
  · by_cases h2 : 8 < n
    · go_enter Tryz.func73, Tryz.ntmps73
      go_wp2_with fail
      go_ret
      exact ⟨by rw [TB.out]; rfl, Gr.refl _⟩
    · have h3 : ((es.length : Int) == n - 1) = false := by
        simp only [beq_eq_false_iff_ne]
        exact fun h => HN.out ⟨by omega, by omega, h⟩
      have hw : wrap64 (n - 1) = n - 1 := by unfold wrap64; omega
      go_enter Tryz.func73, Tryz.ntmps73
      go_wp2_with fail
      go_ret
      exact ⟨by rw [TB.out]; rfl, Gr.refl _⟩
set_option maxRecDepth 100000 in
set_option maxHeartbeats 4000000 in
theorem isTree_any (n : Int) (es : List Ky) (ad : Option Addr) (cap : Nat) (w : World) (hl : es.length ≤ maxLen) (h : EdAt w ad es) (hI : ∀ e ∈ es, I64 e.1 ∧ I64 e.2) :
    Calls Tryz.prog 73 #[.int .i64 n, .slice ad es.length cap] w fun e w' => e = .returned (.bool (treeB n es)) ∧ Gr w w' := by
  by_cases hn : 1 ≤ n ∧ n ≤ 8 ∧ (es.length : Int) = n - 1
  · obtain ⟨hn1, hn2, hn3⟩ := hn
    obtain ⟨k, rfl⟩ : ∃ k : Nat, n = k := ⟨n.toNat, by omega⟩
    obtain ⟨i0, hi, hz0, hz1, hz2⟩ := info_parts Tryz.infoIntQ
    have HE := Hid.mk' h
    have HI := Hid.mk' hI
    clear h hI
    have f1 : ¬ (k : Int) < 1 := by omega
    have f2 : ¬ (8 : Int) < (k : Int) := by omega
    have f3 : ((es.length : Int) == (k : Int) - 1) = true := by simpa using hn3
    go_enter Tryz.func73, Tryz.ntmps73
    have HN3 := Hid.mk' hn3
    clear hn3
    go_wp2_with (at_make; refine wpList_make_full _ rfl _ _ 27 rfl w.heap.size 3 i0 _ 1 Tryz.underlying27 hi hz0 hz1 _ _ _ _ k rfl rfl (by omega) (by omega) ?b2 ?b3 (Nat.le_refl _) ?_)
    case b2 => omega
    case b3 => unfold maxLen; omega
    intro w1 hown1 hgrow1
    have G1 : Hid (Gr w w1) := Below.grown (Gr.refl w) hgrow1 (Nat.le_refl _) (fun b hb => by cases hb)
    have O1 := Hid.mk' hown1
    clear hown1 hgrow1
    go_wp2_with fail
    go_loopw [29] (fun i wr => ∃ (q : Nat) (xs : List Value), q ≤ k ∧ i = .int .i64 q ∧ Hid (Gr w wr) ∧ Hid (xs.take q = ints (List.range q)) ∧ Hid (wr.ownsRow w.heap.size 3 1 (.slice (some ⟨w.heap.size, 0, none⟩) k k) k xs)) (fun i _ => k - (intOf i).toNat)
    case atStart => exact ⟨0, _, Nat.zero_le _, rfl, G1, rfl, O1⟩
    case round =>
      obtain ⟨q, xs, hq, rfl, G, HX, O⟩ := hrel
      clear G1 O1
      by_cases hlt : q < k
      · have hxl : xs.length = k := by have := O.out.1; omega
        obtain ⟨r0, rc0⟩ := row_some O.out q (by omega)
        have rf0 := World.ownsRow.frozenAt O.out q
        have O2 := Hid.mk' (World.ownsRow.stored O.out q (.int .i64 q)).1
        have X2 : Hid ((xs.set q (.int .i64 q)).take (q + 1) = ints (List.range (q + 1))) := by
          show _ = _
          rw [take_set _ _ _ (by omega), HX.out, List.range_succ, ints_snoc]
        have G2 := Hid.mk' (gr_set (j := q) G.out (Nat.le_refl _) (.int .i64 q))
        clear O G HX
        go_wp2_with fail
        go_roundw
        case rel => exact ⟨q + 1, _, by omega, by go_num, G2, X2, O2⟩
        case measure => simp [intOf]; omega
      · have hqk : q = k := by omega
        subst hqk
        have OP : Hid (wr.ownsRow w.heap.size 3 1 (.slice (some ⟨w.heap.size, 0, none⟩) q q) q (ints (List.range q))) := by
          have e : xs = ints (List.range q) := by rw [← HX.out, List.take_of_length_le (by have := O.out.1; omega)]
          rw [← e]; exact O.out
        clear O HX
        go_wp2_with fail
        go_loopw [39] (fun i w2 => ∃ (j : Nat) (p : List Nat), j ≤ es.length ∧ i = .int .i64 j ∧ p.length = q ∧ Hid (∀ x ∈ p, x < q) ∧ Hid (Gr w w2) ∧ Hid (w2.ownsRow w.heap.size 3 1 (.slice (some ⟨w.heap.size, 0, none⟩) q q) q (ints p)) ∧ Hid (tRun q (List.range q) es = tRun q p (es.drop j))) (fun i _ => es.length - (intOf i).toNat)
        case atStart => exact ⟨0, List.range q, Nat.zero_le _, rfl, by simp, fun x hx => by simpa using hx, G, OP, rfl⟩
        case round =>
          clear G OP
          obtain ⟨j, p, hj, rfl, hpl, HPL, G, O, E⟩ := hrel
          by_cases hlt2 : j < es.length
          · rcases HE.out with h0 | ⟨b, off, rfl, hbw, hat⟩
            · rw [h0] at hlt2; simp at hlt2
            obtain ⟨d1, d2⟩ := hat j hlt2
            rw [← G.out.cell (p := ⟨b, off + j * 2, none⟩) hbw] at d1
            rw [← G.out.cell (p := ⟨b, off + j * 2 + 1, none⟩) hbw] at d2
            have hbw2 : b < wr.heap.size := G.out.lt hbw
            have hcons : es.drop j = eat es j :: es.drop (j + 1) := by
              rw [List.drop_eq_getElem_cons hlt2]; simp [eat, hlt2]
            have E2 := Hid.mk' E.out
            rw [hcons] at E2
            clear E hat
            generalize eat es j = e at *
            obtain ⟨e1, e2⟩ := e
            simp only at d1 d2
            by_cases hin : 0 ≤ e1 ∧ 0 ≤ e2 ∧ e1 < q ∧ e2 < q
            · obtain ⟨u, rfl⟩ : ∃ u : Nat, e1 = u := ⟨e1.toNat, by omega⟩
              obtain ⟨v, rfl⟩ : ∃ v : Nat, e2 = v := ⟨e2.toNat, by omega⟩
              have hu : u < q := by omega
              have hv : v < q := by omega
              have cu : wr.cell? ⟨w.heap.size, u, none⟩ = some (.int .i64 (pat p u)) := by rw [World.ownsRow.cellAt O.out u (by omega)]; exact ints_at (by omega)
              have cv : wr.cell? ⟨w.heap.size, v, none⟩ = some (.int .i64 (pat p v)) := by rw [World.ownsRow.cellAt O.out v (by omega)]; exact ints_at (by omega)
              have hws : w.heap.size < wr.heap.size := World.block_lt_of_cell? _ _ cu
              have ET : tStep q p ((u : Int), (v : Int)) = if pat p u ≠ pat p v then some (p.map fun x => if x = pat p v then pat p u else x) else none := by
                simp [tStep, hu, hv]
              have HET := Hid.mk' ET
              clear ET
              have G3 := Hid.mk' (G.out.alloc (.cells #[.int .i64 u, .int .i64 v] 81))
              have O3 := Hid.mk' (O.out.alloc (.cells #[.int .i64 u, .int .i64 v] 81))
              by_cases hpp : pat p u = pat p v
              · have TB : Hid (treeB (q : Int) es = false) := by
                  show _ = _
                  have : tRun q (List.range q) es = none := by rw [E2.out, tRun, HET.out, if_neg (by simpa using hpp)]; rfl
                  simp [treeB, this]
                have hpp' : ((pat p u : Int) == (pat p v : Int)) = true := by simp [hpp]
                go_wp2_with fail
                go_quiet (fail)
                go_wp2_with fail
                go_ret
                exact ⟨by rw [TB.out]; rfl, G3.out.drewN _⟩
              · have hpp' : ((pat p u : Int) == (pat p v : Int)) = false := by simp; omega
                have E3 : Hid (tRun q (List.range q) es = tRun q (p.map fun x => if x = pat p v then pat p u else x) (es.drop (j + 1))) := by
                  show _ = _
                  rw [E2.out, tRun, HET.out, if_pos hpp]; rfl
                clear E2 HET
                go_wp2_with fail
                go_quiet (fail)
                have G4 := Hid.mk' (G3.out.drewN nq)
                have O4 := Hid.mk' (ownsGr O3.out ((Gr.refl (wr.alloc (.cells #[.int .i64 u, .int .i64 v] 81))).drewN nq))
                clear G O G3 O3 cu cv d1 d2
                go_wp2_with fail
                go_loopw [73] (fun i w4 => ∃ z : Nat, z ≤ q ∧ i = .int .i64 z ∧ Hid (Gr w w4) ∧ Hid (w4.ownsRow w.heap.size 3 1 (.slice (some ⟨w.heap.size, 0, none⟩) q q) q (ints (mix (fun x => if x = pat p v then pat p u else x) p z)))) (fun i _ => q - (intOf i).toNat)
                case atStart => exact ⟨0, Nat.zero_le _, rfl, G4, O4⟩
                case round =>
                  rename_i w0 _ _ _ _ _ _ _ _ _ _ _ _ _
                  obtain ⟨z, hz, rfl, G5, O5⟩ := hrel
                  clear G4 O4
                  by_cases hzq : z < q
                  · have cz : wr.cell? ⟨w.heap.size, z, none⟩ = some (.int .i64 (pat p z)) := by
                      rw [World.ownsRow.cellAt O5.out z (by omega), ints_at (by rw [mix_len]; omega), mix_at (by omega)]
                    have fz := World.ownsRow.frozenAt O5.out z
                    by_cases hzv : pat p z = pat p v
                    · have hzv' : ((pat p z : Int) == (pat p v : Int)) = true := by simp [hzv]
                      have O6 : Hid ((wr.setCell ⟨w.heap.size, z, none⟩ (.int .i64 (pat p u))).ownsRow w.heap.size 3 1 (.slice (some ⟨w.heap.size, 0, none⟩) q q) q (ints (mix (fun x => if x = pat p v then pat p u else x) p (z + 1)))) := by
                        have h7 := (World.ownsRow.stored O5.out z (.int .i64 (pat p u))).1
                        have e7 : mix (fun x => if x = pat p v then pat p u else x) p (z + 1) = (mix (fun x => if x = pat p v then pat p u else x) p z).set z (pat p u) := by rw [← mix_set (by omega)]; simp [hzv]
                        rw [ints_set] at h7
                        show World.ownsRow _ _ _ _ _ _ _
                        rw [e7]; exact h7
                      have G6 := Hid.mk' (gr_set (j := z) G5.out (Nat.le_refl _) (.int .i64 (pat p u)))
                      clear O5 G5
                      go_wp2_with fail
                      refine ⟨⟨z + 1, by omega, by go_num, G6, O6⟩, ?_⟩
                      simp [intOf]; omega
                    · have hzv' : ((pat p z : Int) == (pat p v : Int)) = false := by simp; omega
                      have O6 : Hid (wr.ownsRow w.heap.size 3 1 (.slice (some ⟨w.heap.size, 0, none⟩) q q) q (ints (mix (fun x => if x = pat p v then pat p u else x) p (z + 1)))) := by
                        show World.ownsRow _ _ _ _ _ _ _
                        rw [mix_same (by omega) (by simp [hzv])]; exact O5.out
                      go_wp2_with fail
                      refine ⟨⟨z + 1, by omega, by go_num, G5, O6⟩, ?_⟩
                      simp [intOf]; omega
                  · have hzq' : z = q := by omega
                    subst hzq'
                    have O7 := Hid.mk' O5.out
                    rw [← hpl, mix_end] at O7
                    rw [hpl] at O7
                    have HPL2 : Hid (∀ x ∈ p.map (fun x => if x = pat p v then pat p u else x), x < z) := by
                      intro x hx
                      obtain ⟨y, hy, rfl⟩ := List.mem_map.1 hx
                      split
                      · exact HPL.out _ (by unfold pat; rw [List.getD_eq_getElem?_getD, List.getElem?_eq_getElem (by omega)]; exact List.getElem_mem _)
                      · exact HPL.out y hy
                    clear O5
                    have HL := Hid.mk' hl
                    clear hl
                    go_wp2_with fail
                    have hwj : wrap64 ((j : Int) + 1) = ((j + 1 : Nat) : Int) := by
                      have := HL.out
                      unfold maxLen at this
                      unfold wrap64; omega
                    rw [hwj]
                    exact ⟨⟨j + 1, _, hlt2, rfl, (List.length_map _).trans hpl, HPL2, G5, O7, E3⟩, meas_dec _ _ hlt2⟩
            · have hno : tStep q p (e1, e2) = none := by
                unfold tStep
                rw [if_neg (fun h => hin ⟨h.1, h.2.1, h.2.2.1, h.2.2.2.1⟩)]
              have TB : Hid (treeB (q : Int) es = false) := by
                show _ = _
                have : tRun q (List.range q) es = none := by rw [E2.out, tRun, hno]; rfl
                simp [treeB, this]
              clear hno E2
              have G3 := Hid.mk' (G.out.alloc (.cells #[.int .i64 e1, .int .i64 e2] 81))
              by_cases hmin : min e1 e2 < 0
              · go_wp2_with fail
                go_ret
                exact ⟨by rw [TB.out]; rfl, G3.out⟩
              · have hmax : (q : Int) ≤ max e1 e2 := by omega
                go_wp2_with fail
                go_ret
                exact ⟨by rw [TB.out]; rfl, G3.out⟩
          · have hje : j = es.length := by omega
            subst hje
            have TB : Hid (treeB (q : Int) es = true) := by
              show _ = _
              have h1 := E.out
              rw [List.drop_length, tRun] at h1
              have h2 := HN3.out
              simp [treeB, h1, h2]; omega
            go_wp2_with fail
            go_ret
            exact ⟨by rw [TB.out]; rfl, G.out⟩
  · exact isTree_bad n es ad cap w hn
end Go.Proofs.YtecnfgikbmcgoaaGreat
