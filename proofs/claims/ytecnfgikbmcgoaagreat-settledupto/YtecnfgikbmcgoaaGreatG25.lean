import Derived.Test.YtecnfgikbmcgoaaGreatG24
import Derived.Test.YtecnfgikbmcgoaaGreatG19
import Derived.Test.YtecnfgikbmcgoaaGreatG7
namespace Go.Proofs.YtecnfgikbmcgoaaGreat
open Go.RowKit

/-- Which key is where in the list. -/
def AtR (L : List Mn) (K : Ky) (j : Nat) (at' : Int) : Prop := (at' = -1 ∧ ∀ x ∈ L.take j, x.1.1 ≠ K) ∨ (∃ a : Nat, a < j ∧ at' = (a : Int) ∧ (nat' L a).1.1 = K)
theorem AtR.step {L : List Mn} {K : Ky} {j : Nat} {at' : Int} (h : AtR L K j at') (hj : j < L.length) (hn : (nat' L j).1.1 ≠ K) : AtR L K (j + 1) at' := by
  rcases h with ⟨h1, h2⟩ | ⟨a, h1, h2, h3⟩
  · refine Or.inl ⟨h1, fun x hx => ?_⟩
    rw [nat'_take hj] at hx
    rcases List.mem_append.1 hx with hx | hx
    · exact h2 x hx
    · rw [List.mem_singleton.1 hx]; exact hn
  · exact Or.inr ⟨a, by omega, h2, h3⟩
/-- All but that key. -/
def flt (K : Ky) (L : List Mn) (j : Nat) : List Mn := (L.take j).filter fun x => !(x.1.1 == K)
theorem flt_yes {K : Ky} {L : List Mn} {j : Nat} (hj : j < L.length) (h : (nat' L j).1.1 ≠ K) : flt K L (j + 1) = flt K L j ++ [nat' L j] := by
  unfold flt
  rw [nat'_take hj, List.filter_append]
  congr 1
  have : ((nat' L j).1.1 == K) = false := by simpa using h
  simp [this]
theorem flt_no {K : Ky} {L : List Mn} {j : Nat} (hj : j < L.length) (h : (nat' L j).1.1 = K) : flt K L (j + 1) = flt K L j := by
  unfold flt
  rw [nat'_take hj, List.filter_append]
  simp [h]
theorem flt_len (K : Ky) (L : List Mn) (j : Nat) : (flt K L j).length ≤ L.length := Nat.le_trans (List.length_filter_le _ _) (by rw [List.length_take]; omega)
theorem uniq_at {L : List Mn} (h : L.Pairwise fun x y => x.1.1 ≠ y.1.1) {i j : Nat} (hi : i < L.length) (hj : j < L.length) (e : (nat' L i).1.1 = (nat' L j).1.1) : i = j := by
  have hn : ∀ k (hk : k < L.length), nat' L k = L[k] := fun k hk => by simp [nat', hk]
  rw [hn i hi, hn j hj] at e
  rcases Nat.lt_trichotomy i j with h1 | h1 | h1
  · exact absurd e (List.pairwise_iff_getElem.1 h i j hi hj h1)
  · exact h1
  · exact absurd e.symm (List.pairwise_iff_getElem.1 h j i hj hi h1)
theorem mi_of {R : Nat → Prop} {r3 : Nat → Rl} {wb w3 wr : World} {v v' : Value} {L O : List Mn} (h : Mi R w3 v' L) (g : Gr w3 wr) (o : wr.ownsRow w3.heap.size 50 3 v O.length (ncells O)) (hO : ∀ x ∈ O, x ∈ L) (hb : wb.heap.size ≤ w3.heap.size) (ht : ∀ k, w3.heap.size ≤ k → r3 k = .no) : Mi (fun k => R k ∨ (wb.heap.size ≤ k ∧ k < wr.heap.size ∧ r3 k = .no)) wr v O := by
  refine ⟨⟨o.1, ?_⟩, fun x hx => ?_⟩
  · rcases o.2 with h2 | ⟨q, cap, cur, hv, hq, hh, h3, h4, h5, h6⟩
    · exact Or.inl h2
    · exact Or.inr ⟨q, 0, cap, cur, hv, Or.inr ⟨by omega, blk_lt hh, ht q hq⟩, hh, h3, h4, by omega, by simpa using h6⟩
  · obtain ⟨b, off, e, hR, _, hf⟩ := h.f x (hO x hx)
    refine ⟨b, off, e, Or.inl hR, fun e2 => ?_, hf.gr g⟩
    have := own_low o b e2
    rw [e] at hf
    have := hf.lt
    omega
set_option maxRecDepth 100000 in
set_option maxHeartbeats 4000000 in
theorem happens_t (T : Tc) (r : Nat → Rl) (w : World) (cs : List (Pc (List Atr))) (s : Ts) (nxt : Nat → Nat → Int) (rank : Nat → Nat → Nat) (home : Int → Nat) (Ks : List Ky) (n M : Nat) (L : List Mn) (va : Option Addr) (vk : Nat) (R : Nat → Prop) (d : Dd) (wa : Option Addr) (wc : Nat) (w0 : World)
    (hT : Tf T r w cs s) (S : Sh T nxt rank) (G : Gd T nxt rank home Ks s cs n M) (hK : Ks.length ≤ 60) (hM : M + T.nb * (Ks.length + 1) + T.nb + 1 < 549755813888) (hKs : ∀ a b : Int, 0 ≤ a → a < 6 → 0 ≤ b → b < 4 → (a, b) ∈ Ks) (hh : ∀ c, home c < T.nb)
    (O : Ow home s (L.map (·.1))) (hnd : L.Pairwise fun x y => x.1.1 ≠ y.1.1) (hLK : ∀ x ∈ L, x.1.1 ∈ Ks) (ID : Idn home cs) (HMi : Mi R w (.slice va L.length vk) L) (hR : ∀ k, R k → r k = .no ∧ w0.heap.size ≤ k) (hw0 : 0 < w0.heap.size)
    (G0 : Gr w0 w) (hr0 : ∀ k, k < w0.heap.size → r k = .no) (hwa : InAt w0 wa d.wants) (hwf : IntWf d.wants) (hwl : d.wants.length ≤ maxLen) (hd : I64 d.kind ∧ I64 d.client ∧ I64 d.id ∧ I64 d.turn) :
    Calls Tryz.prog 12 #[.pointer (some ⟨T.TB, 0, none⟩), .agg #[.int .i64 d.kind, .int .i64 d.client, .int .i64 d.id, .int .i64 d.turn, .slice wa d.wants.length wc], .slice va L.length vk] w fun e w' => ∃ va' vk' L' s' cs' r' n', e = .returned (.tuple #[.slice va' L'.length vk', .bool true]) ∧ Tf T r' w' cs' s' ∧ Fr (msk (Value.ownBlock (.slice va L.length vk)) r) (msk (Value.ownBlock (.slice va L.length vk)) r') w w' ∧ Mi (fun k => R k ∨ (w.heap.size ≤ k ∧ k < w'.heap.size ∧ r' k = .no)) w' (.slice va' L'.length vk') L' ∧
      L'.map (·.1) = dmF d (L.map (·.1)) ∧ Gd T nxt rank home Ks s' cs' n' (M + T.nb * (Ks.length + 1) + T.nb + 1) ∧ Ow home s' (L'.map (·.1)) ∧ Idn home cs' ∧ ∀ k, k < w.heap.size → r' k = r k := by
  obtain ⟨i0, hi, hz0, hz1, hz2⟩ := info_parts Tryz.infoMine
  have hLl : L.length ≤ 60 := by
    have := keys_le (L.map fun x => x.1.1) Ks (by rw [List.pairwise_map]; exact hnd) (fun k hk => by
      obtain ⟨x, hx, rfl⟩ := List.mem_map.1 hk
      exact hLK x hx)
    rw [List.length_map] at this; omega
  have HT := Hid.mk' hT
  have HS := Hid.mk' S
  have HG := Hid.mk' G
  have HM := Hid.mk' hM
  have HK := Hid.mk' (And.intro hK hKs)
  have HH := Hid.mk' hh
  have HO := Hid.mk' O
  have HND := Hid.mk' hnd
  have HID := Hid.mk' ID
  have HMI := Hid.mk' HMi
  have HR := Hid.mk' hR
  have HG0 := Hid.mk' (And.intro G0 hr0)
  have HW := Hid.mk' (And.intro hwa hwf)
  clear hT S G hK hM hKs hh O hnd hLK ID HMi hR G0 hr0 hwa hwf
  unfold I64 at hd
  go_enter Tryz.func12, Tryz.ntmps12
  go_wp2_with fail
  have ga : Gr w (w.alloc (.cells #[.int .i64 d.kind, .int .i64 d.client, .int .i64 d.id, .int .i64 d.turn, .slice wa d.wants.length wc] 33)) := (Gr.refl w).alloc _
  have HB := Hid.mk' (heap_alloc_new w (.cells #[.int .i64 d.kind, .int .i64 d.client, .int .i64 d.id, .int .i64 d.turn, .slice wa d.wants.length wc] 33))
  have GA := Hid.mk' ga
  clear ga
  have P1 := Hid.mk' (fun W => pick_any d.client 6 W hd.2.1.1 hd.2.1.2 (by omega) (by omega))
  have P2 := Hid.mk' (fun W => pick_any d.id 4 W hd.2.2.1.1 hd.2.2.1.2 (by omega) (by omega))
  have P3 := Hid.mk' (fun W => pick_any d.kind 10 W hd.1.1 hd.1.2 (by omega) (by omega))
  have pb1 := pickF_bd d.client 6 (by omega)
  have pb2 := pickF_bd d.id 4 (by omega)
  have pb3 := pickF_bd d.kind 10 (by omega)
  have HKEY : Hid (d.key = (pickF d.client 6, pickF d.id 4)) := rfl
  have HKK : Hid (d.k = pickF d.kind 10) := rfl
  generalize pickF d.client 6 = ci at *
  generalize pickF d.id 4 = ii at *
  generalize pickF d.kind 10 = kk at *
  generalize (w.alloc (.cells #[.int .i64 d.kind, .int .i64 d.client, .int .i64 d.id, .int .i64 d.turn, .slice wa d.wants.length wc] 33)) = W1 at *
  have DC : Hid (∀ W, Gr W1 W → W.cell? ⟨w.heap.size, 0, none⟩ = some (.int .i64 d.kind) ∧ W.cell? ⟨w.heap.size, 1, none⟩ = some (.int .i64 d.client) ∧ W.cell? ⟨w.heap.size, 2, none⟩ = some (.int .i64 d.id) ∧ W.cell? ⟨w.heap.size, 3, none⟩ = some (.int .i64 d.turn) ∧ W.cell? ⟨w.heap.size, 4, none⟩ = some (.slice wa d.wants.length wc)) := fun W g => by
    have z := blk_gr g HB.out
    refine ⟨?_, ?_, ?_, ?_, ?_⟩ <;> (rw [cell_of_row _ _ _ _ _ _ z]; rfl)
  have hws : w.heap.size < W1.heap.size := blk_lt HB.out
  obtain ⟨x0, x1, x2, x3, x4⟩ := DC.out W1 (Gr.refl _)
  refine (P1.out W1).mono ?_
  rintro e wx ⟨rfl, hw⟩
  have hw' := hw.symm
  clear hw
  subst hw'
  go_wp2_with fail
  refine (P2.out _).mono ?_
  rintro e wx ⟨rfl, hw⟩
  have hw' := hw.symm
  clear hw
  subst hw'
  go_wp2_with fail
  have CL : Hid (∀ j, j < L.length → ∃ g off, va = some ⟨g, off, none⟩ ∧ ∀ W : World, (∀ k, k < w.heap.size → R k → W.heap[k]? = w.heap[k]?) → W.cell? ⟨g, off + j * 3, none⟩ = some (.int .i64 (nat' L j).1.1.1) ∧ W.cell? ⟨g, off + j * 3 + 1, none⟩ = some (.int .i64 (nat' L j).1.1.2) ∧ W.cell? ⟨g, off + j * 3 + 1 + 1, none⟩ = some (.slice (nat' L j).2.1 (nat' L j).1.2.length (nat' L j).2.2)) := fun j hj => by
    rcases HMI.out.q.2 with ⟨h2, h3⟩ | ⟨g, off, cap, cur, hv, _⟩
    · omega
    · injection hv with hv _ _
      subst hv
      refine ⟨g, off, rfl, fun W hk => ?_⟩
      have q := HMI.out.q.kept (w' := W) (R' := R) (fun k h1 h2 => ⟨hk k h1 h2, h2⟩)
      obtain ⟨c1, c2, c3⟩ := ncells_at L j hj
      exact ⟨q.cellAt c1, q.cellAt c2, q.cellAt c3⟩
  go_loopw [10, 11] (fun a i wr => ∃ (j : Nat) (at' : Int), j ≤ L.length ∧ a = .int .i64 at' ∧ i = .int .i64 j ∧ wr = W1 ∧ Hid (AtR L (ci, ii) j at')) (fun _ i _ => L.length - (intOf i).toNat)
  case atStart => exact ⟨0, -1, Nat.zero_le _, rfl, rfl, rfl, Or.inl ⟨rfl, fun x hx => by simp at hx⟩⟩
  case round =>
    obtain ⟨j, at', hj, rfl, rfl, hwr, AT⟩ := hrel
    subst hwr
    by_cases hjl : j < L.length
    · obtain ⟨g, off, rfl, hc⟩ := CL.out j hjl
      obtain ⟨c1, c2, c3⟩ := hc wr (fun k hk _ => GA.out.block k hk)
      have AT2 := Hid.mk' (AT.out.step hjl)
      have hjc : ((nat' L j).1.1 = (ci, ii)) ↔ ((nat' L j).1.1.1 = ci ∧ (nat' L j).1.1.2 = ii) := by
        constructor
        · intro e; rw [e]; exact ⟨rfl, rfl⟩
        · rintro ⟨e1, e2⟩; exact Prod.ext e1 e2
      have HJC := Hid.mk' hjc
      clear hc c3 hjc
      by_cases h1 : (nat' L j).1.1.1 = ci
      · by_cases h2 : (nat' L j).1.1.2 = ii
        · have AT3 : Hid (AtR L (ci, ii) (j + 1) (j : Int)) := Or.inr ⟨j, Nat.lt_succ_self j, rfl, HJC.out.2 ⟨h1, h2⟩⟩
          rw [h1] at c1
          rw [h2] at c2
          clear h1 h2 AT2
          go_wp2_with fail
          exact ⟨⟨j + 1, (j : Int), hjl, rfl, by simp, trivial, AT3⟩, measM_dec _ _ hjl⟩
        · have AT3 := Hid.mk' (AT2.out (fun e => h2 (HJC.out.1 e).2))
          have h2' : ((nat' L j).1.1.2 == ii) = false := by simpa using h2
          rw [h1] at c1
          clear h1 h2 AT2
          go_wp2_with fail
          exact ⟨⟨j + 1, at', hjl, rfl, by simp, trivial, AT3⟩, measM_dec _ _ hjl⟩
      · have AT3 := Hid.mk' (AT2.out (fun e => h1 (HJC.out.1 e).1))
        have h1' : ((nat' L j).1.1.1 == ci) = false := by simpa using h1
        clear h1 AT2
        go_wp2_with fail
        exact ⟨⟨j + 1, at', hjl, rfl, by simp, trivial, AT3⟩, measM_dec _ _ hjl⟩
    · have hje : j = L.length := by omega
      subst hje
      go_wp2_with fail
      refine (P3.out _).mono ?_
      rintro e wx ⟨rfl, hw⟩
      have hw' := hw.symm
      clear hw
      subst hw'
      have hkey := HKEY.out
      obtain ⟨cn, rfl⟩ : ∃ cn : Nat, ci = (cn : Int) := ⟨ci.toNat, by omega⟩
      obtain ⟨c, hc, hcn, hca⟩ := HID.out.get (i := cn) (by omega)
      have SM := HG.out.sm HS.out (by have := HK.out.1; omega) (by have := HM.out; omega)
      have HSM := Hid.mk' SM
      have HC := Hid.mk' (And.intro hc (And.intro hcn hca))
      have HKEY2 := Hid.mk' hkey
      have hLK : Hid (∀ W, Gr wr W → Gr w W) := fun W g => Gr.call GA.out g
      have KIN : Hid (((cn : Int), ii) ∈ Ks) := HK.out.2 _ _ (by omega) (by omega) pb2.1 pb2.2
      have hcell4 := x4
      clear SM hc hcn hca hkey
      have WN : Hid (∀ W, Gr w0 W → Calls Tryz.prog 21 #[.slice wa d.wants.length wc] W fun e w' => ∃ v, e = .returned v ∧ Gr W w' ∧ w'.ownsRow W.heap.size 76 5 v (wantsF d.wants).length (wcells (wantsF d.wants))) := fun W g => wants_any d.wants wa wc W hwl (HW.out.1.gr g) HW.out.2
      have OKW := Hid.mk' (wantsF_ok d.wants)
      have hlW : 1 ≤ (wantsF d.wants).length ∧ (wantsF d.wants).length ≤ 3 := (wantsF_ok d.wants).2.2
      by_cases hk4 : kk < 4
      · have HDM : Hid (dmF d (L.map (·.1)) = if (L.map (·.1)).any (fun x => x.1 == d.key) then L.map (·.1) else L.map (·.1) ++ [(d.key, wantsF d.wants)]) := by show _ = _; unfold dmF; rw [if_pos (by rw [HKK.out]; exact hk4)]
        go_wp2_with fail
        refine (WN.out wr (Gr.call HG0.out.1 GA.out)).mono ?_
        rintro e w2 ⟨v2, rfl, g2, o2⟩
        obtain ⟨gx, cx, rfl⟩ := owns_pos o2 (by omega)
        have FI := Hid.mk' (show FiM w2 (some ⟨gx, 0, none⟩) (wantsF d.wants) from ⟨(owns_fi o2).resolve_left (fi_ok_of OKW.out.1).2, OKW.out.2.1, OKW.out.1⟩)
        have G2 := Hid.mk' g2
        have lowX := own_low o2 gx rfl
        clear o2 g2
        rcases AT.out with ⟨hat, hall⟩ | ⟨a, ha, hat, hak⟩
        · subst hat
          have ANY : Hid ((L.map (·.1)).any (fun x => x.1 == d.key) = false) := by
            show _ = _
            rw [List.any_eq_false]
            intro x hx
            obtain ⟨y, hy, rfl⟩ := List.mem_map.1 hx
            rw [List.take_length] at hall
            simpa [HKEY2.out] using hall y hy
          have hno := ow_no HS.out.N HG.out.I HO.out (k := ((cn : Int), ii)) (fun f hf => by
            obtain ⟨y, hy, e⟩ := List.mem_map.1 hf
            rw [List.take_length] at hall
            exact hall y hy (by rw [e]))
          have ST : Hid (Calls Tryz.prog 22 #[.pointer (some ⟨T.TB, 0, none⟩), .int .i64 (cn : Int), .int .i64 ii, .slice (some ⟨gx, 0, none⟩) (wantsF d.wants).length cx] w2 fun e w' => e = .returned (.int .i64 0) ∧ ∃ r', Tf T r' w' cs (s.turn cov T.adj (home cn) (ins ⟨((cn : Int), ii), wantsF d.wants, -1⟩ (s.held (home cn)))) ∧ Fr r r' w2 w') := by
            have := Subscribe_t T r w2 cs s c ii (wantsF d.wants) (some ⟨gx, 0, none⟩) cx (HT.out.gr (hLK.out _ G2.out)) HC.out.1 ⟨by omega, by omega⟩ FI.out (fun b _ => HG.out.I.srt b) (by rw [HC.out.2.2, HC.out.2.1]; exact hno) HSM.out (by
              have := cl_count HS.out.Z HH.out HG.out.I HG.out.K
              have := HK.out.1
              unfold nCl; omega)
            rw [HC.out.2.1, HC.out.2.2] at this
            exact this
          have GD : Hid (Gd T nxt rank home Ks (s.turn cov T.adj (home cn) (ins ⟨((cn : Int), ii), wantsF d.wants, -1⟩ (s.held (home cn)))) cs (n + T.nb * (Ks.length + 1)) (M + T.nb * (Ks.length + 1))) := HG.out.sub HS.out ((cn : Int), ii) (wantsF d.wants) ⟨OKW.out.1, OKW.out.2.1⟩ (HH.out _) hno KIN.out
          have OW2 := Hid.mk' (ow_sub (cov := cov) (adj := T.adj) HO.out ((cn : Int), ii) (wantsF d.wants) (fun f hf => by
            obtain ⟨y, hy, e⟩ := List.mem_map.1 hf
            rw [List.take_length] at hall
            exact hall y hy (by rw [e])))
          have TOP := Hid.mk' HT.out.b.top
          clear hno hall
          go_wp2_with fail
          refine ST.out.mono ?_
          rintro e w3 ⟨rfl, r3, t3, f3⟩
          have hsz2 := G2.out.size
          have gw2 := hLK.out _ G2.out
          have rB : r w.heap.size = .no := TOP.out _ (Nat.le_refl _)
          have B3 : w3.heap[w.heap.size]? = _ := (f3.keep _ (by omega) (Or.inl rB)).trans (blk_gr G2.out HB.out)
          have y4 : w3.cell? ⟨w.heap.size, 4, none⟩ = some (.slice wa d.wants.length wc) := by rw [cell_of_row _ _ _ _ _ _ B3]; rfl
          have G03 : Hid (Gr w0 w3) := by
            have g1 := Gr.call HG0.out.1 gw2
            exact ⟨f3.os.trans g1.os, f3.tape.trans g1.tape, f3.output.trans g1.output, Nat.le_trans g1.size f3.size, fun k hk => (f3.keep k (Nat.lt_of_lt_of_le hk g1.size) (Or.inl (HG0.out.2 k hk))).trans (g1.block k hk)⟩
          have T3 := Hid.mk' t3
          have F3 := Hid.mk' ((Fr.gr (r := r) gw2).trans f3)
          have WN3 := Hid.mk' (WN.out w3 G03.out)
          have TOP3 := Hid.mk' t3.b.top
          have hs3 : w2.heap.size ≤ w3.heap.size := f3.size
          clear ST t3 f3 B3 gw2 FI WN
          go_wp2_with fail
          refine WN3.out.mono ?_
          rintro e w4 ⟨v4, rfl, g4, o4⟩
          obtain ⟨gy, cy, rfl⟩ := owns_pos o4 (by omega)
          have lowY := own_low o4 gy rfl
          have FI4 : FiM w4 (some ⟨gy, 0, none⟩) (wantsF d.wants) := ⟨(owns_fi o4).resolve_left (fi_ok_of OKW.out.1).2, OKW.out.2.1, OKW.out.1⟩
          have hs4 := g4.size
          have MI4 : Mi (fun k => R k ∨ (w.heap.size ≤ k ∧ k < w4.heap.size ∧ r3 k = .no)) w4 (.slice va L.length vk) L := HMI.out.keep (Nat.le_trans F3.out.size hs4) (fun k hk hRk => ⟨(g4.block k (Nat.lt_of_lt_of_le hk F3.out.size)).trans (F3.out.keep k hk (Or.inl (HR.out k hRk).1)), Or.inl hRk⟩)
          have VO : ∀ k, Value.ownBlock (.slice va L.length vk) = some k → k < w.heap.size := fun k hk => (HMI.out.q.own k hk).2
          have MI5 := MI4.gr ((Gr.refl w4).alloc (.cells #[.int .i64 (cn : Int), .int .i64 ii, .slice (some ⟨gy, 0, none⟩) (wantsF d.wants).length cy] 50))
          have HMI5 := Hid.mk' MI5
          have HFI4 := Hid.mk' (And.intro FI4 VO)
          have G4 := Hid.mk' g4
          have ltY := owns_lt o4
          clear WN3 o4 g4 MI4 MI5 FI4 VO y4
          have hsz5 : (w4.alloc (.cells #[.int .i64 (cn : Int), .int .i64 ii, .slice (some ⟨gy, 0, none⟩) (wantsF d.wants).length cy] 50)).heap.size = w4.heap.size + 1 := size_alloc' _ _
          have HSZ5 := Hid.mk' hsz5
          clear hsz5
          go_wp2_with (at_builtin; refine wpList_append_q rfl _ _ 31 rfl 50 i0 _ 3 40 Tryz.underlying31 hi hz0 hz1 hz2 rfl (fun k => R k ∨ (w.heap.size ≤ k ∧ k < w4.heap.size ∧ r3 k = .no)) _ _ (ncells L) rfl HMI5.out.q ⟨w4.heap.size, 0, none⟩ 1 1 [.int .i64 (cn : Int), .int .i64 ii, .slice (some ⟨gy, 0, none⟩) (wantsF d.wants).length cy] rfl (by omega) rfl (World.news_of_block (new_atK rfl)) ?k2 ?k3 ?k4 ?_)
          case k2 => intro t ht; simp at ht; rcases ht with rfl | rfl | rfl <;> rfl
          case k3 => unfold maxLen; omega
          case k4 => omega
          intro v5 w5 hq5 hg5 ho5 _
          have hsz5 := HSZ5.out
          have hs5 := hg5.size
          rw [hsz5] at hs5
          have hF3s := F3.out.size
          have MI6 : Mi (fun k => R k ∨ (w.heap.size ≤ k ∧ k < w5.heap.size ∧ r3 k = .no)) w5 v5 (L ++ [(((((cn : Int), ii) : Ky), wantsF d.wants), some ⟨gy, 0, none⟩, cy)]) := by
            have hnew : w4.heap.size + 1 < w5.heap.size ∨ v5.ownBlock = Value.ownBlock (.slice va L.length vk) := by
              rcases ho5 with h | h
              · exact Or.inr h
              · obtain ⟨_, hlt⟩ := hq5.own _ h
                exact Or.inl hlt
            refine ⟨?_, ?_⟩
            · rw [ncells_snoc, List.length_append]
              refine hq5.kept (w' := w5) fun k _ hk => ⟨rfl, ?_⟩
              rcases ho5 with ho | ho
              · rw [ho] at hk
                exact Or.inl (HMI.out.q.own k hk).1
              · rw [ho] at hk
                injection hk with hk
                have := hnew
                refine Or.inr ⟨by omega, ?_, TOP3.out _ (by omega)⟩
                rcases hnew with h | h
                · omega
                · have := (HMI.out.q.own _ (h.symm.trans ho)).2
                  omega
            · have base := (HMI5.out.snoc (R' := fun k => R k ∨ (w.heap.size ≤ k ∧ k < w5.heap.size + 1 ∧ r3 k = .no)) (x := (((((cn : Int), ii) : Ky), wantsF d.wants), some ⟨gy, 0, none⟩, cy)) hq5 hg5 (by rw [hsz5]; exact ho5) (fun k _ hk => hk.imp id (fun h => ⟨h.1, by omega, h.2.2⟩)) (Or.inr ⟨by rw [hsz5]; omega, by rw [hsz5]; omega, TOP3.out _ (by rw [hsz5]; omega)⟩) ⟨gy, 0, rfl, Or.inr ⟨by omega, by omega, TOP3.out gy lowY⟩, fun e => by have := HFI4.out.2 gy e; omega, HFI4.out.1.gr ((Gr.refl w4).alloc _)⟩).f
              intro y hy
              obtain ⟨b, off, h1, h2, h3, h4⟩ := base y hy
              refine ⟨b, off, h1, h2.imp id (fun h => ⟨h.1, ?_, h.2.2⟩), h3, h4⟩
              rw [h1] at h4
              exact h4.lt
          have F5 : Fr (msk (Value.ownBlock (.slice va L.length vk)) r) (msk (Value.ownBlock (.slice va L.length vk)) r3) w w5 := by
            have f4 := F3.out.trans (Fr.gr (r := r3) (G4.out.alloc (.cells #[.int .i64 (cn : Int), .int .i64 ii, .slice (some ⟨gy, 0, none⟩) (wantsF d.wants).length cy] 50)))
            refine ⟨hg5.os.trans f4.os, hg5.tape.trans f4.tape, hg5.output.trans f4.output, Nat.le_trans f4.size hg5.size, fun k hk hr => ?_, (f4.msk _).same⟩
            obtain ⟨h1, h2⟩ := msk_no hr
            exact (hg5.block k (Nat.lt_of_lt_of_le hk f4.size) (fun e => h1 e.symm)).trans (f4.keep k hk h2)
          have T5 : Tf T r3 w5 cs (s.turn cov T.adj (home cn) (ins ⟨((cn : Int), ii), wantsF d.wants, -1⟩ (s.held (home cn)))) := by
            refine (T3.out.gr (G4.out.alloc (.cells #[.int .i64 (cn : Int), .int .i64 ii, .slice (some ⟨gy, 0, none⟩) (wantsF d.wants).length cy] 50))).grown hg5 (fun k hk => ?_)
            obtain ⟨h1, h2⟩ := HMI.out.q.own k hk
            obtain ⟨h3, h4⟩ := HR.out k h1
            exact ⟨(F3.out.same k h2).trans h3, by omega⟩
          obtain ⟨va5, vk5, rfl⟩ := hq5.shape
          have E5 := Hid.mk' (And.intro MI6 (And.intro F5 T5))
          clear hq5 hg5 ho5 MI6 F5 T5 HMI5 HFI4
          go_wp2_with fail
          go_ret2
          have LL : ∀ (x : Mn), (L ++ [x]).length = L.length + 1 := fun x => by simp
          refine ⟨va5, vk5, L ++ [(((((cn : Int), ii) : Ky), wantsF d.wants), some ⟨gy, 0, none⟩, cy)], _, cs, r3, _, by rw [LL]; rfl, E5.out.2.2, E5.out.2.1, by rw [LL]; exact E5.out.1, ?_, GD.out.mono (Nat.le_refl _) (by omega) (by have := GD.out.le; omega), ?_, HID.out, F3.out.same⟩
          · rw [HDM.out, ANY.out, List.map_append, HKEY2.out]; rfl
          · rw [List.map_append]; exact OW2.out
        · subst hat
          have ANY : Hid ((L.map (·.1)).any (fun x => x.1 == d.key) = true) := by
            show _ = _
            rw [List.any_eq_true]
            exact ⟨_, List.mem_map_of_mem (nat'_mem ha), by simp [HKEY2.out, hak]⟩
          obtain ⟨hx, hxm, hxf, hxk, hxx⟩ := ow_mem HO.out (k := ((cn : Int), ii)) (f := (nat' L a).1.2) (List.mem_map.2 ⟨nat' L a, nat'_mem ha, by rw [← hak]⟩)
          have ST : Hid (Calls Tryz.prog 22 #[.pointer (some ⟨T.TB, 0, none⟩), .int .i64 (cn : Int), .int .i64 ii, .slice (some ⟨gx, 0, none⟩) (wantsF d.wants).length cx] w2 fun e w' => e = .returned (.int .i64 6) ∧ Gr w2 w') := by
            obtain ⟨cls, x, t, hcls, hxc, hpc⟩ := HT.out.find HC.out.1
            have e1 : x.num = (cn : Int) := by rw [← HC.out.2.1, ← hpc]; rfl
            have e2 : x.at' = home cn := by rw [← HC.out.2.2, ← hpc]; rfl
            have := Subscribe_twice T r w2 cls s x ii (wantsF d.wants) (some ⟨gx, 0, none⟩) cx hx (t.gr (hLK.out _ G2.out)) hxc ⟨by omega, by omega⟩ FI.out (by rw [e2]; exact hxm) (by rw [e1]; exact hxk)
            rw [e1] at this
            exact this
          clear hxm hxf hxk hxx hak
          have ha0 : (0 : Int) ≤ (a : Int) := by omega
          go_wp2_with fail
          refine ST.out.mono ?_
          rintro e w3 ⟨rfl, g3⟩
          have G3 := Hid.mk' (hLK.out _ (Gr.call G2.out g3))
          clear ST g3
          go_wp2_with fail
          go_ret2
          refine ⟨va, vk, L, s, cs, r, n, rfl, HT.out.gr G3.out, (Fr.gr G3.out).msk _, (HMI.out.gr G3.out).keep (Nat.le_refl _) (fun k _ hk => ⟨rfl, Or.inl hk⟩), ?_, HG.out.mono (Nat.le_refl _) (by omega) (by have := HG.out.le; omega), HO.out, HID.out, fun _ _ => rfl⟩
          rw [HDM.out, ANY.out]; rfl
      · by_cases hk6 : kk < 6
        · have HDM : Hid (dmF d (L.map (·.1)) = (L.map (·.1)).filter (fun x => !(x.1 == d.key))) := by
            show _ = _
            unfold dmF; rw [if_neg (by rw [HKK.out]; exact hk4), if_pos (by rw [HKK.out]; exact hk6)]
          rcases AT.out with ⟨hat, hall⟩ | ⟨a, ha, hat, hak⟩
          · subst hat
            rw [List.take_length] at hall
            have hno := ow_no HS.out.N HG.out.I HO.out (k := ((cn : Int), ii)) (fun f hf => by
              obtain ⟨y, hy, e⟩ := List.mem_map.1 hf
              exact hall y hy (by rw [e]))
            have FIL : Hid ((L.map (·.1)).filter (fun x => !(x.1 == d.key)) = L.map (·.1)) := by
              show _ = _
              rw [List.filter_eq_self]
              intro x hx
              obtain ⟨y, hy, rfl⟩ := List.mem_map.1 hx
              simpa [HKEY2.out] using hall y hy
            have ST : Hid (Calls Tryz.prog 18 #[.pointer (some ⟨T.TB, 0, none⟩), .int .i64 (cn : Int), .int .i64 ii] wr fun e w' => e = .returned (.int .i64 5) ∧ Gr wr w') := by
              obtain ⟨cls, x, t, hcls, hxc, hpc⟩ := HT.out.find HC.out.1
              have e1 : x.num = (cn : Int) := by rw [← HC.out.2.1, ← hpc]; rfl
              have e2 : x.at' = home cn := by rw [← HC.out.2.2, ← hpc]; rfl
              have := Unsubscribe_none T r wr cls s x ii (t.gr GA.out) hxc ⟨by omega, by omega⟩ (by rw [e2, e1]; exact hno)
              rw [e1] at this
              exact this
            clear hno hall
            go_wp2_with fail
            refine ST.out.mono ?_
            rintro e w3 ⟨rfl, g3⟩
            have G3 := Hid.mk' (hLK.out _ g3)
            clear ST g3
            go_wp2_with fail
            go_ret2
            refine ⟨va, vk, L, s, cs, r, n, rfl, HT.out.gr G3.out, (Fr.gr G3.out).msk _, (HMI.out.gr G3.out).keep (Nat.le_refl _) (fun k _ hk => ⟨rfl, Or.inl hk⟩), ?_, HG.out.mono (Nat.le_refl _) (by omega) (by have := HG.out.le; omega), HO.out, HID.out, fun _ _ => rfl⟩
            rw [HDM.out, FIL.out]
          · subst hat
            obtain ⟨hx, hxm, hxf, hxk, hxx⟩ := ow_mem HO.out (k := ((cn : Int), ii)) (f := (nat' L a).1.2) (List.mem_map.2 ⟨nat' L a, nat'_mem ha, by rw [← hak]⟩)
            have ST : Hid (Calls Tryz.prog 18 #[.pointer (some ⟨T.TB, 0, none⟩), .int .i64 (cn : Int), .int .i64 ii] wr fun e w' => e = .returned (.int .i64 0) ∧ ∃ r', Tf T r' w' cs (s.turn cov T.adj (home cn) (del ((cn : Int), ii) (s.held (home cn)))) ∧ Fr r r' wr w') := by
              have := Unsubscribe_t T r wr cs s c ii hx (HT.out.gr GA.out) HC.out.1 ⟨by omega, by omega⟩ (HG.out.I.srt _) (by rw [HC.out.2.2]; exact hxm) (by rw [HC.out.2.1]; exact hxk) HSM.out
              rw [HC.out.2.1, HC.out.2.2, hxk] at this
              exact this
            have GD : Hid (Gd T nxt rank home Ks (s.turn cov T.adj (home cn) (del ((cn : Int), ii) (s.held (home cn)))) cs (n + T.nb * (Ks.length + 1)) (M + T.nb * (Ks.length + 1))) := by
              have := HG.out.uns HS.out (x := hx) (HH.out _) (by rw [hxk]; exact hxm)
              rw [hxk] at this
              exact this
            have OW2 : Hid (∀ l', (∀ x, x ∈ l' ↔ x ∈ L.map (·.1) ∧ x.1 ≠ ((cn : Int), ii)) → Ow home (s.turn cov T.adj (home cn) (del ((cn : Int), ii) (s.held (home cn)))) l') := fun l' hl' => ow_uns (cov := cov) (adj := T.adj) HO.out ((cn : Int), ii) hl'
            have TOP := Hid.mk' HT.out.b.top
            have HAK := Hid.mk' hak
            clear hxm hxf hxk hxx hak
            go_wp2_with fail
            refine ST.out.mono ?_
            rintro e w3 ⟨rfl, r3, t3, f3⟩
            have T3 := Hid.mk' t3
            have F3 := Hid.mk' ((Fr.gr (r := r) GA.out).trans f3)
            have MI3 : Hid (Mi R w3 (.slice va L.length vk) L) := HMI.out.keep F3.out.size (fun k hk hRk => ⟨F3.out.keep k hk (Or.inl (HR.out k hRk).1), hRk⟩)
            have TOP3 := Hid.mk' t3.b.top
            have ha0 : ¬ (a : Int) < 0 := by omega
            clear ST t3 f3
            go_wp2_with fail
            have LF := flt_len ((cn : Int), ii) L
            go_loopw [15, 16] (fun v i wr => ∃ j : Nat, j ≤ L.length ∧ i = .int .i64 j ∧ Hid (Gr w3 wr) ∧ Hid (wr.ownsRow w3.heap.size 50 3 v (flt ((cn : Int), ii) L j).length (ncells (flt ((cn : Int), ii) L j)))) (fun _ i _ => L.length - (intOf i).toNat)
            case atStart => exact ⟨0, Nat.zero_le _, rfl, Gr.refl _, World.ownsRow_nil _ _ _ _⟩
            case round =>
              obtain ⟨j, hj, rfl, G4, O4⟩ := hrel
              obtain ⟨ua, um, uk, rfl⟩ := owns_slice O4.out
              by_cases hjl : j < L.length
              · by_cases hja : j = a
                · have FE := Hid.mk' (flt_no hjl (by rw [hja]; exact HAK.out) : flt ((cn : Int), ii) L (j + 1) = flt ((cn : Int), ii) L j)
                  have O5 : Hid (wr.ownsRow w3.heap.size 50 3 (.slice ua um uk) (flt ((cn : Int), ii) L (j + 1)).length (ncells (flt ((cn : Int), ii) L (j + 1)))) := by
                    show World.ownsRow _ _ _ _ _ _ _
                    rw [FE.out]; exact O4.out
                  have hja' : (j : Int) = (a : Int) := by omega
                  clear FE O4
                  subst hja
                  go_wp2_with fail
                  exact ⟨⟨j + 1, hjl, by simp, G4, O5⟩, measM_dec _ _ hjl⟩
                · have FE := Hid.mk' (flt_yes hjl (fun e => hja (uniq_at HND.out hjl ha (e.trans HAK.out.symm))) : flt ((cn : Int), ii) L (j + 1) = flt ((cn : Int), ii) L j ++ [nat' L j])
                  have hja' : ((j : Int) == (a : Int)) = false := by simp; omega
                  obtain ⟨g, off, rfl, hc⟩ := CL.out j hjl
                  obtain ⟨c1, c2, c3⟩ := hc wr (fun k hk hRk => (G4.out.block k (Nat.lt_of_lt_of_le hk F3.out.size)).trans (F3.out.keep k hk (Or.inl (HR.out k hRk).1)))
                  clear hc
                  have hl5 := LF j
                  generalize nat' L j = y at *
                  have hz5 : w3.heap.size ≤ wr.heap.size := G4.out.size
                  go_wp2_with (at_builtin; refine wpList_append_own _ rfl _ _ 31 rfl w3.heap.size 50 i0 _ 3 40 Tryz.underlying31 hi hz0 hz1 hz2 rfl (by decide) _ _ _ rfl (O4.out.alloc _) ⟨wr.heap.size, 0, none⟩ 1 1 [.int .i64 y.1.1.1, .int .i64 y.1.1.2, .slice y.2.1 y.1.2.length y.2.2] rfl rfl (World.news_of_block (new_atK rfl)) ?k2 ?k3 ?k4 ?k5 ?_)
                  case k2 => intro t ht; simp at ht; rcases ht with rfl | rfl | rfl <;> rfl
                  case k3 => unfold maxLen; omega
                  case k4 => omega
                  case k5 => simp; omega
                  intro v5 w5 ho5 hg5 _
                  have G5 : Hid (Gr w3 w5) := Below.grown (G4.out.alloc _) hg5 (Nat.le_trans G4.out.size (by simp)) (own_low O4.out)
                  have O5 : Hid (w5.ownsRow w3.heap.size 50 3 v5 (flt ((cn : Int), ii) L (j + 1)).length (ncells (flt ((cn : Int), ii) L (j + 1)))) := by
                    show World.ownsRow _ _ _ _ _ _ _
                    rw [FE.out, ncells_snoc, List.length_append]; exact ho5
                  obtain ⟨ya, ym, yk, rfl⟩ := owns_slice ho5
                  clear ho5 hg5 O4 FE c1 c2 c3
                  go_wp2_with fail
                  exact ⟨⟨j + 1, hjl, by simp, G5, O5⟩, measM_dec _ _ hjl⟩
              · have hje : j = L.length := by omega
                subst hje
                have OE := Hid.mk' (mi_of (r3 := r3) (wb := w) MI3.out G4.out O4.out (fun x hx => List.mem_of_mem_take (List.mem_filter.1 hx).1) F3.out.size TOP3.out)
                obtain ⟨ub, un, e1, _⟩ := owns_shape O4.out
                injection e1 with e1 e2 e3
                subst e1 e2 e3
                have FF : Hid (Fr r r3 w wr) := F3.out.trans (Fr.gr G4.out)
                clear O4
                go_wp2_with fail
                go_ret2
                refine ⟨_, _, flt ((cn : Int), ii) L L.length, _, cs, r3, _, rfl, T3.out.gr G4.out, FF.out.msk _, OE.out, ?_, GD.out.mono (Nat.le_refl _) (by omega) (by have := GD.out.le; omega), OW2.out _ (fun x => ?_), HID.out, F3.out.same⟩
                · rw [HDM.out, HKEY2.out]
                  unfold flt
                  rw [List.take_length, List.filter_map]
                  rfl
                · unfold flt
                  rw [List.take_length]
                  simp only [List.mem_map, List.mem_filter, Bool.not_eq_true', beq_eq_false_iff_ne]
                  constructor
                  · rintro ⟨y, ⟨h1, h2⟩, rfl⟩; exact ⟨⟨y, h1, rfl⟩, h2⟩
                  · rintro ⟨⟨y, h1, rfl⟩, h2⟩; exact ⟨y, ⟨h1, h2⟩, rfl⟩
        · by_cases hk7 : kk = 6
          · have hk7' : d.k = 6 := HKK.out.trans hk7
            have HDM : Hid (dmF d (L.map (·.1)) = L.map (·.1)) := by
              show _ = _
              unfold dmF; rw [if_neg (by rw [hk7']; omega), if_neg (by rw [hk7']; omega)]
            clear hk7'
            subst hk7
            have EVT := Hid.mk' (event_any d.wants wa wc wr hwl (HW.out.1.gr (Gr.call HG0.out.1 GA.out)) HW.out.2)
            have hlE : 1 ≤ (evF d.wants).length ∧ (evF d.wants).length ≤ 3 := evF_len d.wants
            have TOP := Hid.mk' HT.out.b.top
            go_wp2_with fail
            refine EVT.out.mono ?_
            rintro e w2 ⟨v2, rfl, g2, o2⟩
            obtain ⟨gx, cx, rfl⟩ := owns_pos o2 (by omega)
            have hsw := GA.out.size
            have EV := evn_of (r := r) o2 (evF_ok d.wants) (evF_wf d.wants) (TOP.out gx (by have := own_low o2 gx rfl; omega))
            have gw2 := hLK.out _ g2
            have PB := Publish_t T r w2 cs s c (evF d.wants) (some ⟨gx, 0, none⟩) cx (HT.out.gr gw2) HC.out.1 EV.m HSM.out (fun c hc => ⟨(HG.out.L c hc).1, by have := (HG.out.L c hc).2.1; have := HM.out; omega⟩)
            rw [HC.out.2.1, HC.out.2.2] at PB
            have PB2 := Hid.mk' PB
            have GW2 := Hid.mk' gw2
            clear EVT o2 g2 EV gw2 PB
            go_wp2_with fail
            refine PB2.out.mono ?_
            rintro e w3 ⟨rfl, r3, t3, f3⟩
            have E3 := Hid.mk' (And.intro t3 ((Fr.gr (r := r) GW2.out).trans f3))
            clear PB2 t3 f3
            go_wp2_with fail
            go_ret2
            refine ⟨va, vk, L, _, _, r3, _, rfl, E3.out.1, E3.out.2.msk _, HMI.out.keep E3.out.2.size (fun k hk hRk => ⟨E3.out.2.keep k hk (Or.inl (HR.out k hRk).1), Or.inl hRk⟩), HDM.out.symm, (HG.out.pub HS.out (home cn) (HH.out _) (-1) (true, (cn : Int)) (evF d.wants)).mono (Nat.le_refl _) (by omega) (by have := HG.out.le; omega), ow_come HO.out _ _ _, HID.out.of ids_hear, E3.out.2.same⟩
          · have HDM : Hid (dmF d (L.map (·.1)) = L.map (·.1)) := by
              show _ = _
              unfold dmF; rw [if_neg (by rw [HKK.out]; exact hk4), if_neg (by rw [HKK.out]; exact hk6)]
            have TN := Hid.mk' (turn_t T r wr cs s nxt rank home Ks n M d.turn (HT.out.gr GA.out) HS.out HG.out (by have := HK.out.1; omega) (by have := HM.out; omega) hd.2.2.2)
            have hk7' : (kk == 6) = false := by simpa using hk7
            go_wp2_with fail
            refine TN.out.mono ?_
            rintro e w3 ⟨s3, cs3, r3, n3, rfl, mv, t3, f3⟩
            have E3 := Hid.mk' (And.intro t3 (And.intro ((Fr.gr (r := r) GA.out).trans f3) mv))
            clear TN t3 f3 mv
            go_wp2_with fail
            go_ret2
            obtain ⟨kq, hrun⟩ := E3.out.2.2.R
            refine ⟨va, vk, L, s3, cs3, r3, n3, rfl, E3.out.1, E3.out.2.1.msk _, HMI.out.keep E3.out.2.1.size (fun k hk hRk => ⟨E3.out.2.1.keep k hk (Or.inl (HR.out k hRk).1), Or.inl hRk⟩), HDM.out.symm, E3.out.2.2.G.mono (Nat.le_refl _) (by omega) (by have := E3.out.2.2.G.le; omega), hrun.ow HS.out.N HG.out.I HO.out, HID.out.of hrun.ids, E3.out.2.1.same⟩
end Go.Proofs.YtecnfgikbmcgoaaGreat
namespace Go.Proofs.YtecnfgikbmcgoaaGreat
open Go.RowKit

theorem kext : ∀ {l m : List Ky}, l.Pairwise (fun x y => klt x y = true) → m.Pairwise (fun x y => klt x y = true) → (∀ x, x ∈ l ↔ x ∈ m) → l = m
  | [], [], _, _, _ => rfl
  | [], b :: t, _, _, h => by have := (h b).2 (by simp); cases this
  | a :: t, [], _, _, h => by have := (h a).1 (by simp); cases this
  | a :: t, b :: u, hl, hm, h => by
    have ha := List.pairwise_cons.1 hl
    have hb := List.pairwise_cons.1 hm
    have hab : a = b := by
      rcases List.mem_cons.1 ((h a).1 (by simp)) with e | e
      · exact e
      · rcases List.mem_cons.1 ((h b).2 (by simp)) with e' | e'
        · exact e'.symm
        · have h1 := ha.1 b e'
          have h2 := hb.1 a e
          rw [klt_asymm h1] at h2; cases h2
    subst hab
    congr 1
    refine kext ha.2 hb.2 (fun x => ?_)
    constructor
    · intro hx
      rcases List.mem_cons.1 ((h x).1 (by simp [hx])) with e | e
      · subst e; have := ha.1 x hx; rw [klt_irr] at this; cases this
      · exact e
    · intro hx
      rcases List.mem_cons.1 ((h x).2 (by simp [hx])) with e | e
      · subst e; have := hb.1 x hx; rw [klt_irr] at this; cases this
      · exact e
/-- The keys that a broker holds from a side. -/
def keysOf (s : Ts) (b : Nat) (from_ : Int) : List Ky := ((s.held b).filter fun h => h.fr == from_).map fun h => h.key
theorem keysFrom_w {T : Tc} {r : Nat → Rl} {w : World} {cs : List (Pc (List Atr))} {s : Ts} (hT : Tf T r w cs s) (hm : Sm T s) {b : Nat} (hb : b < T.nb) (hs : Srt (s.held b)) (from_ : Int) :
    Calls Tryz.prog 41 #[.pointer (some ⟨T.TB, 0, none⟩), .int .i64 b, .int .i64 from_] w fun e w' => ∃ v, e = .returned v ∧ w'.ownsRow w.heap.size 112 2 v (keysOf s b from_).length (kcells (keysOf s b from_)) ∧ Gr w w' := by
  obtain ⟨cls, ⟨Xs, qs, h1, hV⟩, _⟩ := hT
  obtain ⟨es, clock, hp⟩ := h1.hp hb
  refine (keysFrom_any T.TB T.HB 0 T.nb T.hcap b (T.MB b) from_ (Xs b) es clock w h1.b.c0 (by rw [Nat.zero_add]; exact h1.b.hb b hb) hb (Nat.le_trans (vw_len h1 hV hb) (hm.h b hb)) hp).mono ?_
  rintro e w' ⟨v, L, h2, h3, h4, h5, h6⟩
  have e1 : L = keysOf s b from_ := by
    refine kext h4 ?_ (fun k => ?_)
    · unfold keysOf
      rw [List.pairwise_map]
      exact hs.filter _
    · rw [h5]
      unfold keysOf
      simp only [List.mem_map, List.mem_filter, beq_iff_eq]
      constructor
      · rintro ⟨x, hx, h7, rfl⟩
        exact ⟨x.1, ⟨(hV.held b hb x.1).2 ⟨x, hx, rfl⟩, h7⟩, rfl⟩
      · rintro ⟨g, ⟨h7, h8⟩, rfl⟩
        obtain ⟨x, hx, rfl⟩ := (hV.held b hb g).1 h7
        exact ⟨x, hx, h8, rfl⟩
  rw [← e1]
  exact ⟨v, h2, h3, h6⟩
theorem hasLink_w {T : Tc} {r : Nat → Rl} {w : World} {cs : List (Pc (List Atr))} {s : Ts} (hT : Tf T r w cs s) (k : Ky) (h1 : I64 k.1) (h2 : I64 k.2) (q : Bool) (hq : q = true ↔ ∃ a b : Nat, k = ((a : Int), (b : Int)) ∧ T.adj a b = true) :
    Calls Tryz.prog 40 #[.pointer (some ⟨T.TB, 0, none⟩), .int .i64 k.1, .int .i64 k.2] w fun e w' => e = .returned (.bool q) ∧ w' = w := by
  obtain ⟨cls, ⟨Xs, qs, t, hV⟩, _⟩ := hT
  obtain ⟨m, es, clock, hm, _, hall, hev⟩ := t.l.lk
  refine hasLink_any T.TB T.LB k m es clock q w h1 h2 t.b.c2 hm (hq.trans ⟨?_, ?_⟩)
  · rintro ⟨a, b, rfl, hab⟩; exact hev a b hab
  · rintro ⟨v, hv⟩
    obtain ⟨a, b, e, hab, _⟩ := hall _ v hv
    exact ⟨a, b, pk_inj e, hab⟩
set_option maxRecDepth 100000 in
set_option maxHeartbeats 4000000 in
theorem Held_yes (T : Tc) (r : Nat → Rl) (w : World) (cs : List (Pc (List Atr))) (s : Ts) (b : Nat) (from_ : Int) (hT : Tf T r w cs s) (hm : Sm T s) (hb : b < T.nb) (hs : Srt (s.held b)) (hf : from_ = -1 ∨ ∃ a : Nat, from_ = (a : Int) ∧ T.adj b a = true) :
    Calls Tryz.prog 16 #[.pointer (some ⟨T.TB, 0, none⟩), .int .i64 b, .int .i64 from_] w fun e w' => ∃ v, e = .returned (.tuple #[v, .int .i64 0]) ∧ w'.ownsRow w.heap.size 112 2 v (keysOf s b from_).length (kcells (keysOf s b from_)) ∧ Gr w w' := by
  have HBR := Hid.mk' (hasBroker_in T r w b hT.b hb)
  have KF : Hid (∀ W, Gr w W → Calls Tryz.prog 41 #[.pointer (some ⟨T.TB, 0, none⟩), .int .i64 b, .int .i64 from_] W fun e w' => ∃ v, e = .returned v ∧ w'.ownsRow W.heap.size 112 2 v (keysOf s b from_).length (kcells (keysOf s b from_)) ∧ Gr W w') := fun W g => keysFrom_w (hT.gr g) hm hb hs from_
  have hnb := hT.b.nb8
  have LOW : Hid (∀ (W w' : World) (v : Value) (n : Nat) (xs : List Value), Gr w W → w'.ownsRow W.heap.size 112 2 v n xs → w'.ownsRow w.heap.size 112 2 v n xs) := fun W w' v n xs g o => ⟨o.1, o.2.imp id (fun ⟨a1, a2, a3, a4, a5, a6⟩ => ⟨a1, a2, a3, a4, Nat.le_trans g.size a5, a6⟩)⟩
  generalize keysOf s b from_ = KS at *
  rcases hf with rfl | ⟨a, rfl, hab⟩
  · clear hT hm hs
    go_enter Tryz.func16, Tryz.ntmps16
    go_wp2_with fail
    refine HBR.out.mono ?_
    rintro e w1 ⟨rfl, g1⟩
    have KF1 := Hid.mk' (KF.out w1 g1)
    have G1 := Hid.mk' g1
    clear HBR g1 KF
    go_wp2_with fail
    refine KF1.out.mono ?_
    rintro e w2 ⟨v, rfl, o2, g2⟩
    have O2 := Hid.mk' (LOW.out _ _ _ _ _ G1.out o2)
    have G2 := Hid.mk' (Gr.call G1.out g2)
    obtain ⟨va, vm, vk, rfl⟩ := owns_slice o2
    clear KF1 o2 g2
    go_wp2_with fail
    go_ret2
    exact ⟨_, rfl, O2.out, G2.out⟩
  · have hlt := hT.b.adj b a hab
    have HL : Hid (∀ W, Gr w W → Calls Tryz.prog 40 #[.pointer (some ⟨T.TB, 0, none⟩), .int .i64 b, .int .i64 a] W fun e w' => e = .returned (.bool true) ∧ w' = W) := fun W g => hasLink_w (hT.gr g) ((b : Int), (a : Int)) ⟨by omega, by omega⟩ ⟨by omega, by omega⟩ true ⟨fun _ => ⟨b, a, rfl, hab⟩, fun _ => rfl⟩
    have hne : ((a : Int) == -1) = false := by simp
    clear hT hm hs
    go_enter Tryz.func16, Tryz.ntmps16
    go_wp2_with fail
    refine HBR.out.mono ?_
    rintro e w1 ⟨rfl, g1⟩
    have KF1 := Hid.mk' (KF.out w1 g1)
    have HL1 := Hid.mk' (HL.out w1 g1)
    have G1 := Hid.mk' g1
    clear HBR g1 KF HL
    go_wp2_with fail
    refine HL1.out.mono ?_
    rintro e wx ⟨rfl, hw⟩
    have hw' := hw.symm
    clear hw HL1
    subst hw'
    go_wp2_with fail
    refine KF1.out.mono ?_
    rintro e w2 ⟨v, rfl, o2, g2⟩
    have O2 := Hid.mk' (LOW.out _ _ _ _ _ G1.out o2)
    have G2 := Hid.mk' (Gr.call G1.out g2)
    obtain ⟨va, vm, vk, rfl⟩ := owns_slice o2
    clear KF1 o2 g2
    go_wp2_with fail
    go_ret2
    exact ⟨_, rfl, O2.out, G2.out⟩
set_option maxRecDepth 100000 in
set_option maxHeartbeats 4000000 in
theorem Held_no (T : Tc) (r : Nat → Rl) (w : World) (cs : List (Pc (List Atr))) (s : Ts) (b : Nat) (from_ : Int) (hT : Tf T r w cs s) (hb : b < T.nb) (hi : I64 from_) (h1 : from_ ≠ -1) (hf : ∀ a : Nat, from_ = (a : Int) → T.adj b a = false) :
    Calls Tryz.prog 16 #[.pointer (some ⟨T.TB, 0, none⟩), .int .i64 b, .int .i64 from_] w fun e w' => e = .returned (.tuple #[.slice none 0 0, .int .i64 5]) ∧ Gr w w' := by
  have HBR := Hid.mk' (hasBroker_in T r w b hT.b hb)
  have hnb := hT.b.nb8
  have HL : Hid (∀ W, Gr w W → Calls Tryz.prog 40 #[.pointer (some ⟨T.TB, 0, none⟩), .int .i64 b, .int .i64 from_] W fun e w' => e = .returned (.bool false) ∧ w' = W) := fun W g => hasLink_w (hT.gr g) ((b : Int), from_) ⟨by omega, by omega⟩ hi false ⟨(fun h => by cases h), (fun ⟨x, y, e, hxy⟩ => by
    injection e with e1 e2
    have : x = b := by omega
    rw [this, hf y e2] at hxy; cases hxy)⟩
  have hne : (from_ == -1) = false := by simpa using h1
  clear hT
  go_enter Tryz.func16, Tryz.ntmps16
  go_wp2_with fail
  refine HBR.out.mono ?_
  rintro e w1 ⟨rfl, g1⟩
  have HL1 := Hid.mk' (HL.out w1 g1)
  have G1 := Hid.mk' g1
  clear HBR g1 HL
  go_wp2_with fail
  refine HL1.out.mono ?_
  rintro e wx ⟨rfl, hw⟩
  have hw' := hw.symm
  clear hw HL1
  subst hw'
  go_wp2_with fail
  go_ret2
  exact ⟨rfl, G1.out⟩
set_option maxRecDepth 100000 in
set_option maxHeartbeats 4000000 in
theorem sameKeys_yes (l : List Ky) (v v' : Value) (w : World) (bs bs' : Nat) (h : w.ownsRow bs 112 2 v l.length (kcells l)) (h' : w.ownsRow bs' 112 2 v' l.length (kcells l)) (hl : l.length ≤ 100000) :
    Calls Tryz.prog 17 #[v, v'] w fun e w' => e = .returned (.bool true) ∧ Gr w w' := by
  obtain ⟨a, k, rfl, ha⟩ := owns_shape h
  obtain ⟨a', k', rfl, ha'⟩ := owns_shape h'
  have O1 := Hid.mk' h
  have O2 := Hid.mk' h'
  have HA := Hid.mk' ha
  have HA' := Hid.mk' ha'
  clear h h' ha ha'
  go_enter Tryz.func17, Tryz.ntmps17
  go_wp2_with fail
  go_loopw [5] (fun i wr => ∃ q : Nat, q ≤ l.length ∧ i = .int .i64 q ∧ Hid (Gr w wr)) (fun i _ => l.length - (intOf i).toNat)
  case atStart => exact ⟨0, Nat.zero_le _, rfl, Gr.refl _⟩
  case round =>
    obtain ⟨q, hq, rfl, G⟩ := hrel
    by_cases hlt : q < l.length
    · obtain ⟨g, rfl⟩ := HA.out (by omega)
      obtain ⟨g', rfl⟩ := HA'.out (by omega)
      obtain ⟨c1, c2⟩ := kcells_at l q hlt
      obtain ⟨d1, d2⟩ := kcells_at l q hlt
      rw [← World.ownsRow.cellAt (ownsGr O1.out G.out) _ (by omega)] at c1 c2
      rw [← World.ownsRow.cellAt (ownsGr O2.out G.out) _ (by omega)] at d1 d2
      generalize eat l q = z at *
      go_wp2_with fail
      go_quiet (fail)
      have G2 := Hid.mk' (G.out.drewN nq)
      clear c1 c2 d1 d2
      go_wp2_with fail
      exact ⟨⟨q + 1, hlt, by simp, G2⟩, measM_dec _ _ hlt⟩
    · have hqe : q = l.length := by omega
      subst hqe
      go_wp2_with fail
      go_ret
      exact ⟨rfl, G.out⟩
end Go.Proofs.YtecnfgikbmcgoaaGreat
namespace Go.Proofs.YtecnfgikbmcgoaaGreat
open Go.RowKit

/-- Deeds in memory. -/
abbrev Dm := Dd × Option Addr × Nat
def dmt (ds : List Dm) (i : Nat) : Dm := ds.getD i (⟨0, 0, 0, 0, []⟩, none, 0)
theorem dmt_mem {ds : List Dm} {i : Nat} (h : i < ds.length) : dmt ds i ∈ ds := by unfold dmt; exact getD_mem h _
def DdsAt (w : World) (b off : Nat) (ds : List Dm) : Prop := ∀ i, i < ds.length → (w.cell? ⟨b, off + i * 5, none⟩ = some (.int .i64 (dmt ds i).1.kind) ∧ w.cell? ⟨b, off + i * 5 + 1, none⟩ = some (.int .i64 (dmt ds i).1.client) ∧ w.cell? ⟨b, off + i * 5 + 1 + 1, none⟩ = some (.int .i64 (dmt ds i).1.id) ∧ w.cell? ⟨b, off + i * 5 + 1 + 1 + 1, none⟩ = some (.int .i64 (dmt ds i).1.turn) ∧ w.cell? ⟨b, off + i * 5 + 1 + 1 + 1 + 1, none⟩ = some (.slice (dmt ds i).2.1 (dmt ds i).1.wants.length (dmt ds i).2.2)) ∧ InAt w (dmt ds i).2.1 (dmt ds i).1.wants
def DsAd (w : World) (ad : Option Addr) (ds : List Dm) : Prop := ds = [] ∨ ∃ b off, ad = some ⟨b, off, none⟩ ∧ b < w.heap.size ∧ DdsAt w b off ds
theorem DdsAt.gr {w w' : World} {b off : Nat} {ds : List Dm} (h : DdsAt w b off ds) (g : Gr w w') (hb : b < w.heap.size) : DdsAt w' b off ds := fun i hi => by
  obtain ⟨⟨h1, h2, h3, h4, h5⟩, h6⟩ := h i hi
  simp only [(bcell g).1 b _ hb]
  exact ⟨⟨h1, h2, h3, h4, h5⟩, h6.gr g⟩
def DdWf (ds : List Dm) : Prop := ∀ x ∈ ds, (I64 x.1.kind ∧ I64 x.1.client ∧ I64 x.1.id ∧ I64 x.1.turn) ∧ IntWf x.1.wants ∧ x.1.wants.length ≤ maxLen
/-- What the clients' filters are after some deeds. -/
def dmTo (ds : List Dm) : Nat → List (Ky × List Wnt)
  | 0 => []
  | i + 1 => if (dmt ds i).1.k = 6 then dmTo ds i else dmF (dmt ds i).1 (dmTo ds i)
def k24 : List Ky := (List.range 6).flatMap fun a => (List.range 4).map fun b => (((a : Nat) : Int), ((b : Nat) : Int))
theorem k24_mem {a b : Int} (h1 : 0 ≤ a) (h2 : a < 6) (h3 : 0 ≤ b) (h4 : b < 4) : (a, b) ∈ k24 := by
  simp only [k24, List.mem_flatMap, List.mem_map, List.mem_range]
  exact ⟨a.toNat, by omega, b.toNat, by omega, by rw [Int.toNat_of_nonneg h1, Int.toNat_of_nonneg h3]⟩
theorem k24_len : k24.length = 24 := by decide
theorem key_in (d : Dd) : d.key ∈ k24 := by
  have h1 := pickF_bd d.client 6 (by omega)
  have h2 := pickF_bd d.id 4 (by omega)
  exact k24_mem h1.1 h1.2 h2.1 h2.2
/-- The keys differ, and are of those. -/
def NK (l : List (Ky × List Wnt)) : Prop := l.Pairwise (fun x y => x.1 ≠ y.1) ∧ ∀ x ∈ l, x.1 ∈ k24
theorem nk_nil : NK [] := ⟨List.Pairwise.nil, fun _ h => by cases h⟩
theorem nk_dm {l : List (Ky × List Wnt)} (h : NK l) (d : Dd) : NK (dmF d l) := by
  unfold dmF
  split
  · split
    · exact h
    · rename_i hn
      refine ⟨?_, fun x hx => ?_⟩
      · rw [List.pairwise_append]
        refine ⟨h.1, List.pairwise_singleton _ _, fun a ha b hb => ?_⟩
        rw [List.mem_singleton.1 hb]
        intro e
        exact hn (List.any_eq_true.2 ⟨a, ha, by simpa using e⟩)
      · rcases List.mem_append.1 hx with hx | hx
        · exact h.2 x hx
        · rw [List.mem_singleton.1 hx]; exact key_in d
  · split
    · exact ⟨h.1.filter _, fun x hx => h.2 x (List.mem_filter.1 hx).1⟩
    · exact h
theorem nk_of {L : List Mn} (h : NK (L.map (·.1))) : L.Pairwise (fun x y => x.1.1 ≠ y.1.1) ∧ ∀ x ∈ L, x.1.1 ∈ k24 :=
  ⟨by have := h.1; rw [List.pairwise_map] at this; exact this, fun x hx => h.2 _ (List.mem_map_of_mem hx)⟩
theorem dm_six {d : Dd} (h : d.k = 6) (l : List (Ky × List Wnt)) : dmF d l = l := by
  unfold dmF; rw [if_neg (by omega), if_neg (by omega)]
/-- Where one list ends another one begins: a block that the caller owns. -/
theorem Mi.other {R : Nat → Prop} {r r' : Nat → Rl} {w w' : World} {v v0 : Value} {L : List Mn} (h : Mi R w v L) (f : Fr (msk (Value.ownBlock v0) r) (msk (Value.ownBlock v0) r') w w') (hR : ∀ k, R k → r k = .no ∧ v0.ownBlock ≠ some k) : Mi R w' v L :=
  h.keep f.size (fun k hk hRk => ⟨f.keep k hk (Or.inl (by unfold msk; rw [if_neg (hR k hRk).2]; exact (hR k hRk).1)), hRk⟩)
end Go.Proofs.YtecnfgikbmcgoaaGreat
