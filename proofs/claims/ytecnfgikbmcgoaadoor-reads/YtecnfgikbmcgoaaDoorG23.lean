import Derived.Test.YtecnfgikbmcgoaaDoorG18
import Derived.Test.YtecnfgikbmcgoaaDoorG19
import Derived.Test.YtecnfgikbmcgoaaDoorG22
namespace Go.Proofs.YtecnfgikbmcgoaaDoor
open Go.RowKit

theorem Tryd.infoAttrR : (Tryd.prog.info? 84).map (fun i => (i.zero, i.size, i.bytes)) = some (some (.agg #[.string ⟨#[]⟩, .int .i64 0, .int .i64 0, .string ⟨#[]⟩]), 4, 48) := by kernel_rfl
/-- What the document's reading leaves. -/
def Gf {α : Type} (w : World) (T : TypeId) (sz : Nat) (cells : List α → List Value) (p : Option (List α)) (e : Ending) (w' : World) : Prop :=
  Gr w w' ∧ match p with
    | some x => ∃ v, e = .returned (.tuple #[v, .bool true]) ∧ w'.ownsRow w.heap.size T sz v x.length (cells x)
    | none => e = .returned (.tuple #[.slice none 0 0, .bool false])
theorem Gf.mkNone {α : Type} {w w' : World} {T : TypeId} {sz : Nat} {cells : List α → List Value} {p : Option (List α)} (g : Gr w w') (hp : p = none) : Gf w T sz cells p (.returned (.tuple #[.slice none 0 0, .bool false])) w' := by
  subst hp; exact ⟨g, rfl⟩
theorem Gf.mkSome {α : Type} {w w' : World} {T : TypeId} {sz : Nat} {cells : List α → List Value} {p : Option (List α)} {x : List α} {v : Value} (g : Gr w w') (hp : p = some x) (ho : w'.ownsRow w.heap.size T sz v x.length (cells x)) : Gf w T sz cells p (.returned (.tuple #[v, .bool true])) w' := by
  subst hp; exact ⟨g, v, rfl, ho⟩
theorem sL_wfA {l r : List UInt8} (h : (sL sA l).2 = some r) : ∀ z ∈ (sL sA l).1, Atr.Wf z := by
  obtain ⟨r0, hm⟩ := sMany_some agA h
  exact (pMany_wf (P := Atr.Wf) (fun h => pA_wf h) _ hm).1
theorem sL_wfW {l r : List UInt8} (h : (sL sW l).2 = some r) : ∀ z ∈ (sL sW l).1, Wnt.Wf z := by
  obtain ⟨r0, hm⟩ := sMany_some agW h
  exact (pMany_wf (P := Wnt.Wf) (fun h => pW_wf h) _ hm).1
theorem Sn.cell {w : World} {S : Nat} {L : List UInt8} {st : Option (List UInt8)} (h : Sn w S L st) : w.cell? ⟨S, 2, none⟩ = some (.bool st.isNone) := by
  obtain ⟨i, _, h2, _⟩ := h
  rw [cell_of_row _ _ _ _ _ _ h2]; rfl
theorem Sn.at {w : World} {S : Nat} {L r : List UInt8} (h : Sn w S L (some r)) : ∃ i : Nat, w.cell? ⟨S, 1, none⟩ = some (.int .i64 i) ∧ i ≤ L.length ∧ (i = L.length ↔ r = []) := by
  obtain ⟨i, h1, h2, h3⟩ := h
  refine ⟨i, by rw [cell_of_row _ _ _ _ _ _ h2]; rfl, h1, ?_⟩
  rw [h3 r rfl, List.drop_eq_nil_iff]; omega
theorem Sn.lt {w : World} {S : Nat} {L : List UInt8} {st : Option (List UInt8)} (h : Sn w S L st) : S < w.heap.size := by
  obtain ⟨i, _, h2, _⟩ := h
  exact blk_lt h2
theorem Sn.ne {w : World} {S base sz n : Nat} {T : TypeId} {L : List UInt8} {st : Option (List UInt8)} {v : Value} {xs : List Value} (h : Sn w S L st) (ho : w.ownsRow base T sz v n xs) (hT : 117 ≠ T) : ∀ k, v.ownBlock = some k → (some S : Option Nat) ≠ some k := by
  obtain ⟨i, _, h2, _⟩ := h
  intro k hk he
  exact own_ne ho h2 hT (by rw [hk, he])
set_option maxRecDepth 100000 in
set_option maxHeartbeats 4000000 in
theorem refGetEvent_any (L : List UInt8) (w : World) (hL : L.length ≤ 1152921504606846976) :
    Calls Tryd.prog 42 #[.string (str L)] w (Gf w 84 4 acells (getE L)) := by
  obtain ⟨i0, hi, hz0, hz1, hz2⟩ := info_parts Tryd.infoAttrR
  have EG := Hid.mk' (getE_eq L)
  have ga : Gr w (w.alloc (.cells #[.string (str L), .int .i64 0, .bool false] 117)) := (Gr.refl w).alloc _
  have S0 : Hid (Sn (w.alloc (.cells #[.string (str L), .int .i64 0, .bool false] 117)) w.heap.size L (some L)) := ⟨0, Nat.zero_le _, heap_alloc_new w _, fun r h => by injection h with h; rw [← h]; rfl⟩
  go_enter Tryd.func42, Tryd.ntmps42
  go_wp2_with fail
  refine (scOne_any w.heap.size L (some L) _ hL S0.out).mono ?_
  rintro e w1 ⟨rfl, s1, g1⟩
  have G1 := Hid.mk' (gr_of ga g1 (Nat.le_refl _))
  have D1 := Hid.mk' s1
  have hf := sB_lt (some L)
  clear s1 g1 S0
  go_wp2_with fail
  refine (scOne_any w.heap.size L _ _ hL D1.out).mono ?_
  rintro e w2 ⟨rfl, s2, g2⟩
  have G2 := Hid.mk' (gr_of G1.out g2 (Nat.le_refl _))
  have D2 := Hid.mk' s2
  have hn := sB_lt (sB (some L)).2
  have SL : Hid (sL sA L = sMany sA (sB (sB (some L)).2).1 (sB (sB (some L)).2).2) := rfl
  clear s2 g2 G1 D1
  generalize (sB (some L)).1 = first at *
  generalize sB (sB (some L)).2 = y at *
  obtain ⟨n, st0⟩ := y
  simp only at hn D2 SL ⊢
  go_wp2_with fail
  go_loopw [7, 8] (fun v i wr => ∃ (q : Nat) (xs : List Atr) (st : Option (List UInt8)), q ≤ n ∧ xs.length = q ∧ i = .int .i64 q ∧ Hid (Gr w wr) ∧ Hid (Sn wr w.heap.size L st) ∧ Hid (wr.ownsRow w.heap.size 84 4 v xs.length (acells xs)) ∧ Hid (sL sA L = (xs ++ (sMany sA (n - q) st).1, (sMany sA (n - q) st).2))) (fun _ i _ => n - (intOf i).toNat)
  case atStart => exact ⟨0, [], st0, by omega, rfl, rfl, G2, D2, World.ownsRow_nil _ _ _ _, SL⟩
  case round =>
    clear G2 D2 SL
    obtain ⟨q, xs, st, hq, hxq, rfl, G, D, O, E⟩ := hrel
    have cb := D.out.cell
    obtain ⟨va, vm, vk, rfl⟩ := owns_slice O.out
    cases st with
    | none =>
      simp only [Option.isNone_none] at cb
      have HP : Hid (getE L = none) := by
        show _ = _
        rw [EG.out, if_neg]
        rw [E.out, sMany_none]; simp
      by_cases hlt : q < n
      · go_wp2_with fail
        exact bodyPost_ret (v := .tuple #[.slice none 0 0, .bool false]) (by simp [results, Tryd.results42, go_sem]) rfl (Gf.mkNone G.out HP.out)
      · go_wp2_with fail
        exact bodyPost_ret (v := .tuple #[.slice none 0 0, .bool false]) (by simp [results, Tryd.results42, go_sem]) rfl (Gf.mkNone G.out HP.out)
    | some r =>
      simp only [Option.isNone_some] at cb
      have HNS := Hid.mk' (D.out.ne O.out (by decide))
      by_cases hlt : q < n
      · have en : n - q = (n - (q + 1)) + 1 := by omega
        have E1 : Hid (sL sA L = ((xs ++ [(sA (some r)).1]) ++ (sMany sA (n - (q + 1)) (sA (some r)).2).1, (sMany sA (n - (q + 1)) (sA (some r)).2).2)) := by
          show _ = _
          rw [E.out, en, sMany]; simp
        have ESA : Hid (sA (some r) = (⟨str (sT (sB (some r)).1 (sB (some r)).2).1, (sV (sT (sB (some r)).1 (sB (some r)).2).2).1.k, (sV (sT (sB (some r)).1 (sB (some r)).2).2).1.n, str (sV (sT (sB (some r)).1 (sB (some r)).2).2).1.s⟩, (sV (sT (sB (some r)).1 (sB (some r)).2).2).2)) := rfl
        clear E
        go_wp2_with fail
        refine (scOne_any w.heap.size L _ _ hL D.out).mono ?_
        rintro e w3 ⟨rfl, s3, g3⟩
        have G3 := Hid.mk' (gr_of G.out g3 (Nat.le_refl _))
        have D3 := Hid.mk' s3
        have O3 := Hid.mk' (owns_kept O.out g3 HNS.out)
        have hk3 := sB_lt (some r)
        clear s3 g3 G D O cb
        generalize sB (some r) = y at *
        obtain ⟨k, st3⟩ := y
        simp only at hk3 D3 ESA ⊢
        go_wp2_with fail
        refine (scTake_any w.heap.size L st3 k _ hL (by omega) D3.out).mono ?_
        rintro e w4 ⟨rfl, s4, g4⟩
        have G4 := Hid.mk' (gr_of G3.out g4 (Nat.le_refl _))
        have D4 := Hid.mk' s4
        have O4 := Hid.mk' (owns_kept O3.out g4 HNS.out)
        have hs4 : w.heap.size < w4.heap.size := s4.lt
        have HN4 := Hid.mk' (own_lt O4.out)
        clear s4 g4 G3 D3 O3
        generalize sT k st3 = y at *
        obtain ⟨a, st4⟩ := y
        simp only at D4 ESA ⊢
        have gb : Gr w4 (w4.alloc (.cells #[.string (str a), .int .i64 0, .int .i64 0, .string ⟨#[]⟩] 84)) := (Gr.refl w4).alloc _
        go_wp2_with fail
        refine (scValue_any w.heap.size L st4 _ hL (gb.lt hs4) (D4.out.gr gb)).mono ?_
        rintro e w5 ⟨rfl, s5, g5⟩
        have hneA : (some w.heap.size : Option Nat) ≠ some w4.heap.size := by simp; omega
        have A5 := Hid.mk' (grown_block g5 (heap_alloc_new w4 (.cells #[.string (str a), .int .i64 0, .int .i64 0, .string ⟨#[]⟩] 84)) hneA)
        have G5 := Hid.mk' (gr_of (Gr.call G4.out gb) g5 (Nat.le_refl _))
        have D5 := Hid.mk' s5
        have O5 := Hid.mk' (owns_kept (ownsGr O4.out gb) g5 HNS.out)
        have hs5 : w4.heap.size < w5.heap.size := blk_lt A5.out
        clear s5 g5 gb G4 D4 O4
        generalize sV st4 = y at *
        obtain ⟨vl, st5⟩ := y
        simp only at D5 ESA ⊢
        unfold Vl.val
        have a0 : w5.cell? ⟨w4.heap.size, 0, none⟩ = some (.string (str a)) := by rw [cell_of_row _ _ _ _ _ _ A5.out]; rfl
        have a1 : w5.cell? ⟨w4.heap.size, 1, none⟩ = some (.int .i64 0) := by rw [cell_of_row _ _ _ _ _ _ A5.out]; rfl
        have a2 : w5.cell? ⟨w4.heap.size, 2, none⟩ = some (.int .i64 0) := by rw [cell_of_row _ _ _ _ _ _ A5.out]; rfl
        have a3 : w5.cell? ⟨w4.heap.size, 3, none⟩ = some (.string ⟨#[]⟩) := by rw [cell_of_row _ _ _ _ _ _ A5.out]; rfl
        have fa1 : w5.frozen? ⟨w4.heap.size, 1, none⟩ = false := frozen_of_row _ _ _ _ _ A5.out
        have fa2 : w5.frozen? ⟨w4.heap.size, 2, none⟩ = false := frozen_of_row _ _ _ _ _ A5.out
        have fa3 : w5.frozen? ⟨w4.heap.size, 3, none⟩ = false := frozen_of_row _ _ _ _ _ A5.out
        have G6 := Hid.mk' (gr_set (j := 3) (gr_set (j := 2) (gr_set (j := 1) G5.out (Nat.le_of_lt hs4) (.int .i64 vl.k)) (Nat.le_of_lt hs4) (.int .i64 vl.n)) (Nat.le_of_lt hs4) (.string (str vl.s)))
        have hS4 : w.heap.size ≠ w4.heap.size := by omega
        have D6 := Hid.mk' (((D5.out.set (j := 1) hS4 (.int .i64 vl.k)).set (j := 2) hS4 (.int .i64 vl.n)).set (j := 3) hS4 (.string (str vl.s)))
        have hk4 : ∀ k, Value.ownBlock (.slice va vm vk) = some k → (some w4.heap.size : Option Nat) ≠ some k := fun k hk he => HN4.out (hk.trans he.symm)
        have O6 := Hid.mk' (owns_kept (owns_kept (owns_kept O5.out (grown_set (j := 1) (.int .i64 vl.k)) hk4) (grown_set (j := 2) (.int .i64 vl.n)) hk4) (grown_set (j := 3) (.string (str vl.s))) hk4)
        clear G5 D5 O5 A5 hk4
        have ES : Hid (sL sA L = ((xs ++ [(⟨str a, vl.k, vl.n, str vl.s⟩ : Atr)]) ++ (sMany sA (n - (q + 1)) st5).1, (sMany sA (n - (q + 1)) st5).2)) := by
          show _ = _
          rw [E1.out, ESA.out]
        clear E1 ESA
        go_wp2_with (at_builtin; refine wpList_append_own _ rfl _ _ 22 rfl w.heap.size 84 i0 _ 4 48 Tryd.underlying22 hi hz0 hz1 hz2 rfl (by decide) _ _ _ rfl (World.ownsRow.alloc O6.out _) ⟨w5.heap.size, 0, none⟩ 1 1 [.string (str a), .int .i64 vl.k, .int .i64 vl.n, .string (str vl.s)] rfl rfl (World.news_of_block (new_at (by simp [World.setCell]))) ?c2 ?c3 ?c4 ?c5 ?_)
        case c2 => intro t ht; simp at ht; rcases ht with rfl | rfl | rfl | rfl <;> rfl
        case c3 => unfold maxLen; omega
        case c4 => omega
        case c5 => simp [World.setCell]; omega
        intro v7 w7 ho7 hg7 _
        have G7 : Hid (Gr w w7) := Below.grown (G6.out.alloc _) hg7 (Nat.le_trans G6.out.size (by simp)) (own_low O6.out)
        have D7 : Hid (Sn w7 w.heap.size L st5) := Sn.grown (D6.out.gr ((Gr.refl _).alloc _)) hg7 (fun he => HNS.out _ he rfl)
        have O7 : Hid (w7.ownsRow w.heap.size 84 4 v7 (xs ++ [(⟨str a, vl.k, vl.n, str vl.s⟩ : Atr)]).length (acells (xs ++ [(⟨str a, vl.k, vl.n, str vl.s⟩ : Atr)]))) := by
          show World.ownsRow _ _ _ _ _ _ _
          rw [acells_snoc, List.length_append, hxq]; exact ho7
        obtain ⟨ya, ym, yk, rfl⟩ := owns_slice ho7
        clear ho7 hg7 G6 D6 O6
        go_wp2_with fail
        go_roundw
        case rel => exact ⟨q + 1, _, st5, by omega, by simp [hxq], by go_num, G7, D7, O7, ES⟩
        case measure => simp [intOf]; omega
      · have hqn : q = n := by omega
        have ES : Hid (sL sA L = (xs, some r)) := by
          show _ = _
          rw [E.out, hqn, Nat.sub_self]; simp [sMany]
        clear E
        obtain ⟨i, ci, hil, hir⟩ := D.out.at
        have hz := str_size L
        by_cases h69 : first = 69
        · subst h69
          by_cases hir2 : i = L.length
          · have hr : r = [] := hir.1 hir2
            subst hr hir2
            have WF : Hid (∀ z ∈ xs, Atr.Wf z) := by
              have := sL_wfA (l := L) (r := []) (by rw [ES.out])
              rw [ES.out] at this
              exact this
            obtain ⟨ad, cap, he, hev⟩ := owns_attrs O.out
            injection he with h1 h2 h3
            subst h1 h2 h3
            have HEV := Hid.mk' hev
            have hxl := Hid.mk' (show xs.length ≤ maxLen by unfold maxLen; omega)
            clear hev hir hxq
            cases hok : evOk xs with
            | false =>
              have HP : Hid (getE L = none) := by
                show _ = _
                rw [EG.out, if_neg]
                rw [ES.out]; simp [hok]
              have hc : chkE xs = 1 := by simp [chkE, hok]
              go_wp2_with fail
              refine (refCheckEvent_ad xs va vk _ hxl.out HEV.out WF.out).mono ?_
              rw [hc]
              rintro e w8 ⟨rfl, g8⟩
              have G8 := Hid.mk' (Gr.call G.out g8)
              go_wp2_with fail
              exact bodyPost_ret (v := .tuple #[.slice none 0 0, .bool false]) (by simp [results, Tryd.results42, go_sem]) rfl (Gf.mkNone G8.out HP.out)
            | true =>
              have HP : Hid (getE L = some xs) := by
                show _ = _
                rw [EG.out, if_pos]
                · rw [ES.out]
                · rw [ES.out]; simp [hok]
              have hc : chkE xs = 0 := by simp [chkE, hok]
              go_wp2_with fail
              refine (refCheckEvent_ad xs va vk _ hxl.out HEV.out WF.out).mono ?_
              rw [hc]
              rintro e w8 ⟨rfl, g8⟩
              have G8 := Hid.mk' (Gr.call G.out g8)
              have O8 := Hid.mk' (ownsGr O.out g8)
              go_wp2_with fail
              exact bodyPost_ret (v := .tuple #[.slice va xs.length vk, .bool true]) (by simp [results, Tryd.results42, go_sem]) rfl (Gf.mkSome G8.out HP.out O8.out)
          · have HP : Hid (getE L = none) := by
              show _ = _
              rw [EG.out, if_neg]
              rw [ES.out]
              simp only [Option.some.injEq]
              intro ⟨_, h, _⟩
              exact hir2 (hir.2 h)
            have hne : ((i : Int) == (L.length : Int)) = false := by simp; omega
            go_wp2_with fail
            exact bodyPost_ret (v := .tuple #[.slice none 0 0, .bool false]) (by simp [results, Tryd.results42, go_sem]) rfl (Gf.mkNone G.out HP.out)
        · have HP : Hid (getE L = none) := by
            show _ = _
            rw [EG.out, if_neg]
            simp [h69]
          have hne : ((first : Int) == 69) = false := by simp; omega
          go_wp2_with fail
          exact bodyPost_ret (v := .tuple #[.slice none 0 0, .bool false]) (by simp [results, Tryd.results42, go_sem]) rfl (Gf.mkNone G.out HP.out)
end Go.Proofs.YtecnfgikbmcgoaaDoor
