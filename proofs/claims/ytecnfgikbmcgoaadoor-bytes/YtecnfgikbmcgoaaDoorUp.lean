import Derived.Test.YtecnfgikbmcgoaaDoorUm
namespace Go.Proofs.YtecnfgikbmcgoaaDoor
open Go.RowKit

/-- What is read of some bytes. -/
def getF (l : List UInt8) : Option (List Wnt) := (pF l).bind fun x => if x.2 = [] ∧ filterOk x.1 = true then some x.1 else none
set_option maxRecDepth 100000 in
set_option maxHeartbeats 4000000 in
theorem GetFilter_any (u : TypeId) (pv : Value) (l : List UInt8) (w : World) (ht : Te u pv w) :
    Calls Tryd.prog 17 #[.string (str l)] w (Ge w 76 5 wcells (getF l)) := by
  have HT := Hid.mk' ht
  have hpos := ht.pos
  clear ht
  have hmf : ∀ (fn : Fn) (first cap : Array Value) (w : World), (Instr.makeFunc fn first cap).run Tryd.prog w = .ok (.func fn first cap) w := fun _ _ _ _ => rfl
  go_enter_defers Tryd.func17, Tryd.ntmps17
  go_wp2_with fail
  have gA : Gr w (((w.alloc (.cells #[.slice none 0 0] 43)).alloc (.cells #[.int .i64 0] 31)).alloc (.cells #[.string (str l)] 91)) := (((Gr.refl w).alloc _).alloc _).alloc _
  have bE : (((w.alloc (.cells #[.slice none 0 0] 43)).alloc (.cells #[.int .i64 0] 31)).alloc (.cells #[.string (str l)] 91)).heap[w.heap.size]? = some (.cells #[.slice none 0 0] 43 (0, 0)) := by
    rw [heap_alloc_old _ _ (by rw [size_alloc', size_alloc']; omega), heap_alloc_old _ _ (by rw [size_alloc']; omega)]; exact heap_alloc_new _ _
  have bK : (((w.alloc (.cells #[.slice none 0 0] 43)).alloc (.cells #[.int .i64 0] 31)).alloc (.cells #[.string (str l)] 91)).heap[w.heap.size + 1]? = some (.cells #[.int .i64 0] 31 (0, 0)) := by
    rw [heap_alloc_old _ _ (by rw [size_alloc', size_alloc']; omega)]; exact new_at (by simp)
  have bR : Rd (((w.alloc (.cells #[.slice none 0 0] 43)).alloc (.cells #[.int .i64 0] 31)).alloc (.cells #[.string (str l)] 91)) (w.heap.size + 1 + 1) l := new_at (by simp)
  have hsA : (((w.alloc (.cells #[.slice none 0 0] 43)).alloc (.cells #[.int .i64 0] 31)).alloc (.cells #[.string (str l)] 91)).heap.size = w.heap.size + 3 := by simp
  obtain ⟨wA, hA⟩ : ∃ wA, wA = (((w.alloc (.cells #[.slice none 0 0] 43)).alloc (.cells #[.int .i64 0] 31)).alloc (.cells #[.string (str l)] 91)) := ⟨_, rfl⟩
  rw [← hA] at gA bE bK bR hsA ⊢
  clear hA
  refine (readFilter_any u pv (w.heap.size + 1 + 1) l wA (by omega) (by omega) bR (HT.out.gr gA)).mono ?_
  rintro e w4 ⟨g4, q4⟩
  have E4 := Hid.mk' (grown_block g4 bE (by simp; omega))
  have K4 := Hid.mk' (grown_block g4 bK (by simp))
  have G4 := Hid.mk' (gr_of gA g4 (by omega))
  have hw4 : w.heap.size + 3 ≤ w4.heap.size := by have := g4.size; omega
  have ce : w4.cell? ⟨w.heap.size, 0, none⟩ = some (.slice none 0 0) := by rw [cell_of_row _ _ _ _ _ _ E4.out]; rfl
  have ck : w4.cell? ⟨w.heap.size + 1, 0, none⟩ = some (.int .i64 0) := by rw [cell_of_row _ _ _ _ _ _ K4.out]; rfl
  have fe : w4.frozen? ⟨w.heap.size, 0, none⟩ = false := frozen_of_row _ _ _ _ _ E4.out
  have fk : w4.frozen? ⟨w.heap.size + 1, 0, none⟩ = false := frozen_of_row _ _ _ _ _ K4.out
  cases h1 : pF l with
  | none =>
    rw [h1] at q4
    have q4 : e = .panicked (PP u pv) := q4
    subst q4
    have HP : Hid (getF l = none) := by
      show _ = _
      simp [getF, h1]
    go_wp2_with fail
    refine leaves_cons (f := 40) (args := #[.pointer (some ⟨w.heap.size, 0, none⟩), .pointer (some ⟨w.heap.size + 1, 0, none⟩)]) (by simp) (by simp [go_sem]) ?_
    refine (catchF_panic ⟨w.heap.size, 0, none⟩ ⟨w.heap.size + 1, 0, none⟩ _ _ u pv [] _ ce fe ck fk (by simp)).mono ?_
    rintro e u' w'' ⟨rfl, rfl, rfl⟩
    have HG := Hid.mk' (gr_set (j := 0) (gr_set (j := 0) G4.out (Nat.le_refl _) (.slice none 0 0)) (Nat.le_succ _) (.int .i64 3))
    simp [Leaves, settle, results, Tryd.results17, go_sem, ce, ck]
    exact Ge.mkNone HG.out HP.out
  | some z =>
    obtain ⟨x, r⟩ := z
    rw [h1] at q4
    obtain ⟨v, rfl, o4, d4⟩ : ∃ v, e = .returned v ∧ w4.ownsRow wA.heap.size 76 5 v x.length (wcells x) ∧ Rd w4 (w.heap.size + 1 + 1) r := q4
    obtain ⟨va, vk, rfl, _⟩ := owns_shape o4
    have O4 := Hid.mk' o4
    have cr : w4.cell? ⟨w.heap.size + 1 + 1, 0, none⟩ = some (.string (str r)) := by rw [cell_of_row _ _ _ _ _ _ d4]; rfl
    have HNE := Hid.mk' (own_ne o4 E4.out (by decide))
    have HNK := Hid.mk' (own_ne o4 K4.out (by decide))
    obtain ⟨hwf, hxl⟩ := pF_wf h1
    have HWF := Hid.mk' hwf
    clear o4 d4 g4 hwf bR bE bK
    cases r with
    | cons c t =>
      have HP : Hid (getF l = none) := by
        show _ = _
        simp [getF, h1]
      have hsz : (str (c :: t)).toList = c :: t := by rw [ByteArray.toList_eq]; simp [str]
      go_wp2_with fail
      refine leaves_cons (f := 40) (args := #[.pointer (some ⟨w.heap.size, 0, none⟩), .pointer (some ⟨w.heap.size + 1, 0, none⟩)]) (by simp) (by simp [go_sem]) ?_
      refine (catchF_idle ⟨w.heap.size, 0, none⟩ ⟨w.heap.size + 1, 0, none⟩ _).mono ?_
      rintro e u' w'' ⟨rfl, rfl, rfl⟩
      have HG := Hid.mk' (gr_set (j := 0) (gr_set (j := 0) (gr_set (j := 0) G4.out (Nat.le_refl _) (.slice va x.length vk)) (Nat.le_refl _) (.slice none 0 0)) (Nat.le_succ _) (.int .i64 3))
      simp [Leaves, settle, results, Tryd.results17, go_sem, ce, ck]
      exact Ge.mkNone HG.out HP.out
    | nil =>
      have hsz : (str []).toList = [] := by rw [ByteArray.toList_eq]; rfl
      have EV : Hid (FiAt (w4.setCell ⟨w.heap.size, 0, none⟩ (.slice va x.length vk)) va x) := by
        obtain ⟨ad, cap, he, hev⟩ := owns_wants (owns_set (j := 0) O4.out E4.out (by decide) (.slice va x.length vk))
        injection he with h1' _ h2'
        subst h1'
        exact hev
      cases hok : filterOk x with
      | false =>
        have HP : Hid (getF l = none) := by
          show _ = _
          simp [getF, h1, hok]
        have hc : chk x = 2 := by simp [chk, hok]
        go_wp2_with fail
        refine (CheckF x va vk _ (by unfold maxLen; omega) EV.out HWF.out).mono ?_
        rw [hc]
        rintro e w5 ⟨rfl, g5⟩
        have E5 := Hid.mk' (blk_gr g5 (blk_set_same (j := 0) E4.out (.slice va x.length vk)))
        have K5 := Hid.mk' (blk_gr g5 (blk_set K4.out (p := ⟨w.heap.size, 0, none⟩) (show w.heap.size + 1 ≠ w.heap.size by omega) (.slice va x.length vk)))
        have O5 := Hid.mk' (ownsGr (owns_set (j := 0) O4.out E4.out (by decide) (.slice va x.length vk)) g5)
        have G5 := Hid.mk' (Gr.call (gr_set (j := 0) G4.out (Nat.le_refl _) (.slice va x.length vk)) g5)
        clear ce ck fe fk cr
        have ce : w5.cell? ⟨w.heap.size, 0, none⟩ = some (.slice va x.length vk) := by rw [cell_of_row _ _ _ _ _ _ E5.out]; rfl
        have ck : w5.cell? ⟨w.heap.size + 1, 0, none⟩ = some (.int .i64 0) := by rw [cell_of_row _ _ _ _ _ _ K5.out]; rfl
        have fe : w5.frozen? ⟨w.heap.size, 0, none⟩ = false := frozen_of_row _ _ _ _ _ E5.out
        have fk : w5.frozen? ⟨w.heap.size + 1, 0, none⟩ = false := frozen_of_row _ _ _ _ _ K5.out
        go_wp2_with fail
        refine leaves_cons (f := 40) (args := #[.pointer (some ⟨w.heap.size, 0, none⟩), .pointer (some ⟨w.heap.size + 1, 0, none⟩)]) (by simp) (by simp [go_sem]) ?_
        refine (catchF_idle ⟨w.heap.size, 0, none⟩ ⟨w.heap.size + 1, 0, none⟩ _).mono ?_
        rintro e u' w'' ⟨rfl, rfl, rfl⟩
        have HG := Hid.mk' (gr_set (j := 0) (gr_set (j := 0) G5.out (Nat.le_refl _) (.slice none 0 0)) (Nat.le_succ _) (.int .i64 3))
        simp [Leaves, settle, results, Tryd.results17, go_sem, ce, ck]
        exact Ge.mkNone HG.out HP.out
      | true =>
        have HP : Hid (getF l = some x) := by
          show _ = _
          simp [getF, h1, hok]
        have hc : chk x = 0 := by simp [chk, hok]
        go_wp2_with fail
        refine (CheckF x va vk _ (by unfold maxLen; omega) EV.out HWF.out).mono ?_
        rw [hc]
        rintro e w5 ⟨rfl, g5⟩
        have E5 := Hid.mk' (blk_gr g5 (blk_set_same (j := 0) E4.out (.slice va x.length vk)))
        have K5 := Hid.mk' (blk_gr g5 (blk_set K4.out (p := ⟨w.heap.size, 0, none⟩) (show w.heap.size + 1 ≠ w.heap.size by omega) (.slice va x.length vk)))
        have O5 := Hid.mk' (ownsGr (owns_set (j := 0) O4.out E4.out (by decide) (.slice va x.length vk)) g5)
        have G5 := Hid.mk' (Gr.call (gr_set (j := 0) G4.out (Nat.le_refl _) (.slice va x.length vk)) g5)
        clear ce ck fe fk cr
        have ce : w5.cell? ⟨w.heap.size, 0, none⟩ = some (.slice va x.length vk) := by rw [cell_of_row _ _ _ _ _ _ E5.out]; rfl
        have ck : w5.cell? ⟨w.heap.size + 1, 0, none⟩ = some (.int .i64 0) := by rw [cell_of_row _ _ _ _ _ _ K5.out]; rfl
        have fe : w5.frozen? ⟨w.heap.size, 0, none⟩ = false := frozen_of_row _ _ _ _ _ E5.out
        have fk : w5.frozen? ⟨w.heap.size + 1, 0, none⟩ = false := frozen_of_row _ _ _ _ _ K5.out
        go_wp2_with fail
        refine leaves_cons (f := 40) (args := #[.pointer (some ⟨w.heap.size, 0, none⟩), .pointer (some ⟨w.heap.size + 1, 0, none⟩)]) (by simp) (by simp [go_sem]) ?_
        refine (catchF_idle ⟨w.heap.size, 0, none⟩ ⟨w.heap.size + 1, 0, none⟩ _).mono ?_
        rintro e u' w'' ⟨rfl, rfl, rfl⟩
        have HG := Hid.mk' (gr_set (j := 0) (gr_set (j := 0) G5.out (Nat.le_refl _) (.slice va x.length vk)) (Nat.le_succ _) (.int .i64 0))
        have OF := Hid.mk' (owns_set (j := 0) (owns_set (j := 0) O5.out E5.out (by decide) (.slice va x.length vk)) (blk_set K5.out (p := ⟨w.heap.size, 0, none⟩) (show w.heap.size + 1 ≠ w.heap.size by omega) (.slice va x.length vk)) (by decide) (.int .i64 0))
        simp [Leaves, settle, results, Tryd.results17, go_sem, ce, ck]
        exact Ge.mkSome HG.out HP.out (owns_base2 OF.out (by omega))
end Go.Proofs.YtecnfgikbmcgoaaDoor
