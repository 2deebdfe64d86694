import Derived.Test.YtecnfgikbmcgoaaDoorG15
namespace Go.Proofs.YtecnfgikbmcgoaaDoor
open Go.RowKit

set_option maxRecDepth 100000 in
set_option maxHeartbeats 4000000 in
theorem catchE_panic (p q : Addr) (x y : Value) (u : TypeId) (pv : Value) (older : List PanicEntry) (w : World) (hp : w.cell? p = some x) (fp : w.frozen? p = false) (hq : w.cell? q = some y) (fq : w.frozen? q = false) (hne : p ≠ q) :
    CallsD Tryd.prog 35 #[.pointer (some p), .pointer (some q)] (.panicking ({ v := .iface u pv, recovered := false } :: older)) w fun e u' w' =>
      e = .returned (.tuple #[]) ∧ u' = .panicking ({ v := .iface u pv, recovered := true } :: older) ∧ w' = (w.setCell p (.slice none 0 0)).setCell q (.int .i64 3) := by
  refine callsD_of_wpS Tryd.func35 rfl fun c₀ cs hu => ?_
  apply wpS_seq
  apply wpS_region
  simp [wpOpsS, go_sem, recoverD, hu, Tryd.ntmps35, Exit.thenS]
  refine wpS_cond (t := true) (by simp [Act.eval, Array.replicate]) ?_
  simp only [if_true]
  have hq' : (w.setCell p (.slice none 0 0)).cell? q = some y := by rw [World.cell?_setCell_other _ _ _ _ hne]; exact hq
  apply wpS_region
  simp [wpOpsS, go_sem, hp, fp, hq', fq, bodyPostS, results, Tryd.results35, Array.replicate]
set_option maxRecDepth 100000 in
set_option maxHeartbeats 4000000 in
theorem catchE_idle (p q : Addr) (w : World) :
    CallsD Tryd.prog 35 #[.pointer (some p), .pointer (some q)] .returning w fun e u' w' => e = .returned (.tuple #[]) ∧ u' = .returning ∧ w' = w := by
  refine callsD_of_wpS Tryd.func35 rfl fun c₀ cs hu => ?_
  apply wpS_seq
  apply wpS_region
  simp [wpOpsS, go_sem, recoverD, hu, Tryd.ntmps35, Exit.thenS]
  refine wpS_cond (t := false) (by simp [Act.eval, Array.replicate]) ?_
  simp only [Bool.false_eq_true, if_false]
  refine wpS_of_wp (wp_skip ?_)
  cases c₀
  simp_all [bodyPostS, results, Tryd.results35]
set_option maxRecDepth 100000 in
set_option maxHeartbeats 4000000 in
theorem catchF_panic (p q : Addr) (x y : Value) (u : TypeId) (pv : Value) (older : List PanicEntry) (w : World) (hp : w.cell? p = some x) (fp : w.frozen? p = false) (hq : w.cell? q = some y) (fq : w.frozen? q = false) (hne : p ≠ q) :
    CallsD Tryd.prog 40 #[.pointer (some p), .pointer (some q)] (.panicking ({ v := .iface u pv, recovered := false } :: older)) w fun e u' w' =>
      e = .returned (.tuple #[]) ∧ u' = .panicking ({ v := .iface u pv, recovered := true } :: older) ∧ w' = (w.setCell p (.slice none 0 0)).setCell q (.int .i64 3) := by
  refine callsD_of_wpS Tryd.func40 rfl fun c₀ cs hu => ?_
  apply wpS_seq
  apply wpS_region
  simp [wpOpsS, go_sem, recoverD, hu, Tryd.ntmps40, Exit.thenS]
  refine wpS_cond (t := true) (by simp [Act.eval, Array.replicate]) ?_
  simp only [if_true]
  have hq' : (w.setCell p (.slice none 0 0)).cell? q = some y := by rw [World.cell?_setCell_other _ _ _ _ hne]; exact hq
  apply wpS_region
  simp [wpOpsS, go_sem, hp, fp, hq', fq, bodyPostS, results, Tryd.results40, Array.replicate]
set_option maxRecDepth 100000 in
set_option maxHeartbeats 4000000 in
theorem catchF_idle (p q : Addr) (w : World) :
    CallsD Tryd.prog 40 #[.pointer (some p), .pointer (some q)] .returning w fun e u' w' => e = .returned (.tuple #[]) ∧ u' = .returning ∧ w' = w := by
  refine callsD_of_wpS Tryd.func40 rfl fun c₀ cs hu => ?_
  apply wpS_seq
  apply wpS_region
  simp [wpOpsS, go_sem, recoverD, hu, Tryd.ntmps40, Exit.thenS]
  refine wpS_cond (t := false) (by simp [Act.eval, Array.replicate]) ?_
  simp only [Bool.false_eq_true, if_false]
  refine wpS_of_wp (wp_skip ?_)
  cases c₀
  simp_all [bodyPostS, results, Tryd.results40]

theorem owns_base2 {w : World} {base b2 : Nat} {e : TypeId} {size : Nat} {v : Value} {n : Nat} {xs : List Value} (h : w.ownsRow b2 e size v n xs) (hb : base ≤ b2) : w.ownsRow base e size v n xs := by
  obtain ⟨h1, h2⟩ := h
  refine ⟨h1, ?_⟩
  rcases h2 with h2 | ⟨b, cap, cur, hv, hl, r⟩
  · exact Or.inl h2
  · exact Or.inr ⟨b, cap, cur, hv, by omega, r⟩
theorem gr_of {a b c : World} {R : Nat} (h : Gr a b) (g : b.grownBy c (some R)) (hR : a.heap.size ≤ R) : Gr a c :=
  ⟨g.os.trans h.os, g.tape.trans h.tape, g.output.trans h.output, Nat.le_trans h.size g.size, fun k hk => by
    rw [g.block k (Nat.lt_of_lt_of_le hk h.size) (by simp; omega)]; exact h.block k hk⟩
theorem gr_set {a b : World} {B j : Nat} (h : Gr a b) (hB : a.heap.size ≤ B) (u : Value) : Gr a (b.setCell ⟨B, j, none⟩ u) := Below.setCell h (p := ⟨B, j, none⟩) hB u
def Ge {α : Type} (w : World) (T : TypeId) (sz : Nat) (cells : List α → List Value) (p : Option (List α)) (e : Ending) (w' : World) : Prop :=
  Gr w w' ∧ match p with
    | some x => ∃ v, e = .returned (.tuple #[v, .int .i64 0]) ∧ w'.ownsRow w.heap.size T sz v x.length (cells x)
    | none => e = .returned (.tuple #[.slice none 0 0, .int .i64 3])
theorem Ge.mkNone {α : Type} {w w' : World} {T : TypeId} {sz : Nat} {cells : List α → List Value} {p : Option (List α)} (g : Gr w w') (hp : p = none) : Ge w T sz cells p (.returned (.tuple #[.slice none 0 0, .int .i64 3])) w' := by
  subst hp; exact ⟨g, rfl⟩
theorem Ge.mkSome {α : Type} {w w' : World} {T : TypeId} {sz : Nat} {cells : List α → List Value} {p : Option (List α)} {x : List α} {v : Value} (g : Gr w w') (hp : p = some x) (ho : w'.ownsRow w.heap.size T sz v x.length (cells x)) : Ge w T sz cells p (.returned (.tuple #[v, .int .i64 0])) w' := by
  subst hp; exact ⟨g, v, rfl, ho⟩
/-- What is read of some bytes. -/
def getE (l : List UInt8) : Option (List Atr) := (pE l).bind fun x => if x.2 = [] ∧ evOk x.1 = true then some x.1 else none
set_option maxRecDepth 100000 in
set_option maxHeartbeats 4000000 in
theorem GetEvent_any (u : TypeId) (pv : Value) (l : List UInt8) (w : World) (ht : Te u pv w) :
    Calls Tryd.prog 14 #[.string (str l)] w (Ge w 37 4 acells (getE l)) := by
  have HT := Hid.mk' ht
  have hpos := ht.pos
  clear ht
  have hmf : ∀ (fn : Fn) (first cap : Array Value) (w : World), (Instr.makeFunc fn first cap).run Tryd.prog w = .ok (.func fn first cap) w := fun _ _ _ _ => rfl
  go_enter_defers Tryd.func14, Tryd.ntmps14
  go_wp2_with fail
  have gA : Gr w (((w.alloc (.cells #[.slice none 0 0] 39)).alloc (.cells #[.int .i64 0] 31)).alloc (.cells #[.string (str l)] 91)) := (((Gr.refl w).alloc _).alloc _).alloc _
  have bE : (((w.alloc (.cells #[.slice none 0 0] 39)).alloc (.cells #[.int .i64 0] 31)).alloc (.cells #[.string (str l)] 91)).heap[w.heap.size]? = some (.cells #[.slice none 0 0] 39 (0, 0)) := by
    rw [heap_alloc_old _ _ (by rw [size_alloc', size_alloc']; omega), heap_alloc_old _ _ (by rw [size_alloc']; omega)]; exact heap_alloc_new _ _
  have bK : (((w.alloc (.cells #[.slice none 0 0] 39)).alloc (.cells #[.int .i64 0] 31)).alloc (.cells #[.string (str l)] 91)).heap[w.heap.size + 1]? = some (.cells #[.int .i64 0] 31 (0, 0)) := by
    rw [heap_alloc_old _ _ (by rw [size_alloc', size_alloc']; omega)]; exact new_at (by simp)
  have bR : Rd (((w.alloc (.cells #[.slice none 0 0] 39)).alloc (.cells #[.int .i64 0] 31)).alloc (.cells #[.string (str l)] 91)) (w.heap.size + 1 + 1) l := new_at (by simp)
  have hsA : (((w.alloc (.cells #[.slice none 0 0] 39)).alloc (.cells #[.int .i64 0] 31)).alloc (.cells #[.string (str l)] 91)).heap.size = w.heap.size + 3 := by simp
  obtain ⟨wA, hA⟩ : ∃ wA, wA = (((w.alloc (.cells #[.slice none 0 0] 39)).alloc (.cells #[.int .i64 0] 31)).alloc (.cells #[.string (str l)] 91)) := ⟨_, rfl⟩
  rw [← hA] at gA bE bK bR hsA ⊢
  clear hA
  refine (readEvent_any u pv (w.heap.size + 1 + 1) l wA (by omega) (by omega) bR (HT.out.gr gA)).mono ?_
  rintro e w4 ⟨g4, q4⟩
  have E4 := Hid.mk' (grown_block g4 bE (by simp; omega))
  have K4 := Hid.mk' (grown_block g4 bK (by simp))
  have G4 := Hid.mk' (gr_of gA g4 (by omega))
  have hw4 : w.heap.size + 3 ≤ w4.heap.size := by have := g4.size; omega
  have ce : w4.cell? ⟨w.heap.size, 0, none⟩ = some (.slice none 0 0) := by rw [cell_of_row _ _ _ _ _ _ E4.out]; rfl
  have ck : w4.cell? ⟨w.heap.size + 1, 0, none⟩ = some (.int .i64 0) := by rw [cell_of_row _ _ _ _ _ _ K4.out]; rfl
  have fe : w4.frozen? ⟨w.heap.size, 0, none⟩ = false := frozen_of_row _ _ _ _ _ E4.out
  have fk : w4.frozen? ⟨w.heap.size + 1, 0, none⟩ = false := frozen_of_row _ _ _ _ _ K4.out
  cases h1 : pE l with
  | none =>
    rw [h1] at q4
    have q4 : e = .panicked (PP u pv) := q4
    subst q4
    have HP : Hid (getE l = none) := by
      show _ = _
      simp [getE, h1]
    go_wp2_with fail
    refine leaves_cons (f := 35) (args := #[.pointer (some ⟨w.heap.size, 0, none⟩), .pointer (some ⟨w.heap.size + 1, 0, none⟩)]) (by simp) (by simp [go_sem]) ?_
    refine (catchE_panic ⟨w.heap.size, 0, none⟩ ⟨w.heap.size + 1, 0, none⟩ _ _ u pv [] _ ce fe ck fk (by simp)).mono ?_
    rintro e u' w'' ⟨rfl, rfl, rfl⟩
    have HG := Hid.mk' (gr_set (j := 0) (gr_set (j := 0) G4.out (Nat.le_refl _) (.slice none 0 0)) (Nat.le_succ _) (.int .i64 3))
    simp [Leaves, settle, results, Tryd.results14, go_sem, ce, ck]
    exact Ge.mkNone HG.out HP.out
  | some z =>
    obtain ⟨x, r⟩ := z
    rw [h1] at q4
    obtain ⟨v, rfl, o4, d4⟩ : ∃ v, e = .returned v ∧ w4.ownsRow wA.heap.size 37 4 v x.length (acells x) ∧ Rd w4 (w.heap.size + 1 + 1) r := q4
    obtain ⟨va, vk, rfl, _⟩ := owns_shape o4
    have O4 := Hid.mk' o4
    have cr : w4.cell? ⟨w.heap.size + 1 + 1, 0, none⟩ = some (.string (str r)) := by rw [cell_of_row _ _ _ _ _ _ d4]; rfl
    have HNE := Hid.mk' (own_ne o4 E4.out (by decide))
    have HNK := Hid.mk' (own_ne o4 K4.out (by decide))
    obtain ⟨hwf, hxl⟩ := pE_wf h1
    have HWF := Hid.mk' hwf
    clear o4 d4 g4 hwf bR bE bK
    cases r with
    | cons c t =>
      have HP : Hid (getE l = none) := by
        show _ = _
        simp [getE, h1]
      have hsz : (str (c :: t)).toList = c :: t := by rw [ByteArray.toList_eq]; simp [str]
      go_wp2_with fail
      refine leaves_cons (f := 35) (args := #[.pointer (some ⟨w.heap.size, 0, none⟩), .pointer (some ⟨w.heap.size + 1, 0, none⟩)]) (by simp) (by simp [go_sem]) ?_
      refine (catchE_idle ⟨w.heap.size, 0, none⟩ ⟨w.heap.size + 1, 0, none⟩ _).mono ?_
      rintro e u' w'' ⟨rfl, rfl, rfl⟩
      have HG := Hid.mk' (gr_set (j := 0) (gr_set (j := 0) (gr_set (j := 0) G4.out (Nat.le_refl _) (.slice va x.length vk)) (Nat.le_refl _) (.slice none 0 0)) (Nat.le_succ _) (.int .i64 3))
      simp [Leaves, settle, results, Tryd.results14, go_sem, ce, ck]
      exact Ge.mkNone HG.out HP.out
    | nil =>
      have hsz : (str []).toList = [] := by rw [ByteArray.toList_eq]; rfl
      have EV : Hid (EvAt (w4.setCell ⟨w.heap.size, 0, none⟩ (.slice va x.length vk)) va x) := by
        obtain ⟨ad, cap, he, hev⟩ := owns_attrs (owns_set (j := 0) O4.out E4.out (by decide) (.slice va x.length vk))
        injection he with h1' _ h2'
        subst h1'
        exact hev
      cases hok : evOk x with
      | false =>
        have HP : Hid (getE l = none) := by
          show _ = _
          simp [getE, h1, hok]
        have hc : chkE x = 1 := by simp [chkE, hok]
        go_wp2_with fail
        refine (CheckE x va vk _ (by unfold maxLen; omega) EV.out HWF.out).mono ?_
        rw [hc]
        rintro e w5 ⟨rfl, g5⟩
        have E5 := Hid.mk' (blk_gr g5 (blk_set_same (j := 0) E4.out (.slice va x.length vk)))
        have K5 := Hid.mk' (blk_gr g5 (blk_set K4.out (p := ⟨w.heap.size, 0, none⟩) (show w.heap.size + 1 ≠ w.heap.size by omega) (.slice va x.length vk)))
        have O5 := Hid.mk' (ownsGr (owns_set (j := 0) O4.out E4.out (by decide) (.slice va x.length vk)) g5)
        have G5 := Hid.mk' (Gr.call (gr_set (j := 0) G4.out (Nat.le_refl _) (.slice va x.length vk)) g5)
        clear ce ck fe fk cr
        have ce : w5.cell? ⟨w.heap.size, 0, none⟩ = some (.slice va x.length vk) := by rw [cell_of_row _ _ _ _ _ _ E5.out]; rfl
        have ck : w5.cell? ⟨w.heap.size + 1, 0, none⟩ = some (.int .i64 0) := by rw [cell_of_row _ _ _ _ _ _ K5.out]; rfl
        have fe : w5.frozen? ⟨w.heap.size, 0, none⟩ = false := frozen_of_row _ _ _ _ _ E5.out
        have fk : w5.frozen? ⟨w.heap.size + 1, 0, none⟩ = false := frozen_of_row _ _ _ _ _ K5.out
        go_wp2_with fail
        refine leaves_cons (f := 35) (args := #[.pointer (some ⟨w.heap.size, 0, none⟩), .pointer (some ⟨w.heap.size + 1, 0, none⟩)]) (by simp) (by simp [go_sem]) ?_
        refine (catchE_idle ⟨w.heap.size, 0, none⟩ ⟨w.heap.size + 1, 0, none⟩ _).mono ?_
        rintro e u' w'' ⟨rfl, rfl, rfl⟩
        have HG := Hid.mk' (gr_set (j := 0) (gr_set (j := 0) G5.out (Nat.le_refl _) (.slice none 0 0)) (Nat.le_succ _) (.int .i64 3))
        simp [Leaves, settle, results, Tryd.results14, go_sem, ce, ck]
        exact Ge.mkNone HG.out HP.out
      | true =>
        have HP : Hid (getE l = some x) := by
          show _ = _
          simp [getE, h1, hok]
        have hc : chkE x = 0 := by simp [chkE, hok]
        go_wp2_with fail
        refine (CheckE x va vk _ (by unfold maxLen; omega) EV.out HWF.out).mono ?_
        rw [hc]
        rintro e w5 ⟨rfl, g5⟩
        have E5 := Hid.mk' (blk_gr g5 (blk_set_same (j := 0) E4.out (.slice va x.length vk)))
        have K5 := Hid.mk' (blk_gr g5 (blk_set K4.out (p := ⟨w.heap.size, 0, none⟩) (show w.heap.size + 1 ≠ w.heap.size by omega) (.slice va x.length vk)))
        have O5 := Hid.mk' (ownsGr (owns_set (j := 0) O4.out E4.out (by decide) (.slice va x.length vk)) g5)
        have G5 := Hid.mk' (Gr.call (gr_set (j := 0) G4.out (Nat.le_refl _) (.slice va x.length vk)) g5)
        clear ce ck fe fk cr
        have ce : w5.cell? ⟨w.heap.size, 0, none⟩ = some (.slice va x.length vk) := by rw [cell_of_row _ _ _ _ _ _ E5.out]; rfl
        have ck : w5.cell? ⟨w.heap.size + 1, 0, none⟩ = some (.int .i64 0) := by rw [cell_of_row _ _ _ _ _ _ K5.out]; rfl
        have fe : w5.frozen? ⟨w.heap.size, 0, none⟩ = false := frozen_of_row _ _ _ _ _ E5.out
        have fk : w5.frozen? ⟨w.heap.size + 1, 0, none⟩ = false := frozen_of_row _ _ _ _ _ K5.out
        go_wp2_with fail
        refine leaves_cons (f := 35) (args := #[.pointer (some ⟨w.heap.size, 0, none⟩), .pointer (some ⟨w.heap.size + 1, 0, none⟩)]) (by simp) (by simp [go_sem]) ?_
        refine (catchE_idle ⟨w.heap.size, 0, none⟩ ⟨w.heap.size + 1, 0, none⟩ _).mono ?_
        rintro e u' w'' ⟨rfl, rfl, rfl⟩
        have HG := Hid.mk' (gr_set (j := 0) (gr_set (j := 0) G5.out (Nat.le_refl _) (.slice va x.length vk)) (Nat.le_succ _) (.int .i64 0))
        have OF := Hid.mk' (owns_set (j := 0) (owns_set (j := 0) O5.out E5.out (by decide) (.slice va x.length vk)) (blk_set K5.out (p := ⟨w.heap.size, 0, none⟩) (show w.heap.size + 1 ≠ w.heap.size by omega) (.slice va x.length vk)) (by decide) (.int .i64 0))
        simp [Leaves, settle, results, Tryd.results14, go_sem, ce, ck]
        exact Ge.mkSome HG.out HP.out (owns_base2 OF.out (by omega))
end Go.Proofs.YtecnfgikbmcgoaaDoor
