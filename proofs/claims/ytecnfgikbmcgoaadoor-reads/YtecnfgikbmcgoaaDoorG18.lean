import Derived.Test.YtecnfgikbmcgoaaDoorG17
import Derived.Test.YtecnfgikbmcgoaaDoorG16
namespace Go.Proofs.YtecnfgikbmcgoaaDoor
open Go.RowKit

/-- What is read of some bytes. -/
def getF (l : List UInt8) : Option (List Wnt) := (pF l).bind fun x => if x.2 = [] ∧ filterOk x.1 = true then some x.1 else none
set_option maxRecDepth 100000 in
set_option maxHeartbeats 4000000 in
theorem GetFilter_any (u : TypeId) (pv : Value) (l : List UInt8) (w : World) (ht : Te u pv w) :
    Calls Tryd.prog 17 #[.string (str l)] w (Ge w 76 5 wcells (getF l)) := by
  have HT := Hid.mk' ht
  have hpos := ht.pos
  clear ht
  have hmf : ∀ (fn : Fn) (first cap : Array Value) (w : World), (Instr.makeFunc fn first cap).run Tryd.prog w = .ok (.func fn first cap) w := fun _ _ _ _ => rfl
  go_enter_defers Tryd.func17, Tryd.ntmps17
  go_wp2_with fail
  have gA : Gr w (((w.alloc (.cells #[.slice none 0 0] 43)).alloc (.cells #[.int .i64 0] 31)).alloc (.cells #[.string (str l)] 91)) := (((Gr.refl w).alloc _).alloc _).alloc _
  have bE : (((w.alloc (.cells #[.slice none 0 0] 43)).alloc (.cells #[.int .i64 0] 31)).alloc (.cells #[.string (str l)] 91)).heap[w.heap.size]? = some (.cells #[.slice none 0 0] 43 (0, 0)) := by
    rw [heap_alloc_old _ _ (by rw [size_alloc', size_alloc']; omega), heap_alloc_old _ _ (by rw [size_alloc']; omega)]; exact heap_alloc_new _ _
  have bK : (((w.alloc (.cells #[.slice none 0 0] 43)).alloc (.cells #[.int .i64 0] 31)).alloc (.cells #[.string (str l)] 91)).heap[w.heap.size + 1]? = some (.cells #[.int .i64 0] 31 (0, 0)) := by
    rw [heap_alloc_old _ _ (by rw [size_alloc', size_alloc']; omega)]; exact new_at (by simp)
  have bR : Rd (((w.alloc (.cells #[.slice none 0 0] 43)).alloc (.cells #[.int .i64 0] 31)).alloc (.cells #[.string (str l)] 91)) (w.heap.size + 1 + 1) l := new_at (by simp)
  have hsA : (((w.alloc (.cells #[.slice none 0 0] 43)).alloc (.cells #[.int .i64 0] 31)).alloc (.cells #[.string (str l)] 91)).heap.size = w.heap.size + 3 := by simp
  obtain ⟨wA, hA⟩ : ∃ wA, wA = (((w.alloc (.cells #[.slice none 0 0] 43)).alloc (.cells #[.int .i64 0] 31)).alloc (.cells #[.string (str l)] 91)) := ⟨_, rfl⟩
  rw [← hA] at gA bE bK bR hsA ⊢
  clear hA
  refine (readFilter_any u pv (w.heap.size + 1 + 1) l wA (by omega) (by omega) bR (HT.out.gr gA)).mono ?_
  rintro e w4 ⟨g4, q4⟩
  have E4 := Hid.mk' (grown_block g4 bE (by simp; omega))
  have K4 := Hid.mk' (grown_block g4 bK (by simp))
  have G4 := Hid.mk' (gr_of gA g4 (by omega))
  have hw4 : w.heap.size + 3 ≤ w4.heap.size := by have := g4.size; omega
  have ce : w4.cell? ⟨w.heap.size, 0, none⟩ = some (.slice none 0 0) := by rw [cell_of_row _ _ _ _ _ _ E4.out]; rfl
  have ck : w4.cell? ⟨w.heap.size + 1, 0, none⟩ = some (.int .i64 0) := by rw [cell_of_row _ _ _ _ _ _ K4.out]; rfl
  have fe : w4.frozen? ⟨w.heap.size, 0, none⟩ = false := frozen_of_row _ _ _ _ _ E4.out
  have fk : w4.frozen? ⟨w.heap.size + 1, 0, none⟩ = false := frozen_of_row _ _ _ _ _ K4.out
  cases h1 : pF l with
  | none =>
    rw [h1] at q4
    have q4 : e = .panicked (PP u pv) := q4
    subst q4
    have HP : Hid (getF l = none) := by
      show _ = _
      simp [getF, h1]
    go_wp2_with fail
    refine leaves_cons (f := 40) (args := #[.pointer (some ⟨w.heap.size, 0, none⟩), .pointer (some ⟨w.heap.size + 1, 0, none⟩)]) (by simp) (by simp [go_sem]) ?_
    refine (catchF_panic ⟨w.heap.size, 0, none⟩ ⟨w.heap.size + 1, 0, none⟩ _ _ u pv [] _ ce fe ck fk (by simp)).mono ?_
    rintro e u' w'' ⟨rfl, rfl, rfl⟩
    have HG := Hid.mk' (gr_set (j := 0) (gr_set (j := 0) G4.out (Nat.le_refl _) (.slice none 0 0)) (Nat.le_succ _) (.int .i64 3))
    simp [Leaves, settle, results, Tryd.results17, go_sem, ce, ck]
    exact Ge.mkNone HG.out HP.out
  | some z =>
    obtain ⟨x, r⟩ := z
    rw [h1] at q4
    obtain ⟨v, rfl, o4, d4⟩ : ∃ v, e = .returned v ∧ w4.ownsRow wA.heap.size 76 5 v x.length (wcells x) ∧ Rd w4 (w.heap.size + 1 + 1) r := q4
    obtain ⟨va, vk, rfl, _⟩ := owns_shape o4
    have O4 := Hid.mk' o4
    have cr : w4.cell? ⟨w.heap.size + 1 + 1, 0, none⟩ = some (.string (str r)) := by rw [cell_of_row _ _ _ _ _ _ d4]; rfl
    have HNE := Hid.mk' (own_ne o4 E4.out (by decide))
    have HNK := Hid.mk' (own_ne o4 K4.out (by decide))
    obtain ⟨hwf, hxl⟩ := pF_wf h1
    have HWF := Hid.mk' hwf
    clear o4 d4 g4 hwf bR bE bK
    cases r with
    | cons c t =>
      have HP : Hid (getF l = none) := by
        show _ = _
        simp [getF, h1]
      have hsz : (str (c :: t)).toList = c :: t := by rw [ByteArray.toList_eq]; simp [str]
      go_wp2_with fail
      refine leaves_cons (f := 40) (args := #[.pointer (some ⟨w.heap.size, 0, none⟩), .pointer (some ⟨w.heap.size + 1, 0, none⟩)]) (by simp) (by simp [go_sem]) ?_
      refine (catchF_idle ⟨w.heap.size, 0, none⟩ ⟨w.heap.size + 1, 0, none⟩ _).mono ?_
      rintro e u' w'' ⟨rfl, rfl, rfl⟩
      have HG := Hid.mk' (gr_set (j := 0) (gr_set (j := 0) (gr_set (j := 0) G4.out (Nat.le_refl _) (.slice va x.length vk)) (Nat.le_refl _) (.slice none 0 0)) (Nat.le_succ _) (.int .i64 3))
      simp [Leaves, settle, results, Tryd.results17, go_sem, ce, ck]
      exact Ge.mkNone HG.out HP.out
    | nil =>
      have hsz : (str []).toList = [] := by rw [ByteArray.toList_eq]; rfl
      have EV : Hid (FiAt (w4.setCell ⟨w.heap.size, 0, none⟩ (.slice va x.length vk)) va x) := by
        obtain ⟨ad, cap, he, hev⟩ := owns_wants (owns_set (j := 0) O4.out E4.out (by decide) (.slice va x.length vk))
        injection he with h1' _ h2'
        subst h1'
        exact hev
      cases hok : filterOk x with
      | false =>
        have HP : Hid (getF l = none) := by
          show _ = _
          simp [getF, h1, hok]
        have hc : chk x = 2 := by simp [chk, hok]
        go_wp2_with fail
        refine (CheckF x va vk _ (by unfold maxLen; omega) EV.out HWF.out).mono ?_
        rw [hc]
        rintro e w5 ⟨rfl, g5⟩
        have E5 := Hid.mk' (blk_gr g5 (blk_set_same (j := 0) E4.out (.slice va x.length vk)))
        have K5 := Hid.mk' (blk_gr g5 (blk_set K4.out (p := ⟨w.heap.size, 0, none⟩) (show w.heap.size + 1 ≠ w.heap.size by omega) (.slice va x.length vk)))
        have O5 := Hid.mk' (ownsGr (owns_set (j := 0) O4.out E4.out (by decide) (.slice va x.length vk)) g5)
        have G5 := Hid.mk' (Gr.call (gr_set (j := 0) G4.out (Nat.le_refl _) (.slice va x.length vk)) g5)
        clear ce ck fe fk cr
        have ce : w5.cell? ⟨w.heap.size, 0, none⟩ = some (.slice va x.length vk) := by rw [cell_of_row _ _ _ _ _ _ E5.out]; rfl
        have ck : w5.cell? ⟨w.heap.size + 1, 0, none⟩ = some (.int .i64 0) := by rw [cell_of_row _ _ _ _ _ _ K5.out]; rfl
        have fe : w5.frozen? ⟨w.heap.size, 0, none⟩ = false := frozen_of_row _ _ _ _ _ E5.out
        have fk : w5.frozen? ⟨w.heap.size + 1, 0, none⟩ = false := frozen_of_row _ _ _ _ _ K5.out
        go_wp2_with fail
        refine leaves_cons (f := 40) (args := #[.pointer (some ⟨w.heap.size, 0, none⟩), .pointer (some ⟨w.heap.size + 1, 0, none⟩)]) (by simp) (by simp [go_sem]) ?_
        refine (catchF_idle ⟨w.heap.size, 0, none⟩ ⟨w.heap.size + 1, 0, none⟩ _).mono ?_
        rintro e u' w'' ⟨rfl, rfl, rfl⟩
        have HG := Hid.mk' (gr_set (j := 0) (gr_set (j := 0) G5.out (Nat.le_refl _) (.slice none 0 0)) (Nat.le_succ _) (.int .i64 3))
        simp [Leaves, settle, results, Tryd.results17, go_sem, ce, ck]
        exact Ge.mkNone HG.out HP.out
      | true =>
        have HP : Hid (getF l = some x) := by
          show _ = _
          simp [getF, h1, hok]
        have hc : chk x = 0 := by simp [chk, hok]
        go_wp2_with fail
        refine (CheckF x va vk _ (by unfold maxLen; omega) EV.out HWF.out).mono ?_
        rw [hc]
        rintro e w5 ⟨rfl, g5⟩
        have E5 := Hid.mk' (blk_gr g5 (blk_set_same (j := 0) E4.out (.slice va x.length vk)))
        have K5 := Hid.mk' (blk_gr g5 (blk_set K4.out (p := ⟨w.heap.size, 0, none⟩) (show w.heap.size + 1 ≠ w.heap.size by omega) (.slice va x.length vk)))
        have O5 := Hid.mk' (ownsGr (owns_set (j := 0) O4.out E4.out (by decide) (.slice va x.length vk)) g5)
        have G5 := Hid.mk' (Gr.call (gr_set (j := 0) G4.out (Nat.le_refl _) (.slice va x.length vk)) g5)
        clear ce ck fe fk cr
        have ce : w5.cell? ⟨w.heap.size, 0, none⟩ = some (.slice va x.length vk) := by rw [cell_of_row _ _ _ _ _ _ E5.out]; rfl
        have ck : w5.cell? ⟨w.heap.size + 1, 0, none⟩ = some (.int .i64 0) := by rw [cell_of_row _ _ _ _ _ _ K5.out]; rfl
        have fe : w5.frozen? ⟨w.heap.size, 0, none⟩ = false := frozen_of_row _ _ _ _ _ E5.out
        have fk : w5.frozen? ⟨w.heap.size + 1, 0, none⟩ = false := frozen_of_row _ _ _ _ _ K5.out
        go_wp2_with fail
        refine leaves_cons (f := 40) (args := #[.pointer (some ⟨w.heap.size, 0, none⟩), .pointer (some ⟨w.heap.size + 1, 0, none⟩)]) (by simp) (by simp [go_sem]) ?_
        refine (catchF_idle ⟨w.heap.size, 0, none⟩ ⟨w.heap.size + 1, 0, none⟩ _).mono ?_
        rintro e u' w'' ⟨rfl, rfl, rfl⟩
        have HG := Hid.mk' (gr_set (j := 0) (gr_set (j := 0) G5.out (Nat.le_refl _) (.slice va x.length vk)) (Nat.le_succ _) (.int .i64 0))
        have OF := Hid.mk' (owns_set (j := 0) (owns_set (j := 0) O5.out E5.out (by decide) (.slice va x.length vk)) (blk_set K5.out (p := ⟨w.heap.size, 0, none⟩) (show w.heap.size + 1 ≠ w.heap.size by omega) (.slice va x.length vk)) (by decide) (.int .i64 0))
        simp [Leaves, settle, results, Tryd.results17, go_sem, ce, ck]
        exact Ge.mkSome HG.out HP.out (owns_base2 OF.out (by omega))
end Go.Proofs.YtecnfgikbmcgoaaDoor
namespace Go.Proofs.YtecnfgikbmcgoaaDoor
open Go.RowKit

/-- The document's scan and the reader find the same. -/
structure Ag {α : Type} (s : Option (List UInt8) → α × Option (List UInt8)) (p : List UInt8 → Option (α × List UInt8)) : Prop where
  no : (s none).2 = none
  yes : ∀ r x r', p r = some (x, r') → s (some r) = (x, some r')
  bad : ∀ r, p r = none → (s (some r)).2 = none
theorem Ag.ret {α : Type} (x : α) : Ag (fun st => (x, st)) (fun r => some (x, r)) :=
  ⟨rfl, fun r y r' h => by injection h with h; injection h with h1 h2; rw [h1, h2], fun r h => by cases h⟩
theorem Ag.bind {α β : Type} {s : Option (List UInt8) → α × Option (List UInt8)} {p : List UInt8 → Option (α × List UInt8)} {s2 : α → Option (List UInt8) → β × Option (List UInt8)} {p2 : α → List UInt8 → Option (β × List UInt8)}
    (h : Ag s p) (k : ∀ x, Ag (s2 x) (p2 x)) : Ag (fun st => s2 (s st).1 (s st).2) (fun r => (p r).bind fun y => p2 y.1 y.2) := by
  refine ⟨?_, fun r x r' hp => ?_, fun r hp => ?_⟩
  · show (s2 _ (s none).2).2 = none
    rw [h.no]; exact (k _).no
  · cases hr : p r with
    | none => rw [hr] at hp; cases hp
    | some y =>
      rw [hr] at hp
      obtain ⟨y1, y2⟩ := y
      show s2 (s (some r)).1 (s (some r)).2 = _
      rw [h.yes r y1 y2 hr]
      exact (k y1).yes y2 x r' hp
  · cases hr : p r with
    | none =>
      show (s2 _ (s (some r)).2).2 = none
      rw [h.bad r hr]; exact (k _).no
    | some y =>
      rw [hr] at hp
      obtain ⟨y1, y2⟩ := y
      show (s2 (s (some r)).1 (s (some r)).2).2 = none
      rw [h.yes r y1 y2 hr]
      exact (k y1).bad y2 hp
theorem Ag.map {α β : Type} {s : Option (List UInt8) → α × Option (List UInt8)} {p : List UInt8 → Option (α × List UInt8)} (f : α → β) (h : Ag s p) : Ag (fun st => (f (s st).1, (s st).2)) (fun r => (p r).map fun z => (f z.1, z.2)) := by
  refine ⟨h.no, fun r x r' hp => ?_, fun r hp => ?_⟩
  · cases hr : p r with
    | none => rw [hr] at hp; cases hp
    | some y =>
      rw [hr] at hp
      obtain ⟨y1, y2⟩ := y
      injection hp with hp
      injection hp with h1 h2
      show (f (s (some r)).1, (s (some r)).2) = _
      rw [h.yes r y1 y2 hr, ← h1, ← h2]
  · cases hr : p r with
    | none => exact h.bad r hr
    | some y => rw [hr] at hp; cases hp
theorem agT (n : Nat) : Ag (sT n) (pT n) := by
  refine ⟨rfl, fun r x r' h => ?_, fun r h => ?_⟩
  · unfold pT at h
    split at h
    · rename_i hle
      injection h with h
      injection h with h1 h2
      simp [sT, hle, h1, h2]
    · cases h
  · unfold pT at h
    split at h
    · cases h
    · rename_i hle
      simp [sT, hle]
theorem agB : Ag sB pB := by
  refine ⟨rfl, fun r x r' h => ?_, fun r h => ?_⟩
  · cases r with
    | nil => cases h
    | cons b t => injection h with h; injection h with h1 h2; simp [sB, h1, h2]
  · cases r with
    | nil => rfl
    | cons b t => cases h
theorem pNk_eq : ∀ (k : Nat) (x : Int) (l : List UInt8), pNk k x l = (pT k l).map fun z => (z.1.foldl (fun a b => stp a b.toNat) x, z.2)
  | 0, x, l => by simp [pNk, pT]
  | k + 1, x, [] => by simp [pNk, pT, pB]
  | k + 1, x, b :: t => by
    rw [pNk]
    show pNk k (stp x b.toNat) t = _
    rw [pNk_eq k]
    unfold pT
    by_cases h : k ≤ t.length
    · simp [h]
    · simp [h]
theorem agV : Ag sV pV := by
  have h := Ag.bind (s2 := fun (y : Nat) st => if y = 1 then ((⟨1, fN (sT 8 st).1, []⟩ : Vl), (sT 8 st).2)
    else if y = 2 then ((⟨2, 0, (sT (sB st).1 (sB st).2).1⟩ : Vl), (sT (sB st).1 (sB st).2).2)
    else if y = 3 then ((⟨3, (sB st).1, []⟩ : Vl), (sB st).2)
    else ((⟨y, 0, []⟩ : Vl), st)) (p2 := fun (y : Nat) r => if y = 1 then (pN r).map fun z => ((⟨1, z.1, []⟩ : Vl), z.2)
    else if y = 2 then (pS r).map fun z => ((⟨2, 0, z.1⟩ : Vl), z.2)
    else if y = 3 then (pB r).map fun z => ((⟨3, z.1, []⟩ : Vl), z.2)
    else some ((⟨y, 0, []⟩ : Vl), r)) agB (fun y => by
      by_cases h1 : y = 1
      · have e1 : ∀ r, pN r = (pT 8 r).map fun z => (fN z.1, z.2) := fun r => pNk_eq 8 0 r
        simp only [h1, if_true, e1, Option.map_map, Function.comp_def]
        exact (agT 8).map (fun z => (⟨1, fN z, []⟩ : Vl))
      · by_cases h2 : y = 2
        · subst h2; simp only [if_true, show ¬ (2 : Nat) = 1 by decide, if_false]
          exact (agB.bind agT).map (fun z => (⟨2, 0, z⟩ : Vl))
        · by_cases h3 : y = 3
          · subst h3; simp only [if_true, show ¬ (3 : Nat) = 1 by decide, show ¬ (3 : Nat) = 2 by decide, if_false]
            exact agB.map (fun z : Nat => (⟨3, z, []⟩ : Vl))
          · simp only [h1, h2, h3, if_false]
            exact Ag.ret _)
  exact h
def sA (st : Option (List UInt8)) : Atr × Option (List UInt8) :=
  (⟨str (sT (sB st).1 (sB st).2).1, (sV (sT (sB st).1 (sB st).2).2).1.k, (sV (sT (sB st).1 (sB st).2).2).1.n, str (sV (sT (sB st).1 (sB st).2).2).1.s⟩, (sV (sT (sB st).1 (sB st).2).2).2)
theorem agA : Ag sA pA := by
  have h := (agB.bind agT).bind (s2 := fun a st => ((⟨str a, (sV st).1.k, (sV st).1.n, str (sV st).1.s⟩ : Atr), (sV st).2)) (p2 := fun a r => (pV r).map fun (v : Vl × List UInt8) => ((⟨str a, v.1.k, v.1.n, str v.1.s⟩ : Atr), v.2)) (fun a => agV.map (fun v => (⟨str a, v.k, v.n, str v.s⟩ : Atr)))
  exact h
def sW (st : Option (List UInt8)) : Wnt × Option (List UInt8) :=
  if (sB (sT (sB st).1 (sB st).2).2).1 = 1 then (⟨str (sT (sB st).1 (sB st).2).1, 1, 0, 0, str []⟩, (sB (sT (sB st).1 (sB st).2).2).2)
  else (⟨str (sT (sB st).1 (sB st).2).1, (sB (sT (sB st).1 (sB st).2).2).1, (sV (sB (sT (sB st).1 (sB st).2).2).2).1.k, (sV (sB (sT (sB st).1 (sB st).2).2).2).1.n, str (sV (sB (sT (sB st).1 (sB st).2).2).2).1.s⟩, (sV (sB (sT (sB st).1 (sB st).2).2).2).2)
theorem agW : Ag sW pW := by
  have h := (agB.bind agT).bind
    (s2 := fun a st => if (sB st).1 = 1 then ((⟨str a, 1, 0, 0, str []⟩ : Wnt), (sB st).2) else ((⟨str a, (sB st).1, (sV (sB st).2).1.k, (sV (sB st).2).1.n, str (sV (sB st).2).1.s⟩ : Wnt), (sV (sB st).2).2))
    (p2 := fun a r => (pB r).bind fun (y : Nat × List UInt8) => if y.1 = 1 then some ((⟨str a, 1, 0, 0, str []⟩ : Wnt), y.2) else (pV y.2).map fun (v : Vl × List UInt8) => ((⟨str a, y.1, v.1.k, v.1.n, str v.1.s⟩ : Wnt), v.2))
    (fun a => agB.bind (s2 := fun (y : Nat) st => if y = 1 then ((⟨str a, 1, 0, 0, str []⟩ : Wnt), st) else ((⟨str a, y, (sV st).1.k, (sV st).1.n, str (sV st).1.s⟩ : Wnt), (sV st).2))
      (p2 := fun (y : Nat) r => if y = 1 then some ((⟨str a, 1, 0, 0, str []⟩ : Wnt), r) else (pV r).map fun (v : Vl × List UInt8) => ((⟨str a, y, v.1.k, v.1.n, str v.1.s⟩ : Wnt), v.2)) (fun y => by
        by_cases h1 : y = 1
        · simp only [h1, if_true]; exact Ag.ret _
        · simp only [h1, if_false]; exact agV.map (fun v => (⟨str a, y, v.k, v.n, str v.s⟩ : Wnt))))
  exact h
def sMany {α : Type} (s : Option (List UInt8) → α × Option (List UInt8)) : Nat → Option (List UInt8) → List α × Option (List UInt8)
  | 0, st => ([], st)
  | _ + 1, none => ([], none)
  | k + 1, some r => ((s (some r)).1 :: (sMany s k (s (some r)).2).1, (sMany s k (s (some r)).2).2)
theorem sMany_none {α : Type} (s : Option (List UInt8) → α × Option (List UInt8)) : ∀ k, sMany s k none = ([], none)
  | 0 => rfl
  | _ + 1 => rfl
theorem agMany {α : Type} {s : Option (List UInt8) → α × Option (List UInt8)} {p : List UInt8 → Option (α × List UInt8)} (h : Ag s p) : ∀ k, Ag (sMany s k) (pMany p k)
  | 0 => Ag.ret _
  | k + 1 => by
    have ih := agMany h k
    refine ⟨rfl, fun r x r' hp => ?_, fun r hp => ?_⟩
    · rw [pMany] at hp
      cases hr : p r with
      | none => rw [hr] at hp; cases hp
      | some y =>
        obtain ⟨y1, y2⟩ := y
        rw [hr] at hp
        cases hm : pMany p k y2 with
        | none => simp [hm] at hp
        | some z =>
          obtain ⟨z1, z2⟩ := z
          simp [hm] at hp
          rw [sMany, h.yes r y1 y2 hr, ih.yes y2 z1 z2 hm, hp.1, hp.2]
    · rw [pMany] at hp
      cases hr : p r with
      | none =>
        rw [sMany, h.bad r hr, sMany_none]
      | some y =>
        obtain ⟨y1, y2⟩ := y
        rw [hr] at hp
        cases hm : pMany p k y2 with
        | none =>
          rw [sMany, h.yes r y1 y2 hr]
          exact ih.bad y2 hm
        | some z => simp [hm] at hp
/-- What the document finds. -/
def sL {α : Type} (s : Option (List UInt8) → α × Option (List UInt8)) (l : List UInt8) : List α × Option (List UInt8) := sMany s (sB (sB (some l)).2).1 (sB (sB (some l)).2).2
theorem sMany_some {α : Type} {s : Option (List UInt8) → α × Option (List UInt8)} {p : List UInt8 → Option (α × List UInt8)} (h : Ag s p) {k : Nat} {st : Option (List UInt8)} {r : List UInt8} (h2 : (sMany s k st).2 = some r) : ∃ r0, pMany p k r0 = some ((sMany s k st).1, r) := by
  cases st with
  | none => rw [sMany_none] at h2; cases h2
  | some r0 =>
    refine ⟨r0, ?_⟩
    cases hm : pMany p k r0 with
    | none => rw [(agMany h k).bad r0 hm] at h2; cases h2
    | some z =>
      obtain ⟨z1, z2⟩ := z
      have := (agMany h k).yes r0 z1 z2 hm
      rw [this] at h2 ⊢
      injection h2 with h2
      rw [h2]
theorem get_eq {α : Type} {s : Option (List UInt8) → α × Option (List UInt8)} {p : List UInt8 → Option (α × List UInt8)} (h : Ag s p) (ok : List α → Bool) (m : Nat) (hok : ok [] = false) (l : List UInt8) :
    (((pB l).bind fun y => if y.1 = m then (pB y.2).bind fun c => pMany p c.1 c.2 else some ([], y.2)).bind fun x => if x.2 = [] ∧ ok x.1 = true then some x.1 else none) = if (sB (some l)).1 = m ∧ (sL s l).2 = some [] ∧ ok (sL s l).1 = true then some (sL s l).1 else none := by
  cases l with
  | nil =>
    have e : sL s [] = ([], none) := rfl
    simp [pB, e]
  | cons b t =>
    show ((if b.toNat = m then _ else _ : Option _).bind _) = if b.toNat = m ∧ _ then _ else _
    by_cases hb : b.toNat = m
    · simp only [hb, if_true, true_and]
      cases t with
      | nil =>
        have e : sL s [b] = ([], none) := rfl
        simp [pB, e]
      | cons c r =>
        have e : sL s (b :: c :: r) = sMany s c.toNat (some r) := rfl
        show (pMany p c.toNat r).bind _ = _
        rw [e]
        cases hm : pMany p c.toNat r with
        | none =>
          have := (agMany h c.toNat).bad r hm
          simp [this]
        | some z =>
          obtain ⟨z1, z2⟩ := z
          rw [(agMany h c.toNat).yes r z1 z2 hm]
          simp
    · simp [hb, hok]
theorem getE_eq (l : List UInt8) : getE l = if (sB (some l)).1 = 69 ∧ (sL sA l).2 = some [] ∧ evOk (sL sA l).1 = true then some (sL sA l).1 else none := get_eq agA evOk 69 rfl l
theorem getF_eq (l : List UInt8) : getF l = if (sB (some l)).1 = 70 ∧ (sL sW l).2 = some [] ∧ filterOk (sL sW l).1 = true then some (sL sW l).1 else none := get_eq agW filterOk 70 rfl l
end Go.Proofs.YtecnfgikbmcgoaaDoor
