import Derived.Test.YtecnfgikbmcgoaaGreatG7
import Derived.Test.YtecnfgikbmcgoaaGreatG1
import Derived.Shelf.SlSortCmp.WholeK
import Derived.Ground.SlsfProg
import Derived.Test.YtecnfgikbmcgoaaGreatProg
import Derived.Test.YtecnfgikbmcgoaaGreatG9
namespace Go.Proofs.YtecnfgikbmcgoaaGreat
open Go.RowKit Go.Sort Go.Shelf

section
variable {α : Type}
theorem flat_get {enc : α → List Value} {k : Nat} (hk : ∀ x, (enc x).length = k) (h0 : 0 < k) : ∀ (l : List α) (t : Nat), (l.flatMap enc)[t]? = (l[t / k]?).bind fun x => (enc x)[t % k]?
  | [], t => by simp
  | a :: r, t => by
    rw [List.flatMap_cons]
    by_cases ht : t < k
    · rw [List.getElem?_append_left (by rw [hk]; exact ht), Nat.div_eq_of_lt ht, Nat.mod_eq_of_lt ht]; rfl
    · rw [List.getElem?_append_right (by rw [hk]; omega), hk, flat_get hk h0 r (t - k)]
      have e1 : t / k = (t - k) / k + 1 := by
        have := Nat.add_div_right (t - k) h0
        rw [Nat.sub_add_cancel (by omega)] at this; exact this
      have e2 : t % k = (t - k) % k := by
        have := Nat.add_mod_right (t - k) k
        rw [Nat.sub_add_cancel (by omega)] at this; exact this
      rw [e1, e2, List.getElem?_cons_succ]
theorem flat_len {enc : α → List Value} {k : Nat} (hk : ∀ x, (enc x).length = k) : ∀ l : List α, (l.flatMap enc).length = l.length * k
  | [] => by simp
  | a :: r => by rw [List.flatMap_cons, List.length_append, hk, flat_len hk r, List.length_cons, Nat.succ_mul]; omega
variable [Inhabited α]
theorem flatK_list {enc : α → List Value} {k : Nat} (hk : ∀ x, (enc x).length = k) (h0 : 0 < k) (d : Array α) : (flatK enc k d).toList = d.toList.flatMap enc := by
  apply List.ext_getElem?
  intro t
  rw [flat_get hk h0]
  by_cases ht : t < d.size * k
  · have h1 : t / k < d.size := (Nat.div_lt_iff_lt_mul h0).2 ht
    have h2 : t % k < k := Nat.mod_lt _ h0
    have h3 : t % k < (enc d[t / k]).length := by rw [hk]; exact h2
    have h4 : d.toList[t / k]? = some d[t / k] := by rw [Array.getElem?_toList, Array.getElem?_eq_getElem h1]
    rw [h4, Array.getElem?_toList]
    simp only [Option.bind_some, flatK, Array.getElem?_map]
    rw [Array.getElem?_range, if_pos ht, List.getElem?_eq_getElem h3]
    simp only [Option.map_some]
    rw [getElem!_pos d (t / k) h1, getElem!_pos (enc d[t / k]) (t % k) h3]
  · have h1 : ¬ t / k < d.size := fun h => ht ((Nat.div_lt_iff_lt_mul h0).1 h)
    have h4 : d.toList[t / k]? = none := by rw [Array.getElem?_toList]; exact Array.getElem?_eq_none (by omega)
    rw [h4, Array.getElem?_toList, Array.getElem?_eq_none (by rw [size_flatK]; omega)]; rfl
/-- An owned row of structs, as the sort wants it. -/
theorem holds_of {enc : α → List Value} {k : Nat} (hk : ∀ x, (enc x).length = k) (h0 : 0 < k) {w : World} {base g cap : Nat} {T : TypeId} {d : List α} (h : w.ownsRow base T k (.slice (some ⟨g, 0, none⟩) d.length cap) d.length (d.flatMap enc)) : HoldsK enc k w g 0 d.toArray := by
  intro j hj
  rw [size_flatK] at hj
  have hj' : j < d.length * k := by simpa using hj
  have e : (flatK enc k d.toArray)[j]? = (d.flatMap enc)[j]? := by rw [← Array.getElem?_toList, flatK_list hk h0]
  refine ⟨?_, World.ownsRow.frozenAt h _⟩
  rw [Nat.zero_add, World.ownsRow.cellAt h j hj', ← e]
  rw [Array.getElem?_eq_getElem (by rw [size_flatK]; simpa using hj'), getElem!_pos _ _ (by rw [size_flatK]; simpa using hj')]
  rfl
theorem take_putCells {F cur : Array Value} (h : F.size ≤ cur.size) : (putCells id 0 F cur).toList.take F.size = F.toList := by
  apply List.ext_getElem
  · simp [putCells]; omega
  · intro i h1 h2
    simp only [List.getElem_take, Array.getElem_toList, putCells, Array.getElem_mapIdx]
    have hi : i < F.size := by simpa using h2
    rw [if_pos ⟨Nat.zero_le _, by omega⟩, Nat.sub_zero, getElem!_pos F i hi]; rfl
/-- Sorted in place: the row is the caller's still, and nothing below its base has turned. -/
theorem sorted_row {enc : α → List Value} {k : Nat} (hk : ∀ x, (enc x).length = k) (h0 : 0 < k) {w0 w : World} {g cap m : Nat} {T : TypeId} {d d' : List α} {os : Array Obj} (hl : d'.length = d.length) (hg : Gr w0 w) (h : w.ownsRow w0.heap.size T k (.slice (some ⟨g, 0, none⟩) d.length cap) d.length (d.flatMap enc)) :
    (sortWorldK enc k w g 0 m d'.toArray os).ownsRow w0.heap.size T k (.slice (some ⟨g, 0, none⟩) d'.length cap) d'.length (d'.flatMap enc) ∧ Gr w0 (sortWorldK enc k w g 0 m d'.toArray os) := by
  rcases h.2 with ⟨hv, _⟩ | ⟨b, cap', cur, hv, hb, hh, hnc, hcm, hcs, htk⟩
  · cases hv
  simp only [Value.slice.injEq, Option.some.injEq, Addr.mk.injEq, and_true, true_and] at hv
  obtain ⟨rfl, rfl⟩ := hv
  have hglt : g < w.heap.size := blk_lt hh
  have hheap : (sortWorldK enc k w g 0 m d'.toArray os).heap = (w.heap.modify g (onCells (putCells id 0 (flatK enc k d'.toArray)))) ++ os := rfl
  have hsz : (flatK enc k d'.toArray).size = d'.length * k := by simp
  have hle : (flatK enc k d'.toArray).size ≤ cur.size := by rw [hsz, hcs, hl]; exact Nat.mul_le_mul_right _ hnc
  constructor
  · refine ⟨flat_len hk d', Or.inr ⟨g, cap, putCells id 0 (flatK enc k d'.toArray) cur, rfl, hb, ?_, by omega, hcm, ?_, ?_⟩⟩
    · rw [hheap, Array.getElem?_append_left (by simpa using hglt), Array.getElem?_modify, if_pos rfl, hh]; rfl
    · simp [putCells, hcs]
    · rw [← hsz, take_putCells hle, flatK_list hk h0]
  · refine ⟨hg.os, hg.tape, hg.output, ?_, fun q hq => ?_⟩
    · rw [hheap]; simp; exact Nat.le_trans hg.size (Nat.le_add_right _ _)
    · rw [hheap, Array.getElem?_append_left (by simpa using hg.lt hq), Array.getElem?_modify, if_neg (by omega)]
      exact hg.block q hq
end
end Go.Proofs.YtecnfgikbmcgoaaGreat
namespace Go.Proofs
open Go.Shelf
def Tryz.sortH_ren : Go.Shelf.Ren := ⟨fun | 6 => 113 | 15 => 109 | 14 => 138 | 28 => 135 | 29 => 136 | 20 => 148 | 21 => 149 | 22 => 150 | 23 => 151 | 24 => 152 | 25 => 153 | 26 => 154 | 27 => 155 | 46 => 166 | 47 => 144 | 48 => 145 | 49 => 167 | 50 => 168 | 57 => 175 | n => n, fun | 22 => 177 | 24 => 121 | 25 => 225 | 3 => 3 | 39 => 221 | 0 => 0 | 53 => 245 | 55 => 247 | 4 => 4 | 46 => 238 | 45 => 237 | 50 => 242 | 5 => 5 | 9 => 9 | 66 => 254 | 70 => 258 | 76 => 268 | 77 => 269 | n => n, fun | n => n⟩
theorem Tryz.sortH : Go.Proofs.SlLaysF0.n6 Tryz.prog Tryz.sortH_ren := {
  mixed := by kernel_rfl
  f6 := ⟨Tryz.f113.name, by decide, Tryz.func113.trans (congrArg some (by kernel_rfl))⟩
  f14 := ⟨Tryz.f138.name, by decide, Tryz.func138.trans (congrArg some (by kernel_rfl))⟩
  f15 := Tryz.func109.trans (congrArg some (by kernel_rfl))
  f20 := ⟨Tryz.f148.name, by decide, Tryz.func148.trans (congrArg some (by kernel_rfl))⟩
  f21 := ⟨Tryz.f149.name, by decide, Tryz.func149.trans (congrArg some (by kernel_rfl))⟩
  f22 := ⟨Tryz.f150.name, by decide, Tryz.func150.trans (congrArg some (by kernel_rfl))⟩
  f23 := ⟨Tryz.f151.name, by decide, Tryz.func151.trans (congrArg some (by kernel_rfl))⟩
  f24 := ⟨Tryz.f152.name, by decide, Tryz.func152.trans (congrArg some (by kernel_rfl))⟩
  f25 := ⟨Tryz.f153.name, by decide, Tryz.func153.trans (congrArg some (by kernel_rfl))⟩
  f26 := ⟨Tryz.f154.name, by decide, Tryz.func154.trans (congrArg some (by kernel_rfl))⟩
  f27 := ⟨Tryz.f155.name, by decide, Tryz.func155.trans (congrArg some (by kernel_rfl))⟩
  f28 := Tryz.func135.trans (congrArg some (by kernel_rfl))
  f29 := Tryz.func136.trans (congrArg some (by kernel_rfl))
  f46 := ⟨Tryz.f166.name, by decide, Tryz.func166.trans (congrArg some (by kernel_rfl))⟩
  f47 := Tryz.func144.trans (congrArg some (by kernel_rfl))
  f48 := Tryz.func145.trans (congrArg some (by kernel_rfl))
  f49 := ⟨Tryz.f167.name, by decide, Tryz.func167.trans (congrArg some (by kernel_rfl))⟩
  f50 := ⟨Tryz.f168.name, by decide, Tryz.func168.trans (congrArg some (by kernel_rfl))⟩
  f57 := ⟨Tryz.f175.name, by decide, Tryz.func175.trans (congrArg some (by kernel_rfl))⟩
  t0 := Tryz.underlying0
  a0 := Tryz.isAgg0
  z0 := Tryz.sizeOf0
  v0 := Tryz.zeroValue0
  t3 := Tryz.underlying3
  a3 := Tryz.isAgg3
  z3 := Tryz.sizeOf3
  v3 := Tryz.zeroValue3
  t4 := Tryz.underlying4
  a4 := Tryz.isAgg4
  z4 := Tryz.sizeOf4
  v4 := Tryz.zeroValue4
  t5 := Tryz.underlying5
  a5 := Tryz.isAgg5
  z5 := Tryz.sizeOf5
  v5 := Tryz.zeroValue5
  t9 := Tryz.underlying9
  a9 := Tryz.isAgg9
  z9 := Tryz.sizeOf9
  v9 := Tryz.zeroValue9
  t22 := Tryz.underlying177
  a22 := Tryz.isAgg177
  z22 := Tryz.sizeOf177
  v22 := Tryz.zeroValue177
  t25 := Tryz.underlying225
  a25 := Tryz.isAgg225
  z25 := Tryz.sizeOf225
  v25 := Tryz.zeroValue225
  t39 := Tryz.underlying221
  a39 := Tryz.isAgg221
  z39 := Tryz.sizeOf221
  v39 := Tryz.zeroValue221
  t45 := Tryz.underlying237
  a45 := Tryz.isAgg237
  z45 := Tryz.sizeOf237
  v45 := Tryz.zeroValue237
  t46 := Tryz.underlying238
  a46 := Tryz.isAgg238
  z46 := Tryz.sizeOf238
  v46 := Tryz.zeroValue238
  t50 := Tryz.underlying242
  a50 := Tryz.isAgg242
  z50 := Tryz.sizeOf242
  v50 := Tryz.zeroValue242
  t53 := Tryz.underlying245
  a53 := Tryz.isAgg245
  z53 := Tryz.sizeOf245
  v53 := Tryz.zeroValue245
  t55 := Tryz.underlying247
  a55 := Tryz.isAgg247
  z55 := Tryz.sizeOf247
  v55 := Tryz.zeroValue247
  t66 := Tryz.underlying254
  a66 := Tryz.isAgg254
  z66 := Tryz.sizeOf254
  v66 := Tryz.zeroValue254
  t70 := Tryz.underlying258
  a70 := Tryz.isAgg258
  z70 := Tryz.sizeOf258
  v70 := Tryz.zeroValue258
  t76 := Tryz.underlying268
  a76 := Tryz.isAgg268
  z76 := Tryz.sizeOf268
  v76 := Tryz.zeroValue268
  t77 := Tryz.underlying269
  a77 := Tryz.isAgg269
  z77 := Tryz.sizeOf269
  v77 := Tryz.zeroValue269 }
def Tryz.sortK_ren : Go.Shelf.Ren := ⟨fun | 6 => 77 | 15 => 109 | 14 => 108 | 28 => 135 | 29 => 136 | 20 => 127 | 21 => 128 | 22 => 129 | 23 => 130 | 24 => 131 | 25 => 132 | 26 => 133 | 27 => 134 | 46 => 143 | 47 => 144 | 48 => 145 | 49 => 146 | 50 => 147 | 57 => 165 | n => n, fun | 22 => 41 | 24 => 112 | 25 => 176 | 3 => 3 | 39 => 221 | 0 => 0 | 53 => 245 | 55 => 247 | 4 => 4 | 46 => 238 | 45 => 237 | 50 => 242 | 5 => 5 | 9 => 9 | 66 => 254 | 70 => 258 | 76 => 268 | 77 => 269 | n => n, fun | n => n⟩
theorem Tryz.sortK : Go.Proofs.SlLaysF0.n6 Tryz.prog Tryz.sortK_ren := {
  mixed := by kernel_rfl
  f6 := ⟨Tryz.f77.name, by decide, Tryz.func77.trans (congrArg some (by kernel_rfl))⟩
  f14 := ⟨Tryz.f108.name, by decide, Tryz.func108.trans (congrArg some (by kernel_rfl))⟩
  f15 := Tryz.func109.trans (congrArg some (by kernel_rfl))
  f20 := ⟨Tryz.f127.name, by decide, Tryz.func127.trans (congrArg some (by kernel_rfl))⟩
  f21 := ⟨Tryz.f128.name, by decide, Tryz.func128.trans (congrArg some (by kernel_rfl))⟩
  f22 := ⟨Tryz.f129.name, by decide, Tryz.func129.trans (congrArg some (by kernel_rfl))⟩
  f23 := ⟨Tryz.f130.name, by decide, Tryz.func130.trans (congrArg some (by kernel_rfl))⟩
  f24 := ⟨Tryz.f131.name, by decide, Tryz.func131.trans (congrArg some (by kernel_rfl))⟩
  f25 := ⟨Tryz.f132.name, by decide, Tryz.func132.trans (congrArg some (by kernel_rfl))⟩
  f26 := ⟨Tryz.f133.name, by decide, Tryz.func133.trans (congrArg some (by kernel_rfl))⟩
  f27 := ⟨Tryz.f134.name, by decide, Tryz.func134.trans (congrArg some (by kernel_rfl))⟩
  f28 := Tryz.func135.trans (congrArg some (by kernel_rfl))
  f29 := Tryz.func136.trans (congrArg some (by kernel_rfl))
  f46 := ⟨Tryz.f143.name, by decide, Tryz.func143.trans (congrArg some (by kernel_rfl))⟩
  f47 := Tryz.func144.trans (congrArg some (by kernel_rfl))
  f48 := Tryz.func145.trans (congrArg some (by kernel_rfl))
  f49 := ⟨Tryz.f146.name, by decide, Tryz.func146.trans (congrArg some (by kernel_rfl))⟩
  f50 := ⟨Tryz.f147.name, by decide, Tryz.func147.trans (congrArg some (by kernel_rfl))⟩
  f57 := ⟨Tryz.f165.name, by decide, Tryz.func165.trans (congrArg some (by kernel_rfl))⟩
  t0 := Tryz.underlying0
  a0 := Tryz.isAgg0
  z0 := Tryz.sizeOf0
  v0 := Tryz.zeroValue0
  t3 := Tryz.underlying3
  a3 := Tryz.isAgg3
  z3 := Tryz.sizeOf3
  v3 := Tryz.zeroValue3
  t4 := Tryz.underlying4
  a4 := Tryz.isAgg4
  z4 := Tryz.sizeOf4
  v4 := Tryz.zeroValue4
  t5 := Tryz.underlying5
  a5 := Tryz.isAgg5
  z5 := Tryz.sizeOf5
  v5 := Tryz.zeroValue5
  t9 := Tryz.underlying9
  a9 := Tryz.isAgg9
  z9 := Tryz.sizeOf9
  v9 := Tryz.zeroValue9
  t22 := Tryz.underlying41
  a22 := Tryz.isAgg41
  z22 := Tryz.sizeOf41
  v22 := Tryz.zeroValue41
  t25 := Tryz.underlying176
  a25 := Tryz.isAgg176
  z25 := Tryz.sizeOf176
  v25 := Tryz.zeroValue176
  t39 := Tryz.underlying221
  a39 := Tryz.isAgg221
  z39 := Tryz.sizeOf221
  v39 := Tryz.zeroValue221
  t45 := Tryz.underlying237
  a45 := Tryz.isAgg237
  z45 := Tryz.sizeOf237
  v45 := Tryz.zeroValue237
  t46 := Tryz.underlying238
  a46 := Tryz.isAgg238
  z46 := Tryz.sizeOf238
  v46 := Tryz.zeroValue238
  t50 := Tryz.underlying242
  a50 := Tryz.isAgg242
  z50 := Tryz.sizeOf242
  v50 := Tryz.zeroValue242
  t53 := Tryz.underlying245
  a53 := Tryz.isAgg245
  z53 := Tryz.sizeOf245
  v53 := Tryz.zeroValue245
  t55 := Tryz.underlying247
  a55 := Tryz.isAgg247
  z55 := Tryz.sizeOf247
  v55 := Tryz.zeroValue247
  t66 := Tryz.underlying254
  a66 := Tryz.isAgg254
  z66 := Tryz.sizeOf254
  v66 := Tryz.zeroValue254
  t70 := Tryz.underlying258
  a70 := Tryz.isAgg258
  z70 := Tryz.sizeOf258
  v70 := Tryz.zeroValue258
  t76 := Tryz.underlying268
  a76 := Tryz.isAgg268
  z76 := Tryz.sizeOf268
  v76 := Tryz.zeroValue268
  t77 := Tryz.underlying269
  a77 := Tryz.isAgg269
  z77 := Tryz.sizeOf269
  v77 := Tryz.zeroValue269 }
end Go.Proofs
namespace Go.Proofs.YtecnfgikbmcgoaaGreat
open Go.RowKit Go.Sort Go.Shelf Go.Lib

def kcell (k : Ky) : List Value := [.int .i64 k.1, .int .i64 k.2]
def kcells (l : List Ky) : List Value := l.flatMap kcell
theorem kcells_snoc (l : List Ky) (k : Ky) : kcells (l ++ [k]) = kcells l ++ [.int .i64 k.1, .int .i64 k.2] := by simp [kcells, kcell]
theorem ltK (x y : Ky) : ltOf cK x y = klt x y := by unfold ltOf; exact cK_lt x y
theorem swoK : SWO (ltOf cK) where
  irrefl x := by rw [ltK]; exact klt_irr x
  trans x y z h1 h2 := by rw [ltK] at *; exact klt_trans h1 h2
  ntrans x y z h1 h2 := by
    rw [ltK] at *
    cases h : klt x z with
    | false => rfl
    | true =>
      rcases klt_tri x y with h3 | h3 | h3
      · rw [h3] at h1; cases h1
      · subst h3; rw [h] at h2; cases h2
      · rw [klt_trans h3 h] at h2; cases h2
theorem cmpK (blk off size : Nat) (w : World) : CmpLays Tryz.prog 78 #[] kcell 2 cK blk off size w :=
  fun _ _ _ _ x y => compareKeys_x x y _
set_option maxHeartbeats 1000000 in
theorem sortKeys_some (L : List Ky) (g cap : Nat) (w0 w : World) (hn : L.length < 4611686018427387904) (hg : Gr w0 w) (h : w.ownsRow w0.heap.size 112 2 (.slice (some ⟨g, 0, none⟩) L.length cap) L.length (kcells L)) :
    Calls Tryz.prog 77 #[.slice (some ⟨g, 0, none⟩) L.length cap, .func (.func 78) #[] #[]] w fun e w' => e = .returned (.tuple #[]) ∧ ∃ L', L'.Perm L ∧ L'.Pairwise (fun x y => klt y x = false) ∧ w'.ownsRow w0.heap.size 112 2 (.slice (some ⟨g, 0, none⟩) L'.length cap) L'.length (kcells L') ∧ Gr w0 w' := by
  have eg : ∀ args w, (callFunc 78 args).run Tryz.prog w = .ok (.enter 78 args) w := enters_of Tryz.func78 (by kernel_rfl) rfl
  have hlt : g < w.heap.size := by
    rcases h.2 with ⟨hv, _⟩ | ⟨b, cap', cur, hv, hb, hh, _⟩
    · cases hv
    · simp only [Value.slice.injEq, Option.some.injEq, Addr.mk.injEq, and_true, true_and] at hv
      rw [hv.1]; exact blk_lt hh
  have hcon := AnyQ.slices_SortFunc Tryz.sortK 2 Tryz.isAgg112 Tryz.sizeOf112 kcell (fun _ => rfl) (fun x v hv => by simp [kcell] at hv; rcases hv with rfl | rfl <;> rfl) cK swoK 78 #[] g 0 cap L.toArray w eg (cmpK g 0 L.toArray.size w) (holds_of (enc := kcell) (k := 2) (fun _ => rfl) (by decide) h) hlt (by simpa using hn)
  simp only [List.size_toArray] at hcon
  refine hcon.mono ?_
  rintro e w' ⟨rfl, d', m, os, hp, hs, rfl⟩
  have hsz : d'.size = L.length := by have := hp.1; simpa using this
  have hd : d' = d'.toList.toArray := by simp
  have hperm : d'.toList.Perm L := by
    have h2 := hp.2.2
    rw [← hsz] at h2
    have e1 : d'.extract 0 d'.size = d' := Array.extract_size
    have e2 : L.toArray.extract 0 d'.size = L.toArray := by rw [hsz]; simp
    rw [e1, e2] at h2
    simpa using h2
  refine ⟨rfl, d'.toList, hperm, ?_, ?_⟩
  · rw [List.pairwise_iff_getElem]
    intro i j hi hj hij
    have := hs i j (Nat.zero_le _) hij (by simpa [hsz] using hj)
    rw [ltK, getElem!_pos d' j (by simpa using hj), getElem!_pos d' i (by simpa using hi)] at this
    simpa using this
  · have := sorted_row (enc := kcell) (k := 2) (fun _ => rfl) (by decide) (m := m) (os := os) (d := L) (d' := d'.toList) (by simpa using hsz) hg h
    rw [← hd] at this
    exact this
set_option maxRecDepth 100000 in
set_option maxHeartbeats 1000000 in
theorem insK0 (ad : Option Addr) (cap : Nat) (w : World) :
    Calls Tryz.prog 127 #[.slice ad 0 cap, .int .i64 0, .int .i64 0, .func (.func 78) #[] #[]] w fun e w' => e = .returned (.tuple #[]) ∧ Gr w w' := by
  go_enter Tryz.func127, Tryz.ntmps127
  go_wp2_with fail
  refine wp_loop_rounds 1 ?_
  rw [rounds_succ]
  go_wp2_with fail
  go_end0
  exact ⟨rfl, Gr.refl _⟩
set_option maxRecDepth 100000 in
set_option maxHeartbeats 1000000 in
theorem pdqK0 (ad : Option Addr) (cap : Nat) (l : Int) (w : World) :
    Calls Tryz.prog 108 #[.slice ad 0 cap, .int .i64 0, .int .i64 0, .int .i64 l, .func (.func 78) #[] #[]] w fun e w' => e = .returned (.tuple #[]) ∧ Gr w w' := by
  go_enter Tryz.func108, Tryz.ntmps108
  go_wp2_with fail
  refine wp_loop_rounds 1 ?_
  rw [rounds_succ]
  go_wp2_with fail
  refine (insK0 ad cap w).mono ?_
  rintro e w1 ⟨rfl, g1⟩
  go_wp2_with fail
  exact bodyPost_ret (v := .tuple #[]) (by simp [results, Tryz.results108, go_sem]) rfl ⟨rfl, g1⟩
set_option maxRecDepth 100000 in
set_option maxHeartbeats 1000000 in
theorem sortKeys_none (ad : Option Addr) (cap : Nat) (w : World) :
    Calls Tryz.prog 77 #[.slice ad 0 cap, .func (.func 78) #[] #[]] w fun e w' => e = .returned (.tuple #[]) ∧ Gr w w' := by
  go_enter Tryz.func77, Tryz.ntmps77
  go_wp2_with fail
  refine (Tryz.bits_Len 0 w (by decide) (by decide)).mono ?_
  rintro e w1 ⟨rfl, hw⟩
  have hw' := hw.symm
  clear hw
  subst hw'
  go_wp2_with fail
  refine (pdqK0 ad cap _ w).mono ?_
  rintro e w1 ⟨rfl, g1⟩
  go_wp2_with fail
  go_end0
  exact ⟨rfl, g1⟩
end Go.Proofs.YtecnfgikbmcgoaaGreat
