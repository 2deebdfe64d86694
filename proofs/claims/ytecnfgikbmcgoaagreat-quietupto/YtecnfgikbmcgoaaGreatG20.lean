import Derived.Test.YtecnfgikbmcgoaaGreatG17
namespace Go.Proofs.YtecnfgikbmcgoaaGreat
open Go.RowKit Go.Sort Go.Shelf Go.Lib
open Go.Maps (Keyed)
open Go.ChangeMaps (setBlock)

instance : Inhabited Hw := ⟨⟨(0, 0), [], 0⟩⟩
def hcell (x : Hm) : List Value := [.int .i64 x.1.key.1, .int .i64 x.1.key.2, .slice x.2.1 x.1.f.length x.2.2, .int .i64 x.1.fr]
def hcells (l : List Hm) : List Value := l.flatMap hcell
theorem hcells_snoc (l : List Hm) (x : Hm) : hcells (l ++ [x]) = hcells l ++ [.int .i64 x.1.key.1, .int .i64 x.1.key.2, .slice x.2.1 x.1.f.length x.2.2, .int .i64 x.1.fr] := by simp [hcells, hcell]
theorem Tryz.infoHold : (Tryz.prog.info? 121).map (fun i => (i.zero, i.size, i.bytes)) = some (some (.agg #[.int .i64 0, .int .i64 0, .slice none 0 0, .int .i64 0]), 4, 48) := by kernel_rfl
set_option maxRecDepth 100000 in
set_option maxHeartbeats 1000000 in
theorem byKey_x (x y : Hm) (w : World) : Calls Tryz.prog 114 #[.agg #[.int .i64 x.1.key.1, .int .i64 x.1.key.2, .slice x.2.1 x.1.f.length x.2.2, .int .i64 x.1.fr], .agg #[.int .i64 y.1.key.1, .int .i64 y.1.key.2, .slice y.2.1 y.1.f.length y.2.2, .int .i64 y.1.fr]] w fun e w' => e = .returned (.int .i64 (cK x.1.key y.1.key)) ∧ Gx w w' := by
  go_enter Tryz.func114, Tryz.ntmps114
  go_wp2_with fail
  refine (compareKeys_x x.1.key y.1.key _).mono ?_
  rintro e w1 ⟨rfl, g1⟩
  have G1 := Hid.mk' ((((Gx.refl w).alloc _).alloc _).trans g1)
  clear g1
  go_wp2_with fail
  go_ret
  exact ⟨rfl, G1.out⟩
def cH (x y : Hm) : Int := cK x.1.key y.1.key
theorem ltH (x y : Hm) : ltOf cH x y = klt x.1.key y.1.key := by unfold ltOf; exact cK_lt _ _
theorem swoH : SWO (ltOf cH) where
  irrefl x := by rw [ltH]; exact klt_irr _
  trans x y z h1 h2 := by rw [ltH] at *; exact klt_trans h1 h2
  ntrans x y z h1 h2 := by
    have := swoK.ntrans x.1.key y.1.key z.1.key
    simp only [ltK] at this
    rw [ltH] at *
    exact this h1 h2
theorem cmpH (blk off size : Nat) (w : World) : CmpLays Tryz.prog 114 #[] hcell 4 cH blk off size w :=
  fun _ _ _ _ x y => byKey_x x y _
set_option maxHeartbeats 1000000 in
theorem sortHolds_some (L : List Hm) (g cap : Nat) (w0 w : World) (hn : L.length < 4611686018427387904) (hg : Gr w0 w) (h : w.ownsRow w0.heap.size 121 4 (.slice (some ⟨g, 0, none⟩) L.length cap) L.length (hcells L)) :
    Calls Tryz.prog 113 #[.slice (some ⟨g, 0, none⟩) L.length cap, .func (.func 114) #[] #[]] w fun e w' => e = .returned (.tuple #[]) ∧ ∃ L', L'.Perm L ∧ L'.Pairwise (fun x y => klt y.1.key x.1.key = false) ∧ w'.ownsRow w0.heap.size 121 4 (.slice (some ⟨g, 0, none⟩) L'.length cap) L'.length (hcells L') ∧ Gr w0 w' := by
  have eg : ∀ args w, (callFunc 114 args).run Tryz.prog w = .ok (.enter 114 args) w := enters_of Tryz.func114 (by kernel_rfl) rfl
  have hlt : g < w.heap.size := by
    rcases h.2 with ⟨hv, _⟩ | ⟨b, cap', cur, hv, hb, hh, _⟩
    · cases hv
    · simp only [Value.slice.injEq, Option.some.injEq, Addr.mk.injEq, and_true, true_and] at hv
      rw [hv.1]; exact blk_lt hh
  have hcon := AnyQ.slices_SortFunc Tryz.sortH 4 Tryz.isAgg121 Tryz.sizeOf121 hcell (fun _ => rfl) (fun x v hv => by simp [hcell] at hv; rcases hv with rfl | rfl | rfl | rfl <;> rfl) cH swoH 114 #[] g 0 cap L.toArray w eg (cmpH g 0 L.toArray.size w) (holds_of (enc := hcell) (k := 4) (fun _ => rfl) (by decide) h) hlt (by simpa using hn)
  simp only [List.size_toArray] at hcon
  refine hcon.mono ?_
  rintro e w' ⟨rfl, d', m, os, hp, hs, rfl⟩
  have hsz : d'.size = L.length := by have := hp.1; simpa using this
  have hd : d' = d'.toList.toArray := by simp
  have hperm : d'.toList.Perm L := by
    have h2 := hp.2.2
    rw [← hsz] at h2
    have e1 : d'.extract 0 d'.size = d' := Array.extract_size
    have e2 : L.toArray.extract 0 d'.size = L.toArray := by rw [hsz]; simp
    rw [e1, e2] at h2
    simpa using h2
  refine ⟨rfl, d'.toList, hperm, ?_, ?_⟩
  · rw [List.pairwise_iff_getElem]
    intro i j hi hj hij
    have := hs i j (Nat.zero_le _) hij (by simpa [hsz] using hj)
    rw [ltH, getElem!_pos d' j (by simpa using hj), getElem!_pos d' i (by simpa using hi)] at this
    simpa using this
  · have := sorted_row (enc := hcell) (k := 4) (fun _ => rfl) (by decide) (m := m) (os := os) (d := L) (d' := d'.toList) (by simpa using hsz) hg h
    rw [← hd] at this
    exact this
set_option maxRecDepth 100000 in
set_option maxHeartbeats 1000000 in
theorem insH0 (ad : Option Addr) (cap : Nat) (w : World) :
    Calls Tryz.prog 148 #[.slice ad 0 cap, .int .i64 0, .int .i64 0, .func (.func 114) #[] #[]] w fun e w' => e = .returned (.tuple #[]) ∧ Gr w w' := by
  go_enter Tryz.func148, Tryz.ntmps148
  go_wp2_with fail
  refine wp_loop_rounds 1 ?_
  rw [rounds_succ]
  go_wp2_with fail
  go_end0
  exact ⟨rfl, Gr.refl _⟩
set_option maxRecDepth 100000 in
set_option maxHeartbeats 1000000 in
theorem pdqH0 (ad : Option Addr) (cap : Nat) (l : Int) (w : World) :
    Calls Tryz.prog 138 #[.slice ad 0 cap, .int .i64 0, .int .i64 0, .int .i64 l, .func (.func 114) #[] #[]] w fun e w' => e = .returned (.tuple #[]) ∧ Gr w w' := by
  go_enter Tryz.func138, Tryz.ntmps138
  go_wp2_with fail
  refine wp_loop_rounds 1 ?_
  rw [rounds_succ]
  go_wp2_with fail
  refine (insH0 ad cap w).mono ?_
  rintro e w1 ⟨rfl, g1⟩
  go_wp2_with fail
  exact bodyPost_ret (v := .tuple #[]) (by simp [results, Tryz.results138, go_sem]) rfl ⟨rfl, g1⟩
set_option maxRecDepth 100000 in
set_option maxHeartbeats 1000000 in
theorem sortHolds_none (ad : Option Addr) (cap : Nat) (w : World) :
    Calls Tryz.prog 113 #[.slice ad 0 cap, .func (.func 114) #[] #[]] w fun e w' => e = .returned (.tuple #[]) ∧ Gr w w' := by
  go_enter Tryz.func113, Tryz.ntmps113
  go_wp2_with fail
  refine (Tryz.bits_Len 0 w (by decide) (by decide)).mono ?_
  rintro e w1 ⟨rfl, hw⟩
  have hw' := hw.symm
  clear hw
  subst hw'
  go_wp2_with fail
  refine (pdqH0 ad cap _ w).mono ?_
  rintro e w1 ⟨rfl, g1⟩
  go_wp2_with fail
  go_end0
  exact ⟨rfl, g1⟩
end Go.Proofs.YtecnfgikbmcgoaaGreat
