import Derived.Test.YtecnfgikbmcgoaaDoorG27
import Derived.Test.YtecnfgikbmcgoaaDoorG28
import Derived.Test.YtecnfgikbmcgoaaDoorCards
import Derived.Test.YtecnfgikbmcgoaaDoorTie
import Derived.Test.YtecnfgikbmcgoaaDoorG10
import Derived.Deep.DeepHandedRow
import Derived.SizedLaws
import Derived.ChangeMaps5
namespace Go.Proofs.YtecnfgikbmcgoaaDoor
open Go.RowKit

theorem nineR_any (w : World) : Calls Tryd.prog 21 #[] w fun e w' => ∃ B, e = .returned (.slice (some ⟨B, 0, none⟩) 1 1) ∧ Gr w w' ∧ w'.heap[B]? = some (.cells #[.string ⟨#[115, 105, 122, 101]⟩, .int .i64 1, .int .i64 9, .string ⟨#[]⟩] 84 (0, 0)) := by
  go_enter Tryd.func21, Tryd.ntmps21
  go_wp2_with fail
  go_ret
  exact ⟨_, rfl, (Gr.refl _).alloc _, by
    show (w.heap.push _)[w.heap.size]? = _
    simp⟩
def aboveW (n : Int) : Wnt := ⟨⟨#[115, 105, 122, 101]⟩, 6, 1, n, ⟨#[]⟩⟩
theorem nine_at {w : World} {B : Nat} (h : w.heap[B]? = some (.cells #[.string ⟨#[115, 105, 122, 101]⟩, .int .i64 1, .int .i64 9, .string ⟨#[]⟩] 84 (0, 0))) : EvAt w (some ⟨B, 0, none⟩) [nineA] := by
  refine Or.inr ⟨B, 0, rfl, blk_lt h, fun i hi => ?_⟩
  have : i = 0 := by simp at hi; omega
  subst this
  refine ⟨?_, ?_, ?_, ?_⟩ <;> (rw [cell_of_row _ _ _ _ _ _ h]; rfl)
theorem above_at {w : World} {B : Nat} {n : Int} (h : w.heap[B]? = some (.cells #[.string ⟨#[115, 105, 122, 101]⟩, .int .i64 6, .int .i64 1, .int .i64 n, .string ⟨#[]⟩] 69 (0, 0))) : FiAt w (some ⟨B, 0, none⟩) [aboveW n] := by
  refine Or.inr ⟨B, 0, rfl, blk_lt h, fun i hi => ?_⟩
  have : i = 0 := by simp at hi; omega
  subst this
  refine ⟨?_, ?_, ?_, ?_, ?_⟩ <;> (rw [cell_of_row _ _ _ _ _ _ h]; rfl)
theorem nine_ok : evOk [nineA] = true := by kernel_rfl
theorem above_ok : filterOk [aboveW 3] = true := by kernel_rfl
theorem nine_wf : ∀ z ∈ [nineA], Atr.Wf z := by
  intro z hz
  simp at hz
  subst hz
  refine ⟨?_, ?_, ?_, ?_⟩ <;> decide
theorem nine_get : getE (encE [nineA]) = some [nineA] := by
  have h := pE_enc (l := [nineA]) [] nine_ok nine_wf
  rw [List.append_nil] at h
  simp [getE, h, nine_ok]
theorem Te.below {u : TypeId} {pv : Value} {w w' : World} {base : Nat} (h : Te u pv w) (g : Below base w w') (hb : 0 < base) : Te u pv w' :=
  ⟨by rw [← h.cell]; exact g.cell (p := ⟨0, 0, none⟩) hb, Nat.lt_of_lt_of_le h.pos g.size⟩
theorem str_ex (s : ByteArray) : s = str s.data.toList := by simp [str]
set_option maxRecDepth 100000 in
set_option maxHeartbeats 4000000 in
theorem reads_any (u : TypeId) (pv : Value) (L : List UInt8) (w : World) (hL : L.length ≤ 1152921504606846976) (ht : Te u pv w) :
    Calls Tryd.prog 4 #[.string (str L)] w fun e w' => e = .returned (.bool true) ∧ Gr w w' := by
  have HT := Hid.mk' ht
  have hpos := ht.pos
  clear ht
  have ga : Gr w (w.alloc (.cells #[.slice none 0 0, .slice none 0 0, .slice none 0 0, .slice none 0 0, .slice none 0 0, .slice none 0 0] 64)) := (Gr.refl w).alloc _
  have S0 : Hid (BkS (w.alloc (.cells #[.slice none 0 0, .slice none 0 0, .slice none 0 0, .slice none 0 0, .slice none 0 0, .slice none 0 0] 64)) w.heap.size w.heap.size [] []) :=
    ⟨⟨none, 0, none, 0, heap_alloc_new w _, ⟨World.ownsRow_nil _ _ _ _, fun i hi => by simp at hi⟩, ⟨World.ownsRow_nil _ _ _ _, fun i hi => by simp at hi⟩⟩, rfl, rfl⟩
  go_enter Tryd.func4, Tryd.ntmps4
  go_wp2_with fail
  refine (nineR_any _).mono ?_
  rintro e w1 ⟨B1, rfl, g1, n1⟩
  have G1 := Hid.mk' (Gr.call ga g1)
  have N1 := Hid.mk' n1
  have S1 := Hid.mk' (S0.out.gr g1)
  clear g1 n1 S0 ga
  go_wp2_with fail
  refine (refPutEvent_any [nineA] _ _ w1 (nine_at N1.out) nine_ok).mono ?_
  rintro e w2 ⟨rfl, g2⟩
  have G2 := Hid.mk' (Gr.call G1.out g2)
  have S2 := Hid.mk' (S1.out.gr g2)
  clear g2 S1 G1 N1
  have hl2 : (encE [nineA]).length ≤ 1152921504606846976 := by decide
  go_wp2_with fail
  refine (read_any u pv (encE [nineA]) w.heap.size w.heap.size [] [] w2 hl2 (HT.out.gr G2.out) (Nat.le_refl _) G2.out.size S2.out (by decide) (by decide)).mono ?_
  rintro e w3 ⟨rfl, b3, la3, lw3, s3, h3, h3'⟩
  have B3 := Hid.mk' (Below.trans (Below.mono G2.out (Nat.le_refl _)) b3)
  have S3 := Hid.mk' s3
  have H3 := Hid.mk' (And.intro h3 h3')
  clear b3 s3 h3 h3' G2 S2
  go_wp2_with fail
  refine (above_any 3 w3).mono ?_
  rintro e w4 ⟨rfl, g4⟩
  have B4 := Hid.mk' (Below.trans B3.out (Below.mono g4 B3.out.size))
  have S4 := Hid.mk' (S3.out.gr g4)
  clear g4 S3 B3
  have gb : Gr w4 (w4.alloc (.cells #[.string ⟨#[115, 105, 122, 101]⟩, .int .i64 6, .int .i64 1, .int .i64 3, .string ⟨#[]⟩] 69)) := (Gr.refl w4).alloc _
  have N4 := Hid.mk' (heap_alloc_new w4 (.cells #[.string ⟨#[115, 105, 122, 101]⟩, .int .i64 6, .int .i64 1, .int .i64 3, .string ⟨#[]⟩] 69))
  have GB := Hid.mk' gb
  clear gb
  go_wp2_with fail
  refine (refPutFilter_any [aboveW 3] _ _ _ (above_at N4.out) above_ok).mono ?_
  rintro e w5 ⟨rfl, g5⟩
  have g45 := Gr.call GB.out g5
  have B5 := Hid.mk' (Below.trans B4.out (Below.mono g45 B4.out.size))
  have S5 := Hid.mk' (S4.out.gr g45)
  clear g45 g5 GB N4 S4 B4
  have hl5 : (encF [aboveW 3]).length ≤ 1152921504606846976 := by decide
  go_wp2_with fail
  refine (read_any u pv (encF [aboveW 3]) w.heap.size w.heap.size la3 lw3 w5 hl5 (HT.out.below B5.out hpos) (Nat.le_refl _) B5.out.size S5.out (by have := H3.out.1; simp at this; omega) (by have := H3.out.2; simp at this; omega)).mono ?_
  rintro e w6 ⟨rfl, b6, la6, lw6, s6, h6, h6'⟩
  have B6 := Hid.mk' (Below.trans B5.out b6)
  have S6 := Hid.mk' s6
  have H6 := Hid.mk' (show la6.length = 8 ∧ lw6.length = 8 from ⟨by have := H3.out.1; simp at this; omega, by have := H3.out.2; simp at this; omega⟩)
  clear b6 s6 h6 h6' B5 S5 H3
  go_wp2_with fail
  refine (nineR_any _).mono ?_
  rintro e w7 ⟨B1', rfl, g7, n7⟩
  have B7 := Hid.mk' (Below.trans B6.out (Below.mono g7 B6.out.size))
  have N7 := Hid.mk' n7
  have S7 := Hid.mk' (S6.out.gr g7)
  clear g7 n7 S6 B6
  go_wp2_with fail
  refine (refPutEvent_any [nineA] _ _ w7 (nine_at N7.out) nine_ok).mono ?_
  rintro e w8 ⟨rfl, g8⟩
  have B8 := Hid.mk' (Below.trans B7.out (Below.mono g8 B7.out.size))
  have S8 := Hid.mk' (S7.out.gr g8)
  clear g8 S7 B7 N7
  go_wp2_with fail
  refine (GetEvent_any u pv (encE [nineA]) w8 (HT.out.below B8.out hpos)).mono ?_
  rw [nine_get]
  rintro e w9 ⟨g9, v9, rfl, o9⟩
  obtain ⟨ad9, c9, rfl, -⟩ := owns_attrs o9
  have B9 := Hid.mk' (Below.trans B8.out (Below.mono g9 B8.out.size))
  have S9 := Hid.mk' (S8.out.gr g9)
  clear g9 o9 S8 B8
  go_wp2_with fail
  refine (read_any u pv L w.heap.size w.heap.size la6 lw6 w9 hL (HT.out.below B9.out hpos) (Nat.le_refl _) B9.out.size S9.out (by have := H6.out.1; omega) (by have := H6.out.2; omega)).mono ?_
  rintro e w10 ⟨rfl, b10, la10, lw10, s10, h10, h10'⟩
  have B10 := Hid.mk' (Below.trans B9.out b10)
  have S10 := Hid.mk' s10
  have H10 := Hid.mk' (show la10.length = 12 ∧ lw10.length = 12 from ⟨by have := H6.out.1; omega, by have := H6.out.2; omega⟩)
  clear b10 s10 h10 h10' B9 S9 H6
  go_wp2_with fail
  refine (read_any u pv L w.heap.size w.heap.size la10 lw10 w10 hL (HT.out.below B10.out hpos) (Nat.le_refl _) B10.out.size S10.out (by have := H10.out.1; omega) (by have := H10.out.2; omega)).mono ?_
  rintro e w11 ⟨rfl, b11, la11, lw11, s11, h11, h11'⟩
  have B11 := Hid.mk' (Below.trans B10.out b11)
  clear b11 s11 h11 h11' B10 S10 H10
  go_wp2_with fail
  go_ret
  exact ⟨rfl, B11.out⟩
end Go.Proofs.YtecnfgikbmcgoaaDoor
namespace Go.Proofs.YtecnfgikbmcgoaaDoor
open Go.ChangeShapes Go.WideShapes Go.ChangeAt Go.RowKit

theorem reads_reads (os : Os) {H : Type} (enc : TypeId × Value → H) : DataW.whole enc Tryd.prog ((laidWorld os).forCall (fun _ _ => 0) ⟨#[], #[.string ⟨#[]⟩], []⟩).memory Tryd.f4.params.toList Rows.readsSpec.vars false #[Value.string ⟨#[]⟩].toList 8 = some ([.lit (.string [])], [], []) := by kernel_rfl

set_option maxRecDepth 100000 in
theorem reads_lifted (os : Os) (started : os.Started) (H : Type) (enc : TypeId × Value → H) (F : Stop.Interp) :
    ReturnsInHanded {} Tryd.checked os 4 .any ((OpenSpec.ofChange Rows.readsSpec).preRow enc Tryd.prog Tryd.f4 Rows.readsRow.domain false Rows.readsRow.laid) (((OpenSpec.ofChange Rows.readsSpec).at F).post enc Tryd.prog Tryd.f4 false true false false) := by
  refine returnsInHanded_of_row (C := Tryd.checked) (s := OpenSpec.ofChange Rows.readsSpec) Tryd.own started (by kernel_rfl) Tryd.func4
    (witness_row_at (enc := enc) (C := Tryd.checked) false (laidWorld os) #[.string ⟨#[]⟩] rfl (by kernel_rfl) (by kernel_rfl) (by kernel_rfl)
      (OpenSpec.preRow_of_cond 8 (reads_reads os enc) (by kernel_rfl) (fun k hk => by cases hk) (by kernel_rfl) (laid_met os _))) ?_
  intro W base args ds gs before hval0 hW _ _ hsz0 hL _ _
  have hsz : (DataW.weightsEach Tryd.prog (Tryd.f4.params.toList ++ (OpenSpec.ofChange Rows.readsSpec).bare.plain.varTypes Tryd.prog) (ds ++ gs)).all (· ≤ reachBytes) = true := hsz0
  have hval : ∀ (j : Nat) t v, Tryd.f4.params[j]? = some t → args[j]? = some v → Value.okWide Tryd.prog W .any base t v := hval0
  have hW' := hW
  obtain ⟨p, q, hA0, hV, rfl, hfz, hnd⟩ := hW
  have hA : DataW.TrodAll enc Tryd.prog W 0 (fun _ => true) true Tryd.f4.params.toList args.toList ds p := hA0
  rw [Tryd.params4] at hA hval hsz
  obtain ⟨v0, vs0, d0, ds0, p0, q0, hargs, rfl, rfl, h0, r0⟩ := trodAll_cons hA
  obtain ⟨rfl, rfl, rfl⟩ := trodAll_nil r0
  obtain rfl : args = #[v0] := by cases args; simp_all
  obtain ⟨rfl, rfl⟩ := trodVars_none hV
  obtain ⟨s, rfl, rfl, rfl, ws⟩ := Go.ChangeMaps.open_string Tryd.underlying9 (hval 0 9 v0 rfl rfl) h0
  have l0 := sized_string hsz (j := 0) (t := 9) rfl rfl
  have hl : s.data.toList.length ≤ 1152921504606846976 := by simp only [reachBytes] at l0; omega
  obtain ⟨pv, hT⟩ := te_of hL
  clear hA0 hval0 hsz hsz0 l0
  have hw := reads_any 132 pv s.data.toList W hl hT
  rw [← str_ex] at hw
  refine hw.mono fun e W' ⟨he, bel⟩ => ?_
  subst he
  exact ⟨_, rfl, _, _, _, [], _, [], hW', trodAll_mk1 (shut_bool Tryd.underlying4 _),
    (trodAll_cons_mk (Go.ChangeMaps.shut_string Tryd.underlying9 ws) trodAll_mk0), rfl, Below.frame bel _, fun h => by cases h⟩

theorem reads_said : Rows.ReadsSaid :=
  OpenClaim.holds_of_cond 4 Tryd.f4 rfl rfl rfl rfl rfl rfl rfl ⟨rfl, rfl, rfl, rfl, rfl⟩ rfl rfl rfl rfl rfl (by kernel_rfl) Tryd.func4 (by kernel_rfl)
    (of_decide_eq_true (by kernel_rfl)) (by unfold Func.isWrapper; first | (rw [if_pos (by decide +kernel)]; kernel_rfl) | (rw [if_neg (by decide +kernel)]; exact ⟨rfl, rfl⟩))
    (fun os started H enc _ F => by rw [OpenClaim.pre_eq_preRow]; exact reads_lifted os started H enc F)

/-- No parameter wants a stand-in; the program's own looks are off. -/
theorem reads_plain (f : FuncId) (fn : Func) (hf : Tryd.pinned.checked.prog.funcNamed "herald/heraldlaw.Reads" = some f) (hfn : Tryd.pinned.checked.prog.funcs[f]? = some fn) :
    false = Tryd.pinned.checked.prog.looks [] ∧ ∀ (j : Nat) t, fn.params[j]? = some t → Tryd.pinned.checked.prog.wantsStandIn t = false := by
  obtain rfl : f = 4 := Option.some.inj ((show Tryd.prog.funcNamed "herald/heraldlaw.Reads" = some 4 by kernel_rfl).symm.trans hf) |>.symm
  obtain rfl : fn = Tryd.f4 := (Option.some.inj (Tryd.func4.symm.trans hfn)).symm
  refine ⟨by kernel_rfl, fun j t ht => ?_⟩
  rw [Tryd.params4] at ht
  obtain rfl : t = 9 := by have := Array.mem_of_getElem? ht; simp at this; omega
  exact (show Tryd.prog.wantsStandIn 9 = false by kernel_rfl)

theorem reads_holds : Rows.ReadsCardSaid :=
  Claim7.holds_tied_plain_at .later [] _ _ _ _ reads_said (fun _ h => by cases h) (by kernel_rfl) (fun _ h => by cases h) reads_row_tie rfl ⟨rfl, rfl⟩ (by kernel_rfl) rfl reads_plain (by kernel_rfl)
#print axioms reads_holds
end Go.Proofs.YtecnfgikbmcgoaaDoor
