import Derived.Test.YtecnfgikbmcgoaaWC
import Derived.Test.YtecnfgikbmcgoaaImp
import Derived.LoopN
namespace Go.Proofs.Ytecnfgikbmcgoaa
open Go.RowKit

set_option maxHeartbeats 2000000 in
theorem flagsWithin_any (a : ByteArray) (y n : Int) (s a' : ByteArray) (y' n' : Int) (s' : ByteArray) (m : Int) (w : World) (hw : wayOk y 3 n s = true) (hw' : wayOk y' 3 n' s' = true) (hM : Ml m w) :
    Calls Try.prog 55 #[.agg #[.string a, .int .i64 y, .int .i64 3, .int .i64 n, .string s], .agg #[.string a', .int .i64 y', .int .i64 3, .int .i64 n', .string s']] w
      fun e w' => e = .returned (.bool (flagsB y n s y' n' s')) ∧ Gr w w' := by
  have Hv : Hid (valOk 3 0 ⟨#[]⟩ = true) := by show valOk 3 0 noText = true; simp [valOk, noText_list]
  have Hv1 : Hid (valOk 3 1 ⟨#[]⟩ = true) := by show valOk 3 1 noText = true; simp [valOk, noText_list]
  have Hw : Hid (wayOk y 3 n s = true) := hw
  have Hw' : Hid (wayOk y' 3 n' s' = true) := hw'
  clear hw hw'
  go_enter Try.func55, Try.ntmps55
  go_wp2
  refine wp_loop_rounds 3 ?_
  rw [rounds_succ]
  go_wp2_with (go_at_call 52; refine (letsBy_any _ _ _ _ _ _ _ _ m _ (by first | exact Hw.out | exact Hw'.out) (by first | exact Hv.out | exact Hv1.out) (by repeat (first | assumption | apply Ml.drew | apply Ml.alloc))).mono ?_; rintro e w3 ⟨rfl, hb3⟩; have g3 : Gr w w3 := Gr.call (by repeat (first | exact Gr.refl _ | assumption | apply Gr.drew | apply Gr.alloc)) hb3; obtain ⟨hc3, hf3⟩ := bcell hb3; have hq3 : w.heap.size + 3 ≤ w3.heap.size := (by (have := hb3.size; (try simp at this); omega)); obtain ⟨hz3, hz4, hz5⟩ := sizes3 hq3; have hM3 := g3.ml hM)
  all_goals (try rw [rounds_succ])
  all_goals go_wp2_with (go_at_call 52; refine (letsBy_any _ _ _ _ _ _ _ _ m _ (by first | exact Hw.out | exact Hw'.out) (by first | exact Hv.out | exact Hv1.out) (by repeat (first | assumption | apply Ml.drew | apply Ml.alloc))).mono ?_; rintro e w3 ⟨rfl, hb3⟩; have g3 : Gr w w3 := Gr.call (by repeat (first | exact Gr.refl _ | assumption | apply Gr.drew | apply Gr.alloc)) hb3; obtain ⟨hc3, hf3⟩ := bcell hb3; have hq3 : w.heap.size + 3 ≤ w3.heap.size := (by (have := hb3.size; (try simp at this); omega)); obtain ⟨hz3, hz4, hz5⟩ := sizes3 hq3; have hM3 := g3.ml hM)
  all_goals (try rw [rounds_succ])
  all_goals go_wp2_with fail
  all_goals
    go_ret
    refine ⟨ret_bool ?_, by assumption⟩
    go_light
    first | (simp_all [flagsB, noText]; done) | go_show
end Go.Proofs.Ytecnfgikbmcgoaa
