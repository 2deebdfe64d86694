import Derived.Test.YtecnfgikbmcgoaaWC
import Derived.Test.YtecnfgikbmcgoaaImp
namespace Go.Proofs.Ytecnfgikbmcgoaa
open Go.RowKit

set_option maxHeartbeats 2000000 in
theorem textsWithin_any (a : ByteArray) (y : Int) (s a' : ByteArray) (y' : Int) (s' : ByteArray) (m : Int) (w : World) (hw : wayOk y 2 0 s = true) (hw' : wayOk y' 2 0 s' = true) (hM : Ml m w) :
    Calls Try.prog 54 #[.agg #[.string a, .int .i64 y, .int .i64 2, .int .i64 0, .string s], .agg #[.string a', .int .i64 y', .int .i64 2, .int .i64 0, .string s']] w
      fun e w' => e = .returned (.bool (textsB y s y' s')) ∧ Gr w w' := by
  have hv : valOk 2 0 s = true := way_text hw
  have hs := val_size hv
  have Hw : Hid (wayOk y 2 0 s = true) := hw
  have Hw' : Hid (wayOk y' 2 0 s' = true) := hw'
  have Hv : Hid (valOk 2 0 s = true) := hv
  clear hw hw' hv
  go_enter Try.func54, Try.ntmps54
  go_wp2_with (go_at_call 52; refine (letsBy_any _ _ _ _ _ _ _ _ m _ Hw'.out Hv.out (by repeat (first | assumption | apply Ml.drew | apply Ml.alloc))).mono ?_; rintro e w3 ⟨rfl, hb3⟩; obtain ⟨hc3, hf3⟩ := bcell hb3; have hz3 : w.heap.size + 1 < w3.heap.size := Gr.lt hb3 (by simp))
  all_goals
    go_ret
    refine ⟨ret_bool ?_, ?_⟩
    · go_light
      try clear hc3 hf3 hb3
      try clear hM
      first | (simp_all [textsB]; done) | go_show
    · first | exact ((Gr.refl w).alloc _).alloc _ | exact Gr.call (((Gr.refl w).alloc _).alloc _) hb3
end Go.Proofs.Ytecnfgikbmcgoaa
