import Derived.Test.YtecnfgikbmcgoaaDoorKeep
import Derived.Test.YtecnfgikbmcgoaaDoorWA
namespace Go.Proofs.YtecnfgikbmcgoaaDoor
open Go.RowKit

set_option maxHeartbeats 1000000 in
theorem pick_any (c n : Int) (w : World) (h1 : -9223372036854775808 ≤ c) (h2 : c ≤ 9223372036854775807) (h3 : 1 ≤ n) (h4 : n ≤ 1073741824) :
    Calls Tryd.prog 25 #[.int .i64 c, .int .i64 n] w fun e w' => e = .returned (.int .i64 (pickF c n)) ∧ w' = w := by
  by_cases hc : c < 0
  · have H : Hid (pickF c n = -(c + 1) % n) := by
      show _ = _
      simp [pickF, hc]
    go_enter Tryd.func25, Tryd.ntmps25
    go_wp2
    go_ret
    exact ⟨ret_int (by rw [H.out, ← Int.neg_tmod]; exact Int.tmod_eq_emod_of_nonneg (by omega)), rfl⟩
  · have H : Hid (pickF c n = c % n) := by
      show _ = _
      simp [pickF, hc]
    go_enter Tryd.func25, Tryd.ntmps25
    go_wp2
    go_ret
    exact ⟨ret_int (by rw [H.out]), rfl⟩

theorem ret_str {a b : ByteArray} (h : a = b) : Ending.returned (.string a) = .returned (.string b) := by rw [h]

set_option maxHeartbeats 1000000 in
theorem texts_any (n : Int) (w : World) (h1 : 0 ≤ n) (h2 : n ≤ 1073741824) :
    Calls Tryd.prog 64 #[.int .i64 n] w fun e w' => e = .returned (.string (textF n)) ∧ w' = w.alloc (.cells #[.string ⟨#[]⟩, .string ⟨#[97]⟩, .string ⟨#[97, 98]⟩, .string ⟨#[98, 97]⟩, .string ⟨#[97, 98, 97]⟩, .string ⟨#[98]⟩] 9) := by
  have h : n % 6 = 0 ∨ n % 6 = 1 ∨ n % 6 = 2 ∨ n % 6 = 3 ∨ n % 6 = 4 ∨ n % 6 = 5 := by omega
  rcases h with h | h | h | h | h | h
  all_goals
    go_enter Tryd.func64, Tryd.ntmps64
    go_wp2
    go_ret
    exact ⟨ret_str (by simp [textF, h]), rfl⟩

set_option maxHeartbeats 1000000 in
theorem keepName_any (n : Int) (w : World) (h1 : 0 ≤ n) (h2 : n ≤ 1073741824) :
    Calls Tryd.prog 47 #[.int .i64 n] w fun e w' => e = .returned (.string (nameF n)) ∧ w' = w := by
  have h : n % 3 = 0 ∨ n % 3 = 1 ∨ n % 3 = 2 := by omega
  rcases h with h | h | h
  all_goals
    go_enter Tryd.func47, Tryd.ntmps47
    go_wp2
    go_ret
    exact ⟨ret_str (by simp [nameF, h]; first | rfl | decide), rfl⟩

/-- What 'value' leaves behind: its result, and where it is a text the six texts. -/
def valW (n : Int) (w : World) : World :=
  if pickF n 60 % 3 = 1 then (w.alloc (.cells #[.int .i64 (valK n), .int .i64 (valN n), .string (valS n)] 35)).alloc (.cells #[.string ⟨#[]⟩, .string ⟨#[97]⟩, .string ⟨#[97, 98]⟩, .string ⟨#[98, 97]⟩, .string ⟨#[97, 98, 97]⟩, .string ⟨#[98]⟩] 9)
  else w.alloc (.cells #[.int .i64 (valK n), .int .i64 (valN n), .string (valS n)] 35)

set_option maxHeartbeats 1000000 in
theorem keepValue_any (n : Int) (w : World) (h1 : -9223372036854775808 ≤ n) (h2 : n ≤ 9223372036854775807) :
    Calls Tryd.prog 48 #[.int .i64 n] w fun e w' => e = .returned (.agg #[.int .i64 (valK n), .int .i64 (valN n), .string (valS n)]) ∧ w' = valW n w := by
  obtain ⟨hb1, hb2⟩ := pickF_bd n 60 (by omega)
  have h : pickF n 60 % 3 = 0 ∨ pickF n 60 % 3 = 1 ∨ pickF n 60 % 3 = 2 := by omega
  rcases h with h | h | h
  · have HK : Hid (valK n = 1 ∧ valN n = pickF n 60 / 3 % 7 - 3 ∧ valS n = ⟨#[]⟩) := by
      show _ ∧ _
      simp [valK, valN, valS, h]
    go_enter Tryd.func48, Tryd.ntmps48
    go_wp2_with fail
    refine (pick_any _ _ _ h1 h2 (by omega) (by omega)).mono ?_
    rintro e w1 ⟨rfl, rfl⟩
    go_wp2_with fail
    refine bodyPost_ret (v := .agg #[.int .i64 1, .int .i64 (pickF n 60 / 3 % 7 - 3), .string ⟨#[]⟩]) (by simp [results, Tryd.results48, go_sem]) rfl ⟨?_, ?_⟩
    · rw [HK.out.1, HK.out.2.1, HK.out.2.2]
    · rw [valW, if_neg (by omega), HK.out.1, HK.out.2.1, HK.out.2.2]
  · have HK : Hid (valK n = 2 ∧ valN n = 0 ∧ valS n = textF (pickF n 60 / 3)) := by
      show _ ∧ _
      simp [valK, valN, valS, h]
    go_enter Tryd.func48, Tryd.ntmps48
    go_wp2_with fail
    refine (pick_any _ _ _ h1 h2 (by omega) (by omega)).mono ?_
    rintro e w1 ⟨rfl, rfl⟩
    go_wp2_with fail
    refine (texts_any _ _ (by omega) (by omega)).mono ?_
    rintro e w1 ⟨rfl, rfl⟩
    go_wp2_with fail
    refine bodyPost_ret (v := .agg #[.int .i64 2, .int .i64 0, .string (textF (pickF n 60 / 3))]) (by simp [results, Tryd.results48, go_sem]) rfl ⟨?_, ?_⟩
    · rw [HK.out.1, HK.out.2.1, HK.out.2.2]
    · rw [valW, if_pos h, HK.out.1, HK.out.2.1, HK.out.2.2]
  · have HK : Hid (valK n = 3 ∧ valN n = pickF n 60 / 3 % 2 ∧ valS n = ⟨#[]⟩) := by
      show _ ∧ _
      simp [valK, valN, valS, h]
    go_enter Tryd.func48, Tryd.ntmps48
    go_wp2_with fail
    refine (pick_any _ _ _ h1 h2 (by omega) (by omega)).mono ?_
    rintro e w1 ⟨rfl, rfl⟩
    go_wp2_with fail
    refine bodyPost_ret (v := .agg #[.int .i64 3, .int .i64 (pickF n 60 / 3 % 2), .string ⟨#[]⟩]) (by simp [results, Tryd.results48, go_sem]) rfl ⟨?_, ?_⟩
    · rw [HK.out.1, HK.out.2.1, HK.out.2.2]
    · rw [valW, if_neg (by omega), HK.out.1, HK.out.2.1, HK.out.2.2]
theorem valW_gr (n : Int) (w : World) : Gr w (valW n w) := by
  unfold valW
  split
  · exact ((Gr.refl w).alloc _).alloc _
  · exact (Gr.refl w).alloc _

set_option maxHeartbeats 4000000 in
theorem keepWant_any (n : Int) (w : World) (h1 : -9223372036854775808 ≤ n) (h2 : n ≤ 9223372036854775807) :
    Calls Tryd.prog 49 #[.int .i64 n] w fun e w' => e = .returned (.agg #[.string (wantF n).a, .int .i64 (wantF n).y, .int .i64 (wantF n).k, .int .i64 (wantF n).n, .string (wantF n).s]) ∧ Gr w w' := by
  obtain ⟨hb1, hb2⟩ := pickF_bd n 1073741824 (by omega)
  have HP : Hid (pickF n 1073741824 = wk n) := rfl
  rw [HP.out] at hb1 hb2
  have HY : Hid (1 + wk n / 3 % 10 = wy n) := rfl
  have hy : 1 ≤ wy n ∧ wy n ≤ 10 := by have := HY.out; omega
  obtain ⟨hy1, hy2⟩ := hy
  have hq : 0 ≤ wk n / 30 ∧ wk n / 30 ≤ 1073741824 := by omega
  obtain ⟨hq1, hq2⟩ := hq
  have HV : Hid (∀ w, valW (wk n / 30) w = (w.alloc (.cells #[.int .i64 (valK (wk n / 30)), .int .i64 (valN (wk n / 30)), .string (valS (wk n / 30))] 35)).alloc (.cells #[.string ⟨#[]⟩, .string ⟨#[97]⟩, .string ⟨#[97, 98]⟩, .string ⟨#[98, 97]⟩, .string ⟨#[97, 98, 97]⟩, .string ⟨#[98]⟩] 9)) ∨ Hid (∀ w, valW (wk n / 30) w = w.alloc (.cells #[.int .i64 (valK (wk n / 30)), .int .i64 (valN (wk n / 30)), .string (valS (wk n / 30))] 35)) := by
    by_cases h : pickF (wk n / 30) 60 % 3 = 1
    · exact Or.inl fun w => by rw [valW, if_pos h]
    · exact Or.inr fun w => by rw [valW, if_neg h]
  have hc : wy n = 1 ∨ 8 ≤ wy n ∨ (4 ≤ wy n ∧ wy n < 8) ∨ (1 < wy n ∧ wy n < 4) := by omega
  rcases HV with HV | HV
  all_goals
    rcases hc with hc | hc | hc | hc
    · have HR : Hid (wantF n = ⟨nameF (wk n), 1, 0, 0, ⟨#[]⟩⟩) := by
        show _ = _
        rw [wantF, if_pos hc]
      go_enter Tryd.func49, Tryd.ntmps49
      go_wp2_with fail
      refine (pick_any _ _ _ h1 h2 (by omega) (by omega)).mono ?_
      rw [HP.out]
      rintro e w1 ⟨rfl, rfl⟩
      go_wp2_with fail
      refine (keepName_any _ _ (by omega) (by omega)).mono ?_
      rintro e w1 ⟨rfl, rfl⟩
      go_wp2_with fail
      rw [HY.out]
      refine (keepValue_any _ _ (by omega) (by omega)).mono ?_
      rw [HV.out]
      rintro e w1 ⟨rfl, rfl⟩
      go_wp2_with fail
      refine bodyPost_ret (v := .agg #[.string (nameF (wk n)), .int .i64 1, .int .i64 0, .int .i64 0, .string ⟨#[]⟩]) (by simp [results, Tryd.results49, go_sem]) rfl ⟨by rw [HR.out], (by repeat (first | exact Gr.refl _ | apply Gr.alloc))⟩
    · have HR : Hid (wantF n = ⟨nameF (wk n), wy n, 2, 0, textF (wk n / 30)⟩) := by
        show _ = _
        rw [wantF, if_neg (by omega), if_pos hc]
      go_enter Tryd.func49, Tryd.ntmps49
      go_wp2_with fail
      refine (pick_any _ _ _ h1 h2 (by omega) (by omega)).mono ?_
      rw [HP.out]
      rintro e w1 ⟨rfl, rfl⟩
      go_wp2_with fail
      refine (keepName_any _ _ (by omega) (by omega)).mono ?_
      rintro e w1 ⟨rfl, rfl⟩
      go_wp2_with fail
      rw [HY.out]
      refine (keepValue_any _ _ (by omega) (by omega)).mono ?_
      rw [HV.out]
      rintro e w1 ⟨rfl, rfl⟩
      go_wp2_with fail
      refine (texts_any _ _ (by omega) (by omega)).mono ?_
      rintro e w1 ⟨rfl, rfl⟩
      go_wp2_with fail
      refine bodyPost_ret (v := .agg #[.string (nameF (wk n)), .int .i64 (wy n), .int .i64 2, .int .i64 0, .string (textF (wk n / 30))]) (by simp [results, Tryd.results49, go_sem]) rfl ⟨by rw [HR.out], (by repeat (first | exact Gr.refl _ | apply Gr.alloc))⟩
    · obtain ⟨hc1, hc2⟩ := hc
      have HR : Hid (wantF n = ⟨nameF (wk n), wy n, 1, wk n / 30 % 7 - 3, ⟨#[]⟩⟩) := by
        show _ = _
        rw [wantF, if_neg (by omega), if_neg (by omega), if_pos hc1]
      go_enter Tryd.func49, Tryd.ntmps49
      go_wp2_with fail
      refine (pick_any _ _ _ h1 h2 (by omega) (by omega)).mono ?_
      rw [HP.out]
      rintro e w1 ⟨rfl, rfl⟩
      go_wp2_with fail
      refine (keepName_any _ _ (by omega) (by omega)).mono ?_
      rintro e w1 ⟨rfl, rfl⟩
      go_wp2_with fail
      rw [HY.out]
      refine (keepValue_any _ _ (by omega) (by omega)).mono ?_
      rw [HV.out]
      rintro e w1 ⟨rfl, rfl⟩
      go_wp2_with fail
      refine bodyPost_ret (v := .agg #[.string (nameF (wk n)), .int .i64 (wy n), .int .i64 1, .int .i64 (wk n / 30 % 7 - 3), .string ⟨#[]⟩]) (by simp [results, Tryd.results49, go_sem]) rfl ⟨by rw [HR.out], (by repeat (first | exact Gr.refl _ | apply Gr.alloc))⟩
    · obtain ⟨hc1, hc2⟩ := hc
      have HR : Hid (wantF n = ⟨nameF (wk n), wy n, valK (wk n / 30), valN (wk n / 30), valS (wk n / 30)⟩) := by
        show _ = _
        rw [wantF, if_neg (by omega), if_neg (by omega), if_neg (by omega)]
      go_enter Tryd.func49, Tryd.ntmps49
      go_wp2_with fail
      refine (pick_any _ _ _ h1 h2 (by omega) (by omega)).mono ?_
      rw [HP.out]
      rintro e w1 ⟨rfl, rfl⟩
      go_wp2_with fail
      refine (keepName_any _ _ (by omega) (by omega)).mono ?_
      rintro e w1 ⟨rfl, rfl⟩
      go_wp2_with fail
      rw [HY.out]
      refine (keepValue_any _ _ (by omega) (by omega)).mono ?_
      rw [HV.out]
      rintro e w1 ⟨rfl, rfl⟩
      go_wp2_with fail
      refine bodyPost_ret (v := .agg #[.string (nameF (wk n)), .int .i64 (wy n), .int .i64 (valK (wk n / 30)), .int .i64 (valN (wk n / 30)), .string (valS (wk n / 30))]) (by simp [results, Tryd.results49, go_sem]) rfl ⟨by rw [HR.out], (by repeat (first | exact Gr.refl _ | apply Gr.alloc))⟩
end Go.Proofs.YtecnfgikbmcgoaaDoor
