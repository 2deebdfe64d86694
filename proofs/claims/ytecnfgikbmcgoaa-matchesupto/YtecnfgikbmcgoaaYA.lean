import Derived.Test.YtecnfgikbmcgoaaWA
import Derived.Test.YtecnfgikbmcgoaaMl
import Derived.Deep.RegionHeld3
import Derived.Deep.RegionWith
namespace Go.Proofs.Ytecnfgikbmcgoaa
open Go.RowKit

set_option maxHeartbeats 1000000 in
theorem above_any (n : Int) (w : World) :
    Calls Try.prog 11 #[.int .i64 n] w fun e w' => e = .returned (.agg #[.string ⟨#[115, 105, 122, 101]⟩, .int .i64 6, .int .i64 1, .int .i64 n, .string ⟨#[]⟩]) ∧ Gr w w' := by
  go_enter Try.func11, Try.ntmps11
  go_wp2
  exact bodyPost_ret (v := .agg #[.string ⟨#[115, 105, 122, 101]⟩, .int .i64 6, .int .i64 1, .int .i64 n, .string ⟨#[]⟩]) (by simp [results, Try.results11, go_sem]) rfl ⟨rfl, (Gr.refl w).alloc _⟩

set_option maxHeartbeats 1000000 in
theorem lawVal_any (k n : Int) (s : ByteArray) (w : World) :
    Calls Try.prog 42 #[.agg #[.int .i64 k, .int .i64 n, .string s]] w fun e w' => e = .returned (.agg #[.int .i64 k, .int .i64 n, .string s]) ∧
      w' = (w.alloc (.cells #[.int .i64 k, .int .i64 n, .string s] 49)).alloc (.cells #[.int .i64 k, .int .i64 n, .string s] 65) := by
  go_enter Try.func42, Try.ntmps42
  go_wp2
  exact bodyPost_ret (v := .agg #[.int .i64 k, .int .i64 n, .string s]) (by simp [results, Try.results42, go_sem]) rfl ⟨rfl, rfl⟩

set_option maxHeartbeats 2000000 in
theorem lawWant_any (a : ByteArray) (y k n : Int) (s : ByteArray) (w : World) :
    Calls Try.prog 22 #[.agg #[.string a, .int .i64 y, .int .i64 k, .int .i64 n, .string s]] w fun e w' => e = .returned (.agg #[.string a, .int .i64 y, .int .i64 k, .int .i64 n, .string s]) ∧ Gr w w' := by
  go_enter Try.func22, Try.ntmps22
  go_wp2
  go_region_held3 (fun w' => w'.cell? ⟨w.heap.size, 0, none⟩ = some (.string a) ∧ w'.cell? ⟨w.heap.size, 1, none⟩ = some (.int .i64 y) ∧ w'.cell? ⟨w.heap.size, 2, none⟩ = some (.int .i64 k) ∧ w'.cell? ⟨w.heap.size, 3, none⟩ = some (.int .i64 n) ∧ w'.cell? ⟨w.heap.size, 4, none⟩ = some (.string s))
    (simp [go_sem, World.cell?_alloc_past]) (first | (go_at_call 42; refine (lawVal_any _ _ _ _).mono ?_; rintro e w1 ⟨rfl, rfl⟩))
  all_goals
    go_wp2
    refine bodyPost_ret (v := .agg #[.string a, .int .i64 y, .int .i64 k, .int .i64 n, .string s]) (by simp [results, Try.results22, go_sem]) rfl ⟨rfl, ?_⟩
    repeat (first | exact Gr.refl _ | apply Gr.drew | apply Gr.alloc)

set_option maxHeartbeats 2000000 in
theorem lawAttr_any (a : ByteArray) (k n : Int) (s : ByteArray) (w : World) :
    Calls Try.prog 32 #[.agg #[.string a, .int .i64 k, .int .i64 n, .string s]] w fun e w' => e = .returned (.agg #[.string a, .int .i64 k, .int .i64 n, .string s]) ∧ Gr w w' := by
  go_enter Try.func32, Try.ntmps32
  go_wp2
  go_region_held3 (fun w' => w'.cell? ⟨w.heap.size, 0, none⟩ = some (.string a) ∧ w'.cell? ⟨w.heap.size, 1, none⟩ = some (.int .i64 k) ∧ w'.cell? ⟨w.heap.size, 2, none⟩ = some (.int .i64 n) ∧ w'.cell? ⟨w.heap.size, 3, none⟩ = some (.string s))
    (simp [go_sem, World.cell?_alloc_past]) (first | (go_at_call 42; refine (lawVal_any _ _ _ _).mono ?_; rintro e w1 ⟨rfl, rfl⟩))
  all_goals
    go_wp2
    refine bodyPost_ret (v := .agg #[.string a, .int .i64 k, .int .i64 n, .string s]) (by simp [results, Try.results32, go_sem]) rfl ⟨rfl, ?_⟩
    repeat (first | exact Gr.refl _ | apply Gr.drew | apply Gr.alloc)
end Go.Proofs.Ytecnfgikbmcgoaa
