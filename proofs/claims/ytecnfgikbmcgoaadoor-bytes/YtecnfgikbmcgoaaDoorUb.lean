import Derived.Test.YtecnfgikbmcgoaaDoorUa
namespace Go.Proofs.YtecnfgikbmcgoaaDoor
open Go.RowKit

/-- A value's bytes. -/
def encV (k n : Int) (s : ByteArray) : List UInt8 := UInt8.ofNat k.toNat :: (if k = 1 then encN n else if k = 2 then encS s else [UInt8.ofNat n.toNat])
theorem encN_len (n : Int) : (encN n).length = 8 := by simp [encN]
theorem encS_len (s : ByteArray) : (encS s).length = s.size + 1 := by simp [encS]
theorem encV_len {k n : Int} {s : ByteArray} (hs : s.size ≤ 32) : (encV k n s).length ≤ 34 := by
  unfold encV
  split
  · simp [encN_len]
  · split
    · simp [encS_len]; omega
    · simp
theorem val_size' {n : Int} {s : ByteArray} (h : valOk 2 n s = true) : s.size ≤ 32 := by
  simp [valOk] at h; omega
set_option maxRecDepth 100000 in
set_option maxHeartbeats 4000000 in
theorem putValue_any (l : List UInt8) (k n : Int) (s : ByteArray) (v : Value) (base : Nat) (w : World) (hl : l.length ≤ 1000000) (hok : valOk k n s = true) (hle : base ≤ w.heap.size) (hb : Br base w v l) :
    Calls Tryd.prog 52 #[v, .agg #[.int .i64 k, .int .i64 n, .string s]] w fun e w' => ∃ v', e = .returned v' ∧ Kp tsU base w w' ∧ Br base w' v' (l ++ encV k n s) := by
  have HB := Hid.mk' hb
  have HO := Hid.mk' hok
  obtain ⟨a, c, rfl, _⟩ := owns_shape hb
  have hkd := val_kind hok
  clear hb hok
  rcases hkd with rfl | rfl | rfl
  · have VB := Hid.mk' (new_at (W := w) (o := .cells #[.int .i64 1, .int .i64 n, .string s] 35) rfl)
    go_enter Tryd.func52, Tryd.ntmps52
    go_wp2_with (at_builtin; refine wp_bytes _ rfl _ _ rfl base l [1] _ [.int .u8 1] (w.heap.size + 1) 1 rfl rfl (new_at (by simp)) rfl rfl ((HB.out.alloc _).alloc _) (by omega) (by simp; omega) ?_)
    intro a1 k1 c1 w1 O1 B1
    have O2 := Hid.mk' O1
    have G0 : Kp tsU base (w.alloc (.cells #[.int .i64 1, .int .i64 n, .string s] 35)) w1 := ((Kp.refl tsU base _).alloc (by simp; omega) _).trans B1
    have VB1 := Hid.mk' (G0.kp _ _ _ _ VB.out (by decide))
    have B2 := Hid.mk' (((Kp.refl tsU base w).alloc hle _).trans G0)
    have c0 : w1.cell? ⟨w.heap.size, 0, none⟩ = some (.int .i64 1) := by rw [cell_of_row _ _ _ _ _ _ VB1.out]; rfl
    have c1 : w1.cell? ⟨w.heap.size, 1, none⟩ = some (.int .i64 n) := by rw [cell_of_row _ _ _ _ _ _ VB1.out]; rfl
    have c2 : w1.cell? ⟨w.heap.size, 2, none⟩ = some (.string s) := by rw [cell_of_row _ _ _ _ _ _ VB1.out]; rfl
    have hle1 : base ≤ w1.heap.size := Nat.le_trans hle B2.out.size
    clear O1 B1 G0
    go_wp2_with fail
    refine (putNumber_any (l ++ [1]) n _ base w1 (by simp; omega) hle1 O2.out).mono ?_
    rintro e w2 ⟨v2, rfl, b3, o3⟩
    have O4 := Hid.mk' o3
    obtain ⟨xa, xm, xk, rfl⟩ := owns_slice o3
    clear o3
    go_wp2_with fail
    go_ret
    exact ⟨_, rfl, B2.out.trans b3, by rw [show encV 1 n s = 1 :: encN n from rfl, List.append_cons]; exact O4.out⟩
  · have VB := Hid.mk' (new_at (W := w) (o := .cells #[.int .i64 2, .int .i64 n, .string s] 35) rfl)
    go_enter Tryd.func52, Tryd.ntmps52
    go_wp2_with (at_builtin; refine wp_bytes _ rfl _ _ rfl base l [2] _ [.int .u8 2] (w.heap.size + 1) 1 rfl rfl (new_at (by simp)) rfl rfl ((HB.out.alloc _).alloc _) (by omega) (by simp; omega) ?_)
    intro a1 k1 c1 w1 O1 B1
    have O2 := Hid.mk' O1
    have G0 : Kp tsU base (w.alloc (.cells #[.int .i64 2, .int .i64 n, .string s] 35)) w1 := ((Kp.refl tsU base _).alloc (by simp; omega) _).trans B1
    have VB1 := Hid.mk' (G0.kp _ _ _ _ VB.out (by decide))
    have B2 := Hid.mk' (((Kp.refl tsU base w).alloc hle _).trans G0)
    have c0 : w1.cell? ⟨w.heap.size, 0, none⟩ = some (.int .i64 2) := by rw [cell_of_row _ _ _ _ _ _ VB1.out]; rfl
    have c1 : w1.cell? ⟨w.heap.size, 1, none⟩ = some (.int .i64 n) := by rw [cell_of_row _ _ _ _ _ _ VB1.out]; rfl
    have c2 : w1.cell? ⟨w.heap.size, 2, none⟩ = some (.string s) := by rw [cell_of_row _ _ _ _ _ _ VB1.out]; rfl
    have hle1 : base ≤ w1.heap.size := Nat.le_trans hle B2.out.size
    clear O1 B1 G0
    have hsz : s.size ≤ 32 := val_size' HO.out
    go_wp2_with fail
    refine (putString_any (l ++ [2]) s _ base w1 (by simp; omega) (by omega) hle1 O2.out).mono ?_
    rintro e w2 ⟨v2, rfl, b3, o3, _⟩
    have O4 := Hid.mk' o3
    obtain ⟨xa, xm, xk, rfl⟩ := owns_slice o3
    clear o3
    go_wp2_with fail
    go_ret
    exact ⟨_, rfl, B2.out.trans b3, by rw [show encV 2 n s = 2 :: encS s from rfl, List.append_cons]; exact O4.out⟩
  · have VB := Hid.mk' (new_at (W := w) (o := .cells #[.int .i64 3, .int .i64 n, .string s] 35) rfl)
    go_enter Tryd.func52, Tryd.ntmps52
    go_wp2_with (at_builtin; refine wp_bytes _ rfl _ _ rfl base l [3] _ [.int .u8 3] (w.heap.size + 1) 1 rfl rfl (new_at (by simp)) rfl rfl ((HB.out.alloc _).alloc _) (by omega) (by simp; omega) ?_)
    intro a1 k1 c1 w1 O1 B1
    have O2 := Hid.mk' O1
    have G0 : Kp tsU base (w.alloc (.cells #[.int .i64 3, .int .i64 n, .string s] 35)) w1 := ((Kp.refl tsU base _).alloc (by simp; omega) _).trans B1
    have VB1 := Hid.mk' (G0.kp _ _ _ _ VB.out (by decide))
    have B2 := Hid.mk' (((Kp.refl tsU base w).alloc hle _).trans G0)
    have c0 : w1.cell? ⟨w.heap.size, 0, none⟩ = some (.int .i64 3) := by rw [cell_of_row _ _ _ _ _ _ VB1.out]; rfl
    have c1 : w1.cell? ⟨w.heap.size, 1, none⟩ = some (.int .i64 n) := by rw [cell_of_row _ _ _ _ _ _ VB1.out]; rfl
    have c2 : w1.cell? ⟨w.heap.size, 2, none⟩ = some (.string s) := by rw [cell_of_row _ _ _ _ _ _ VB1.out]; rfl
    have hle1 : base ≤ w1.heap.size := Nat.le_trans hle B2.out.size
    clear O1 B1 G0
    rcases (val_flag HO.out).1 with rfl | rfl
    · go_wp2_with (at_builtin; refine wp_bytes _ rfl _ _ rfl base (l ++ [3]) [0] _ [.int .u8 0] w1.heap.size 1 rfl rfl (heap_alloc_new _ _) rfl rfl (O2.out.alloc _) (by simp; omega) (by simp; omega) ?_)
      intro a4 k4 c4 w4 o4 b4
      have O4 := Hid.mk' o4
      have B4 := Hid.mk' ((B2.out.alloc hle1 _).trans b4)
      clear o4 b4
      go_wp2_with fail
      go_ret
      exact ⟨_, rfl, B4.out, O4.out⟩
    · go_wp2_with (at_builtin; refine wp_bytes _ rfl _ _ rfl base (l ++ [3]) [1] _ [.int .u8 1] w1.heap.size 1 rfl rfl (heap_alloc_new _ _) rfl rfl (O2.out.alloc _) (by simp; omega) (by simp; omega) ?_)
      intro a4 k4 c4 w4 o4 b4
      have O4 := Hid.mk' o4
      have B4 := Hid.mk' ((B2.out.alloc hle1 _).trans b4)
      clear o4 b4
      go_wp2_with fail
      go_ret
      exact ⟨_, rfl, B4.out, O4.out⟩
end Go.Proofs.YtecnfgikbmcgoaaDoor
