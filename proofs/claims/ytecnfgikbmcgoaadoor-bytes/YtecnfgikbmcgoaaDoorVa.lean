import Derived.Test.YtecnfgikbmcgoaaDoorUc
import Derived.Test.YtecnfgikbmcgoaaDoorUd
import Derived.Test.YtecnfgikbmcgoaaDoorUe
import Derived.Test.YtecnfgikbmcgoaaDoorUg
import Derived.Laws.BitsLemmas
namespace Go.Proofs.YtecnfgikbmcgoaaDoor
open Go.RowKit

/-- A number's lowest byte. -/
def b1 (n : Int) : UInt8 := UInt8.ofNat (n % 256).toNat
theorem b1_cell (n : Int) : ((b1 n).toNat : Int) = n % 256 := by
  unfold b1
  have h1 : 0 ≤ n % 256 := Int.emod_nonneg _ (by decide)
  have h2 : n % 256 < 256 := Int.emod_lt_of_pos _ (by decide)
  rw [UInt8.toNat_ofNat']
  omega
theorem conv1 (w : World) (n : Int) : (convert 80 9 (.slice (some ⟨w.heap.size, 0, none⟩) 1 1)).run Tryd.prog (w.alloc (.cells #[.int .u8 (n % 256)] 5)) = .ok (.string (str [b1 n])) (w.alloc (.cells #[.int .u8 (n % 256)] 5)) := by
  refine run_convert_bytes_back _ 80 9 5 ⟨w.heap.size, 0, none⟩ 1 [b1 n] Tryd.underlying80 Tryd.underlying5 Tryd.underlying9 (fun j hj => ?_)
  have : j = 0 := by simp at hj; omega
  subst this
  rw [Addr.add_lit, Nat.add_zero]
  simp [b1_cell]
set_option maxRecDepth 100000 in
set_option maxHeartbeats 1000000 in
theorem byteOf_any (n : Int) (w : World) : Calls Tryd.prog 37 #[.int .i64 n] w fun e w' => e = .returned (.string (str [b1 n])) ∧ Gr w w' := by
  have hc := conv1 w n
  go_enter Tryd.func37, Tryd.ntmps37
  go_wp2_with fail
  go_ret
  exact ⟨rfl, (Gr.refl w).alloc _⟩
theorem str_app (a b : List UInt8) : str a ++ str b = str (a ++ b) := by
  apply ByteArray.ext
  simp [str, ByteArray.data_append]
theorem str_app' (a : List UInt8) (s : ByteArray) : str a ++ s = str (a ++ s.data.toList) := by
  apply ByteArray.ext
  simp [str, ByteArray.data_append]
set_option maxRecDepth 100000 in
set_option maxHeartbeats 1000000 in
theorem text_any (s : ByteArray) (w : World) (hs : s.size ≤ 255) : Calls Tryd.prog 38 #[.string s] w fun e w' => e = .returned (.string (str (encS s))) ∧ Gr w w' := by
  have h0 : s.size + 1 ≤ maxLen := by unfold maxLen; omega
  have h1 := str_size [b1 (s.size : Int)]
  go_enter Tryd.func38, Tryd.ntmps38
  go_wp2_with fail
  refine (byteOf_any s.size w).mono ?_
  rintro e w1 ⟨rfl, g1⟩
  go_wp2_with fail
  go_ret
  refine ⟨?_, g1⟩
  rw [str_app']
  have hb : b1 (s.size : Int) = UInt8.ofNat s.size := by
    unfold b1
    congr 1
    omega
  rw [hb]
  rfl
theorem nb_b1 (n : Int) (q : Nat) (x : Int) (hx : x = n / 2 ^ (56 - 8 * q) % 256) : b1 x = nb n q := by
  subst hx
  unfold b1 nb
  rw [Int.emod_emod_of_dvd _ (Int.dvd_refl 256)]
theorem i64_and255 (n : Int) : bits .and .i64 n 255 = n % 256 := by
  have h255 : (BitVec.ofInt 64 255).toNat = 2 ^ 8 - 1 := by decide
  have key : (BitVec.ofInt 64 n &&& BitVec.ofInt 64 255).toNat = (n % ((2 ^ 64 : Nat) : Int)).toNat % 2 ^ 8 := by
    rw [BitVec.toNat_and, BitVec.toNat_ofInt, h255, Nat.and_two_pow_sub_one_eq_mod]
  show IntKind.i64.wrap ((BitVec.ofInt 64 n &&& BitVec.ofInt 64 255).toNat : Nat) = n % 256
  rw [key, IntKind.wrap_i64]
  omega
theorem rv_cells {w w' : World} {k n : Int} {s : ByteArray} (g : Gr (w.alloc (.cells #[.int .i64 k, .int .i64 n, .string s] 67)) w') :
    w'.cell? ⟨w.heap.size, 0, none⟩ = some (.int .i64 k) ∧ w'.cell? ⟨w.heap.size, 1, none⟩ = some (.int .i64 n) ∧ w'.cell? ⟨w.heap.size, 2, none⟩ = some (.string s) := by
  have h := fun j => g.cell (p := ⟨w.heap.size, j, none⟩) (by simp)
  rw [h, h, h]
  simp
def wN (n : Int) (q : Nat) : List UInt8 := b1 1 :: (List.range q).map (nb n)
theorem wN_size (n : Int) (q : Nat) : (str (wN n q)).size = q + 1 := by rw [str_size]; simp [wN]
theorem wN_snoc (n : Int) (q : Nat) : str (wN n q) ++ str [nb n q] = str (wN n (q + 1)) := by rw [str_app]; simp [wN, nb_snoc]
theorem one_size (b : UInt8) : (str [b]).size = 1 := rfl
set_option maxRecDepth 100000 in
set_option maxHeartbeats 4000000 in
theorem written1 (n : Int) (s : ByteArray) (w : World) : Calls Tryd.prog 39 #[.agg #[.int .i64 1, .int .i64 n, .string s]] w fun e w' => e = .returned (.string (str (encV 1 n s))) ∧ Gr w w' := by
  go_enter Tryd.func39, Tryd.ntmps39
  go_wp2_with fail
  refine (byteOf_any 1 _).mono ?_
  rintro e w1 ⟨rfl, g1⟩
  have G1 := Hid.mk' g1
  obtain ⟨c0, c1, c2⟩ := rv_cells g1
  clear g1
  go_wp2_with fail
  go_loopw [3, 4] (fun sv kv wr => ∃ q : Nat, q ≤ 8 ∧ sv = .string (str (wN n q)) ∧ kv = .int .i64 (7 - (q : Int)) ∧ Hid (Gr (w.alloc (.cells #[.int .i64 1, .int .i64 n, .string s] 67)) wr)) (fun _ kv _ => (intOf kv + 1).toNat)
  case atStart => exact ⟨0, by omega, rfl, rfl, G1⟩
  case round =>
    obtain ⟨q, hq, rfl, rfl, G⟩ := hrel
    obtain ⟨d0, d1, d2⟩ := rv_cells G.out
    by_cases hlt : q < 8
    · have h1 : (q : Int) ≤ 7 := by omega
      have h1' : q ≤ 7 := by omega
      have h2 : wrap64 (8 * (7 - (q : Int))) = ((56 - 8 * q : Nat) : Int) := by unfold wrap64; omega
      have h3 : (0 : Int) ≤ ((56 - 8 * q : Nat) : Int) := by omega
      go_wp2_with fail
      rw [i64_and255]
      have hb : b1 (n / 2 ^ (8 * (7 - q)) % 256) = nb n q := nb_b1 n q _ (by rw [show 8 * (7 - q) = 56 - 8 * q by omega])
      refine (byteOf_any _ _).mono ?_
      rintro e w2 ⟨rfl, g2⟩
      rw [hb]
      have G2 := Hid.mk' (Gr.call G.out g2)
      have hz1 := wN_size n q
      have hz2 := one_size (nb n q)
      have hm : q + 1 + 1 ≤ 9223372036854775807 := by omega
      have hap := wN_snoc n q
      clear g2
      go_wp2_with fail
      go_roundw
      case rel => exact ⟨q + 1, by omega, rfl, by go_num, G2⟩
      case measure => simp [intOf]; omega
    · have hq8 : q = 8 := by omega
      subst hq8
      go_wp2_with fail
      go_ret
      exact ⟨rfl, Gr.call ((Gr.refl w).alloc _) G.out⟩
end Go.Proofs.YtecnfgikbmcgoaaDoor
