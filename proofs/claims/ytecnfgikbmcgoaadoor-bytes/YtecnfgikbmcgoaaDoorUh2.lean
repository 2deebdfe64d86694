import Derived.Test.YtecnfgikbmcgoaaDoorUg
namespace Go.Proofs.YtecnfgikbmcgoaaDoor
open Go.RowKit

/-- One byte more of a number. -/
def stp (x : Int) (b : Nat) : Int := wrap64 (x * 256 + b)
theorem or8 (z b : Nat) (h : b < 256) : 256 * z ||| b = 256 * z + b := by
  have := Nat.shiftLeft_add_eq_or_of_lt (i := 8) (by omega : b < 2 ^ 8) z
  rw [Nat.shiftLeft_eq, show (2 : Nat) ^ 8 = 256 by decide, Nat.mul_comm z 256] at this
  exact this.symm
theorem bits_stp (x : Int) (b : Nat) (h : b < 256) : bits .or .i64 (wrap64 (x * 256)) (b : Int) = stp x b := by
  show IntKind.i64.wrap ((BitVec.ofInt 64 (wrap64 (x * 256)) ||| BitVec.ofInt 64 (b : Int)).toNat : Int) = _
  obtain ⟨z, hz⟩ : ∃ z : Nat, (x * 256) % 18446744073709551616 = ((256 * z : Nat) : Int) := ⟨(x % 72057594037927936).toNat, by omega⟩
  have h1 : (BitVec.ofInt 64 (wrap64 (x * 256))).toNat = 256 * z := by
    rw [BitVec.toNat_ofInt]
    unfold wrap64
    have : ((2 : Nat) ^ 64 : Nat) = 18446744073709551616 := by decide
    rw [this]
    omega
  have h2 : (BitVec.ofInt 64 (b : Int)).toNat = b := by
    rw [BitVec.ofInt_natCast, BitVec.toNat_ofNat]; exact Nat.mod_eq_of_lt (by omega)
  rw [BitVec.toNat_or, h1, h2, or8 z b h, IntKind.wrap_i64]
  unfold stp wrap64
  omega
/-- So many bytes more. -/
def pNk : Nat → Int → List UInt8 → Option (Int × List UInt8)
  | 0, x, l => some (x, l)
  | k + 1, x, l => (pB l).bind fun y => pNk k (stp x y.1) y.2
def pN (l : List UInt8) : Option (Int × List UInt8) := pNk 8 0 l
set_option maxRecDepth 100000 in
set_option maxHeartbeats 4000000 in
theorem number_any (u : TypeId) (pv : Value) (R : Nat) (l : List UInt8) (w : World) (hR : 0 < R) (hr : Rd w R l) (ht : Te u pv w) :
    Calls Tryd.prog 68 #[.pointer (some ⟨R, 0, none⟩)] w (Rs u pv R w (fun x : Int => .int .i64 x) (pN l)) := by
  have HR := Hid.mk' hr
  have HT := Hid.mk' ht
  clear hr ht
  go_enter Tryd.func68, Tryd.ntmps68
  go_wp2_with fail
  go_loopw [3, 4] (fun n i wr => ∃ (q : Nat) (x : Int) (lq : List UInt8), q ≤ 8 ∧ i = .int .i64 q ∧ n = .int .i64 x ∧ Hid (w.grownBy wr (some R)) ∧ Hid (Rd wr R lq) ∧ Hid (pN l = pNk (8 - q) x lq)) (fun _ i _ => 8 - (intOf i).toNat)
  case atStart => exact ⟨0, 0, l, by omega, rfl, rfl, grown_refl _ _, HR, rfl⟩
  case round =>
    obtain ⟨q, x, lq, hq, rfl, rfl, G, D, E⟩ := hrel
    by_cases hlt : q < 8
    · have e8 : 8 - q = (8 - (q + 1)) + 1 := by omega
      go_wp2_with fail
      refine (oneByte_any u pv R lq wr D.out (HT.out.grown G.out hR)).mono ?_
      intro e w1 q1
      cases h1 : pB lq with
      | none =>
        obtain ⟨g1, rfl⟩ := q1.none h1
        have hp : pN l = none := by rw [E.out, e8, pNk, h1]; rfl
        go_wp2_with fail
        exact ⟨rfl, Rs.mkNone (grown_trans G.out g1) hp⟩
      | some y =>
        obtain ⟨b, r⟩ := y
        obtain ⟨g1, rfl, r1⟩ := q1.some h1
        have hbt := bits_stp x b (pB_lt h1)
        have E2 : Hid (pN l = pNk (8 - (q + 1)) (stp x b) r) := by
          show _ = _
          rw [E.out, e8, pNk, h1]; rfl
        have G2 := Hid.mk' (grown_trans G.out g1)
        have D2 := Hid.mk' r1
        clear G D E g1 r1 q1
        go_wp2_with fail
        refine ⟨⟨q + 1, stp x b, r, by omega, by go_num, rfl, G2, D2, E2⟩, ?_⟩
        simp [intOf]; omega
    · have hq8 : q = 8 := by omega
      subst hq8
      go_wp2_with fail
      go_ret
      exact Rs.mkSome G.out E.out rfl D.out
end Go.Proofs.YtecnfgikbmcgoaaDoor
