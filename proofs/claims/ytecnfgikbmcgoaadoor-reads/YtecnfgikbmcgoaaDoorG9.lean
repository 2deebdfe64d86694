import Derived.Test.YtecnfgikbmcgoaaDoorG8
import Derived.Test.YtecnfgikbmcgoaaDoorG0
import Derived.Recover
import Derived.Defers
namespace Go.Proofs.YtecnfgikbmcgoaaDoor
open Go.RowKit

def encW (x : Wnt) : List UInt8 := encS x.a ++ UInt8.ofNat x.y.toNat :: (if x.y = 1 then [] else encV x.k x.n x.s)
def encF (l : List Wnt) : List UInt8 := 70 :: UInt8.ofNat l.length :: l.flatMap encW
theorem fi_len {l : List Wnt} (h : filterOk l = true) : 1 ≤ l.length ∧ l.length ≤ 6 := by
  simp only [filterOk, Bool.and_eq_true, decide_eq_true_eq] at h
  omega
theorem fi_at {l : List Wnt} (h : filterOk l = true) {i : Nat} (hi : i < l.length) : nameOk (wat l i).a = true ∧ wayOk (wat l i).y (wat l i).k (wat l i).n (wat l i).s = true := by
  have := (fi_ok_of h).1 _ (wat_mem hi)
  simpa [wOk, wantOk] using this
theorem flatW_take (l : List Wnt) (i : Nat) (h : i < l.length) : (l.take (i + 1)).flatMap encW = (l.take i).flatMap encW ++ encW (wat l i) := by
  have e : wat l i = l[i] := by simp [wat, List.getD_eq_getElem?_getD, List.getElem?_eq_getElem h]
  rw [List.take_succ_eq_append_getElem h, List.flatMap_append, e]; simp
theorem drew_at {W : World} {o : Obj} {B : Nat} (h : W.heap[B]? = some o) : W.drew.heap[B]? = some o := h
theorem encW_le {x : Wnt} (h1 : nameOk x.a = true) (h3 : wayOk x.y x.k x.n x.s = true) : (encW x).length ≤ 52 := by
  have h2 := name_size' h1
  simp only [encW, List.length_append, encS_len, List.length_cons]
  by_cases hy : x.y = 1
  · simp [hy]; omega
  · have := encV_len (k := x.k) (n := x.n) (val_sz (way_val h3 hy))
    simp [hy]; omega
theorem way_bd {y k n : Int} {s : ByteArray} (h : wayOk y k n s = true) : 1 ≤ y ∧ y ≤ 10 := by
  by_cases hy : y < 1 ∨ 10 < y
  · rw [wayOk_out y k n s hy] at h; cases h
  · omega
set_option maxRecDepth 100000 in
set_option maxHeartbeats 4000000 in
theorem putFilter_any (l : List Wnt) (ad : Option Addr) (cap : Nat) (base : Nat) (w : World) (hle : base ≤ w.heap.size) (h : FiAt w ad l) (hE : ∀ b off, ad = some ⟨b, off, none⟩ → b < base) (hok : filterOk l = true) :
    Calls Tryd.prog 30 #[.slice none 0 0, .slice ad l.length cap] w fun e w' => ∃ v', e = .returned v' ∧ Kp tsU base w w' ∧ Br base w' v' (encF l) := by
  have HO := Hid.mk' hok
  obtain ⟨h1, h6⟩ := fi_len hok
  rcases h with rfl | ⟨b, off, rfl, hb, hat⟩
  · simp at h1
  have hbb := hE b off rfl
  have HAT := Hid.mk' hat
  clear hat hok hE
  go_enter Tryd.func30, Tryd.ntmps30
  go_wp2_with (at_builtin; refine wp_bytes _ rfl _ _ rfl base [] [70, UInt8.ofNat l.length] _ [.int .u8 70, .int .u8 l.length] w.heap.size 2 rfl rfl (heap_alloc_new _ _) ?c1 rfl (World.ownsRow_nil _ _ _ _) (by simp) (by simp; omega) ?_)
  case c1 => simp [bcs]; omega
  intro a1 k1 c1 w1 O1 B1
  have O2 := Hid.mk' O1
  have B2 := Hid.mk' (((Kp.refl tsU base w).alloc hle _).trans B1)
  clear O1 B1
  go_wp2_with fail
  go_loopw [0, 15] (fun v i wr => ∃ q : Nat, q ≤ l.length ∧ i = .int .i64 q ∧ Hid (Kp tsU base w wr) ∧ Hid (Br base wr v ([70, UInt8.ofNat l.length] ++ (l.take q).flatMap encW)) ∧ Hid (((l.take q).flatMap encW).length ≤ q * 52)) (fun _ i _ => l.length - (intOf i).toNat)
  case atStart => exact ⟨0, Nat.zero_le _, rfl, B2, O2, by simp [Hid]⟩
  case round =>
    clear O2 B2
    obtain ⟨q, hq, rfl, B, O, L⟩ := hrel
    obtain ⟨xa, xm, xk, rfl⟩ := owns_slice O.out
    by_cases hlt : q < l.length
    · have hbw : b < wr.heap.size := Nat.lt_of_lt_of_le hb B.out.size
      obtain ⟨d1, d2, d3, d4, d5⟩ := HAT.out q hlt
      have ee : ∀ o, wr.cell? ⟨b, o, none⟩ = w.cell? ⟨b, o, none⟩ := fun o => B.out.be.cell (p := ⟨b, o, none⟩) hbb
      rw [← ee] at d1 d2 d3 d4 d5
      obtain ⟨hn1, hv1⟩ := fi_at HO.out hlt
      have HV := Hid.mk' hv1
      have hsn := name_size' hn1
      have hyb := way_bd hv1
      have hle1 : base ≤ wr.heap.size := Nat.le_trans hle B.out.size
      clear ee hv1
      go_wp2_with fail
      obtain ⟨wz, hz⟩ : ∃ wz, wz = wr.alloc (.cells #[.string (wat l q).a, .int .i64 (wat l q).y, .int .i64 (wat l q).k, .int .i64 (wat l q).n, .string (wat l q).s] 76) := ⟨_, rfl⟩
      have NZ : Hid (wz.heap[wr.heap.size]? = some (.cells #[.string (wat l q).a, .int .i64 (wat l q).y, .int .i64 (wat l q).k, .int .i64 (wat l q).n, .string (wat l q).s] 76 (0, 0))) := by
        show _ = _
        rw [hz]; exact heap_alloc_new _ _
      have BZ : Hid (Kp tsU base w wz) := by
        show Kp _ _ _ _
        rw [hz]; exact B.out.alloc hle1 _
      have OZ : Hid (Br base wz (.slice xa xm xk) ([70, UInt8.ofNat l.length] ++ (l.take q).flatMap encW)) := by
        show Br _ _ _ _
        rw [hz]; exact O.out.alloc _
      have hlz : base ≤ wz.heap.size := Nat.le_trans hle BZ.out.size
      rw [← hz]
      have T : Hid (∀ w', Kp tsU base wz w' → (Kp tsU base wz w' ∧ w'.cell? ⟨wr.heap.size, 0, none⟩ = some (.string (wat l q).a) ∧ w'.cell? ⟨wr.heap.size, 1, none⟩ = some (.int .i64 (wat l q).y))) := by
        intro w' hk
        have hb' := hk.kp _ _ _ _ NZ.out (by decide)
        refine ⟨hk, ?_, ?_⟩ <;> rw [cell_of_row _ _ _ _ _ _ hb'] <;> rfl
      have hLq : ([70, UInt8.ofNat l.length] ++ (l.take q).flatMap encW).length ≤ 500 := by
        have := L.out
        simp only [List.length_append, List.length_cons, List.length_nil]
        omega
      have hL5 : ([70, UInt8.ofNat l.length] ++ (l.take q).flatMap encW ++ encS (wat l q).a).length ≤ 600 := by
        rw [List.length_append, encS_len]; omega
      have HWY : Hid (IntKind.u8.wrap (wat l q).y = (wat l q).y) := IntWalk.u8_in _ (by omega)
      have hyc0 : [.int .u8 (IntKind.u8.wrap (wat l q).y)] = bcs [UInt8.ofNat (wat l q).y.toNat] := by
        rw [HWY.out]; simp [bcs]; omega
      have HYC := Hid.mk' hyc0
      clear hyc0
      have hvb : ∀ k, Value.ownBlock (.slice xa xm xk) = some k → k < wz.heap.size := by
        intro k hk
        rcases OZ.out.2 with ⟨hv, _⟩ | ⟨g, c', cur, hv, _, hh, _⟩
        · rw [hv] at hk; simp [Value.ownBlock] at hk
        · rw [hv] at hk
          have : g = k := by simpa [Value.ownBlock] using hk
          have := blk_lt hh; omega
      have HVB := Hid.mk' hvb
      clear hz d1 d2 d3 d4 d5 O B hvb
      go_region_held3 (fun w' => Kp tsU base wz w' ∧ w'.cell? ⟨wr.heap.size, 0, none⟩ = some (.string (wat l q).a) ∧ w'.cell? ⟨wr.heap.size, 1, none⟩ = some (.int .i64 (wat l q).y))
        (exact T.out _ (by first | assumption | exact (Kp.refl _ _ _).drew | exact Kp.refl _ _ _ | exact ((Kp.refl _ _ _).drew).alloc hlz _ | exact ((Kp.refl _ _ _).alloc hlz _).drew | exact Kp.alloc (by assumption) (by exact Nat.le_trans hlz (Kp.size (by assumption))) _)) (first
          | (go_at_call 53; refine (putString_s wz ([70, UInt8.ofNat l.length] ++ (l.take q).flatMap encW) _ _ base _ (by exact Nat.le_trans hLq (by decide)) (by omega) hlz (by first | exact OZ.out.drew | exact (OZ.out.drew).alloc _ | exact (OZ.out.alloc _).drew) (by exact (show Kp tsU base wz _ ∧ _ by assumption).1)).mono ?_; rintro e w5 ⟨s1, s2, s3, rfl, k5, o5, p5⟩; have O5 := Hid.mk' o5; have P5 := Hid.mk' p5; clear o5 p5)
          | (refine step_bytes _ rfl (.tmp 22) (.tmp 26) rfl base ([70, UInt8.ofNat l.length] ++ (l.take q).flatMap encW ++ encS (wat l q).a) [UInt8.ofNat (wat l q).y.toNat] _ [.int .u8 (IntKind.u8.wrap (wat l q).y)] _ 1 rfl rfl ?sb HYC.out rfl (by decide) ?sO (by exact Nat.le_trans (Nat.add_le_add_right hL5 1) (by decide)) ?sl ?_
             case sb => first | exact new_at rfl | exact P5.out _ _ (drew_at (new_at rfl)) (fun he => Nat.lt_irrefl _ (HVB.out _ he))
             case sO => first | exact O5.out | exact O5.out.alloc _
             case sl => exact Nat.le_trans hlz (Kp.size (show Kp tsU base wz _ ∧ _ by assumption).1)
             intro s4 s5 s6 w6 o6 k6
             have O6 := Hid.mk' o6
             have K6 : Kp tsU base wz w6 := (show Kp tsU base wz _ ∧ _ by assumption).1.trans k6
             clear o6 k6))
      all_goals
        have hb6 := Hid.mk' (K6.kp _ _ _ _ NZ.out (by decide))
        have B6 := Hid.mk' (BZ.out.trans K6)
        have y1 : w6.cell? ⟨wr.heap.size, 1, none⟩ = some (.int .i64 (wat l q).y) := by rw [cell_of_row _ _ _ _ _ _ hb6.out]; rfl
        have y2 : w6.cell? ⟨wr.heap.size, 2, none⟩ = some (.int .i64 (wat l q).k) := by rw [cell_of_row _ _ _ _ _ _ hb6.out]; rfl
        have y3 : w6.cell? ⟨wr.heap.size, 3, none⟩ = some (.int .i64 (wat l q).n) := by rw [cell_of_row _ _ _ _ _ _ hb6.out]; rfl
        have y4 : w6.cell? ⟨wr.heap.size, 4, none⟩ = some (.string (wat l q).s) := by rw [cell_of_row _ _ _ _ _ _ hb6.out]; rfl
        have hle6 : base ≤ w6.heap.size := Nat.le_trans hle B6.out.size
        have L6 : Hid (([70, UInt8.ofNat l.length] ++ (l.take q).flatMap encW ++ encS (wat l q).a ++ [UInt8.ofNat (wat l q).y.toNat]).length ≤ 700) := by
          show _ ≤ _
          rw [List.length_append]; simp only [List.length_cons, List.length_nil]; omega
        have hW := encW_le hn1 HV.out
        clear K6 P5 O5 k5 T OZ BZ NZ HVB
        by_cases hy1 : (wat l q).y = 1
        · have O7 : Hid (Br base w6 (.slice s4 s5 s6) ([70, UInt8.ofNat l.length] ++ (l.take (q + 1)).flatMap encW)) := by
            have := O6.out
            show Br _ _ _ _
            simpa [flatW_take l q hlt, encW, hy1, List.append_assoc] using this
          have L7 : Hid (((l.take (q + 1)).flatMap encW).length ≤ (q + 1) * 52) := by
            have := L.out
            show _ ≤ _
            rw [flatW_take l q hlt, List.length_append]; omega
          go_wp2_with fail
          go_roundw
          case rel => exact ⟨q + 1, by omega, by go_num, B6, O7, L7⟩
          case measure => simp [intOf]; omega
        · have hvo := way_val HV.out hy1
          go_wp2_with fail
          refine (putValue_any _ _ _ _ _ base w6 (by have := L6.out; exact Nat.le_trans this (by decide)) hvo hle6 O6.out).mono ?_
          rintro e w7 ⟨v7, rfl, k7, o7⟩
          have B7 := Hid.mk' (B6.out.trans k7)
          have O7 : Hid (Br base w7 v7 ([70, UInt8.ofNat l.length] ++ (l.take (q + 1)).flatMap encW)) := by
            show Br _ _ _ _
            simpa [flatW_take l q hlt, encW, hy1, List.append_assoc] using o7
          obtain ⟨za, zm, zk, rfl⟩ := owns_slice o7
          have L7 : Hid (((l.take (q + 1)).flatMap encW).length ≤ (q + 1) * 52) := by
            have := L.out
            show _ ≤ _
            rw [flatW_take l q hlt, List.length_append]; omega
          clear k7 o7 B6
          go_wp2_with fail
          go_roundw
          case rel => exact ⟨q + 1, by omega, by go_num, B7, O7, L7⟩
          case measure => simp [intOf]; omega
    · have hql : q = l.length := by omega
      subst hql
      rw [List.take_length] at O
      go_wp2_with fail
      go_ret
      exact ⟨_, rfl, B.out, O.out⟩
end Go.Proofs.YtecnfgikbmcgoaaDoor
namespace Go.Proofs.YtecnfgikbmcgoaaDoor
open Go.RowKit

/-- What is put of a filter. -/
def putF (l : List Wnt) : ByteArray := if filterOk l then ⟨(encF l).toArray⟩ else ⟨#[]⟩
set_option maxRecDepth 100000 in
set_option maxHeartbeats 4000000 in
theorem PutFilter_any (l : List Wnt) (ad : Option Addr) (cap : Nat) (w : World) (hl : l.length ≤ maxLen) (h : FiAt w ad l) (hwf : ∀ x ∈ l, Wnt.Wf x) :
    Calls Tryd.prog 8 #[.slice ad l.length cap] w fun e w' => e = .returned (.tuple #[.string (putF l), .int .i64 (chk l)]) ∧ Gr w w' := by
  have HE := Hid.mk' h
  have HW := Hid.mk' hwf
  have HL := Hid.mk' hl
  clear h hwf hl
  cases h1 : filterOk l
  · have hc : chk l = 2 := by simp [chk, h1]
    have hp : putF l = ⟨#[]⟩ := by simp [putF, h1]
    rw [hp]
    go_enter Tryd.func8, Tryd.ntmps8
    go_wp2_with fail
    refine (CheckF l ad cap _ HL.out HE.out HW.out).mono ?_
    rw [hc]
    rintro e w1 ⟨rfl, g1⟩
    go_wp2_with fail
    go_ret2
    exact ⟨by rw [hc]; rfl, g1⟩
  · have hc : chk l = 0 := by simp [chk, h1]
    have hp : putF l = ⟨(encF l).toArray⟩ := by simp [putF, h1]
    rw [hp, hc]
    go_enter Tryd.func8, Tryd.ntmps8
    go_wp2_with fail
    refine (CheckF l ad cap _ HL.out HE.out HW.out).mono ?_
    rw [hc]
    rintro e w1 ⟨rfl, g1⟩
    go_wp2_with fail
    refine (putFilter_any l ad cap w1.heap.size w1 (Nat.le_refl _) (HE.out.gr g1) ?_ h1).mono ?_
    · intro b off hb
      rcases HE.out.gr g1 with h2 | ⟨b', off', e1, e2, _⟩
      · rw [h2] at h1; simp [filterOk] at h1
      · rw [hb] at e1
        obtain ⟨rfl, rfl⟩ : b = b' ∧ off = off' := by simpa using e1
        exact e2
    rintro e w2 ⟨v2, rfl, k2, o2⟩
    have K2 := Hid.mk' k2
    have O2 := Hid.mk' o2
    obtain ⟨xa, xm, xk, rfl⟩ := owns_slice o2
    have hcv := Br.conv o2 (by simp [encF])
    clear k2 o2
    go_wp2_with fail
    go_ret2
    exact ⟨rfl, Gr.call g1 K2.out.be⟩
end Go.Proofs.YtecnfgikbmcgoaaDoor
namespace Go.Proofs.YtecnfgikbmcgoaaDoor
open Go.RowKit

def str (l : List UInt8) : ByteArray := ⟨l.toArray⟩
theorem str_size (l : List UInt8) : (str l).size = l.length := by simp [str, ByteArray.size]
theorem str_take (l : List UInt8) (n : Nat) : (str l).extract 0 n = str (l.take n) := by
  apply ByteArray.ext
  simp [str, ByteArray.data_extract]
theorem str_drop (l : List UInt8) (n : Nat) : (str l).extract n l.length = str (l.drop n) := by
  apply ByteArray.ext
  simp [str, ByteArray.data_extract]
  exact List.take_of_length_le (by simp)
/-- The reader's box holds what is left. -/
def Rd (w : World) (R : Nat) (l : List UInt8) : Prop := w.heap[R]? = some (.cells #[.string (str l)] 91 (0, 0))
/-- The program's one error variable. -/
structure Te (u : TypeId) (pv : Value) (w : World) : Prop where
  cell : w.cell? ⟨0, 0, none⟩ = some (.iface u pv)
  pos : 0 < w.heap.size
def PP (u : TypeId) (pv : Value) : List PanicEntry := [{ v := .iface u pv, recovered := false }]
theorem grown_refl (w : World) (r : Option Nat) : w.grownBy w r := ⟨rfl, rfl, rfl, Nat.le_refl _, fun _ _ _ => rfl⟩
theorem grown_trans {a b c : World} {r : Option Nat} (h : a.grownBy b r) (k : b.grownBy c r) : a.grownBy c r :=
  ⟨k.os.trans h.os, k.tape.trans h.tape, k.output.trans h.output, Nat.le_trans h.size k.size, fun i hi hr => (k.block i (Nat.lt_of_lt_of_le hi h.size) hr).trans (h.block i hi hr)⟩
theorem grown_gr {a b : World} {r : Option Nat} (g : Gr a b) : a.grownBy b r := ⟨g.os, g.tape, g.output, g.size, fun i hi _ => g.block i hi⟩
theorem grown_set {w : World} {R j : Nat} (u : Value) : w.grownBy (w.setCell ⟨R, j, none⟩ u) (some R) :=
  ⟨rfl, rfl, rfl, by simp [World.setCell], fun i _ hr => Below.heap_setCell w ⟨R, j, none⟩ u i (fun (he : i = R) => hr (by rw [he]))⟩
theorem Te.grown {u : TypeId} {pv : Value} {w w' : World} {R : Nat} (h : Te u pv w) (g : w.grownBy w' (some R)) (hR : 0 < R) : Te u pv w' :=
  ⟨by rw [← h.cell]; exact World.cell?_of_block (w := w) (g.block 0 h.pos (by simp; omega)), Nat.lt_of_lt_of_le h.pos g.size⟩
theorem Te.gr {u : TypeId} {pv : Value} {w w' : World} (h : Te u pv w) (g : Gr w w') : Te u pv w' :=
  ⟨by rw [← h.cell]; exact g.cell (p := ⟨0, 0, none⟩) h.pos, Nat.lt_of_lt_of_le h.pos g.size⟩
theorem Rd.gr {w w' : World} {R : Nat} {l : List UInt8} (h : Rd w R l) (g : Gr w w') : Rd w' R l := blk_gr g h
theorem wr_byte (x : Nat) (h : x < 256) : wrap64 (x : Int) = x := by unfold wrap64; omega
/-- n bytes, if there are so many. -/
def pT (n : Nat) (l : List UInt8) : Option (List UInt8 × List UInt8) := if n ≤ l.length then some (l.take n, l.drop n) else none
def pB : List UInt8 → Option (Nat × List UInt8)
  | [] => none
  | b :: r => some (b.toNat, r)
/-- What a reader's call leaves: its answer and what is left; or it gives up. -/
def Rs {α : Type} (u : TypeId) (pv : Value) (R : Nat) (w : World) (val : α → Value) (p : Option (α × List UInt8)) (e : Ending) (w' : World) : Prop :=
  w.grownBy w' (some R) ∧ match p with
    | some (x, r) => e = .returned (val x) ∧ Rd w' R r
    | none => e = .panicked (PP u pv)
set_option maxRecDepth 100000 in
set_option maxHeartbeats 4000000 in
theorem take_any (u : TypeId) (pv : Value) (R : Nat) (l : List UInt8) (n : Nat) (w : World) (hr : Rd w R l) (ht : Te u pv w) :
    Calls Tryd.prog 66 #[.pointer (some ⟨R, 0, none⟩), .int .i64 n] w (Rs u pv R w (fun x => .string (str x)) (pT n l)) := by
  have c0 : w.cell? ⟨R, 0, none⟩ = some (.string (str l)) := by rw [cell_of_row _ _ _ _ _ _ hr]; rfl
  have f0 : w.frozen? ⟨R, 0, none⟩ = false := frozen_of_row _ _ _ _ _ hr
  have t0 := ht.cell
  have hz := str_size l
  by_cases hok : n ≤ l.length
  · have hp : pT n l = some (l.take n, l.drop n) := by simp [pT, hok]
    have HS := Hid.mk' (blk_set_same (j := 0) hr (.string (str (l.drop n))))
    have h1 : (n : Int) ≤ ((str l).size : Int) := by rw [hz]; omega
    have h2 : n ≤ (str l).size := by omega
    rw [hp]
    go_enter Tryd.func66, Tryd.ntmps66
    go_wp2_with fail
    go_ret
    refine ⟨grown_set _, ?_, ?_⟩
    · show Ending.returned (.string _) = _
      rw [str_take]
    · rw [str_drop]; exact HS.out
  · have hp : pT n l = none := by simp [pT, hok]
    have h1 : ¬ (n : Int) ≤ ((str l).size : Int) := by rw [hz]; omega
    have h2 : ((str l).size : Int) < (n : Int) := by omega
    rw [hp]
    go_enter Tryd.func66, Tryd.ntmps66
    go_wp2_with fail
    exact ⟨rfl, grown_refl _ _, rfl⟩
set_option maxRecDepth 100000 in
set_option maxHeartbeats 4000000 in
theorem oneByte_any (u : TypeId) (pv : Value) (R : Nat) (l : List UInt8) (w : World) (hr : Rd w R l) (ht : Te u pv w) :
    Calls Tryd.prog 56 #[.pointer (some ⟨R, 0, none⟩)] w (Rs u pv R w (fun x : Nat => .int .i64 x) (pB l)) := by
  cases l with
  | nil =>
    go_enter Tryd.func56, Tryd.ntmps56
    go_wp2_with fail
    refine (take_any u pv R [] 1 w hr ht).mono ?_
    rintro e w1 ⟨g1, h1⟩
    have h1 : e = .panicked (PP u pv) := h1
    subst h1
    go_wp2_with fail
    exact ⟨rfl, g1, rfl⟩
  | cons b r =>
    go_enter Tryd.func56, Tryd.ntmps56
    go_wp2_with fail
    refine (take_any u pv R (b :: r) 1 w hr ht).mono ?_
    rintro e w1 ⟨g1, h1⟩
    obtain ⟨h1, r1⟩ : e = .returned (.string (str [b])) ∧ Rd w1 R r := h1
    subst h1
    have hz := str_size [b]
    go_wp2_with fail
    go_ret
    refine ⟨g1, ?_, r1⟩
    show Ending.returned (.int .i64 (wrap64 ((b.toNat : Nat) : Int))) = .returned (.int .i64 ((b.toNat : Nat) : Int))
    have h8 : b.toNat < 256 := b.toNat_lt
    generalize b.toNat = x at h8
    rw [wr_byte x h8]
def pS (l : List UInt8) : Option (List UInt8 × List UInt8) := (pB l).bind fun x => pT x.1 x.2
theorem Rs.none {α : Type} {u : TypeId} {pv : Value} {R : Nat} {w w' : World} {val : α → Value} {e : Ending} {p : Option (α × List UInt8)} (h : Rs u pv R w val p e w') (hp : p = Option.none) : w.grownBy w' (some R) ∧ e = .panicked (PP u pv) := by
  subst hp; exact h
theorem Rs.some {α : Type} {u : TypeId} {pv : Value} {R : Nat} {w w' : World} {val : α → Value} {e : Ending} {p : Option (α × List UInt8)} {x : α} {r : List UInt8} (h : Rs u pv R w val p e w') (hp : p = Option.some (x, r)) : w.grownBy w' (some R) ∧ e = .returned (val x) ∧ Rd w' R r := by
  subst hp; exact h
theorem Rs.mkNone {α : Type} {u : TypeId} {pv : Value} {R : Nat} {w w' : World} {val : α → Value} {p : Option (α × List UInt8)} (g : w.grownBy w' (Option.some R)) (hp : p = Option.none) : Rs u pv R w val p (.panicked (PP u pv)) w' := by
  subst hp; exact ⟨g, rfl⟩
theorem Rs.mkSome {α : Type} {u : TypeId} {pv : Value} {R : Nat} {w w' : World} {val : α → Value} {e : Ending} {p : Option (α × List UInt8)} {x : α} {r : List UInt8} (g : w.grownBy w' (Option.some R)) (hp : p = Option.some (x, r)) (he : e = .returned (val x)) (hr : Rd w' R r) : Rs u pv R w val p e w' := by
  subst hp; exact ⟨g, he, hr⟩
theorem pT_len {n : Nat} {l x r : List UInt8} (h : pT n l = some (x, r)) : x.length = n := by
  unfold pT at h
  split at h
  · injection h with h; injection h with h1 _; rw [← h1]; simp; omega
  · cases h
theorem pB_lt {n : Nat} {l r : List UInt8} (h : pB l = some (n, r)) : n < 256 := by
  cases l with
  | nil => cases h
  | cons b t => simp [pB] at h; rw [← h.1]; exact b.toNat_lt
set_option maxRecDepth 100000 in
set_option maxHeartbeats 4000000 in
theorem Clone_any (s : ByteArray) (w : World) (hs : s.size ≤ 255) : Calls Tryd.prog 67 #[.string s] w fun e w' => e = .returned (.string s) ∧ Gr w w' := by
  go_enter Tryd.func67, Tryd.ntmps67
  go_wp2_with fail
  refine (Tryd.stringslite_Clone s w (by omega)).mono ?_
  rintro e w1 ⟨rfl, g1⟩
  go_wp2_with fail
  go_ret
  exact ⟨rfl, g1⟩
set_option maxRecDepth 100000 in
set_option maxHeartbeats 4000000 in
theorem string_any (u : TypeId) (pv : Value) (R : Nat) (l : List UInt8) (w : World) (hR : 0 < R) (hr : Rd w R l) (ht : Te u pv w) :
    Calls Tryd.prog 57 #[.pointer (some ⟨R, 0, none⟩)] w (Rs u pv R w (fun x => .string (str x)) (pS l)) := by
  cases h1 : pB l with
  | none =>
    have hp : pS l = none := by simp [pS, h1]
    rw [hp]
    go_enter Tryd.func57, Tryd.ntmps57
    go_wp2_with fail
    refine (oneByte_any u pv R l w hr ht).mono ?_
    intro e w1 q1
    obtain ⟨g1, rfl⟩ := q1.none h1
    go_wp2_with fail
    exact ⟨rfl, g1, rfl⟩
  | some x =>
    obtain ⟨n, r⟩ := x
    have hp : pS l = pT n r := by simp [pS, h1]
    have hn := pB_lt h1
    rw [hp]
    go_enter Tryd.func57, Tryd.ntmps57
    go_wp2_with fail
    refine (oneByte_any u pv R l w hr ht).mono ?_
    intro e w1 q1
    obtain ⟨g1, rfl, r1⟩ := q1.some h1
    go_wp2_with fail
    refine (take_any u pv R r n w1 r1 (ht.grown g1 hR)).mono ?_
    intro e w2 q2
    cases h2 : pT n r with
    | none =>
      obtain ⟨g2, rfl⟩ := q2.none h2
      go_wp2_with fail
      exact ⟨rfl, Rs.mkNone (grown_trans g1 g2) h2⟩
    | some y =>
      obtain ⟨t, r'⟩ := y
      obtain ⟨g2, rfl, r2⟩ := q2.some h2
      have ht2 := pT_len h2
      go_wp2_with fail
      refine (Clone_any (str t) w2 (by rw [str_size]; omega)).mono ?_
      rintro e w3 ⟨rfl, g3⟩
      go_wp2_with fail
      go_ret
      exact Rs.mkSome (grown_trans (grown_trans g1 g2) (grown_gr g3)) h2 rfl (r2.gr g3)
end Go.Proofs.YtecnfgikbmcgoaaDoor
