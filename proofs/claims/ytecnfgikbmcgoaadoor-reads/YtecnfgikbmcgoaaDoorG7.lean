import Derived.Test.YtecnfgikbmcgoaaDoorG2
import Derived.Test.YtecnfgikbmcgoaaDoorG1
import Derived.Test.YtecnfgikbmcgoaaDoorG6
import Derived.Lib.AppendStr
namespace Go.Proofs.YtecnfgikbmcgoaaDoor
open Go.RowKit

/-- Bytes, as cells. -/
def bcs (l : List UInt8) : List Value := l.map fun b => Value.int .u8 (b.toNat : Int)
theorem bcs_app (a b : List UInt8) : bcs (a ++ b) = bcs a ++ bcs b := by simp [bcs]
theorem bcs_str (s : ByteArray) : Go.Lib.strCells s = bcs s.data.toList := rfl
theorem bcs_len (l : List UInt8) : (bcs l).length = l.length := by simp [bcs]
/-- A string's bytes: how many, and these. -/
def encS (s : ByteArray) : List UInt8 := UInt8.ofNat s.size :: s.data.toList
/-- A row of bytes of one's own. -/
def Br (base : Nat) (w : World) (v : Value) (l : List UInt8) : Prop := w.ownsRow base 5 1 v l.length (bcs l)
def tsU : List TypeId := [5]
theorem Tryd.infoU8 : (Tryd.prog.info? 5).map (fun i => (i.zero, i.size, i.bytes)) = some (some (.int .u8 0), 1, 1) := by kernel_rfl

set_option maxRecDepth 100000 in
set_option maxHeartbeats 4000000 in
theorem putString_any (l : List UInt8) (s : ByteArray) (v : Value) (base : Nat) (w : World) (hl : l.length ≤ 1048576) (hs : s.size ≤ 255) (hle : base ≤ w.heap.size) (hb : Br base w v l) :
    Calls Tryd.prog 53 #[v, .string s] w fun e w' => ∃ v', e = .returned v' ∧ Kp tsU base w w' ∧ Br base w' v' (l ++ encS s) ∧ (∀ (k : Nat) (o : Obj), w.heap[k]? = some o → v.ownBlock ≠ some k → w'.heap[k]? = some o) := by
  obtain ⟨i0, hi, hz0, hz1, hz2⟩ := info_parts Tryd.infoU8
  have HB := Hid.mk' hb
  obtain ⟨a, c, rfl, _⟩ := owns_shape hb
  clear hb
  go_enter Tryd.func53, Tryd.ntmps53
  go_wp2_with (at_builtin; refine wpList_append_lies _ rfl _ _ 80 rfl base 5 i0 (.int .u8 0) 1 1 Tryd.underlying80 hi hz0 hz1 hz2 rfl (by decide) _ _ _ rfl (World.ownsRow.alloc HB.out _) ⟨w.heap.size, 0, none⟩ 1 1 [.int .u8 s.size] rfl rfl (cell_one_new _ _ _) ?c2 (by decide) ?c3 ?c4 ?c5 _ rfl ?_)
  case c2 => intro u hu; simp at hu; subst hu; rfl
  case c3 => unfold maxLen; omega
  case c4 => omega
  case c5 => simp; omega
  intro va vc w1 hown1 hg1 hat1 hlt1
  have B1 := Hid.mk' (Kp.grown (ts := tsU) ((Kp.refl tsU base w).alloc hle (.cells #[.int .u8 s.size] 5)) (World.ownsRow.alloc HB.out _) (by decide) hg1 (by simp; omega))
  have O1 := Hid.mk' hown1
  have A1 := Hid.mk' hat1
  have P1 : Hid (∀ (k : Nat) (o : Obj), w.heap[k]? = some o → Value.ownBlock (.slice a l.length c) ≠ some k → w1.heap[k]? = some o) := fun k o hk ho => grown_block hg1 (by rw [heap_alloc_old _ _ (blk_lt hk)]; exact hk) ho
  have hle1 : base ≤ w1.heap.size := Nat.le_trans hle B1.out.size
  clear hown1 hg1 hat1
  go_wp2_with (at_builtin; refine Go.Lib.wpList_append_own_string _ rfl _ _ 80 9 rfl base 5 i0 Tryd.underlying80 Tryd.underlying9 hi hz0 hz1 hz2 _ _ _ rfl O1.out s rfl ?d1 ?d2 ?d3 ?_)
  case d1 => unfold maxLen; omega
  case d2 => omega
  case d3 => omega
  intro v2 w2 hown2 hg2 _
  have B2 := Kp.grown B1.out O1.out (by decide) hg2 hle1
  have P2 : Hid (∀ (k : Nat) (o : Obj), w.heap[k]? = some o → Value.ownBlock (.slice a l.length c) ≠ some k → w2.heap[k]? = some o) := fun k o hk ho => by
    refine grown_block hg2 (P1.out k o hk ho) (fun he => ?_)
    have hvk : va = k := by simpa [Value.ownBlock] using he
    rcases A1.out with h1 | h1
    · rw [hvk] at h1; exact ho h1
    · have := blk_lt hk
      omega
  have e : bcs (l ++ encS s) = bcs l ++ (.int .u8 s.size :: Go.Lib.strCells s) := by
    rw [bcs_app, bcs_str, encS]
    congr 1
    simp [bcs]
    omega
  have O2 : Hid (Br base w2 v2 (l ++ encS s)) := by
    show World.ownsRow _ _ _ _ _ _ _
    rw [e, show (l ++ encS s).length = l.length + 1 + s.size by simp [encS]; omega]
    simpa using hown2
  obtain ⟨xa, xm, xc, rfl⟩ := owns_slice hown2
  clear hown2 hg2 e
  go_wp2_with fail
  go_ret
  exact ⟨_, rfl, B2, O2.out, P2.out⟩
theorem new_at {W : World} {o : Obj} {B : Nat} (h : W.heap.size = B) : (W.alloc o).heap[B]? = some o := by subst h; exact heap_alloc_new W o
/-- append of some bytes that lie in a block of their own. -/
theorem wp_bytes {ops : Array Oper} {rest : List Oper} {o : Oper} {a : Act} {Q : Exit → Act → World → Prop} (w : World) (hgd : o.guard = none) (s x : Operand)
    (ho : o.op = .call { callee := .builtin .append, args := #[s, x], argTypes := #[80, 80] }) (base : Nat) (l news : List UInt8) (v : Value) (ns : List Value) (B m : Nat)
    (hs : a.eval s = v) (hx : a.eval x = .slice (some ⟨B, 0, none⟩) m m) (hb : w.heap[B]? = some (.cells ns.toArray 5 (0, 0))) (hns : ns = bcs news) (hm : news.length = m) (O : Br base w v l) (hl : l.length + m ≤ 2097152) (hle : base ≤ w.heap.size)
    (h : ∀ a' k c w', Br base w' (.slice a' k c) (l ++ news) → Kp tsU base w w' → wpList Tryd.prog ops Q rest (a.put o.dst (.slice a' k c)) w') : wpList Tryd.prog ops Q (o :: rest) a w := by
  obtain ⟨i0, hi, hz0, hz1, hz2⟩ := info_parts Tryd.infoU8
  refine wpList_append_own w hgd s x 80 ho base 5 i0 (.int .u8 0) 1 1 Tryd.underlying80 hi hz0 hz1 hz2 rfl (by decide) v l.length (bcs l) hs O ⟨B, 0, none⟩ m m ns hx (by rw [hns, bcs_len, hm]; omega) ?_ ?_ (by unfold maxLen; omega) (by omega) hle ?_
  · have := World.news_of_block hb
    simpa using this
  · intro u hu
    rw [hns] at hu
    simp only [bcs, List.mem_map] at hu
    obtain ⟨b, _, rfl⟩ := hu
    rfl
  · intro v' w' ho' hg _
    obtain ⟨a', k, c, rfl⟩ := owns_slice ho'
    refine h a' k c w' ?_ (Kp.grown (Kp.refl _ _ _) O (by decide) hg hle)
    show World.ownsRow _ _ _ _ _ _ _
    rw [List.length_append, bcs_app, hm, ← hns]
    exact ho'
theorem step_bytes {ops : Array Oper} {o : Oper} {a : Act} {K : Act → World → Prop} {Q : Exit → Act → World → Prop} {E : Prop} (w : World) (hgd : o.guard = none) (s x : Operand)
    (ho : o.op = .call { callee := .builtin .append, args := #[s, x], argTypes := #[80, 80] }) (base : Nat) (l news : List UInt8) (v : Value) (ns : List Value) (B m : Nat)
    (hs : a.eval s = v) (hx : a.eval x = .slice (some ⟨B, 0, none⟩) m m) (hb : w.heap[B]? = some (.cells ns.toArray 5 (0, 0))) (hns : ns = bcs news) (hm : news.length = m) (h0 : 0 < m) (O : Br base w v l) (hl : l.length + m ≤ 2097152) (hle : base ≤ w.heap.size)
    (h : ∀ a' k c w', Br base w' (.slice a' k c) (l ++ news) → Kp tsU base w w' → K (a.put o.dst (.slice a' k c)) w') : if Region.wanted o (yielded ops a.tmps) = true then Oper.wp Tryd.prog o a w K Q else E := by
  obtain ⟨i0, hi, hz0, hz1, hz2⟩ := info_parts Tryd.infoU8
  refine step_append_lies w hgd s x 80 ho base 5 i0 (.int .u8 0) 1 1 Tryd.underlying80 hi hz0 hz1 hz2 rfl (by decide) v l.length (bcs l) hs O ⟨B, 0, none⟩ m m ns hx (by rw [hns, bcs_len, hm]; omega) ?_ ?_ h0 (by unfold maxLen; omega) (by omega) hle _ rfl ?_
  · have := World.news_of_block hb
    simpa using this
  · intro u hu
    rw [hns] at hu
    simp only [bcs, List.mem_map] at hu
    obtain ⟨b, _, rfl⟩ := hu
    rfl
  · intro g cap w' ho' hg _ _
    refine h _ _ _ w' ?_ (Kp.grown (Kp.refl _ _ _) O (by decide) hg hle)
    show World.ownsRow _ _ _ _ _ _ _
    rw [List.length_append, bcs_app, hm, ← hns]
    exact ho'
theorem Br.alloc {base : Nat} {w : World} {v : Value} {l : List UInt8} (h : Br base w v l) (o : Obj) : Br base (w.alloc o) v l := World.ownsRow.alloc h o
/-- A number's bytes, the highest first. -/
def nb (n : Int) (q : Nat) : UInt8 := UInt8.ofNat (n / 2 ^ (56 - 8 * q) % 256).toNat
def encN (n : Int) : List UInt8 := (List.range 8).map (nb n)
theorem nb_cell (n : Int) (q : Nat) : bcs [nb n q] = [.int .u8 (n / 2 ^ (56 - 8 * q) % 256)] := by
  simp only [bcs, nb, List.map_cons, List.map_nil]
  have h1 : 0 ≤ n / 2 ^ (56 - 8 * q) % 256 := Int.emod_nonneg _ (by decide)
  have h2 : n / 2 ^ (56 - 8 * q) % 256 < 256 := Int.emod_lt_of_pos _ (by decide)
  generalize n / 2 ^ (56 - 8 * q) % 256 = x at h1 h2
  congr 2
  rw [UInt8.toNat_ofNat']
  omega
theorem nb_snoc (n : Int) (q : Nat) : (List.range (q + 1)).map (nb n) = (List.range q).map (nb n) ++ [nb n q] := by rw [List.range_succ, List.map_append]; rfl
set_option maxRecDepth 100000 in
set_option maxHeartbeats 4000000 in
theorem putNumber_any (l : List UInt8) (n : Int) (v : Value) (base : Nat) (w : World) (hl : l.length ≤ 1048576) (hle : base ≤ w.heap.size) (hb : Br base w v l) :
    Calls Tryd.prog 65 #[v, .int .i64 n] w fun e w' => ∃ v', e = .returned v' ∧ Kp tsU base w w' ∧ Br base w' v' (l ++ encN n) := by
  obtain ⟨i0, hi, hz0, hz1, hz2⟩ := info_parts Tryd.infoU8
  have HB := Hid.mk' hb
  obtain ⟨a, c, rfl, _⟩ := owns_shape hb
  clear hb
  go_enter Tryd.func65, Tryd.ntmps65
  go_wp2_with fail
  go_loopw [0, 5] (fun b sh wr => ∃ q : Nat, q ≤ 8 ∧ sh = .int .i64 (56 - 8 * (q : Int)) ∧ Hid (Br base wr b (l ++ (List.range q).map (nb n))) ∧ Hid (Kp tsU base w wr)) (fun _ sh _ => (intOf sh + 8).toNat)
  case atStart => exact ⟨0, by omega, rfl, by simpa using HB, Kp.refl _ _ _⟩
  case round =>
    obtain ⟨q, hq, rfl, O, B⟩ := hrel
    by_cases hlt : q < 8
    · have h1 : (0 : Int) ≤ 56 - 8 * (q : Int) := by omega
      have hw : base ≤ wr.heap.size := Nat.le_trans hle B.out.size
      obtain ⟨xa, xk, rfl, _⟩ := owns_shape O.out
      go_wp2_with (at_builtin; refine wp_bytes _ rfl _ _ rfl base (l ++ (List.range q).map (nb n)) [nb n q] _ [.int .u8 (n / 2 ^ (56 - 8 * q) % 256)] wr.heap.size 1 rfl rfl (heap_alloc_new _ _) (nb_cell n q).symm rfl (O.out.alloc _) (by simp; omega) (by simp; omega) ?_)
      intro a' k' c' w' O' B'
      have O2 := Hid.mk' O'
      have B2 := Hid.mk' ((B.out.alloc hw _).trans B')
      clear O' B' O B
      go_wp2_with fail
      go_roundw
      case rel => exact ⟨q + 1, by omega, by go_num, by rw [nb_snoc]; exact O2, B2⟩
      case measure => simp [intOf]; omega
    · have hq8 : q = 8 := by omega
      subst hq8
      obtain ⟨xa, xk, rfl, _⟩ := owns_shape O.out
      go_wp2_with fail
      go_ret
      exact ⟨_, rfl, B.out, O.out⟩
end Go.Proofs.YtecnfgikbmcgoaaDoor
namespace Go.Proofs.YtecnfgikbmcgoaaDoor
open Go.RowKit

/-- A value's bytes. -/
def encV (k n : Int) (s : ByteArray) : List UInt8 := UInt8.ofNat k.toNat :: (if k = 1 then encN n else if k = 2 then encS s else [UInt8.ofNat n.toNat])
theorem encN_len (n : Int) : (encN n).length = 8 := by simp [encN]
theorem encS_len (s : ByteArray) : (encS s).length = s.size + 1 := by simp [encS]
theorem encV_len {k n : Int} {s : ByteArray} (hs : s.size ≤ 32) : (encV k n s).length ≤ 34 := by
  unfold encV
  split
  · simp [encN_len]
  · split
    · simp [encS_len]; omega
    · simp
theorem val_size' {n : Int} {s : ByteArray} (h : valOk 2 n s = true) : s.size ≤ 32 := by
  simp [valOk] at h; omega
set_option maxRecDepth 100000 in
set_option maxHeartbeats 4000000 in
theorem putValue_any (l : List UInt8) (k n : Int) (s : ByteArray) (v : Value) (base : Nat) (w : World) (hl : l.length ≤ 1000000) (hok : valOk k n s = true) (hle : base ≤ w.heap.size) (hb : Br base w v l) :
    Calls Tryd.prog 52 #[v, .agg #[.int .i64 k, .int .i64 n, .string s]] w fun e w' => ∃ v', e = .returned v' ∧ Kp tsU base w w' ∧ Br base w' v' (l ++ encV k n s) := by
  have HB := Hid.mk' hb
  have HO := Hid.mk' hok
  obtain ⟨a, c, rfl, _⟩ := owns_shape hb
  have hkd := val_kind hok
  clear hb hok
  rcases hkd with rfl | rfl | rfl
  · have VB := Hid.mk' (new_at (W := w) (o := .cells #[.int .i64 1, .int .i64 n, .string s] 35) rfl)
    go_enter Tryd.func52, Tryd.ntmps52
    go_wp2_with (at_builtin; refine wp_bytes _ rfl _ _ rfl base l [1] _ [.int .u8 1] (w.heap.size + 1) 1 rfl rfl (new_at (by simp)) rfl rfl ((HB.out.alloc _).alloc _) (by omega) (by simp; omega) ?_)
    intro a1 k1 c1 w1 O1 B1
    have O2 := Hid.mk' O1
    have G0 : Kp tsU base (w.alloc (.cells #[.int .i64 1, .int .i64 n, .string s] 35)) w1 := ((Kp.refl tsU base _).alloc (by simp; omega) _).trans B1
    have VB1 := Hid.mk' (G0.kp _ _ _ _ VB.out (by decide))
    have B2 := Hid.mk' (((Kp.refl tsU base w).alloc hle _).trans G0)
    have c0 : w1.cell? ⟨w.heap.size, 0, none⟩ = some (.int .i64 1) := by rw [cell_of_row _ _ _ _ _ _ VB1.out]; rfl
    have c1 : w1.cell? ⟨w.heap.size, 1, none⟩ = some (.int .i64 n) := by rw [cell_of_row _ _ _ _ _ _ VB1.out]; rfl
    have c2 : w1.cell? ⟨w.heap.size, 2, none⟩ = some (.string s) := by rw [cell_of_row _ _ _ _ _ _ VB1.out]; rfl
    have hle1 : base ≤ w1.heap.size := Nat.le_trans hle B2.out.size
    clear O1 B1 G0
    go_wp2_with fail
    refine (putNumber_any (l ++ [1]) n _ base w1 (by simp; omega) hle1 O2.out).mono ?_
    rintro e w2 ⟨v2, rfl, b3, o3⟩
    have O4 := Hid.mk' o3
    obtain ⟨xa, xm, xk, rfl⟩ := owns_slice o3
    clear o3
    go_wp2_with fail
    go_ret
    exact ⟨_, rfl, B2.out.trans b3, by rw [show encV 1 n s = 1 :: encN n from rfl, List.append_cons]; exact O4.out⟩
  · have VB := Hid.mk' (new_at (W := w) (o := .cells #[.int .i64 2, .int .i64 n, .string s] 35) rfl)
    go_enter Tryd.func52, Tryd.ntmps52
    go_wp2_with (at_builtin; refine wp_bytes _ rfl _ _ rfl base l [2] _ [.int .u8 2] (w.heap.size + 1) 1 rfl rfl (new_at (by simp)) rfl rfl ((HB.out.alloc _).alloc _) (by omega) (by simp; omega) ?_)
    intro a1 k1 c1 w1 O1 B1
    have O2 := Hid.mk' O1
    have G0 : Kp tsU base (w.alloc (.cells #[.int .i64 2, .int .i64 n, .string s] 35)) w1 := ((Kp.refl tsU base _).alloc (by simp; omega) _).trans B1
    have VB1 := Hid.mk' (G0.kp _ _ _ _ VB.out (by decide))
    have B2 := Hid.mk' (((Kp.refl tsU base w).alloc hle _).trans G0)
    have c0 : w1.cell? ⟨w.heap.size, 0, none⟩ = some (.int .i64 2) := by rw [cell_of_row _ _ _ _ _ _ VB1.out]; rfl
    have c1 : w1.cell? ⟨w.heap.size, 1, none⟩ = some (.int .i64 n) := by rw [cell_of_row _ _ _ _ _ _ VB1.out]; rfl
    have c2 : w1.cell? ⟨w.heap.size, 2, none⟩ = some (.string s) := by rw [cell_of_row _ _ _ _ _ _ VB1.out]; rfl
    have hle1 : base ≤ w1.heap.size := Nat.le_trans hle B2.out.size
    clear O1 B1 G0
    have hsz : s.size ≤ 32 := val_size' HO.out
    go_wp2_with fail
    refine (putString_any (l ++ [2]) s _ base w1 (by simp; omega) (by omega) hle1 O2.out).mono ?_
    rintro e w2 ⟨v2, rfl, b3, o3, _⟩
    have O4 := Hid.mk' o3
    obtain ⟨xa, xm, xk, rfl⟩ := owns_slice o3
    clear o3
    go_wp2_with fail
    go_ret
    exact ⟨_, rfl, B2.out.trans b3, by rw [show encV 2 n s = 2 :: encS s from rfl, List.append_cons]; exact O4.out⟩
  · have VB := Hid.mk' (new_at (W := w) (o := .cells #[.int .i64 3, .int .i64 n, .string s] 35) rfl)
    go_enter Tryd.func52, Tryd.ntmps52
    go_wp2_with (at_builtin; refine wp_bytes _ rfl _ _ rfl base l [3] _ [.int .u8 3] (w.heap.size + 1) 1 rfl rfl (new_at (by simp)) rfl rfl ((HB.out.alloc _).alloc _) (by omega) (by simp; omega) ?_)
    intro a1 k1 c1 w1 O1 B1
    have O2 := Hid.mk' O1
    have G0 : Kp tsU base (w.alloc (.cells #[.int .i64 3, .int .i64 n, .string s] 35)) w1 := ((Kp.refl tsU base _).alloc (by simp; omega) _).trans B1
    have VB1 := Hid.mk' (G0.kp _ _ _ _ VB.out (by decide))
    have B2 := Hid.mk' (((Kp.refl tsU base w).alloc hle _).trans G0)
    have c0 : w1.cell? ⟨w.heap.size, 0, none⟩ = some (.int .i64 3) := by rw [cell_of_row _ _ _ _ _ _ VB1.out]; rfl
    have c1 : w1.cell? ⟨w.heap.size, 1, none⟩ = some (.int .i64 n) := by rw [cell_of_row _ _ _ _ _ _ VB1.out]; rfl
    have c2 : w1.cell? ⟨w.heap.size, 2, none⟩ = some (.string s) := by rw [cell_of_row _ _ _ _ _ _ VB1.out]; rfl
    have hle1 : base ≤ w1.heap.size := Nat.le_trans hle B2.out.size
    clear O1 B1 G0
    rcases (val_flag HO.out).1 with rfl | rfl
    · go_wp2_with (at_builtin; refine wp_bytes _ rfl _ _ rfl base (l ++ [3]) [0] _ [.int .u8 0] w1.heap.size 1 rfl rfl (heap_alloc_new _ _) rfl rfl (O2.out.alloc _) (by simp; omega) (by simp; omega) ?_)
      intro a4 k4 c4 w4 o4 b4
      have O4 := Hid.mk' o4
      have B4 := Hid.mk' ((B2.out.alloc hle1 _).trans b4)
      clear o4 b4
      go_wp2_with fail
      go_ret
      exact ⟨_, rfl, B4.out, O4.out⟩
    · go_wp2_with (at_builtin; refine wp_bytes _ rfl _ _ rfl base (l ++ [3]) [1] _ [.int .u8 1] w1.heap.size 1 rfl rfl (heap_alloc_new _ _) rfl rfl (O2.out.alloc _) (by simp; omega) (by simp; omega) ?_)
      intro a4 k4 c4 w4 o4 b4
      have O4 := Hid.mk' o4
      have B4 := Hid.mk' ((B2.out.alloc hle1 _).trans b4)
      clear o4 b4
      go_wp2_with fail
      go_ret
      exact ⟨_, rfl, B4.out, O4.out⟩
end Go.Proofs.YtecnfgikbmcgoaaDoor
