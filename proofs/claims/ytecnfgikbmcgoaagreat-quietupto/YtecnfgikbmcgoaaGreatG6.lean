import Derived.Test.YtecnfgikbmcgoaaGreatG5
import Derived.Test.YtecnfgikbmcgoaaGreatG2
import Derived.Test.YtecnfgikbmcgoaaGreatRows
import Derived.Test.YtecnfgikbmcgoaaGreatG1
import Derived.WalkKit
import Derived.WalkSpells
import Derived.WalkLawsBesides
import Derived.Deep.Light
import Derived.Deep.RegionHeld3
import Derived.Deep.RegionWith
namespace Go.Proofs.YtecnfgikbmcgoaaGreat
open Go.RowKit

def cT (k : Nat) : ByteArray := (⟨#[97, 122, 0, 255]⟩ : ByteArray).extract k (k + 1)
theorem cT0 : cT 0 = aT := by decide
theorem cT1 : cT 1 = zT := by decide
theorem cT2 : cT 2 = oT := by decide
theorem cT3 : cT 3 = fT := by decide
theorem cT_size (k : Nat) (h : k < 4) : (cT k).size = 1 := by
  have : k = 0 ∨ k = 1 ∨ k = 2 ∨ k = 3 := by omega
  rcases this with rfl | rfl | rfl | rfl <;> decide

def tnum (n n' : Int) (i : Nat) : Int := if i = 0 then n else if i = 1 then n' else 0
def ttxt (s s' : ByteArray) (i : Nat) : ByteArray := if i = 0 then noText else if i = 1 then s else s'
def nums (n : Int) : List (Int × Int × ByteArray) := [(1, n, noText), (1, wrap64 (n + 1), noText), (1, wrap64 (n - 1), noText)]
def ext (s : ByteArray) (k : Nat) : List (Int × Int × ByteArray) := [(2, 0, s ++ cT k), (2, 0, cT k ++ s)]
def extsTo (s : ByteArray) : Nat → List (Int × Int × ByteArray)
  | 0 => []
  | k + 1 => if s.size < 32 then extsTo s k ++ ext s k else extsTo s k
def head4 : List (Int × Int × ByteArray) := [(3, 0, noText), (3, 1, noText), (1, minI, noText), (1, maxI, noText)]
def TL (n : Int) (s : ByteArray) (n' : Int) (s' : ByteArray) : Nat → List (Int × Int × ByteArray)
  | 0 => head4
  | i + 1 => TL n s n' s' i ++ nums (tnum n n' i) ++ [(2, 0, ttxt s s' i)] ++ extsTo (ttxt s s' i) 4

def T1 (n : Int) (s : ByteArray) (n' : Int) (s' : ByteArray) (j : Nat) : List (Int × Int × ByteArray) := TL n s n' s' j ++ nums (tnum n n' j)
def T2 (n : Int) (s : ByteArray) (n' : Int) (s' : ByteArray) (j : Nat) : List (Int × Int × ByteArray) := T1 n s n' s' j ++ [(2, 0, ttxt s s' j)]
def T3 (n : Int) (s : ByteArray) (n' : Int) (s' : ByteArray) (j q : Nat) : List (Int × Int × ByteArray) := T2 n s n' s' j ++ extsTo (ttxt s s' j) q
theorem T3_zero (n : Int) (s : ByteArray) (n' : Int) (s' : ByteArray) (j : Nat) : T3 n s n' s' j 0 = T2 n s n' s' j := by simp [T3, extsTo]
theorem T3_four (n : Int) (s : ByteArray) (n' : Int) (s' : ByteArray) (j : Nat) : T3 n s n' s' j 4 = TL n s n' s' (j + 1) := rfl
theorem T3_yes {n : Int} {s : ByteArray} {n' : Int} {s' : ByteArray} {j q : Nat} (h : (ttxt s s' j).size < 32) : T3 n s n' s' j (q + 1) = T3 n s n' s' j q ++ ext (ttxt s s' j) q := by
  simp [T3, extsTo, h]
theorem T3_no {n : Int} {s : ByteArray} {n' : Int} {s' : ByteArray} {j q : Nat} (h : ¬ (ttxt s s' j).size < 32) : T3 n s n' s' j (q + 1) = T3 n s n' s' j q := by
  simp [T3, extsTo, h]

theorem piece_eq (n : Int) (s : ByteArray) : nums n ++ [(2, 0, s)] ++ extsTo s 4 = piece n s := by
  unfold piece
  by_cases h : s.size < 32 <;> simp [nums, extsTo, ext, h, cT0, cT1, cT2, cT3]
theorem TL_eq (n : Int) (s : ByteArray) (n' : Int) (s' : ByteArray) : TL n s n' s' 3 = triedL n s n' s' := by
  have h0 : TL n s n' s' 3 = head4 ++ (nums (tnum n n' 0) ++ [(2, 0, ttxt s s' 0)] ++ extsTo (ttxt s s' 0) 4) ++ (nums (tnum n n' 1) ++ [(2, 0, ttxt s s' 1)] ++ extsTo (ttxt s s' 1) 4) ++ (nums (tnum n n' 2) ++ [(2, 0, ttxt s s' 2)] ++ extsTo (ttxt s s' 2) 4) := by
    simp only [TL, List.append_assoc]
  rw [h0, piece_eq, piece_eq, piece_eq]
  simp [tnum, ttxt, triedL, head4]

def vcell (v : Int × Int × ByteArray) : List Value := [.int .i64 v.1, .int .i64 v.2.1, .string v.2.2]
def vcells (l : List (Int × Int × ByteArray)) : List Value := l.flatMap vcell
theorem vcells_app (a b : List (Int × Int × ByteArray)) : vcells (a ++ b) = vcells a ++ vcells b := by simp [vcells]
theorem extsTo_len (s : ByteArray) : ∀ k, (extsTo s k).length ≤ 2 * k
  | 0 => by simp [extsTo]
  | k + 1 => by
    have := extsTo_len s k
    unfold extsTo; split
    · simp [ext]; omega
    · omega
theorem TL_len (n : Int) (s : ByteArray) (n' : Int) (s' : ByteArray) : ∀ i, (TL n s n' s' i).length ≤ 4 + 12 * i
  | 0 => by simp [TL, head4]
  | i + 1 => by
    have := TL_len n s n' s' i
    have := extsTo_len (ttxt s s' i) 4
    simp [TL, nums]; omega

theorem T3_len (n : Int) (s : ByteArray) (n' : Int) (s' : ByteArray) (j q : Nat) (hj : j ≤ 3) (hq : q ≤ 4) : (T1 n s n' s' j).length ≤ 60 ∧ (T3 n s n' s' j q).length ≤ 60 := by
  have := TL_len n s n' s' j
  have := extsTo_len (ttxt s s' j) q
  simp only [T3, T2, T1, nums, List.length_append, List.length_cons, List.length_nil]
  omega

theorem grown_block {w w' : World} {row : Option Nat} {k : Nat} {o : Obj} (hg : w.grownBy w' row) (h : w.heap[k]? = some o) (hr : row ≠ some k) : w'.heap[k]? = some o := by
  have hlt : k < w.heap.size := by
    rcases Nat.lt_or_ge k w.heap.size with h' | h'
    · exact h'
    · rw [Array.getElem?_eq_none (by omega)] at h; cases h
  rw [hg.block k hlt (fun e => hr e.symm)]; exact h
theorem own_ne {w : World} {base : Nat} {e t : TypeId} {size : Nat} {v : Value} {n : Nat} {xs : List Value} {k : Nat} {cs : Array Value} {fr : Nat × Nat} (h : w.ownsRow base e size v n xs) (hk : w.heap[k]? = some (.cells cs t fr)) (hne : t ≠ e) : v.ownBlock ≠ some k := by
  rcases h.2 with ⟨hv, _⟩ | ⟨q, cap, cur, hv, hq, hh, _⟩
  · rw [hv]; simp [Value.ownBlock]
  · rw [hv]; simp only [Value.ownBlock]
    intro e'
    have : q = k := by simpa using e'
    subst this
    rw [hh] at hk
    simp at hk
    exact hne hk.2.1.symm

theorem vals_at : ∀ (l : List (Int × Int × ByteArray)) (i : Nat) (v : Int × Int × ByteArray), l[i]? = some v → (vcells l)[i * 3]? = some (.int .i64 v.1) ∧ (vcells l)[i * 3 + 1]? = some (.int .i64 v.2.1) ∧ (vcells l)[i * 3 + 2]? = some (.string v.2.2)
  | [], i, v, h => by simp at h
  | x :: l, 0, v, h => by
    simp at h; subst h; simp [vcells, vcell]
  | x :: l, i + 1, v, h => by
    have ih := vals_at l i v (by simpa using h)
    have e : ∀ j, (vcells (x :: l))[(i + 1) * 3 + j]? = (vcells l)[i * 3 + j]? := fun j => by
      have : (i + 1) * 3 + j = (i * 3 + j) + 3 := by omega
      rw [this]; simp [vcells, vcell, List.getElem?_cons_succ]
    have e0 := e 0
    simp only [Nat.add_zero] at e0
    rw [e0, e 1, e 2]
    exact ih

end Go.Proofs.YtecnfgikbmcgoaaGreat
namespace Go.Proofs.YtecnfgikbmcgoaaGreat
open Go.RowKit

def spareW : Wnt := ⟨⟨#[115, 112, 97, 114, 101]⟩, 0, 0, 0, ⟨#[]⟩⟩
/-- What is handed over, with its spare room. -/
def outW (f : List Wnt) : List Wnt := f ++ List.replicate 8 spareW
theorem outW_len (f : List Wnt) : (outW f).length = f.length + 8 := by simp [outW]
theorem outW_in {f : List Wnt} {i : Nat} (h : i < f.length) : wat (outW f) i = wat f i := by
  simp [wat, outW, List.getD_eq_getElem?_getD, List.getElem?_append_left h]
theorem outW_past {f : List Wnt} {i : Nat} (h : ¬ i < f.length) (h2 : i < f.length + 8) : wat (outW f) i = spareW := by
  simp only [wat, outW, List.getD_eq_getElem?_getD]
  rw [List.getElem?_append_right (by omega), List.getElem?_replicate, if_pos (by omega)]; rfl

def set5 (xs : List Value) (k : Nat) (a b c d e : Value) : List Value := ((((xs.set k a).set (k + 1) b).set (k + 1 + 1) c).set (k + 1 + 1 + 1) d).set (k + 1 + 1 + 1 + 1) e
theorem take_set (xs : List Value) (k : Nat) (v : Value) (h : k < xs.length) : (xs.set k v).take (k + 1) = xs.take k ++ [v] := by
  rw [List.take_succ_eq_append_getElem (by simpa using h), List.take_set_of_le (Nat.le_refl k)]
  simp
theorem take5 (xs : List Value) (k : Nat) (a b c d e : Value) (h : k + 5 ≤ xs.length) : (set5 xs k a b c d e).take (k + 5) = xs.take k ++ [a, b, c, d, e] := by
  unfold set5
  have h1 := take_set xs k a (by omega)
  have h2 := take_set (xs.set k a) (k + 1) b (by simp; omega)
  have h3 := take_set ((xs.set k a).set (k + 1) b) (k + 1 + 1) c (by simp; omega)
  have h4 := take_set (((xs.set k a).set (k + 1) b).set (k + 1 + 1) c) (k + 1 + 1 + 1) d (by simp; omega)
  have h5 := take_set ((((xs.set k a).set (k + 1) b).set (k + 1 + 1) c).set (k + 1 + 1 + 1) d) (k + 1 + 1 + 1 + 1) e (by simp; omega)
  rw [show k + 5 = k + 1 + 1 + 1 + 1 + 1 by omega, h5, h4, h3, h2, h1]
  simp
theorem set5_len (xs : List Value) (k : Nat) (a b c d e : Value) : (set5 xs k a b c d e).length = xs.length := by simp [set5]
theorem wcells_take (l : List Wnt) (i : Nat) (h : i < l.length) : wcells (l.take (i + 1)) = wcells (l.take i) ++ [.string (wat l i).a, .int .i64 (wat l i).y, .int .i64 (wat l i).k, .int .i64 (wat l i).n, .string (wat l i).s] := by
  have e : wat l i = l[i] := by simp [wat, List.getD_eq_getElem?_getD, List.getElem?_eq_getElem h]
  rw [List.take_succ_eq_append_getElem h, wcells_snoc, e]

/-- Five stores into a row of one's own. -/
theorem owns_set5 {w : World} {base : Nat} {e : TypeId} {g n cap : Nat} {xs : List Value} (h : w.ownsRow base e 5 (.slice (some ⟨g, 0, none⟩) n cap) n xs) (k : Nat) (a b c d f : Value) :
    (((((w.setCell ⟨g, k, none⟩ a).setCell ⟨g, k + 1, none⟩ b).setCell ⟨g, k + 1 + 1, none⟩ c).setCell ⟨g, k + 1 + 1 + 1, none⟩ d).setCell ⟨g, k + 1 + 1 + 1 + 1, none⟩ f).ownsRow base e 5 (.slice (some ⟨g, 0, none⟩) n cap) n (set5 xs k a b c d f) :=
  (World.ownsRow.stored (World.ownsRow.stored (World.ownsRow.stored (World.ownsRow.stored (World.ownsRow.stored h k a).1 (k + 1) b).1 (k + 1 + 1) c).1 (k + 1 + 1 + 1) d).1 (k + 1 + 1 + 1 + 1) f).1
theorem gr_set5 {w v : World} {g k : Nat} (hg : w.heap.size ≤ g) (h : Gr w v) (a b c d f : Value) : Gr w (((((v.setCell ⟨g, k, none⟩ a).setCell ⟨g, k + 1, none⟩ b).setCell ⟨g, k + 1 + 1, none⟩ c).setCell ⟨g, k + 1 + 1 + 1, none⟩ d).setCell ⟨g, k + 1 + 1 + 1 + 1, none⟩ f) :=
  Below.setCell (Below.setCell (Below.setCell (Below.setCell (Below.setCell h hg _) hg _) hg _) hg _) hg _

structure FE where
  g : Nat
  f : List Wnt
  ad : Option Addr
  cap : Nat
def FE.fc (e : FE) : Value := .slice (some ⟨e.g, 0, none⟩) (e.f.length + 8) (e.f.length + 8)
def FE.wc (e : FE) : Value := .slice e.ad e.f.length e.cap
def FiB (base : Nat) (w : World) (ad : Option Addr) (f : List Wnt) : Prop := ∃ b off, ad = some ⟨b, off, none⟩ ∧ b < base ∧ WantsAt w b off f

/-- Filters that were handed in are kept, beside what was handed over. -/
structure LentF (w : World) (base LB : Nat) (ve vew vf vw : Value) (Fs : List FE) : Prop where
  lb : base ≤ LB
  le : base ≤ w.heap.size
  box : w.heap[LB]? = some (.cells #[ve, vew, vf, vw] 152 (0, 0))
  ownf : w.ownsRow base 47 1 vf Fs.length (Fs.map FE.fc)
  ownw : w.ownsRow base 90 1 vw Fs.length (Fs.map FE.wc)
  outs : ∀ e ∈ Fs, base ≤ e.g ∧ e.g < w.heap.size ∧ w.heap[e.g]? = some (.cells (wcells (outW e.f)).toArray 76 (0, 0))
  args : ∀ e ∈ Fs, e.f ≠ [] ∧ FiB base w e.ad e.f ∧ (∀ x ∈ e.f, Wnt.Wf x)
  nodup : (Fs.map FE.g).Nodup

theorem FiB.gr {base : Nat} {w w' : World} {ad : Option Addr} {f : List Wnt} (h : FiB base w ad f) (g : Below base w w') : FiB base w' ad f := by
  obtain ⟨b, off, h1, h2, h3⟩ := h
  refine ⟨b, off, h1, h2, fun i hi => ?_⟩
  obtain ⟨c1, c2, c3, c4, c5⟩ := h3 i hi
  have e : ∀ o, w'.cell? ⟨b, o, none⟩ = w.cell? ⟨b, o, none⟩ := fun o => g.cell (p := ⟨b, o, none⟩) h2
  rw [e, e, e, e, e]
  exact ⟨c1, c2, c3, c4, c5⟩
theorem LentF.gr {w w' : World} {base LB : Nat} {ve vew vf vw : Value} {Fs : List FE} (h : LentF w base LB ve vew vf vw Fs) (g : Gr w w') : LentF w' base LB ve vew vf vw Fs := by
  have blk : ∀ k o, w.heap[k]? = some o → w'.heap[k]? = some o := fun k o hk => by
    have hlt : k < w.heap.size := by
      rcases Nat.lt_or_ge k w.heap.size with h' | h'
      · exact h'
      · rw [Array.getElem?_eq_none (by omega)] at hk; cases hk
    rw [g.block k hlt]; exact hk
  exact ⟨h.lb, Nat.le_trans h.le g.size, blk _ _ h.box, ownsGr h.ownf g, ownsGr h.ownw g,
    fun e he => ⟨(h.outs e he).1, Gr.lt g (h.outs e he).2.1, blk _ _ (h.outs e he).2.2⟩, fun e he => ⟨(h.args e he).1, (h.args e he).2.1.gr (Below.mono g h.le), (h.args e he).2.2⟩, h.nodup⟩

end Go.Proofs.YtecnfgikbmcgoaaGreat
namespace Go.Proofs.YtecnfgikbmcgoaaGreat
open Go.RowKit

set_option maxHeartbeats 400000 in
theorem goodName_any (s : ByteArray) (w : World) (hs : s.size ≤ maxLen) :
    Calls Tryz.prog 88 #[.string s] w fun e w' => e = .returned (.bool (nameOk s)) ∧ w' = w := by
  unfold maxLen at hs
  go_enter Tryz.func88, Tryz.ntmps88
  go_wp2
  · go_ret; exact ⟨ret_bool (name_short s ‹_›), rfl⟩
  · go_loop [14] (fun i => ∃ k : Nat, k ≤ s.size ∧ i = .int .i64 k ∧ Hid ((s.data.toList.take k).all letter = true)) (fun i => s.size - (intOf i).toNat)
    case atStart => exact ⟨0, Nat.zero_le _, rfl, rfl⟩
    case round =>
      obtain ⟨k, hk, rfl, HA⟩ := hrel
      by_cases hlt : k < s.size
      · go_wp2
        · go_ret; exact ⟨ret_bool (name_stop s k hlt ‹_›), rfl⟩
        · go_round
          case rel => exact ⟨k + 1, by omega, by go_num, letters_go s k hlt HA.out (by omega) (by omega)⟩
          case measure => simp [intOf]; omega
        · go_ret; exact ⟨ret_bool (name_stop s k hlt (Or.inl ‹_›)), rfl⟩
      · go_wp2
        go_ret
        refine ⟨ret_bool ?_, rfl⟩
        rw [name_end s k hlt HA.out]; symm; simp; omega
  · go_ret; exact ⟨ret_bool (name_short s (Or.inl ‹_›)), rfl⟩

set_option maxHeartbeats 400000 in
theorem name_any (s : ByteArray) (w : World) (hs : s.size ≤ maxLen) :
    Calls Tryz.prog 123 #[.string s] w fun e w' => e = .returned (.bool (nameOk s)) ∧ w' = w := by
  unfold maxLen at hs
  go_enter Tryz.func123, Tryz.ntmps123
  go_wp2
  go_loop [3] (fun i => ∃ k : Nat, k ≤ s.size ∧ i = .int .i64 k ∧ Hid ((s.data.toList.take k).all letter = true)) (fun i => s.size - (intOf i).toNat)
  case atStart => exact ⟨0, Nat.zero_le _, rfl, rfl⟩
  case round =>
    obtain ⟨k, hk, rfl, HA⟩ := hrel
    by_cases hlt : k < s.size
    · go_wp2
      · go_ret; exact ⟨ret_bool (name_stop s k hlt ‹_›), rfl⟩
      · go_round
        case rel => exact ⟨k + 1, by omega, by go_num, letters_go s k hlt HA.out (by omega) (by omega)⟩
        case measure => simp [intOf]; omega
      · go_ret; exact ⟨ret_bool (name_stop s k hlt (Or.inl ‹_›)), rfl⟩
    · go_wp2
      all_goals
        go_ret
        refine ⟨ret_bool ?_, rfl⟩
        rw [name_end s k hlt HA.out]
        go_light
        first | (simp [*]; done) | (simp; omega)

set_option maxHeartbeats 400000 in
theorem goodValue_any (k n : Int) (s : ByteArray) (w : World) :
    Calls Tryz.prog 89 #[.agg #[.int .i64 k, .int .i64 n, .string s]] w fun e w' => e = .returned (.bool (valOk k n s)) ∧ Below w.heap.size w w' := by
  go_enter Tryz.func89, Tryz.ntmps89
  go_wp2
  all_goals
    go_ret
    refine ⟨ret_bool ?_, (Below.refl _ _).alloc (Nat.le_refl _) _⟩
    go_light
    simp_all [valOk]

set_option maxHeartbeats 400000 in
theorem value_any (k n : Int) (s : ByteArray) (w : World) :
    Calls Tryz.prog 124 #[.agg #[.int .i64 k, .int .i64 n, .string s]] w fun e w' => e = .returned (.bool (valOk k n s)) ∧ Below w.heap.size w w' := by
  go_enter Tryz.func124, Tryz.ntmps124
  go_wp2
  all_goals
    go_ret
    refine ⟨ret_bool ?_, (Below.refl _ _).alloc (Nat.le_refl _) _⟩
    go_light
    simp_all [valOk]

end Go.Proofs.YtecnfgikbmcgoaaGreat
namespace Go.Proofs.YtecnfgikbmcgoaaGreat
open Go.RowKit

set_option maxHeartbeats 1000000 in
theorem above_any (n : Int) (w : World) :
    Calls Tryz.prog 29 #[.int .i64 n] w fun e w' => e = .returned (.agg #[.string ⟨#[115, 105, 122, 101]⟩, .int .i64 6, .int .i64 1, .int .i64 n, .string ⟨#[]⟩]) ∧ Gr w w' := by
  go_enter Tryz.func29, Tryz.ntmps29
  go_wp2
  exact bodyPost_ret (v := .agg #[.string ⟨#[115, 105, 122, 101]⟩, .int .i64 6, .int .i64 1, .int .i64 n, .string ⟨#[]⟩]) (by simp [results, Tryz.results29, go_sem]) rfl ⟨rfl, (Gr.refl w).alloc _⟩

set_option maxHeartbeats 1000000 in
theorem lawVal_any (k n : Int) (s : ByteArray) (w : World) :
    Calls Tryz.prog 107 #[.agg #[.int .i64 k, .int .i64 n, .string s]] w fun e w' => e = .returned (.agg #[.int .i64 k, .int .i64 n, .string s]) ∧
      w' = (w.alloc (.cells #[.int .i64 k, .int .i64 n, .string s] 94)).alloc (.cells #[.int .i64 k, .int .i64 n, .string s] 72) := by
  go_enter Tryz.func107, Tryz.ntmps107
  go_wp2
  exact bodyPost_ret (v := .agg #[.int .i64 k, .int .i64 n, .string s]) (by simp [results, Tryz.results107, go_sem]) rfl ⟨rfl, rfl⟩

set_option maxHeartbeats 2000000 in
theorem lawWant_any (a : ByteArray) (y k n : Int) (s : ByteArray) (w : World) :
    Calls Tryz.prog 71 #[.agg #[.string a, .int .i64 y, .int .i64 k, .int .i64 n, .string s]] w fun e w' => e = .returned (.agg #[.string a, .int .i64 y, .int .i64 k, .int .i64 n, .string s]) ∧ Gr w w' := by
  go_enter Tryz.func71, Tryz.ntmps71
  go_wp2
  go_region_held3 (fun w' => w'.cell? ⟨w.heap.size, 0, none⟩ = some (.string a) ∧ w'.cell? ⟨w.heap.size, 1, none⟩ = some (.int .i64 y) ∧ w'.cell? ⟨w.heap.size, 2, none⟩ = some (.int .i64 k) ∧ w'.cell? ⟨w.heap.size, 3, none⟩ = some (.int .i64 n) ∧ w'.cell? ⟨w.heap.size, 4, none⟩ = some (.string s))
    (simp [go_sem, World.cell?_alloc_past]) (first | (go_at_call 107; refine (lawVal_any _ _ _ _).mono ?_; rintro e w1 ⟨rfl, rfl⟩))
  all_goals
    go_wp2
    refine bodyPost_ret (v := .agg #[.string a, .int .i64 y, .int .i64 k, .int .i64 n, .string s]) (by simp [results, Tryz.results71, go_sem]) rfl ⟨rfl, ?_⟩
    repeat (first | exact Gr.refl _ | apply Gr.drew | apply Gr.alloc)

set_option maxHeartbeats 2000000 in
theorem lawAttr_any (a : ByteArray) (k n : Int) (s : ByteArray) (w : World) :
    Calls Tryz.prog 70 #[.agg #[.string a, .int .i64 k, .int .i64 n, .string s]] w fun e w' => e = .returned (.agg #[.string a, .int .i64 k, .int .i64 n, .string s]) ∧ Gr w w' := by
  go_enter Tryz.func70, Tryz.ntmps70
  go_wp2
  go_region_held3 (fun w' => w'.cell? ⟨w.heap.size, 0, none⟩ = some (.string a) ∧ w'.cell? ⟨w.heap.size, 1, none⟩ = some (.int .i64 k) ∧ w'.cell? ⟨w.heap.size, 2, none⟩ = some (.int .i64 n) ∧ w'.cell? ⟨w.heap.size, 3, none⟩ = some (.string s))
    (simp [go_sem, World.cell?_alloc_past]) (first | (go_at_call 107; refine (lawVal_any _ _ _ _).mono ?_; rintro e w1 ⟨rfl, rfl⟩))
  all_goals
    go_wp2
    refine bodyPost_ret (v := .agg #[.string a, .int .i64 k, .int .i64 n, .string s]) (by simp [results, Tryz.results70, go_sem]) rfl ⟨rfl, ?_⟩
    repeat (first | exact Gr.refl _ | apply Gr.drew | apply Gr.alloc)
end Go.Proofs.YtecnfgikbmcgoaaGreat
