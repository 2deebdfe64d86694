import Derived.Test.YtecnfgikbmcgoaaGreatG1
import Derived.WalkSmall
import Derived.WalkSpells
import Derived.Deep.AppendLies
namespace Go.Proofs.YtecnfgikbmcgoaaGreat
open Go.RowKit

theorem Gr.drewN {a w : World} (h : Gr a w) (n : Nat) : Gr a (w.drewN n) := below_drewN h n

def okAt (l : List Atr) (i : Nat) : Bool :=
  nameOk (aat l i).a && valOk (aat l i).k (aat l i).n (aat l i).s && (i == 0 || Op.bytesLess (aat l (i - 1)).a.toList (aat l i).a.toList)
def evOk (l : List Atr) : Bool := decide (1 ≤ (l.length : Int)) && decide ((l.length : Int) ≤ 8) && (List.range l.length).all (okAt l)
def chkE (l : List Atr) : Int := if evOk l then 0 else 1

theorem chkE_size {l : List Atr} (h : (l.length : Int) < 1 ∨ 8 < (l.length : Int)) : chkE l = 1 := by
  have : evOk l = false := by
    rcases h with h | h
    · have e : decide (1 ≤ (l.length : Int)) = false := by simp; omega
      simp only [evOk, e, Bool.false_and]
    · have e : decide ((l.length : Int) ≤ 8) = false := by simp; omega
      simp only [evOk, e, Bool.false_and, Bool.and_false]
  simp [chkE, this]
theorem chkE_stop {l : List Atr} (k : Nat) (h : k < l.length) (hp : okAt l k = false) : chkE l = 1 := by
  have : (List.range l.length).all (okAt l) = false := by
    rw [List.all_eq_false]
    exact ⟨k, by simpa using h, by simp [hp]⟩
  simp [chkE, evOk, this]
theorem range_snoc {l : List Atr} (k : Nat) (hk : (List.range k).all (okAt l) = true) (hp : okAt l k = true) : (List.range (k + 1)).all (okAt l) = true := by
  rw [List.range_succ, List.all_append, hk]; simp [hp]
theorem chkE_end {l : List Atr} (k : Nat) (h : ¬ k < l.length) (hk' : k ≤ l.length) (h1 : 1 ≤ (l.length : Int)) (h2 : (l.length : Int) ≤ 8) (hk : (List.range k).all (okAt l) = true) : chkE l = 0 := by
  have e : k = l.length := by omega
  subst e
  have e1 : decide (1 ≤ (l.length : Int)) = true := by simpa using h1
  have e2 : decide ((l.length : Int) ≤ 8) = true := by simpa using h2
  simp only [chkE, evOk, e1, e2, hk, Bool.and_self, if_true]

theorem bytes_total : ∀ x y : List UInt8, (Op.bytesLess x y || x == y) = !Op.bytesLess y x
  | [], [] => by simp [Op.bytesLess]
  | [], _ :: _ => by simp [Op.bytesLess]
  | _ :: _, [] => by simp [Op.bytesLess]
  | a :: x, b :: y => by
    have ih := bytes_total x y
    by_cases h : a = b
    · subst h
      have e1 : Op.bytesLess (a :: x) (a :: y) = Op.bytesLess x y := by simp [Op.bytesLess]
      have e2 : Op.bytesLess (a :: y) (a :: x) = Op.bytesLess y x := by simp [Op.bytesLess]
      have e3 : ((a :: x) == (a :: y)) = (x == y) := by simp
      rw [e1, e2, e3, ih]
    · have h' : ¬ b = a := fun e => h e.symm
      have e3 : ((a :: x) == (b :: y)) = false := by simp [h]
      by_cases hl : a < b
      · have hl' : ¬ b < a := by rw [UInt8.lt_iff_toNat_lt] at *; omega
        simp [Op.bytesLess, h', hl, hl']
      · have hl' : b < a := by
          rw [UInt8.lt_iff_toNat_lt] at *
          have : a.toNat ≠ b.toNat := fun e => h (UInt8.toNat_inj.1 e)
          omega
        simp [Op.bytesLess, h, hl, hl']

/-- What the first attribute of that name answers. -/
def ans : List Atr → Wnt → Bool
  | [], _ => false
  | a :: r, x => if a.a.toList == x.a.toList then lets x.y x.k x.n x.s a.k a.n a.s else ans r x
theorem ans_here {l : List Atr} {x : Wnt} (k : Nat) (h : k < l.length) (hn : ((aat l k).a.toList == x.a.toList) = true) : ans (l.drop k) x = lets x.y x.k x.n x.s (aat l k).k (aat l k).n (aat l k).s := by
  have e : l.drop k = aat l k :: l.drop (k + 1) := by
    rw [List.drop_eq_getElem_cons h]; simp [aat, List.getD_eq_getElem?_getD, List.getElem?_eq_getElem h]
  rw [e, ans, if_pos hn]
theorem ans_next {l : List Atr} {x : Wnt} (k : Nat) (h : k < l.length) (hn : ((aat l k).a.toList == x.a.toList) = false) : ans (l.drop k) x = ans (l.drop (k + 1)) x := by
  have e : l.drop k = aat l k :: l.drop (k + 1) := by
    rw [List.drop_eq_getElem_cons h]; simp [aat, List.getD_eq_getElem?_getD, List.getElem?_eq_getElem h]
  rw [e, ans, if_neg (by simp [hn])]
theorem ans_end {l : List Atr} {x : Wnt} (k : Nat) (h : ¬ k < l.length) : ans (l.drop k) x = false := by
  rw [List.drop_of_length_le (by omega)]; rfl
def mat (e : List Atr) (f : List Wnt) : Bool := f.all (ans e)

end Go.Proofs.YtecnfgikbmcgoaaGreat
namespace Go.Proofs.YtecnfgikbmcgoaaGreat
open Go.RowKit

theorem ownsGr {w w' : World} {base : Nat} {e : TypeId} {size : Nat} {v : Value} {n : Nat} {xs : List Value} (h : w.ownsRow base e size v n xs) (g : Gr w w') : w'.ownsRow base e size v n xs := by
  obtain ⟨h1, h2⟩ := h
  refine ⟨h1, ?_⟩
  rcases h2 with h2 | ⟨b, cap, cur, hv, hb, hh, r⟩
  · exact Or.inl h2
  · refine Or.inr ⟨b, cap, cur, hv, hb, ?_, r⟩
    have hlt : b < w.heap.size := by
      rcases Nat.lt_or_ge b w.heap.size with h | h
      · exact h
      · rw [Array.getElem?_eq_none (by omega)] at hh; cases hh
    rw [g.block b hlt]; exact hh

/-- A list of wants as a slice (nil, or of no want: its address is whatever). -/
def FiAt (w : World) (ad : Option Addr) (l : List Wnt) : Prop := l = [] ∨ ∃ b off, ad = some ⟨b, off, none⟩ ∧ b < w.heap.size ∧ WantsAt w b off l
def EvAt (w : World) (ad : Option Addr) (l : List Atr) : Prop := l = [] ∨ ∃ b off, ad = some ⟨b, off, none⟩ ∧ b < w.heap.size ∧ AttrsAt w b off l
theorem FiAt.gr {w w' : World} {ad : Option Addr} {l : List Wnt} (h : FiAt w ad l) (g : Gr w w') : FiAt w' ad l := by
  rcases h with h | ⟨b, off, h1, h2, h3⟩
  · exact Or.inl h
  · exact Or.inr ⟨b, off, h1, Gr.lt g h2, h3.gr g h2⟩
theorem EvAt.gr {w w' : World} {ad : Option Addr} {l : List Atr} (h : EvAt w ad l) (g : Gr w w') : EvAt w' ad l := by
  rcases h with h | ⟨b, off, h1, h2, h3⟩
  · exact Or.inl h
  · exact Or.inr ⟨b, off, h1, Gr.lt g h2, h3.gr g h2⟩

def fat (fs : List (List Wnt)) (i : Nat) : List Wnt := fs.getD i []
theorem fat_mem {fs : List (List Wnt)} {i : Nat} (h : i < fs.length) : fat fs i ∈ fs := getD_mem h []
/-- Filters lie in a block, a cell each. -/
def FisAt (w : World) (b off : Nat) (fs : List (List Wnt)) : Prop :=
  ∀ i, i < fs.length → ∃ ad cap, w.cell? ⟨b, off + i, none⟩ = some (.slice ad (fat fs i).length cap) ∧ FiAt w ad (fat fs i)
theorem FisAt.gr {w w' : World} {b off : Nat} {fs : List (List Wnt)} (h : FisAt w b off fs) (g : Gr w w') (hb : b < w.heap.size) : FisAt w' b off fs := fun i hi => by
  obtain ⟨ad, cap, h1, h2⟩ := h i hi
  exact ⟨ad, cap, by rw [(bcell g).1 b _ hb]; exact h1, h2.gr g⟩

theorem ret_tup {v : Value} {a b : Int} (h : a = b) : Ending.returned (.tuple #[v, .int .i64 a]) = .returned (.tuple #[v, .int .i64 b]) := by rw [h]

/-- Which filters match. -/
def hits (e : List Atr) (fs : List (List Wnt)) (k : Nat) : List Nat := (List.range k).filter fun i => mat e (fat fs i)
def mErr (e : List Atr) (fs : List (List Wnt)) : Int := if evOk e then (if fs.all filterOk then 0 else 2) else 1
def mRes (e : List Atr) (fs : List (List Wnt)) : List Nat := if mErr e fs = 0 then hits e fs fs.length else []
def ints (l : List Nat) : List Value := l.map fun i : Nat => .int .i64 (i : Int)

theorem hits_yes {e : List Atr} {fs : List (List Wnt)} {k : Nat} (h : mat e (fat fs k) = true) : hits e fs (k + 1) = hits e fs k ++ [k] := by
  simp [hits, List.range_succ, h]
theorem hits_no {e : List Atr} {fs : List (List Wnt)} {k : Nat} (h : mat e (fat fs k) = false) : hits e fs (k + 1) = hits e fs k := by
  simp [hits, List.range_succ, h]
theorem hits_le (e : List Atr) (fs : List (List Wnt)) (k : Nat) : (hits e fs k).length ≤ k := by
  have := List.length_filter_le (fun i => mat e (fat fs i)) (List.range k)
  simpa [hits] using this
theorem ints_snoc (l : List Nat) (k : Nat) : ints (l ++ [k]) = ints l ++ [.int .i64 (k : Int)] := by simp [ints]
theorem ev_ok_of {l : List Atr} (h : evOk l = true) : (∀ z ∈ l, valOk z.k z.n z.s = true) ∧ l ≠ [] := by
  simp only [evOk, Bool.and_eq_true, List.all_eq_true] at h
  refine ⟨fun z hz => ?_, fun e => ?_⟩
  · obtain ⟨i, hi, rfl⟩ := List.mem_iff_getElem.1 hz
    have := h.2 i (by simpa using hi)
    simp [okAt, aat, List.getD_eq_getElem?_getD, List.getElem?_eq_getElem hi] at this
    exact this.1.2
  · subst e; simp at h
theorem fi_ok_of {l : List Wnt} (h : filterOk l = true) : (∀ x ∈ l, wOk x = true) ∧ l ≠ [] := by
  simp only [filterOk, Bool.and_eq_true, List.all_eq_true] at h
  refine ⟨fun x hx => h.2 x hx, fun e => ?_⟩
  subst e; simp at h

end Go.Proofs.YtecnfgikbmcgoaaGreat
namespace Go.Proofs.YtecnfgikbmcgoaaGreat
open Go.RowKit

def pickF (c n : Int) : Int := (if c < 0 then -(c + 1) else c) % n
theorem pickF_bd (c n : Int) (hn : 1 ≤ n) : 0 ≤ pickF c n ∧ pickF c n < n := by
  unfold pickF
  exact ⟨Int.emod_nonneg _ (by omega), Int.emod_lt_of_pos _ (by omega)⟩

def textF (n : Int) : ByteArray :=
  if n % 6 = 0 then ⟨#[]⟩ else if n % 6 = 1 then ⟨#[97]⟩ else if n % 6 = 2 then ⟨#[97, 98]⟩ else if n % 6 = 3 then ⟨#[98, 97]⟩ else if n % 6 = 4 then ⟨#[97, 98, 97]⟩ else ⟨#[98]⟩
def nameF (n : Int) : ByteArray := if n % 3 = 0 then ⟨#[97]⟩ else if n % 3 = 1 then ⟨#[98]⟩ else ⟨#[99]⟩
def valK (n : Int) : Int := if pickF n 60 % 3 = 0 then 1 else if pickF n 60 % 3 = 1 then 2 else 3
def valN (n : Int) : Int := if pickF n 60 % 3 = 0 then pickF n 60 / 3 % 7 - 3 else if pickF n 60 % 3 = 1 then 0 else pickF n 60 / 3 % 2
def valS (n : Int) : ByteArray := if pickF n 60 % 3 = 0 then ⟨#[]⟩ else if pickF n 60 % 3 = 1 then textF (pickF n 60 / 3) else ⟨#[]⟩

def wk (n : Int) : Int := pickF n 1073741824
def wy (n : Int) : Int := 1 + wk n / 3 % 10
def wantF (n : Int) : Wnt :=
  if wy n = 1 then ⟨nameF (wk n), 1, 0, 0, ⟨#[]⟩⟩
  else if 8 ≤ wy n then ⟨nameF (wk n), wy n, 2, 0, textF (wk n / 30)⟩
  else if 4 ≤ wy n then ⟨nameF (wk n), wy n, 1, wk n / 30 % 7 - 3, ⟨#[]⟩⟩
  else ⟨nameF (wk n), wy n, valK (wk n / 30), valN (wk n / 30), valS (wk n / 30)⟩

theorem lit_list (l : List UInt8) : (⟨l.toArray⟩ : ByteArray).toList = l := by rw [ByteArray.toList_eq]
theorem text_size (n : Int) : (textF n).size ≤ 3 := by
  unfold textF
  repeat' split
  all_goals decide
theorem name_ok (n : Int) : nameOk (nameF n) = true := by
  unfold nameF
  repeat' split
  all_goals decide
theorem name_size (n : Int) : (nameF n).size = 1 := by
  unfold nameF
  repeat' split
  all_goals decide
theorem val_ok (n : Int) : valOk (valK n) (valN n) (valS n) = true := by
  have hs := text_size (pickF n 60 / 3)
  have he : (⟨#[]⟩ : ByteArray).toList = [] := noText_list
  unfold valK valN valS
  split
  · simp [valOk, he]
  · split
    · simp [valOk]; omega
    · simp [valOk, he]; omega
theorem val_bd (n : Int) : -3 ≤ valN n ∧ valN n ≤ 3 := by
  unfold valN; split
  · omega
  · split <;> omega
theorem valS_size (n : Int) : (valS n).size ≤ 3 := by
  unfold valS
  have := text_size (pickF n 60 / 3)
  have e : (⟨#[]⟩ : ByteArray).size = 0 := rfl
  split
  · omega
  · split
    · exact this
    · omega
theorem wantF_ok (n : Int) : wOk (wantF n) = true := by
  have hb := pickF_bd n 1073741824 (by omega)
  have hy : 1 ≤ wy n ∧ wy n ≤ 10 := by unfold wy; omega
  have he : (⟨#[]⟩ : ByteArray).toList = [] := noText_list
  have hs := text_size (wk n / 30)
  unfold wantF
  split
  · simp [wOk, wantOk, name_ok, wayOk_any, he]
  · split
    · simp only [wOk, wantOk, name_ok, Bool.true_and]
      rw [wayOk_hi _ _ _ _ (by omega) (by omega)]; simp [valOk]; omega
    · split
      · simp only [wOk, wantOk, name_ok, Bool.true_and]
        rw [wayOk_mid _ _ _ _ (by omega) (by omega)]; simp [valOk, he]
      · simp only [wOk, wantOk, name_ok, Bool.true_and]
        rw [wayOk_low _ _ _ _ (by omega) (by omega)]; exact val_ok _
theorem wantF_wf (n : Int) : (wantF n).Wf := by
  have h1 := name_size (wk n)
  have h2 := text_size (wk n / 30)
  have h3 := val_bd (wk n / 30)
  have h4 := valS_size (wk n / 30)
  have e : (⟨#[]⟩ : ByteArray).size = 0 := rfl
  unfold wantF
  repeat' split
  all_goals constructor <;> simp only [maxLen, minI, maxI] <;> omega

end Go.Proofs.YtecnfgikbmcgoaaGreat
namespace Go.Proofs.YtecnfgikbmcgoaaGreat
open Go.RowKit

def iat (zs : List Int) (i : Nat) : Int := zs.getD i 0
def IntsAt (w : World) (b off : Nat) (zs : List Int) : Prop := ∀ i, i < zs.length → w.cell? ⟨b, off + i, none⟩ = some (.int .i64 (iat zs i))
theorem IntsAt.gr {w w' : World} {b off : Nat} {zs : List Int} (h : IntsAt w b off zs) (g : Gr w w') (hb : b < w.heap.size) : IntsAt w' b off zs := fun i hi => by
  rw [(bcell g).1 b _ hb]; exact h i hi
def IntWf (zs : List Int) : Prop := ∀ z ∈ zs, -9223372036854775808 ≤ z ∧ z ≤ 9223372036854775807
theorem iat_bd {zs : List Int} (h : IntWf zs) {i : Nat} (hi : i < zs.length) : -9223372036854775808 ≤ iat zs i ∧ iat zs i ≤ 9223372036854775807 := h _ (getD_mem hi 0)
def InAt (w : World) (ad : Option Addr) (zs : List Int) : Prop := zs = [] ∨ ∃ b off, ad = some ⟨b, off, none⟩ ∧ b < w.heap.size ∧ IntsAt w b off zs
theorem InAt.gr {w w' : World} {ad : Option Addr} {zs : List Int} (h : InAt w ad zs) (g : Gr w w') : InAt w' ad zs := by
  rcases h with h | ⟨b, off, h1, h2, h3⟩
  · exact Or.inl h
  · exact Or.inr ⟨b, off, h1, Gr.lt g h2, h3.gr g h2⟩

def wcell (x : Wnt) : List Value := [.string x.a, .int .i64 x.y, .int .i64 x.k, .int .i64 x.n, .string x.s]
def wcells (l : List Wnt) : List Value := l.flatMap wcell
def acell (x : Atr) : List Value := [.string x.a, .int .i64 x.k, .int .i64 x.n, .string x.s]
def acells (l : List Atr) : List Value := l.flatMap acell
theorem wcells_snoc (l : List Wnt) (x : Wnt) : wcells (l ++ [x]) = wcells l ++ [.string x.a, .int .i64 x.y, .int .i64 x.k, .int .i64 x.n, .string x.s] := by simp [wcells, wcell]
theorem acells_snoc (l : List Atr) (x : Atr) : acells (l ++ [x]) = acells l ++ [.string x.a, .int .i64 x.k, .int .i64 x.n, .string x.s] := by simp [acells, acell]

theorem wcells_at : ∀ (l : List Wnt) (i : Nat), i < l.length → (wcells l)[i * 5]? = some (.string (wat l i).a) ∧ (wcells l)[i * 5 + 1]? = some (.int .i64 (wat l i).y) ∧ (wcells l)[i * 5 + 2]? = some (.int .i64 (wat l i).k) ∧
    (wcells l)[i * 5 + 3]? = some (.int .i64 (wat l i).n) ∧ (wcells l)[i * 5 + 4]? = some (.string (wat l i).s)
  | [], i, h => by simp at h
  | x :: l, 0, _ => by simp [wcells, wcell, wat]
  | x :: l, i + 1, h => by
    have ih := wcells_at l i (by simpa using h)
    have e : ∀ j, (wcells (x :: l))[(i + 1) * 5 + j]? = (wcells l)[i * 5 + j]? := fun j => by
      have : (i + 1) * 5 + j = (i * 5 + j) + 5 := by omega
      rw [this]; simp [wcells, wcell, List.getElem?_cons_succ]
    have e0 := e 0
    simp only [Nat.add_zero] at e0
    have ew : wat (x :: l) (i + 1) = wat l i := by simp [wat]
    rw [e0, e 1, e 2, e 3, e 4, ew]
    exact ih
theorem acells_at : ∀ (l : List Atr) (i : Nat), i < l.length → (acells l)[i * 4]? = some (.string (aat l i).a) ∧ (acells l)[i * 4 + 1]? = some (.int .i64 (aat l i).k) ∧
    (acells l)[i * 4 + 2]? = some (.int .i64 (aat l i).n) ∧ (acells l)[i * 4 + 3]? = some (.string (aat l i).s)
  | [], i, h => by simp at h
  | x :: l, 0, _ => by simp [acells, acell, aat]
  | x :: l, i + 1, h => by
    have ih := acells_at l i (by simpa using h)
    have e : ∀ j, (acells (x :: l))[(i + 1) * 4 + j]? = (acells l)[i * 4 + j]? := fun j => by
      have : (i + 1) * 4 + j = (i * 4 + j) + 4 := by omega
      rw [this]; simp [acells, acell, List.getElem?_cons_succ]
    have e0 := e 0
    simp only [Nat.add_zero] at e0
    have ew : aat (x :: l) (i + 1) = aat l i := by simp [aat]
    rw [e0, e 1, e 2, e 3, ew]
    exact ih

/-- Wants that the call owns, as a slice: where they lie. -/
theorem owns_wants {w : World} {base : Nat} {e : TypeId} {v : Value} {l : List Wnt} (h : w.ownsRow base e 5 v l.length (wcells l)) : ∃ ad cap, v = .slice ad l.length cap ∧ FiAt w ad l := by
  rcases h.2 with ⟨hv, hn⟩ | ⟨g, cap, cur, hv, hg, hh, _⟩
  · exact ⟨none, 0, by rw [hv, hn], Or.inl (List.length_eq_zero_iff.1 hn)⟩
  · refine ⟨some ⟨g, 0, none⟩, cap, hv, Or.inr ⟨g, 0, rfl, ?_, fun i hi => ?_⟩⟩
    · rcases Nat.lt_or_ge g w.heap.size with h | h
      · exact h
      · rw [Array.getElem?_eq_none (by omega)] at hh; cases hh
    · have hc := fun j (hj : j < l.length * 5) => World.ownsRow.cellAt (hv ▸ h) j hj
      obtain ⟨h1, h2, h3, h4, h5⟩ := wcells_at l i hi
      simp only [Nat.zero_add]
      rw [hc (i * 5) (by omega), hc (i * 5 + 1) (by omega), hc (i * 5 + 1 + 1) (by omega), hc (i * 5 + 1 + 1 + 1) (by omega), hc (i * 5 + 1 + 1 + 1 + 1) (by omega)]
      exact ⟨h1, h2, h3, h4, h5⟩
theorem owns_attrs {w : World} {base : Nat} {e : TypeId} {v : Value} {l : List Atr} (h : w.ownsRow base e 4 v l.length (acells l)) : ∃ ad cap, v = .slice ad l.length cap ∧ EvAt w ad l := by
  rcases h.2 with ⟨hv, hn⟩ | ⟨g, cap, cur, hv, hg, hh, _⟩
  · exact ⟨none, 0, by rw [hv, hn], Or.inl (List.length_eq_zero_iff.1 hn)⟩
  · refine ⟨some ⟨g, 0, none⟩, cap, hv, Or.inr ⟨g, 0, rfl, ?_, fun i hi => ?_⟩⟩
    · rcases Nat.lt_or_ge g w.heap.size with h | h
      · exact h
      · rw [Array.getElem?_eq_none (by omega)] at hh; cases hh
    · have hc := fun j (hj : j < l.length * 4) => World.ownsRow.cellAt (hv ▸ h) j hj
      obtain ⟨h1, h2, h3, h4⟩ := acells_at l i hi
      simp only [Nat.zero_add]
      rw [hc (i * 4) (by omega), hc (i * 4 + 1) (by omega), hc (i * 4 + 1 + 1) (by omega), hc (i * 4 + 1 + 1 + 1) (by omega)]
      exact ⟨h1, h2, h3, h4⟩

def kw (zs : List Int) (k : Nat) : List Wnt := (zs.take k).map wantF
theorem kw_snoc {zs : List Int} {k : Nat} (h : k < zs.length) : kw zs (k + 1) = kw zs k ++ [wantF (iat zs k)] := by
  have e : iat zs k = zs[k] := by simp [iat, List.getD_eq_getElem?_getD, List.getElem?_eq_getElem h]
  rw [kw, List.take_succ_eq_append_getElem h, List.map_append, e]; rfl
theorem kw_len {zs : List Int} {k : Nat} (h : k ≤ zs.length) : (kw zs k).length = k := by simp [kw]; omega
def anyW : Wnt := ⟨⟨#[97]⟩, 1, 0, 0, ⟨#[]⟩⟩
/-- The filter that 'wants' makes. -/
def wantsF (zs : List Int) : List Wnt := if zs = [] then [anyW] else kw zs 3
theorem name97 : nameOk ⟨#[97]⟩ = true := by decide
theorem anyW_ok : wOk anyW = true := by
  have he : (⟨#[]⟩ : ByteArray).toList = [] := noText_list
  simp [wOk, wantOk, anyW, wayOk_any, name97, he]
theorem wantsF_ok (zs : List Int) : filterOk (wantsF zs) = true ∧ (∀ x ∈ wantsF zs, Wnt.Wf x) ∧ 1 ≤ (wantsF zs).length ∧ (wantsF zs).length ≤ 3 := by
  unfold wantsF
  split
  · refine ⟨by simp [filterOk, anyW_ok], fun x hx => ?_, by simp, by simp⟩
    simp at hx; subst hx
    constructor <;> decide
  · rename_i hne
    have hp : 0 < zs.length := by cases zs <;> simp_all
    have hl : (kw zs 3).length = min 3 zs.length := by simp [kw]
    refine ⟨?_, fun x hx => ?_, by omega, by omega⟩
    · have e1 : decide (1 ≤ ((kw zs 3).length : Int)) = true := by simp; omega
      have e2 : decide (((kw zs 3).length : Int) ≤ 6) = true := by simp; omega
      have e3 : (kw zs 3).all wOk = true := by
        rw [List.all_eq_true]; intro x hx
        rw [kw, List.mem_map] at hx; obtain ⟨n, _, rfl⟩ := hx; exact wantF_ok n
      simp only [filterOk, e1, e2, e3, Bool.and_self]
    · rw [kw, List.mem_map] at hx; obtain ⟨n, _, rfl⟩ := hx; exact wantF_wf n

theorem kw_full {zs : List Int} {k : Nat} (h : ¬ (k < zs.length ∧ k < 3)) (h1 : k ≤ zs.length) (h2 : k ≤ 3) (hne : zs ≠ []) : wantsF zs = kw zs k ∧ 0 < k := by
  have hp : 0 < zs.length := by cases zs <;> simp_all
  refine ⟨?_, by omega⟩
  rw [wantsF, if_neg hne]
  by_cases h3 : k = 3
  · rw [h3]
  · have e : k = zs.length := by omega
    rw [kw, kw, e, List.take_of_length_le (i := 3) (by omega), List.take_of_length_le (Nat.le_refl _)]
theorem owns_form {w : World} {base : Nat} {e : TypeId} {size : Nat} {v : Value} {n : Nat} {xs : List Value} (h : w.ownsRow base e size v n xs) : ∃ ad cap, v = .slice ad n cap := by
  rcases h.2 with ⟨hv, hn⟩ | ⟨g, cap, cur, hv, _⟩
  · exact ⟨none, 0, by rw [hv, hn]⟩
  · exact ⟨_, cap, hv⟩
theorem owns_grown {w w1 w' : World} {base : Nat} {e : TypeId} {size : Nat} {v : Value} {n : Nat} {xs : List Value} {o : Obj} (hb : base = w.heap.size) (h : w1.ownsRow base e size v n xs) (g : Gr w w1) (hg : (w1.alloc o).grownBy w' v.ownBlock) : Gr w w' := by
  subst hb
  refine Below.grown (g.alloc _) hg (by have := g.size; simp; omega) (fun b hb => ?_)
  rcases h.2 with ⟨hv, _⟩ | ⟨q, cap, cur, hv, hq, _⟩
  · rw [hv] at hb; simp [Value.ownBlock] at hb
  · rw [hv] at hb; simp [Value.ownBlock] at hb; omega

end Go.Proofs.YtecnfgikbmcgoaaGreat
