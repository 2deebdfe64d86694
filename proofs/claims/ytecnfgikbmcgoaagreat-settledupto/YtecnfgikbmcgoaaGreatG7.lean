import Derived.Test.YtecnfgikbmcgoaaGreatG5
import Derived.Test.YtecnfgikbmcgoaaGreatG6
import Derived.Test.YtecnfgikbmcgoaaGreatG1
import Derived.Maps.AppendAt
import Derived.Below
namespace Go.Proofs.YtecnfgikbmcgoaaGreat

def sm : Nat → (Nat → Nat) → Nat
  | 0, _ => 0
  | n + 1, f => sm n f + f n
theorem sm_le {f g : Nat → Nat} : ∀ n, (∀ i, i < n → f i ≤ g i) → sm n f ≤ sm n g
  | 0, _ => Nat.le_refl _
  | n + 1, h => by
    have := sm_le n (fun i hi => h i (by omega))
    have := h n (by omega)
    simp only [sm]; omega
theorem sm_add (f g : Nat → Nat) : ∀ n, sm n (fun i => f i + g i) = sm n f + sm n g
  | 0 => rfl
  | n + 1 => by simp only [sm, sm_add f g n]; omega
theorem sm_zero : ∀ n, sm n (fun _ => 0) = 0
  | 0 => rfl
  | n + 1 => by simp only [sm, sm_zero n]
theorem sm_one (i c : Nat) : ∀ n, sm n (fun j => if j = i then c else 0) = if i < n then c else 0
  | 0 => by simp [sm]
  | n + 1 => by
    simp only [sm, sm_one i c n]
    by_cases h : i < n
    · rw [if_pos h, if_neg (by omega), if_pos (by omega)]; omega
    · by_cases h2 : n = i
      · rw [if_neg h, if_pos h2, if_pos (by omega)]; omega
      · rw [if_neg h, if_neg h2, if_neg (by omega)]
theorem sm_const (c : Nat) : ∀ n, sm n (fun _ => c) = n * c
  | 0 => by simp [sm]
  | n + 1 => by simp only [sm, sm_const c n, Nat.succ_mul]
/-- Keys that differ, all out of a list: no more than it has. -/
theorem keys_le : ∀ (l Ks : List Ky), l.Pairwise (fun x y => x ≠ y) → (∀ k ∈ l, k ∈ Ks) → l.length ≤ Ks.length
  | [], _, _, _ => by simp
  | a :: t, Ks, hp, hs => by
    have hp' := List.pairwise_cons.1 hp
    have ha := hs a (by simp)
    have := keys_le t (Ks.erase a) hp'.2 (fun k hk => (List.mem_erase_of_ne (fun e => hp'.1 k hk e.symm)).2 (hs k (by simp [hk])))
    rw [List.length_erase_of_mem ha] at this
    have : 0 < Ks.length := List.length_pos_of_mem ha
    simp only [List.length_cons]; omega

section
variable {F E : Type}
variable {cov : F → F → Bool} {adj : Nat → Nat → Bool} {nxt : Nat → Nat → Int} {home : Int → Nat} {ok : F → Prop} {rank : Nat → Nat → Nat}
theorem Srt.len {l : List (Hd F)} (hs : Srt l) {Ks : List Ky} (h : ∀ x ∈ l, x.key ∈ Ks) : l.length ≤ Ks.length := by
  rw [← List.length_map (f := fun x : Hd F => x.key)]
  refine keys_le _ _ ?_ (fun k hk => ?_)
  · rw [List.pairwise_map]
    exact List.Pairwise.imp (fun h => klt_ne h) hs
  · obtain ⟨x, hx, rfl⟩ := List.mem_map.1 hk
    exact h x hx
/-- An event goes on from a broker, not back. -/
def TS.come (adj : Nat → Nat → Bool) (mt : E → F → Bool) (s : TS F E) (b : Nat) (fr : Int) (e : E) : TS F E where
  held := s.held
  q := fun x y => if x = b ∧ adj b y = true ∧ (y : Int) ≠ fr ∧ ((s.held b).any fun h => h.fr == (y : Int) && mt e h.f) = true then s.q x y ++ [.ev e] else s.q x y
theorem come_inv {mt : E → F → Bool} {s : TS F E} (I : Inv cov adj nxt home ok s) (b : Nat) (fr : Int) (e : E) : Inv cov adj nxt home ok (s.come adj mt b fr e) := by
  have hq : ∀ x y, (s.come adj mt b fr e).q x y = s.q x y ∨ (adj x y = true ∧ (s.come adj mt b fr e).q x y = s.q x y ++ [.ev e]) := by
    intro x y
    simp only [TS.come]
    split
    · rename_i h
      obtain ⟨rfl, h1, _⟩ := h
      exact Or.inr ⟨h1, rfl⟩
    · exact Or.inl rfl
  refine ⟨I.srt, I.rt, I.hok, fun x y k f hm => ?_, fun x y k hm => ?_, fun x y hxy => ?_, fun x y hxy => ?_, fun x y hxy => ?_⟩
  · rcases hq x y with h | ⟨_, h⟩
    · rw [h] at hm; exact I.qs x y k f hm
    · rw [h] at hm; exact I.qs x y k f (by simpa using hm)
  · rcases hq x y with h | ⟨_, h⟩
    · rw [h] at hm; exact I.qu x y k hm
    · rw [h] at hm; exact I.qu x y k (by simpa using hm)
  · rcases hq x y with h | ⟨h1, _⟩
    · rw [h]; exact I.nq x y hxy
    · rw [hxy] at h1; cases h1
  · show ap _ (hfr (s.held y) x) = rl (told cov (s.held x) y)
    rcases hq x y with h | ⟨_, h⟩
    · rw [h]; exact I.ag x y hxy
    · rw [h, ap_append, I.ag x y hxy]; rfl
  · show wf _ (hfr (s.held y) x)
    rcases hq x y with h | ⟨_, h⟩
    · rw [h]; exact I.al x y hxy
    · rw [h, wf_append]; exact ⟨I.al x y hxy, trivial⟩
/-- The first message of a link comes. -/
def TS.nstep (cov : F → F → Bool) (adj : Nat → Nat → Bool) (mt : E → F → Bool) (s : TS F E) (a b : Nat) : Ms F E → TS F E
  | .ev e => (s.pop a b).come adj mt b a e
  | .sub k f => s.arr cov adj a b (.sub k f)
  | .uns k => s.arr cov adj a b (.uns k)
theorem nstep_inv (N : Nx adj nxt) {mt : E → F → Bool} {s : TS F E} (I : Inv cov adj nxt home ok s) {a b : Nat} (ha : adj a b = true) {m : Ms F E} {r : List (Ms F E)} (hq : s.q a b = m :: r) : Inv cov adj nxt home ok (s.nstep cov adj mt a b m) := by
  cases m with
  | sub k f => exact arr_inv N I ha hq
  | uns k => exact arr_inv N I ha hq
  | ev e => exact come_inv (show Inv cov adj nxt home ok (s.arr cov adj a b (.ev e)) from arr_inv N I ha hq) b a e
/-- All keys that are about. -/
structure Kin (Ks : List Ky) (s : TS F E) : Prop where
  held : ∀ b, ∀ h ∈ s.held b, h.key ∈ Ks
  q : ∀ a b k f, Ms.sub k f ∈ s.q a b → k ∈ Ks
theorem turn_kin {Ks : List Ky} {s : TS F E} (K : Kin Ks s) {b : Nat} {l' : List (Hd F)} (h : ∀ x ∈ l', x.key ∈ Ks) : Kin Ks (s.turn cov adj b l') := by
  refine ⟨fun x g hg => ?_, fun x y k f hm => ?_⟩
  · simp only [TS.turn] at hg
    split at hg
    · exact h g hg
    · exact K.held x g hg
  · simp only [TS.turn] at hm
    split at hm
    · rcases List.mem_append.1 hm with hm | hm
      · exact K.q x y k f hm
      · obtain ⟨g, hg, _, rfl, _⟩ := mem_chg_sub hm
        exact h g hg
    · exact K.q x y k f hm
theorem nstep_kin {Ks : List Ky} {mt : E → F → Bool} {s : TS F E} (K : Kin Ks s) {a b : Nat} {m : Ms F E} {r : List (Ms F E)} (hq : s.q a b = m :: r) : Kin Ks (s.nstep cov adj mt a b m) := by
  have KP : Kin Ks (s.pop a b) := ⟨K.held, fun x y k f hm => K.q x y k f (pop_q hm)⟩
  cases m with
  | sub k f =>
    refine turn_kin KP (fun x hx => ?_)
    rcases mem_ins.1 hx with rfl | ⟨hx, _⟩
    · exact K.q a b k f (by rw [hq]; simp)
    · exact K.held b x hx
  | uns k => exact turn_kin KP (fun x hx => K.held b x (mem_del.1 hx).1)
  | ev e =>
    refine ⟨K.held, fun x y k f hm => KP.q x y k f ?_⟩
    simp only [TS.nstep, TS.come] at hm
    split at hm
    · simpa using hm
    · exact hm
/-- What a step adds to a link. -/
theorem nstep_q {mt : E → F → Bool} {s : TS F E} {Ks : List Ky} (I : Inv cov adj nxt home ok s) (K : Kin Ks s) {a b : Nat} (ha : adj a b = true) {m : Ms F E} {r : List (Ms F E)} (hq : s.q a b = m :: r) (x y : Nat) :
    ((s.nstep cov adj mt a b m).q x y).length ≤ ((s.pop a b).q x y).length + (if x = b ∧ adj b y = true ∧ y ≠ a then 2 * Ks.length + 1 else 0) := by
  have clen : ∀ (l l' : List (Hd F)) (n : Int), l.length ≤ Ks.length → l'.length ≤ Ks.length → (chg cov l l' n : List (Ms F E)).length ≤ 2 * Ks.length + 1 := by
    intro l l' n h1 h2
    have e1 : (newT cov l l' n).length ≤ l'.length := Nat.le_trans (List.length_filter_le _ _) (List.length_filter_le _ _)
    have e2 : (goneT cov l l' n).length ≤ l.length := Nat.le_trans (List.length_filter_le _ _) (List.length_filter_le _ _)
    simp only [chg, subs, unss, List.length_append, List.length_map]
    omega
  have hlen : (s.held b).length ≤ Ks.length := (I.srt b).len (K.held b)
  cases m with
  | sub k f =>
    have hno := head_sub I ha hq
    have hl' : (ins (⟨k, f, a⟩ : Hd F) (s.held b)).length ≤ Ks.length := by
      refine ((I.srt b).ins _).len (fun g hg => ?_)
      rcases mem_ins.1 hg with rfl | ⟨hg, _⟩
      · exact K.q a b k f (by rw [hq]; simp)
      · exact K.held b g hg
    show (if x = b ∧ adj b y = true then (s.pop a b).q x y ++ chg cov (s.held b) (ins ⟨k, f, a⟩ (s.held b)) y else (s.pop a b).q x y).length ≤ _
    by_cases h : x = b ∧ adj b y = true
    · rw [if_pos h, List.length_append]
      by_cases hya : y = a
      · have e : (chg cov (s.held b) (ins ⟨k, f, a⟩ (s.held b)) y : List (Ms F E)) = [] := by
          rw [hya]; exact chg_ins_same (h := (⟨k, f, a⟩ : Hd F)) (I.srt b) hno
        rw [e]; simp
      · rw [if_pos ⟨h.1, h.2, hya⟩]
        have := clen (s.held b) _ y hlen hl'
        omega
    · rw [if_neg h]; omega
  | uns k =>
    obtain ⟨g, hg, rfl⟩ := head_uns I ha hq
    have hl' : (del g.key (s.held b)).length ≤ Ks.length := Nat.le_trans (List.length_filter_le _ _) hlen
    show (if x = b ∧ adj b y = true then (s.pop a b).q x y ++ chg cov (s.held b) (del g.key (s.held b)) y else (s.pop a b).q x y).length ≤ _
    by_cases h : x = b ∧ adj b y = true
    · rw [if_pos h, List.length_append]
      by_cases hya : y = a
      · have hside : g.fr = (a : Int) := by rw [I.rt b g hg]; exact I.qu a b g.key (by rw [hq]; simp)
        have e : (chg cov (s.held b) (del g.key (s.held b)) y : List (Ms F E)) = [] := by
          rw [hya, ← hside]; exact chg_del_same (I.srt b) hg
        rw [e]; simp
      · rw [if_pos ⟨h.1, h.2, hya⟩]
        have := clen (s.held b) _ y hlen hl'
        omega
    · rw [if_neg h]; omega
  | ev e =>
    show (if x = b ∧ adj b y = true ∧ (y : Int) ≠ (a : Int) ∧ _ then (s.pop a b).q x y ++ [.ev e] else (s.pop a b).q x y).length ≤ _
    split
    · rename_i h
      rw [if_pos ⟨h.1, h.2.1, by omega⟩, List.length_append]
      simp only [List.length_singleton]; omega
    · omega
/-- How much is still to do. -/
def todo (rank : Nat → Nat → Nat) (nb C : Nat) (s : TS F E) : Nat := sm nb fun a => sm nb fun b => (s.q a b).length * C ^ rank b a
theorem step_less (R : Rk adj nxt rank) (N : Nx adj nxt) {mt : E → F → Bool} {nb : Nat} (hb : ∀ a b, adj a b = true → a < nb ∧ b < nb) {Ks : List Ky} {s : TS F E} (I : Inv cov adj nxt home ok s) (K : Kin Ks s) {a b : Nat} (ha : adj a b = true) {m : Ms F E} {r : List (Ms F E)} (hq : s.q a b = m :: r) :
    todo rank nb (nb * (2 * Ks.length + 1) + 1) (s.nstep cov adj mt a b m) < todo rank nb (nb * (2 * Ks.length + 1) + 1) s := by
  have hab := hb a b ha
  generalize hD : 2 * Ks.length + 1 = D
  generalize hC : nb * D + 1 = C
  have hCpos : 0 < C := by omega
  have point : ∀ x y, ((s.nstep cov adj mt a b m).q x y).length * C ^ rank y x + (if x = a then (if y = b then C ^ rank b a else 0) else 0) ≤ (s.q x y).length * C ^ rank y x + (if x = b then (if adj b y = true ∧ y ≠ a then D * C ^ rank y b else 0) else 0) := by
    intro x y
    have h1 := nstep_q (mt := mt) I K ha hq x y
    rw [hD] at h1
    have h2 : ((s.pop a b).q x y).length + (if x = a then (if y = b then 1 else 0) else 0) = (s.q x y).length := by
      show (if x = a ∧ y = b then (s.q x y).tail else s.q x y).length + _ = _
      by_cases hx : x = a
      · by_cases hy : y = b
        · subst hx hy
          rw [if_pos ⟨rfl, rfl⟩, if_pos rfl, if_pos rfl, hq]; rfl
        · rw [if_neg (fun h => hy h.2), if_pos hx, if_neg hy]; omega
      · rw [if_neg (fun h => hx h.1), if_neg hx]; omega
    have h3 := Nat.mul_le_mul_right (C ^ rank y x) h1
    rw [Nat.add_mul] at h3
    have h4 : (if x = a then (if y = b then C ^ rank b a else 0) else 0) = (if x = a then (if y = b then 1 else 0) else 0) * C ^ rank y x := by
      by_cases hx : x = a
      · by_cases hy : y = b
        · subst hx hy; simp
        · simp [hy]
      · simp [hx]
    have h5 : (if x = b ∧ adj b y = true ∧ y ≠ a then D else 0) * C ^ rank y x = (if x = b then (if adj b y = true ∧ y ≠ a then D * C ^ rank y b else 0) else 0) := by
      by_cases hx : x = b
      · subst hx
        by_cases hy : adj x y = true ∧ y ≠ a
        · rw [if_pos ⟨rfl, hy.1, hy.2⟩, if_pos rfl, if_pos hy]
        · rw [if_neg (fun h => hy ⟨h.2.1, h.2.2⟩), if_pos rfl, if_neg hy]; simp
      · rw [if_neg (fun h => hx h.1), if_neg hx]; simp
    rw [h4, ← h2, Nat.add_mul, ← h5]
    omega
  have row : ∀ x, sm nb (fun y => ((s.nstep cov adj mt a b m).q x y).length * C ^ rank y x) + (if x = a then C ^ rank b a else 0) ≤ sm nb (fun y => (s.q x y).length * C ^ rank y x) + (if x = b then sm nb (fun y => if adj b y = true ∧ y ≠ a then D * C ^ rank y b else 0) else 0) := by
    intro x
    have h := sm_le nb (fun y _ => point x y)
    rw [sm_add, sm_add] at h
    have e1 : sm nb (fun y => if x = a then (if y = b then C ^ rank b a else 0) else 0) = if x = a then C ^ rank b a else 0 := by
      by_cases hx : x = a
      · simp only [hx, if_true]; rw [sm_one, if_pos hab.2]
      · simp only [hx, if_false]; exact sm_zero nb
    have e2 : sm nb (fun y => if x = b then (if adj b y = true ∧ y ≠ a then D * C ^ rank y b else 0) else 0) = if x = b then sm nb (fun y => if adj b y = true ∧ y ≠ a then D * C ^ rank y b else 0) else 0 := by
      by_cases hx : x = b
      · simp only [hx, if_true]
      · simp only [hx, if_false]; exact sm_zero nb
    rw [e1, e2] at h
    exact h
  have all := sm_le nb (fun x _ => row x)
  rw [sm_add, sm_add, sm_one, sm_one, if_pos hab.1, if_pos hab.2] at all
  have small : sm nb (fun y => if adj b y = true ∧ y ≠ a then D * C ^ rank y b else 0) < C ^ rank b a := by
    cases hr : rank b a with
    | zero =>
      have : sm nb (fun y => if adj b y = true ∧ y ≠ a then D * C ^ rank y b else 0) ≤ sm nb (fun _ => 0) := sm_le nb (fun y _ => by
        split
        · rename_i h
          have := R.lt b a y (N.sym _ _ ha) (N.sym _ _ h.1) h.2
          omega
        · exact Nat.le_refl _)
      rw [sm_zero] at this
      rw [Nat.pow_zero]; omega
    | succ q =>
      have : sm nb (fun y => if adj b y = true ∧ y ≠ a then D * C ^ rank y b else 0) ≤ sm nb (fun _ => D * C ^ q) := sm_le nb (fun y _ => by
        split
        · rename_i h
          have := R.lt b a y (N.sym _ _ ha) (N.sym _ _ h.1) h.2
          exact Nat.mul_le_mul_left _ (Nat.pow_le_pow_right hCpos (by omega))
        · exact Nat.zero_le _)
      rw [sm_const, ← Nat.mul_assoc] at this
      have hp : 0 < C ^ q := Nat.pow_pos hCpos
      have : C ^ (q + 1) = nb * D * C ^ q + C ^ q := by rw [Nat.pow_succ, Nat.mul_comm, ← hC, Nat.add_mul, Nat.one_mul]
      omega
  unfold todo
  omega
end
end Go.Proofs.YtecnfgikbmcgoaaGreat
namespace Go.Proofs.YtecnfgikbmcgoaaGreat
open Go.RowKit
open Go.Maps (Keyed)
open Go.ChangeMaps (setBlock)

theorem Tryz.infoKey : (Tryz.prog.info? 112).map (fun i => (i.zero, i.size, i.bytes)) = some (some (.agg #[.int .i64 0, .int .i64 0]), 2, 16) := by kernel_rfl
theorem new_atK {W : World} {o : Obj} {B : Nat} (h : W.heap.size = B) : (W.alloc o).heap[B]? = some o := by subst h; exact heap_alloc_new W o
theorem pk_inj {a b : Ky} (h : pk a = pk b) : a = b := by
  obtain ⟨a1, a2⟩ := a
  obtain ⟨b1, b2⟩ := b
  simp [pk] at h
  rw [h.1, h.2]
/-- The keys that were collected so far. -/
structure Kl (X : List Hm) (es : Array MapEntry) (from_ : Int) (seen : Array Nat) (L : List Ky) : Prop where
  mem : ∀ k, k ∈ L ↔ ∃ e ∈ es.toList, seen.contains e.born = true ∧ ∃ x ∈ X, e.key = pk x.1.key ∧ x.1.fr = from_ ∧ x.1.key = k
  nd : L.Pairwise fun x y => x ≠ y
theorem Kl.len {X : List Hm} {es : Array MapEntry} {from_ : Int} {seen : Array Nat} {L : List Ky} (h : Kl X es from_ seen L) : L.length ≤ X.length := by
  have := keys_le L (X.map fun x => x.1.key) h.nd (fun k hk => by
    obtain ⟨_, _, _, x, hx, _, _, rfl⟩ := (h.mem k).1 hk
    exact List.mem_map.2 ⟨x, hx, rfl⟩)
  simpa using this
theorem Kl.init (X : List Hm) (es : Array MapEntry) (from_ : Int) : Kl X es from_ #[] [] :=
  ⟨fun k => by simp, List.Pairwise.nil⟩
theorem Kl.skip {w : World} {MB clock : Nat} {X : List Hm} {es : Array MapEntry} {from_ : Int} {seen : Array Nat} {L : List Ky} (h : Kl X es from_ seen L) (hp : Hp w MB X es clock) {e : MapEntry} (he : e ∈ es.toList) {x : Hm} (hx : x ∈ X) (hk : e.key = pk x.1.key) (hf : x.1.fr ≠ from_) : Kl X es from_ (seen.push e.born) L := by
  refine ⟨fun k => ?_, h.nd⟩
  rw [h.mem k]
  constructor
  · rintro ⟨e', h1, h2, h3⟩
    exact ⟨e', h1, by rw [contains_push, h2]; rfl, h3⟩
  · rintro ⟨e', h1, h2, y, hy, h4, h5, h6⟩
    rw [contains_push] at h2
    rcases Bool.or_eq_true _ _ ▸ h2 with h2 | h2
    · exact ⟨e', h1, h2, y, hy, h4, h5, h6⟩
    · have hee : e' = e := born_inj hp.mp.bnd h1 he (beq_iff_eq.1 h2)
      subst hee
      have : y = x := hp.inj hy hx (h4.symm.trans hk)
      subst this
      exact absurd h5 hf
theorem Kl.take {w : World} {MB clock : Nat} {X : List Hm} {es : Array MapEntry} {from_ : Int} {seen : Array Nat} {L : List Ky} (h : Kl X es from_ seen L) (hp : Hp w MB X es clock) {e : MapEntry} (he : e ∈ es.toList) (hns : seen.contains e.born = false) {x : Hm} (hx : x ∈ X) (hk : e.key = pk x.1.key) (hf : x.1.fr = from_) : Kl X es from_ (seen.push e.born) (L ++ [x.1.key]) := by
  refine ⟨fun k => ?_, ?_⟩
  · rw [List.mem_append, h.mem k, List.mem_singleton]
    constructor
    · rintro (⟨e', h1, h2, h3⟩ | rfl)
      · exact ⟨e', h1, by rw [contains_push, h2]; rfl, h3⟩
      · exact ⟨e, he, by rw [contains_push]; simp, x, hx, hk, hf, rfl⟩
    · rintro ⟨e', h1, h2, y, hy, h4, h5, h6⟩
      rw [contains_push] at h2
      rcases Bool.or_eq_true _ _ ▸ h2 with h2 | h2
      · exact Or.inl ⟨e', h1, h2, y, hy, h4, h5, h6⟩
      · have hee : e' = e := born_inj hp.mp.bnd h1 he (beq_iff_eq.1 h2)
        subst hee
        have : y = x := hp.inj hy hx (h4.symm.trans hk)
        subst this
        exact Or.inr h6.symm
  · rw [List.pairwise_append]
    refine ⟨h.nd, List.pairwise_singleton _ _, fun a ha b hb => ?_⟩
    simp only [List.mem_singleton] at hb
    subst hb
    intro hab
    obtain ⟨e', h1, h2, y, hy, h4, h5, h6⟩ := (h.mem a).1 ha
    have : y = x := hp.inj hy hx (by rw [h6, hab])
    subst this
    have hkk : e'.key = e.key := h4.trans hk.symm
    have hee : e' = e := by
      have hd := hp.mp.nod
      rw [← hp.mp.ent, List.map_map] at hd
      exact inj_map hd h1 he hkk
    subst hee
    rw [h2] at hns; cases hns
theorem Kl.all {X : List Hm} {w : World} {MB clock : Nat} {es : Array MapEntry} {from_ : Int} {seen : Array Nat} {L : List Ky} (h : Kl X es from_ seen L) (hp : Hp w MB X es clock) (h0 : (leftOf es seen).size = 0) (k : Ky) : k ∈ L ↔ ∃ x ∈ X, x.1.fr = from_ ∧ x.1.key = k := by
  rw [h.mem k]
  constructor
  · rintro ⟨_, _, _, x, hx, _, h5, h6⟩; exact ⟨x, hx, h5, h6⟩
  · rintro ⟨x, hx, h5, h6⟩
    obtain ⟨e, he, h1, _⟩ := hp.all hx
    exact ⟨e, he, all_seen es seen h0 e he, x, hx, h1, h5, h6⟩
set_option maxRecDepth 100000 in
set_option maxHeartbeats 4000000 in
theorem keysFrom_any (TB HB hoff nb hcap b MB : Nat) (from_ : Int) (X : List Hm) (es : Array MapEntry) (clock : Nat) (w : World)
    (c0 : w.cell? ⟨TB, 0, none⟩ = some (.slice (some ⟨HB, hoff, none⟩) nb hcap)) (cb : w.cell? ⟨HB, hoff + b, none⟩ = some (.map (some MB))) (hb : b < nb) (hX : X.length ≤ 100000)
    (hp : Hp w MB X es clock) :
    Calls Tryz.prog 41 #[.pointer (some ⟨TB, 0, none⟩), .int .i64 b, .int .i64 from_] w fun e w' => ∃ v L, e = .returned v ∧ w'.ownsRow w.heap.size 112 2 v L.length (kcells L) ∧ L.Pairwise (fun x y => klt x y = true) ∧ (∀ k, k ∈ L ↔ ∃ x ∈ X, x.1.fr = from_ ∧ x.1.key = k) ∧ Gr w w' := by
  obtain ⟨i0, hi, hz0, hz1, hz2⟩ := info_parts Tryz.infoKey
  have HP := Hid.mk' hp
  clear hp
  have hrg := run_range_map (P := Tryz.prog) w 123 112 121 MB es clock Tryz.underlying123 HP.out.mp.blk
  go_enter Tryz.func41, Tryz.ntmps41
  go_wp2_with fail
  have I0 := Hid.mk' (heap_alloc_new w (.mapIter (some MB) clock #[] clock))
  have G0 := Hid.mk' ((Gr.refl w).alloc (.mapIter (some MB) clock #[] clock))
  clear hrg c0 cb
  go_loopw [7] (fun v wr => ∃ (seen : Array Nat) (L : List Ky), Hid (wr.heap[w.heap.size]? = some (.mapIter (some MB) clock seen clock)) ∧ Hid (Gr w wr) ∧ Hid (wr.ownsRow w.heap.size 112 2 v L.length (kcells L)) ∧ Hid (Kl X es from_ seen L)) (fun _ wr => (leftOf es (wr.iterSeen w.heap.size)).size)
  case atStart => exact ⟨#[], [], I0, G0, World.ownsRow_nil _ _ _ _, Kl.init X es from_⟩
  case round =>
    clear I0 G0
    obtain ⟨seen, L, IT, G, O, KL⟩ := hrel
    obtain ⟨va, vm, vk, rfl⟩ := owns_slice O.out
    have HMS : Hid (leftOf es (wr.iterSeen w.heap.size) = leftOf es seen) := by show _ = _; unfold World.iterSeen; rw [IT.out]
    rcases next_law (HP.out.gr G.out) IT.out (Nat.le_refl _) G.out with ⟨h0, hnx⟩ | ⟨e, he, W2, hnx, hen, hit2, g2, hoth, hsz2⟩
    · have HA := Hid.mk' (KL.out.all HP.out h0)
      have HND := Hid.mk' KL.out.nd
      have HLN := Hid.mk' KL.out.len
      clear h0
      obtain ⟨va', vk', he', hsh⟩ := owns_shape O.out
      obtain ⟨rfl, rfl, rfl⟩ : va = va' ∧ vm = L.length ∧ vk = vk' := by injection he' with h1 h2 h3; exact ⟨h1, h2, h3⟩
      clear he'
      by_cases hL : L = []
      · subst hL
        have HS := Hid.mk' (sortKeys_none va vk wr)
        go_wp2_with fail
        refine HS.out.mono ?_
        rintro e w3 ⟨rfl, g3⟩
        have G3 := Hid.mk' (Gr.call G.out g3)
        have O3 := Hid.mk' (ownsGr O.out g3)
        go_wp2_with fail
        go_ret
        exact ⟨_, [], rfl, O3.out, List.Pairwise.nil, HA.out, G3.out⟩
      · obtain ⟨g, rfl⟩ := hsh (by cases L with | nil => exact absurd rfl hL | cons a t => simp)
        have HS := Hid.mk' (sortKeys_some L g vk w wr (by have := HLN.out; omega) G.out O.out)
        clear hL hsh
        go_wp2_with fail
        refine HS.out.mono ?_
        rintro e w3 ⟨rfl, L', hp, hs, ho, g3⟩
        have hlen := hp.length_eq
        have G3 := Hid.mk' g3
        have O3 := Hid.mk' ho
        rw [hlen] at O3
        have SR : Hid (L'.Pairwise fun x y => klt x y = true) := by
          have hnd : L'.Pairwise fun x y => x ≠ y := hp.symm.pairwise HND.out (fun {a b} h => h.symm)
          refine List.Pairwise.imp ?_ (List.Pairwise.and hs hnd)
          rintro a b ⟨h1, h2⟩
          rcases klt_tri a b with h3 | h3 | h3
          · exact h3
          · exact absurd h3 h2
          · rw [h3] at h1; cases h1
        have MB' : Hid (∀ k, k ∈ L' ↔ ∃ x ∈ X, x.1.fr = from_ ∧ x.1.key = k) := fun k => (hp.mem_iff).trans (HA.out k)
        have HLE := Hid.mk' hlen
        clear hp hs ho g3 hlen
        go_wp2_with fail
        go_ret
        exact ⟨_, L', rfl, by rw [HLE.out]; exact O3.out, SR.out, MB'.out, G3.out⟩
    · obtain ⟨x, hx, hk, hv'⟩ := HP.out.ent (mem_left he).1
      rw [hv'] at hnx hen
      rw [hk] at hnx hen
      unfold hv pk at hnx hen
      have HLN := Hid.mk' KL.out.len
      have IT2 := Hid.mk' hit2
      have G2 := Hid.mk' g2
      have hW2 : w.heap.size + 1 ≤ W2.heap.size := blk_lt IT2.out
      have HNE : Hid (Value.ownBlock (.slice va vm vk) ≠ some w.heap.size) := by
        intro h5
        rcases O.out.2 with ⟨h6, _⟩ | ⟨b', cap', cur, h6, _, h7, _⟩
        · rw [h6] at h5; simp [Value.ownBlock] at h5
        · rw [h6] at h5
          have : b' = w.heap.size := by simpa [Value.ownBlock] using h5
          subst this
          rw [IT.out] at h7; cases h7
      have O2 : Hid (W2.ownsRow w.heap.size 112 2 (.slice va vm vk) L.length (kcells L)) := by
        obtain ⟨q1, q2⟩ := O.out
        refine ⟨q1, ?_⟩
        rcases q2 with q2 | ⟨b', cap', cur, h6, h8, h7, q3⟩
        · exact Or.inl q2
        · refine Or.inr ⟨b', cap', cur, h6, h8, ?_, q3⟩
          rw [hoth b' (fun h9 => HNE.out (by rw [h6, h9]; rfl))]; exact h7
      have MS : Hid (∀ w' : World, w'.heap[w.heap.size]? = some (.mapIter (some MB) clock (seen.push e.born) clock) → (leftOf es (w'.iterSeen w.heap.size)).size < (leftOf es (wr.iterSeen w.heap.size)).size) := by
        intro w' hi
        rw [HMS.out]
        unfold World.iterSeen
        rw [hi]
        exact left_shrinks es seen e he
      have G3 := Hid.mk' (((Gr.refl W2).alloc (.cells #[.int .i64 x.1.key.1, .int .i64 x.1.key.2] 112)).alloc (.cells #[.int .i64 x.1.key.1, .int .i64 x.1.key.2, .slice x.2.1 x.1.f.length x.2.2, .int .i64 x.1.fr] 121))
      have G23 := Hid.mk' (Gr.call G2.out G3.out)
      have O3 := Hid.mk' (ownsGr O2.out G3.out)
      by_cases hf : x.1.fr = from_
      · have KL2 := Hid.mk' (KL.out.take HP.out (mem_left he).1 (mem_left he).2 hx hk hf)
        subst hf
        clear he hk hx hit2 g2 hoth hsz2 hv' G IT O KL HMS
        have hs3 : ((W2.alloc (.cells #[.int .i64 x.1.key.1, .int .i64 x.1.key.2] 112)).alloc (.cells #[.int .i64 x.1.key.1, .int .i64 x.1.key.2, .slice x.2.1 x.1.f.length x.2.2, .int .i64 x.1.fr] 121)).heap.size = W2.heap.size + 1 + 1 := by simp
        go_wp2_with (at_builtin; refine wpList_append_own _ rfl _ _ 41 rfl w.heap.size 112 i0 _ 2 16 Tryz.underlying41 hi hz0 hz1 hz2 rfl (by decide) _ _ _ rfl (O3.out.alloc _) ⟨W2.heap.size + 1 + 1, 0, none⟩ 1 1 [.int .i64 x.1.key.1, .int .i64 x.1.key.2] rfl rfl ?k1 ?k2 ?k3 ?k4 ?k5 ?_)
        case k1 => exact World.news_of_block (new_atK hs3)
        case k2 => intro t ht; simp at ht; rcases ht with rfl | rfl <;> rfl
        case k3 => have := HLN.out; unfold maxLen; omega
        case k4 => have := HLN.out; omega
        case k5 => simp; omega
        intro v5 w5 ho5 hg5 _
        have G5 : Hid (Gr w w5) := Below.grown (G23.out.alloc _) hg5 (Nat.le_trans G23.out.size (by simp)) (own_low O3.out)
        have I5 : Hid (w5.heap[w.heap.size]? = some (.mapIter (some MB) clock (seen.push e.born) clock)) := by
          show _ = _
          rw [hg5.block w.heap.size (by simp; omega) (fun h5 => HNE.out h5.symm), Below.heap_alloc _ _ _ (by simp; omega), G3.out.block w.heap.size (by omega)]
          exact IT2.out
        have O5 : Hid (w5.ownsRow w.heap.size 112 2 v5 (L ++ [x.1.key]).length (kcells (L ++ [x.1.key]))) := by
          show World.ownsRow _ _ _ _ _ _ _
          rw [kcells_snoc, List.length_append]; exact ho5
        have M5 := Hid.mk' (MS.out w5 I5.out)
        obtain ⟨ya, ym, yk, rfl⟩ := owns_slice ho5
        clear ho5 hg5 O3 O2 MS
        go_wp2_with fail
        exact ⟨⟨_, _, I5, G5, O5, KL2⟩, M5.out⟩
      · have KL2 := Hid.mk' (KL.out.skip HP.out (mem_left he).1 hx hk hf)
        have hf' : (x.1.fr == from_) = false := by simpa using hf
        clear he hk hx hit2 g2 hoth hsz2 hv' G IT O KL HMS
        have I3 : Hid (((W2.alloc (.cells #[.int .i64 x.1.key.1, .int .i64 x.1.key.2] 112)).alloc (.cells #[.int .i64 x.1.key.1, .int .i64 x.1.key.2, .slice x.2.1 x.1.f.length x.2.2, .int .i64 x.1.fr] 121)).heap[w.heap.size]? = some (.mapIter (some MB) clock (seen.push e.born) clock)) := (G3.out.block w.heap.size (by omega)).trans IT2.out
        have M3 := Hid.mk' (MS.out _ I3.out)
        clear MS
        go_wp2_with fail
        exact ⟨⟨_, L, I3, G23, O3, KL2⟩, M3.out⟩
end Go.Proofs.YtecnfgikbmcgoaaGreat
namespace Go.Proofs.YtecnfgikbmcgoaaGreat
open Go.RowKit

/-- What all brokers hold. -/
structure Hs (w : World) (TB HB hoff nb hcap : Nat) (Xs : Nat → List Hm) : Prop where
  c0 : w.cell? ⟨TB, 0, none⟩ = some (.slice (some ⟨HB, hoff, none⟩) nb hcap)
  tlt : TB < w.heap.size
  hlt : HB < w.heap.size
  at' : ∀ b, b < nb → ∃ MB es clock, w.cell? ⟨HB, hoff + b, none⟩ = some (.map (some MB)) ∧ Hp w MB (Xs b) es clock
theorem Hs.gr {w w' : World} {TB HB hoff nb hcap : Nat} {Xs : Nat → List Hm} (h : Hs w TB HB hoff nb hcap Xs) (g : Gr w w') : Hs w' TB HB hoff nb hcap Xs :=
  ⟨(g.cell (p := ⟨TB, 0, none⟩) h.tlt).trans h.c0, g.lt h.tlt, g.lt h.hlt, fun b hb => by
    obtain ⟨MB, es, clock, h1, h2⟩ := h.at' b hb
    exact ⟨MB, es, clock, (g.cell (p := ⟨HB, hoff + b, none⟩) h.hlt).trans h1, h2.gr g⟩⟩
/-- So many filters of clients a broker holds. -/
def ofCl (X : List Hm) : Nat := (X.filter fun x => x.1.fr == -1).length
theorem ofCl_len {w : World} {MB : Nat} {X : List Hm} {es : Array MapEntry} {clock : Nat} (h : Hp w MB X es clock) {L : List Ky} (hs : L.Pairwise fun x y => klt x y = true) (hm : ∀ k, k ∈ L ↔ ∃ x ∈ X, x.1.fr = -1 ∧ x.1.key = k) : L.length = ofCl X := by
  have hnd : ((X.filter fun x => x.1.fr == -1).map fun x => x.1.key).Pairwise fun x y => x ≠ y := by
    have hd := h.mp.nod
    rw [List.map_map] at hd
    rw [List.pairwise_map]
    have hd' : X.Pairwise fun x y => x.1.key ≠ y.1.key := by
      have := List.pairwise_map.1 hd
      refine List.Pairwise.imp ?_ this
      intro a b hab e
      exact hab (by show pk a.1.key = pk b.1.key; rw [e])
    exact hd'.filter _
  have h1 := keys_le L ((X.filter fun x => x.1.fr == -1).map fun x => x.1.key) (List.Pairwise.imp (fun h => klt_ne h) hs) (fun k hk => by
    obtain ⟨x, hx, h1, h2⟩ := (hm k).1 hk
    exact List.mem_map.2 ⟨x, List.mem_filter.2 ⟨hx, by simpa using h1⟩, h2⟩)
  have h2 := keys_le ((X.filter fun x => x.1.fr == -1).map fun x => x.1.key) L hnd (fun k hk => by
    obtain ⟨x, hx, rfl⟩ := List.mem_map.1 hk
    have := List.mem_filter.1 hx
    exact (hm _).2 ⟨x, this.1, by simpa using this.2, rfl⟩)
  simp only [List.length_map] at h1 h2
  unfold ofCl; omega
set_option maxRecDepth 100000 in
set_option maxHeartbeats 4000000 in
theorem measM_dec (n j : Nat) (h : j < n) : n - (intOf (.int .i64 ((j : Int) + 1))).toNat < n - (intOf (.int .i64 (j : Int))).toNat := by
  simp [intOf]; omega
theorem filtersOfClients_any (TB HB hoff nb hcap : Nat) (Xs : Nat → List Hm) (w : World) (hnb : nb ≤ 8) (hX : ∀ b, (Xs b).length ≤ 100000) (h : Hs w TB HB hoff nb hcap Xs) :
    Calls Tryz.prog 47 #[.pointer (some ⟨TB, 0, none⟩)] w fun e w' => e = .returned (.int .i64 (sm nb fun b => ofCl (Xs b))) ∧ Gr w w' := by
  have HH := Hid.mk' h
  have HX := Hid.mk' hX
  have c0 := h.c0
  clear h hX
  go_enter Tryz.func47, Tryz.ntmps47
  go_wp2_with fail
  go_loopw [3, 10] (fun n i wr => ∃ q : Nat, q ≤ nb ∧ i = .int .i64 q ∧ n = .int .i64 ((sm q fun b => ofCl (Xs b) : Nat) : Int) ∧ Hid (Gr w wr)) (fun _ i _ => nb - (intOf i).toNat)
  case atStart => exact ⟨0, Nat.zero_le _, rfl, rfl, Gr.refl _⟩
  case round =>
    obtain ⟨q, hq, rfl, rfl, G⟩ := hrel
    clear c0
    by_cases hlt : q < nb
    · have H2 := HH.out.gr G.out
      obtain ⟨MB, es, clock, cb, hp⟩ := H2.at' q hlt
      have KF := Hid.mk' (keysFrom_any TB HB hoff nb hcap q MB (-1) (Xs q) es clock wr H2.c0 cb hlt (HX.out q) hp)
      have HP := Hid.mk' hp
      have hsum : (sm q fun b => ofCl (Xs b)) ≤ q * 100000 := by
        rw [← sm_const 100000 q]
        exact sm_le q (fun i _ => Nat.le_trans (List.length_filter_le _ _) (HX.out i))
      have hone : ofCl (Xs q) ≤ 100000 := Nat.le_trans (List.length_filter_le _ _) (HX.out q)
      have hnext : (sm (q + 1) fun b => ofCl (Xs b)) = (sm q fun b => ofCl (Xs b)) + ofCl (Xs q) := rfl
      have HN := Hid.mk' hnext
      clear H2 cb hp hnext
      generalize (sm q fun b => ofCl (Xs b)) = t at *
      go_wp2_with fail
      refine KF.out.mono ?_
      rintro e w1 ⟨v, L, rfl, ho, hs, hm, g1⟩
      have hl := ofCl_len HP.out hs hm
      obtain ⟨va, vk, rfl, _⟩ := owns_shape ho
      have G1 := Hid.mk' (Gr.call G.out g1)
      rw [hl]
      clear ho hs hm g1 KF hl
      generalize ofCl (Xs q) = c at *
      have hw : wrap64 ((t : Int) + (c : Int)) = ((t + c : Nat) : Int) := by unfold wrap64; omega
      go_wp2_with fail
      refine ⟨⟨q + 1, by omega, by simp, ?_, G1⟩, measM_dec _ _ hlt⟩
      rw [HN.out]; simp
    · have hqn : q = nb := by omega
      subst hqn
      go_wp2_with fail
      go_ret
      exact ⟨rfl, G.out⟩
end Go.Proofs.YtecnfgikbmcgoaaGreat
namespace Go.Proofs.YtecnfgikbmcgoaaGreat
open Go.RowKit

/-- A slice that lies anywhere in a block of its own. -/
def Qr (w : World) (e : TypeId) (size : Nat) (R : Nat → Prop) (v : Value) (n : Nat) (xs : List Value) : Prop :=
  xs.length = n * size ∧ ((v = .slice none 0 0 ∧ n = 0) ∨ ∃ g off cap cur, v = .slice (some ⟨g, off, none⟩) n cap ∧ R g ∧ w.heap[g]? = some (.cells cur e (0, 0)) ∧ n ≤ cap ∧ cap ≤ maxLen ∧ off + cap * size ≤ cur.size ∧ (cur.toList.drop off).take (n * size) = xs)
theorem Qr.kept {w w' : World} {e : TypeId} {size : Nat} {R R' : Nat → Prop} {v : Value} {n : Nat} {xs : List Value} (h : Qr w e size R v n xs) (hk : ∀ g, g < w.heap.size → R g → w'.heap[g]? = w.heap[g]? ∧ R' g) : Qr w' e size R' v n xs := by
  refine ⟨h.1, ?_⟩
  rcases h.2 with h2 | ⟨g, off, cap, cur, hv, hR, hg, h3⟩
  · exact Or.inl h2
  · obtain ⟨k1, k2⟩ := hk g (Array.getElem?_eq_some_iff.1 hg).1 hR
    exact Or.inr ⟨g, off, cap, cur, hv, k2, k1.trans hg, h3⟩
theorem Qr.nil (w : World) (e : TypeId) (size : Nat) (R : Nat → Prop) : Qr w e size R (.slice none 0 0) 0 [] := ⟨by simp, Or.inl ⟨rfl, rfl⟩⟩
theorem Qr.shape {w : World} {e : TypeId} {size : Nat} {R : Nat → Prop} {v : Value} {n : Nat} {xs : List Value} (h : Qr w e size R v n xs) : ∃ a c, v = .slice a n c := by
  rcases h.2 with ⟨h2, h3⟩ | ⟨g, off, cap, cur, hv, _⟩
  · exact ⟨none, 0, by rw [h2, h3]⟩
  · exact ⟨_, _, hv⟩
theorem Qr.own {w : World} {e : TypeId} {size : Nat} {R : Nat → Prop} {v : Value} {n : Nat} {xs : List Value} (h : Qr w e size R v n xs) : ∀ k, v.ownBlock = some k → R k ∧ k < w.heap.size := by
  intro k hk
  rcases h.2 with ⟨rfl, _⟩ | ⟨g, off, cap, cur, rfl, hR, hg, _⟩
  · simp [Value.ownBlock] at hk
  · simp [Value.ownBlock] at hk
    subst hk
    exact ⟨hR, (Array.getElem?_eq_some_iff.1 hg).1⟩
section
variable {P : Program} (w : World)
theorem add_off (g o j : Nat) : (⟨g, o, none⟩ : Addr).add j = ⟨g, o + j, none⟩ := by unfold Addr.add; split <;> simp_all
theorem run_append_room_q (t ty e : TypeId) (i : TypeInfo) (ht : P.underlying t = some (.slice e)) (hi : P.info? e = some i)
    (g off sLen sCap : Nat) (cur : Array Value) (hg : w.heap[g]? = some (.cells cur e (0, 0)))
    (a : Addr) (m c : Nat) (news : List Value) (hl : news.length = m * i.size) (hnews : ∀ j u, news[j]? = some u → w.cell? (a.add j) = some u) (h1 : ∀ u ∈ news, u.oneCell' = true)
    (hroom : sLen + m ≤ sCap) (hfit : off + sLen * i.size + news.length ≤ cur.size) :
    (Builtin.append_ #[t, t] ty #[.slice (some ⟨g, off, none⟩) sLen sCap, .slice (some a) m c]).run P w =
      .ok (.slice (some ⟨g, off, none⟩) (sLen + m) sCap) (w.setRow g (cur.toList.take (off + sLen * i.size) ++ news ++ cur.toList.drop (off + sLen * i.size + news.length)).toArray) := by
  have hf := run_firstCells_some (P := P) w i.size m a m c news hl hnews
  have hst := run_storeCells_at P g (off + sLen * i.size) e news 0 cur w hg (by simpa using hfit) h1
  simp only [Nat.add_zero] at hst
  simp [Builtin.append_, run_underlying ht, sizeOf, typeInfo, hi, Builtin.lenOf, hroom, hf, add_off, hst]
theorem run_append_q (t ty e : TypeId) (i : TypeInfo) (z : Value) (size bytes : Nat) (ht : P.underlying t = some (.slice e)) (hi : P.info? e = some i) (hz : i.zero = some z)
    (hsize : i.size = size) (hby : i.bytes = bytes) (hzs : z.cells.size = size) (R : Nat → Prop)
    (v : Value) (n : Nat) (xs : List Value) (hown : Qr w e size R v n xs)
    (a : Addr) (m c : Nat) (news : List Value) (hm : 0 < m) (hl : news.length = m * size) (hnews : ∀ j u, news[j]? = some u → w.cell? (a.add j) = some u) (h1 : ∀ u ∈ news, u.oneCell' = true)
    (h63 : n + m ≤ maxLen) (hbytes : (n + m) * bytes ≤ 140737488355328) :
    ∃ v' w', (Builtin.append_ #[t, t] ty #[v, .slice (some a) m c]).run P w = .ok v' w' ∧ Qr w' e size (fun k => v'.ownBlock = some k) v' (n + m) (xs ++ news) ∧ w.grownBy w' v.ownBlock ∧
      (v'.ownBlock = v.ownBlock ∨ v'.ownBlock = some w.heap.size) ∧ Qr w' e size R v n xs := by
  subst hsize
  subst hby
  have hsmall : n + m ≤ 9223372036854775807 := by simp only [maxLen] at h63; omega
  have hlen : (xs ++ news).length = (n + m) * i.size := by rw [List.length_append, hown.1, hl, Nat.add_mul]
  have grown : ∀ (old : Nat), old < n + m → ∀ (row : Option Nat),
      Qr (w.drew.alloc (.cells (xs.toArray ++ news.toArray ++ Builtin.zeroCells z.cells (grownCap w (n + m) old e - (n + m))) e)) e i.size (fun k => Value.ownBlock (.slice (some ⟨w.heap.size, 0, none⟩) (n + m) (grownCap w (n + m) old e)) = some k)
        (.slice (some ⟨w.heap.size, 0, none⟩) (n + m) (grownCap w (n + m) old e)) (n + m) (xs ++ news) ∧
      w.grownBy (w.drew.alloc (.cells (xs.toArray ++ news.toArray ++ Builtin.zeroCells z.cells (grownCap w (n + m) old e - (n + m))) e)) row := by
    intro old ho row
    have hge := grownCap_ge w (n + m) old e
    have hcm : grownCap w (n + m) old e ≤ maxLen := grownCap_le_maxLen w (n + m) old e h63
    refine ⟨⟨hlen, .inr ⟨w.heap.size, 0, _, _, rfl, rfl, heap_alloc_new w.drew _, hge, hcm, ?_, ?_⟩⟩, ⟨rfl, rfl, rfl, by simp, fun k hk _ => Below.heap_alloc w.drew _ k hk⟩⟩
    · simp only [Array.size_append, List.size_toArray, size_zeroCells, hzs, hown.1, hl, ← Nat.add_mul, Nat.zero_add]
      exact Nat.mul_le_mul_right _ (by omega)
    · simp only [Array.toList_append, List.append_assoc, List.drop_zero]
      rw [← List.append_assoc, ← hlen]
      exact List.take_left
  rcases hown.2 with ⟨rfl, rfl⟩ | ⟨g, off, cap, cur, rfl, hR, hg, hnc, hcm, hcs, htake⟩
  · have hx : xs = [] := List.eq_nil_of_length_eq_zero (by simpa using hown.1)
    subst hx
    have hr := run_append_nil (P := P) w t ty e i z ht hi hz a m c news hl hnews (by omega) (by omega) (by have hb := hbytes; simp only [Nat.zero_add] at hb; omega)
    have hgr := grown 0 (by omega) (Value.ownBlock (.slice none 0 0))
    simp only [Nat.zero_add, List.nil_append, Array.empty_append] at hgr ⊢
    exact ⟨_, _, hr, hgr.1, hgr.2, Or.inr rfl, Qr.nil _ _ _ _⟩
  · have hx1 : xs.length = n * i.size := hown.1
    have hle : n * i.size ≤ cap * i.size := Nat.mul_le_mul_right _ hnc
    by_cases hroom : n + m ≤ cap
    · have hfit : off + n * i.size + news.length ≤ cur.size := by
        have := Nat.mul_le_mul_right i.size hroom
        rw [Nat.add_mul] at this; omega
      have hr := run_append_room_q (P := P) w t ty e i ht hi g off n cap cur hg a m c news hl hnews h1 hroom hfit
      refine ⟨_, _, hr, ⟨hlen, .inr ⟨g, off, cap, _, rfl, rfl, setRow_heap w g cur _ e _ hg, hroom, hcm, ?_, ?_⟩⟩, ⟨rfl, rfl, rfl, by simp, fun k _ hk => setRow_other w g k _ (fun e => hk (by simp [Value.ownBlock, e]))⟩, Or.inl rfl, ⟨hown.1, Or.inr ⟨g, off, cap, _, rfl, hR, setRow_heap w g cur _ e _ hg, hnc, hcm, ?_, ?_⟩⟩⟩
      · simp only [List.size_toArray, List.length_append, List.length_take, List.length_drop, Array.length_toList]
        omega
      · have hd : (cur.toList.take (off + n * i.size) ++ news ++ cur.toList.drop (off + n * i.size + news.length)).drop off = xs ++ news ++ cur.toList.drop (off + n * i.size + news.length) := by
          rw [List.append_assoc, List.drop_append_of_le_length (by simp; omega), List.drop_take, show off + n * i.size - off = n * i.size by omega, htake, List.append_assoc]
        rw [hd, ← hlen]
        exact List.take_left
      · simp only [List.size_toArray, List.length_append, List.length_take, List.length_drop, Array.length_toList]
        omega
      · have hd : (cur.toList.take (off + n * i.size) ++ news ++ cur.toList.drop (off + n * i.size + news.length)).drop off = xs ++ news ++ cur.toList.drop (off + n * i.size + news.length) := by
          rw [List.append_assoc, List.drop_append_of_le_length (by simp; omega), List.drop_take, show off + n * i.size - off = n * i.size by omega, htake, List.append_assoc]
        rw [hd, List.append_assoc, ← hx1]
        exact List.take_left
    · have holds : ∀ j u, xs[j]? = some u → w.cell? ((⟨g, off, none⟩ : Addr).add j) = some u := by
        intro j u hu
        rw [add_off, cell_of_row w g (off + j) cur e (0, 0) hg]
        rw [← htake, List.getElem?_take] at hu
        split at hu
        · rw [List.getElem?_drop] at hu; simpa using hu
        · cases hu
      have hr := run_append_grow (P := P) w t ty e i z ht hi hz ⟨g, off, none⟩ n cap xs hown.1 holds a m c news hl hnews (by omega) (by omega) (growslice_fits (by omega) hbytes)
      have hgr := grown cap (by omega) (Value.ownBlock (.slice (some ⟨g, off, none⟩) n cap))
      refine ⟨_, _, hr, hgr.1, hgr.2, Or.inr rfl, hown.kept fun k hk hRk => ⟨Below.heap_alloc w.drew _ k hk, hRk⟩⟩
end
theorem wp_append_q {P : Program} (w : World) {o : Oper} {a : Act} {K : Act → World → Prop} {Q : Exit → Act → World → Prop} (s x : Operand) (t : TypeId)
    (ho : o.op = .call { callee := .builtin .append, args := #[s, x], argTypes := #[t, t] })
    (e : TypeId) (i : TypeInfo) (z : Value) (size bytes : Nat) (ht : P.underlying t = some (.slice e)) (hi : P.info? e = some i) (hz : i.zero = some z)
    (hsize : i.size = size) (hby : i.bytes = bytes) (hzs : z.cells.size = size) (R : Nat → Prop)
    (v : Value) (n : Nat) (xs : List Value) (hs : a.eval s = v) (hown : Qr w e size R v n xs)
    (ad : Addr) (m c : Nat) (news : List Value) (hx : a.eval x = .slice (some ad) m c) (hm : 0 < m) (hl : news.length = m * size) (hnews : ∀ j u, news[j]? = some u → w.cell? (ad.add j) = some u) (h1 : ∀ u ∈ news, u.oneCell' = true)
    (h63 : n + m ≤ maxLen) (hbytes : (n + m) * bytes ≤ 140737488355328)
    (h : ∀ v' w', Qr w' e size (fun k => v'.ownBlock = some k) v' (n + m) (xs ++ news) → w.grownBy w' v.ownBlock → (v'.ownBlock = v.ownBlock ∨ v'.ownBlock = some w.heap.size) → Qr w' e size R v n xs → K (a.put o.dst v') w') : o.wp P a w K Q := by
  obtain ⟨v', w', hr, h2, h3, h4, h5⟩ := run_append_q (P := P) w t o.type e i z size bytes ht hi hz hsize hby hzs R v n xs hown ad m c news hm hl hnews h1 h63 hbytes
  unfold Oper.wp execOp
  simp only [ho, resolve, invoke, builtin, Sem.run_bind, Sem.run_pure, Result.andThen_ok, List.map_toArray, List.map_cons, List.map_nil, hs, hx, hr]
  exact h v' w' h2 h3 h4 h5
/-- The first is taken out: its cells are whatever now. -/
theorem Qr.pop {w' : World} {e : TypeId} {size : Nat} {R : Nat → Prop} {g off cap n : Nat} {cur cur' : Array Value} {xs : List Value} (hx : xs.length = n * size) (hn : 0 < n) (hR : R g) (hnc : n ≤ cap) (hcm : cap ≤ maxLen) (hcs : off + cap * size ≤ cur.size) (htake : (cur.toList.drop off).take (n * size) = xs)
    (hg : w'.heap[g]? = some (.cells cur' e (0, 0))) (hsz : cur'.size = cur.size) (hdr : cur'.toList.drop (off + size) = cur.toList.drop (off + size)) :
    Qr w' e size R (.slice (if cap = 1 then some ⟨g, off, none⟩ else some ⟨g, off + size, none⟩) (n - 1) (cap - 1)) (n - 1) (xs.drop size) := by
  have hsub : n * size - size = (n - 1) * size := by rw [Nat.sub_mul, Nat.one_mul]
  refine ⟨by rw [List.length_drop, hx, hsub], Or.inr ?_⟩
  by_cases hc : cap = 1
  · have hn1 : n = 1 := by omega
    subst hc; subst hn1
    refine ⟨g, off, 0, cur', rfl, hR, hg, Nat.le_refl _, by unfold maxLen; omega, by omega, ?_⟩
    rw [List.drop_eq_nil_of_le (by omega : xs.length ≤ size)]; simp
  · have hcap : (cap - 1) * size = cap * size - size := by rw [Nat.sub_mul, Nat.one_mul]
    have hge : size ≤ cap * size := by have := Nat.mul_le_mul_right size (show 1 ≤ cap by omega); omega
    refine ⟨g, off + size, cap - 1, cur', by rw [if_neg hc], hR, hg, by omega, by omega, by rw [hcap, hsz]; omega, ?_⟩
    rw [hdr, ← htake, ← hsub, List.drop_take, List.drop_drop]
end Go.Proofs.YtecnfgikbmcgoaaGreat
