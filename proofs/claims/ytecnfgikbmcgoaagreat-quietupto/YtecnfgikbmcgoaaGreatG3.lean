import Derived.Test.YtecnfgikbmcgoaaGreatRows
import Derived.Maps.Keyed
import Derived.Maps.RangeRun
import Derived.DeepKeys4
import Derived.WalkKit
namespace Go.Proofs.YtecnfgikbmcgoaaGreat
open Go.Maps (Keyed)
open Go.ChangeMaps (setBlock)

/-- Block B is a map that holds these keys and values (in the order in which they came). -/
structure Mp (P : Program) (kt : TypeId) (w : World) (B : Nat) (m : List (Value × Value)) (es : Array MapEntry) (clock : Nat) : Prop where
  blk : w.heap[B]? = some (.map es clock)
  ent : es.toList.map (fun e => (e.key, e.val)) = m
  key : ∀ e ∈ es.toList, ∃ l, keyOf P kt e.key = some l
  nod : (m.map Prod.fst).Nodup
  brn : ∀ e ∈ es.toList, e.born < clock
  bnd : (es.toList.map (·.born)).Nodup
section
variable {P : Program} {kt et mt : TypeId} {w : World} {B : Nat} {m : List (Value × Value)} {es : Array MapEntry} {clock : Nat}
theorem Mp.mem (h : Mp P kt w B m es clock) {e : MapEntry} (he : e ∈ es.toList) : (e.key, e.val) ∈ m := by
  rw [← h.ent]; exact List.mem_map.2 ⟨e, he, rfl⟩
theorem nod_inj {l : List MapEntry} (h : (l.map (Prod.fst ∘ fun e : MapEntry => (e.key, e.val))).Nodup) {x y : MapEntry} (hx : x ∈ l) (hy : y ∈ l) (e : x.key = y.key) : x = y := by
  induction l with
  | nil => cases hx
  | cons a t ih =>
    simp only [List.map_cons, List.nodup_cons] at h
    rcases List.mem_cons.1 hx with rfl | hx'
    · rcases List.mem_cons.1 hy with rfl | hy'
      · rfl
      · exact absurd (List.mem_map.2 ⟨y, hy', e.symm⟩) h.1
    · rcases List.mem_cons.1 hy with rfl | hy'
      · exact absurd (List.mem_map.2 ⟨x, hx', e⟩) h.1
      · exact ih h.2 hx' hy'
theorem nod_val {m : List (Value × Value)} (h : (m.map Prod.fst).Nodup) {k v v' : Value} (h1 : (k, v) ∈ m) (h2 : (k, v') ∈ m) : v = v' := by
  induction m with
  | nil => cases h1
  | cons a t ih =>
    simp only [List.map_cons, List.nodup_cons] at h
    rcases List.mem_cons.1 h1 with e1 | h1'
    · rcases List.mem_cons.1 h2 with e2 | h2'
      · rw [← e1] at e2; injection e2 with _ e2; exact e2.symm
      · exact absurd (List.mem_map.2 ⟨(k, v'), h2', by rw [← e1]⟩) h.1
    · rcases List.mem_cons.1 h2 with e2 | h2'
      · exact absurd (List.mem_map.2 ⟨(k, v), h1', by rw [← e2]⟩) h.1
      · exact ih h.2 h1' h2'
theorem Mp.look_yes (K : Keyed P kt) (ht : P.underlying mt = some (.map kt et)) (h : Mp P kt w B m es clock) {k v : Value} {l : Lit} (hk : keyOf P kt k = some l) (hv : (k, v) ∈ m) (ok : Bool) :
    (Instr.lookup mt (.map (some B)) k ok).run P w = .ok (if ok then .tuple #[v, .bool true] else v) w := by
  have hu : (underlying mt).run P w = .ok (.map kt et) w := by simp [underlying, ht]
  have hg : (getObj B).run P w = .ok (.map es clock) w := by simp [getObj, Sem.run, h.blk]
  have hc := K.check w es.isEmpty hk
  rcases K.find w hk es.toList h.key with ⟨_, hno⟩ | ⟨j, e, hf, hj, hek⟩
  · rw [← h.ent] at hv
    obtain ⟨e, he, hee⟩ := List.mem_map.1 hv
    injection hee with h1 h2
    exact absurd h1 (hno e he)
  · have he : e ∈ es.toList := List.mem_of_getElem? hj
    have hm := h.mem he
    rw [hek] at hm
    have hval := nod_val h.nod hm hv
    unfold Instr.lookup
    simp only [Sem.run_bind, Sem.run_pure, hu, Result.andThen_ok, hg, hc, hf, hval]
theorem Mp.look_no (K : Keyed P kt) (ht : P.underlying mt = some (.map kt et)) (h : Mp P kt w B m es clock) {k z : Value} {l : Lit} (hk : keyOf P kt k = some l) (hv : ∀ v, (k, v) ∉ m) (hz : ∀ w, (zeroValue et).run P w = .ok z w) (ok : Bool) :
    (Instr.lookup mt (.map (some B)) k ok).run P w = .ok (if ok then .tuple #[z, .bool false] else z) w := by
  have hu : (underlying mt).run P w = .ok (.map kt et) w := by simp [underlying, ht]
  have hg : (getObj B).run P w = .ok (.map es clock) w := by simp [getObj, Sem.run, h.blk]
  have hc := K.check w es.isEmpty hk
  rcases K.find w hk es.toList h.key with ⟨hf, _⟩ | ⟨j, e, _, hj, hek⟩
  · unfold Instr.lookup
    simp only [Sem.run_bind, Sem.run_pure, hu, Result.andThen_ok, hg, hc, hf, hz]
  · have he : e ∈ es.toList := List.mem_of_getElem? hj
    have hm := h.mem he
    rw [hek] at hm
    exact absurd hm (hv _)
theorem run_setMap {o : Obj} {es : Array MapEntry} {clock : Nat} (hb : w.heap[B]? = some (.map es clock)) : (setObj B o).run P w = .ok () (setBlock w B o) := by
  simp [setObj, Sem.run, hb, setBlock]
theorem setBlock_get {o o' : Obj} (hb : w.heap[B]? = some o) : (setBlock w B o').heap[B]? = some o' := by
  have hlt : B < w.heap.size := (Array.getElem?_eq_some_iff.1 hb).1
  simp [setBlock, hlt]
theorem setBlock_other {o' : Obj} {k : Nat} (hk : k ≠ B) : (setBlock w B o').heap[k]? = w.heap[k]? := by
  simp [setBlock, hk.symm]
theorem setBlock_grown (o' : Obj) : w.grownBy (setBlock w B o') (some B) := by
  refine ⟨rfl, rfl, rfl, by simp [setBlock], fun k _ hr => setBlock_other (fun e => hr (by rw [e]))⟩
/-- A key that is not there. -/
theorem Mp.put_new (K : Keyed P kt) (ht : P.underlying mt = some (.map kt et)) (h : Mp P kt w B m es clock) {k v : Value} {l : Lit} (hk : keyOf P kt k = some l) (hv : ∀ v, (k, v) ∉ m) :
    (Instr.mapUpdate mt (.map (some B)) k v).run P w = .ok () (setBlock w B (.map (es.push { key := k, val := v, born := clock }) (clock + 1))) ∧ Mp P kt (setBlock w B (.map (es.push { key := k, val := v, born := clock }) (clock + 1))) B (m ++ [(k, v)]) (es.push { key := k, val := v, born := clock }) (clock + 1) := by
  have hu : (underlying mt).run P w = .ok (.map kt et) w := by simp [underlying, ht]
  have hg : (getObj B).run P w = .ok (.map es clock) w := by simp [getObj, Sem.run, h.blk]
  have hc := K.check w false hk
  constructor
  · rcases K.find w hk es.toList h.key with ⟨hf, _⟩ | ⟨j, e, _, hj, hek⟩
    · unfold Instr.mapUpdate
      simp only [Sem.run_bind, hu, Result.andThen_ok, hg, hc, hf, run_setMap h.blk]
    · have hm := h.mem (List.mem_of_getElem? hj)
      rw [hek] at hm
      exact absurd hm (hv _)
  · refine ⟨setBlock_get h.blk, ?_, fun e he => ?_, ?_, fun e he => ?_, ?_⟩
    · simp [h.ent]
    · simp only [Array.toList_push, List.mem_append, List.mem_singleton] at he
      rcases he with he | rfl
      · exact h.key e he
      · exact ⟨l, hk⟩
    · rw [List.map_append, List.nodup_append]
      refine ⟨h.nod, by simp, fun a ha b hb => ?_⟩
      simp only [List.map_cons, List.map_nil, List.mem_singleton] at hb
      subst hb
      obtain ⟨p, hp, rfl⟩ := List.mem_map.1 ha
      intro e
      exact hv p.2 (by rw [← e]; exact hp)
    · simp only [Array.toList_push, List.mem_append, List.mem_singleton] at he
      rcases he with he | rfl
      · have := h.brn e he; omega
      · exact Nat.lt_succ_self _
    · simp only [Array.toList_push, List.map_append, List.map_cons, List.map_nil]
      rw [List.nodup_append]
      refine ⟨h.bnd, by simp, fun a ha b hb => ?_⟩
      simp only [List.mem_singleton] at hb
      subst hb
      obtain ⟨e, he, rfl⟩ := List.mem_map.1 ha
      have := h.brn e he; omega
theorem split_at {α : Type} {l : List α} {j : Nat} {e : α} (h : l[j]? = some e) : ∃ l1 l2, l = l1 ++ e :: l2 ∧ l1.length = j := by
  obtain ⟨hj, he⟩ := List.getElem?_eq_some_iff.1 h
  refine ⟨l.take j, l.drop (j + 1), ?_, by simp; omega⟩
  rw [← he, ← List.drop_eq_getElem_cons hj, List.take_append_drop]
theorem modify_at {α : Type} (f : α → α) (l1 l2 : List α) (e : α) : (l1 ++ e :: l2).modify l1.length f = l1 ++ f e :: l2 := by
  induction l1 with
  | nil => rfl
  | cons a t ih => simp [ih]
theorem erase_at {α : Type} (l1 l2 : List α) (e : α) : (l1 ++ e :: l2).eraseIdx l1.length = l1 ++ l2 := by
  induction l1 with
  | nil => rfl
  | cons a t ih => simp [ih]
/-- A key that is there gets another value. -/
theorem Mp.put_old (K : Keyed P kt) (ht : P.underlying mt = some (.map kt et)) (h : Mp P kt w B m es clock) {k v0 v : Value} {l : Lit} (hk : keyOf P kt k = some l) (hv : (k, v0) ∈ m) :
    ∃ es' m1 m2, m = m1 ++ (k, v0) :: m2 ∧ (Instr.mapUpdate mt (.map (some B)) k v).run P w = .ok () (setBlock w B (.map es' clock)) ∧ Mp P kt (setBlock w B (.map es' clock)) B (m1 ++ (k, v) :: m2) es' clock := by
  have hu : (underlying mt).run P w = .ok (.map kt et) w := by simp [underlying, ht]
  have hg : (getObj B).run P w = .ok (.map es clock) w := by simp [getObj, Sem.run, h.blk]
  have hc := K.check w false hk
  rcases K.find w hk es.toList h.key with ⟨_, hno⟩ | ⟨j, e, hf, hj, hek⟩
  · rw [← h.ent] at hv
    obtain ⟨e, he, hee⟩ := List.mem_map.1 hv
    injection hee with h1 h2
    exact absurd h1 (hno e he)
  · obtain ⟨l1, l2, hl, rfl⟩ := split_at hj
    have hval : e.val = v0 := by
      have hm := h.mem (List.mem_of_getElem? hj)
      rw [hek] at hm
      exact nod_val h.nod hm hv
    have hm : m = l1.map (fun e => (e.key, e.val)) ++ (k, v0) :: l2.map (fun e => (e.key, e.val)) := by
      rw [← h.ent, hl]; simp [hek, hval]
    have hl' : (es.modify l1.length fun e => { e with key := k, val := v }).toList = l1 ++ { e with key := k, val := v } :: l2 := by
      rw [Array.toList_modify, hl, modify_at]
    refine ⟨es.modify l1.length fun e => { e with key := k, val := v }, _, _, hm, ?_, ?_⟩
    · have hkj : ((es[l1.length]?).map (·.key)).getD k = k := by
        rw [← Array.getElem?_toList, hj]; simp [hek]
      unfold Instr.mapUpdate
      simp only [Sem.run_bind, hu, Result.andThen_ok, hg, hc, hf, hkj, K.stays w hk, run_setMap h.blk]
    · refine ⟨setBlock_get h.blk, by rw [hl']; simp, fun x hx => ?_, ?_, fun x hx => ?_, ?_⟩
      · rw [hl'] at hx
        rcases List.mem_append.1 hx with hx | hx
        · exact h.key x (by rw [hl]; simp [hx])
        · rcases List.mem_cons.1 hx with rfl | hx
          · exact ⟨l, hk⟩
          · exact h.key x (by rw [hl]; simp [hx])
      · have := h.nod
        rw [hm] at this
        simpa using this
      · rw [hl'] at hx
        rcases List.mem_append.1 hx with hx | hx
        · exact h.brn x (by rw [hl]; simp [hx])
        · rcases List.mem_cons.1 hx with rfl | hx
          · exact h.brn e (by rw [hl]; simp)
          · exact h.brn x (by rw [hl]; simp [hx])
      · have := h.bnd
        rw [hl] at this
        rw [hl']
        simpa using this
/-- A key that is there is taken out. -/
theorem Mp.cut (K : Keyed P kt) (ht : P.underlying mt = some (.map kt et)) (h : Mp P kt w B m es clock) {k v0 : Value} {l : Lit} (hk : keyOf P kt k = some l) (hv : (k, v0) ∈ m) (ty : TypeId) (k' : TypeId) :
    ∃ es' m1 m2, m = m1 ++ (k, v0) :: m2 ∧ (Builtin.delete_ #[mt, k'] ty #[.map (some B), k]).run P w = .ok (.tuple #[]) (setBlock w B (.map es' clock)) ∧ Mp P kt (setBlock w B (.map es' clock)) B (m1 ++ m2) es' clock := by
  have hu : (underlying mt).run P w = .ok (.map kt et) w := by simp [underlying, ht]
  have hg : (getObj B).run P w = .ok (.map es clock) w := by simp [getObj, Sem.run, h.blk]
  have hc := K.check w es.isEmpty hk
  rcases K.find w hk es.toList h.key with ⟨_, hno⟩ | ⟨j, e, hf, hj, hek⟩
  · rw [← h.ent] at hv
    obtain ⟨e, he, hee⟩ := List.mem_map.1 hv
    injection hee with h1 h2
    exact absurd h1 (hno e he)
  · obtain ⟨l1, l2, hl, rfl⟩ := split_at hj
    have hval : e.val = v0 := by
      have hm := h.mem (List.mem_of_getElem? hj)
      rw [hek] at hm
      exact nod_val h.nod hm hv
    have hm : m = l1.map (fun e => (e.key, e.val)) ++ (k, v0) :: l2.map (fun e => (e.key, e.val)) := by
      rw [← h.ent, hl]; simp [hek, hval]
    have hl' : (es.eraseIdxIfInBounds l1.length).toList = l1 ++ l2 := by
      rw [Array.toList_eraseIdxIfInBounds, hl, erase_at]
    have sub : ∀ x, x ∈ l1 ++ l2 → x ∈ es.toList := by
      intro x hx
      rw [hl]
      rcases List.mem_append.1 hx with hx | hx
      · simp [hx]
      · simp [hx]
    refine ⟨es.eraseIdxIfInBounds l1.length, _, _, hm, ?_, ?_⟩
    · unfold Builtin.delete_
      simp only [List.getElem?_toArray, List.getElem?_cons_zero, List.getElem?_cons_succ, Sem.run_bind, Sem.run_pure, hu, Result.andThen_ok, hg, hc, hf, run_setMap h.blk]
    · refine ⟨setBlock_get h.blk, by rw [hl']; simp, fun x hx => ?_, ?_, fun x hx => ?_, ?_⟩
      · rw [hl'] at hx; exact h.key x (sub x hx)
      · have := h.nod
        rw [hm] at this
        simp only [List.map_append, List.map_cons] at this ⊢
        exact List.Nodup.sublist (List.Sublist.append_left (List.sublist_cons_self _ _) _) this
      · rw [hl'] at hx; exact h.brn x (sub x hx)
      · have := h.bnd
        rw [hl] at this
        rw [hl']
        simp only [List.map_append, List.map_cons] at this ⊢
        exact List.Nodup.sublist (List.Sublist.append_left (List.sublist_cons_self _ _) _) this
/-- The map stays. -/
theorem Mp.kept {w' : World} (h : Mp P kt w B m es clock) (hb : w'.heap[B]? = w.heap[B]?) : Mp P kt w' B m es clock := ⟨hb.trans h.blk, h.ent, h.key, h.nod, h.brn, h.bnd⟩
theorem Mp.lt (h : Mp P kt w B m es clock) : B < w.heap.size := (Array.getElem?_eq_some_iff.1 h.blk).1
theorem Mp.made (P : Program) (kt : TypeId) (w : World) : Mp P kt (w.alloc (.map #[] 0)) w.heap.size [] #[] 0 :=
  ⟨by show (w.heap.push _)[w.heap.size]? = _; simp, rfl, by simp, by simp, by simp, by simp⟩
end
end Go.Proofs.YtecnfgikbmcgoaaGreat
namespace Go.Proofs.YtecnfgikbmcgoaaGreat

/-! ## The tree, by itself: what is held, told and sent (no program in it) -/
abbrev Ky := Int × Int
def klt (a b : Ky) : Bool := decide (a.1 < b.1) || (decide (a.1 = b.1) && decide (a.2 < b.2))
theorem klt_iff {a b : Ky} : klt a b = true ↔ a.1 < b.1 ∨ (a.1 = b.1 ∧ a.2 < b.2) := by simp [klt]
theorem klt_irr (a : Ky) : klt a a = false := by simp [klt]
theorem klt_trans {a b c : Ky} (h : klt a b = true) (k : klt b c = true) : klt a c = true := by
  rw [klt_iff] at *; omega
theorem klt_asymm {a b : Ky} (h : klt a b = true) : klt b a = false := by
  cases hb : klt b a with
  | false => rfl
  | true => have := klt_trans h hb; rw [klt_irr] at this; cases this
theorem klt_tri (a b : Ky) : klt a b = true ∨ a = b ∨ klt b a = true := by
  obtain ⟨a1, a2⟩ := a
  obtain ⟨b1, b2⟩ := b
  rw [klt_iff, klt_iff, Prod.mk.injEq]
  simp only
  omega
theorem klt_ne {a b : Ky} (h : klt a b = true) : a ≠ b := by
  intro e; rw [e, klt_irr] at h; cases h

section
variable {F : Type}
/-- A filter that is held. -/
structure Hd (F : Type) where
  key : Ky
  f : F
  fr : Int
def Srt (l : List (Hd F)) : Prop := l.Pairwise fun x y => klt x.key y.key = true
theorem Srt.uniq {l : List (Hd F)} (h : Srt l) {x y : Hd F} (hx : x ∈ l) (hy : y ∈ l) (e : x.key = y.key) : x = y := by
  induction l with
  | nil => cases hx
  | cons a t ih =>
    have hp := List.pairwise_cons.1 h
    rcases List.mem_cons.1 hx with rfl | hx'
    · rcases List.mem_cons.1 hy with rfl | hy'
      · rfl
      · have := hp.1 y hy'; rw [e, klt_irr] at this; cases this
    · rcases List.mem_cons.1 hy with rfl | hy'
      · have := hp.1 x hx'; rw [e, klt_irr] at this; cases this
      · exact ih hp.2 hx' hy'
theorem Srt.filter {l : List (Hd F)} (h : Srt l) (p : Hd F → Bool) : Srt (l.filter p) := List.Pairwise.filter p h
/-- One more, at its place. -/
def ins (h : Hd F) (l : List (Hd F)) : List (Hd F) := (l.filter fun x => klt x.key h.key) ++ h :: (l.filter fun x => klt h.key x.key)
def del (k : Ky) (l : List (Hd F)) : List (Hd F) := l.filter fun x => !(x.key == k)
theorem mem_ins {h g : Hd F} {l : List (Hd F)} : g ∈ ins h l ↔ g = h ∨ (g ∈ l ∧ g.key ≠ h.key) := by
  simp only [ins, List.mem_append, List.mem_cons, List.mem_filter]
  constructor
  · rintro (⟨h1, h2⟩ | rfl | ⟨h1, h2⟩)
    · exact Or.inr ⟨h1, klt_ne h2⟩
    · exact Or.inl rfl
    · exact Or.inr ⟨h1, fun e => klt_ne h2 e.symm⟩
  · rintro (rfl | ⟨h1, h2⟩)
    · exact Or.inr (Or.inl rfl)
    · rcases klt_tri g.key h.key with h3 | h3 | h3
      · exact Or.inl ⟨h1, h3⟩
      · exact absurd h3 h2
      · exact Or.inr (Or.inr ⟨h1, h3⟩)
theorem mem_del {k : Ky} {g : Hd F} {l : List (Hd F)} : g ∈ del k l ↔ g ∈ l ∧ g.key ≠ k := by
  simp [del, List.mem_filter]
theorem Srt.ins {l : List (Hd F)} (hs : Srt l) (h : Hd F) : Srt (ins h l) := by
  unfold Srt Go.Proofs.YtecnfgikbmcgoaaGreat.ins
  rw [List.pairwise_append]
  refine ⟨hs.filter _, List.pairwise_cons.2 ⟨fun y hy => (List.mem_filter.1 hy).2, hs.filter _⟩, fun x hx y hy => ?_⟩
  have h1 := (List.mem_filter.1 hx).2
  rcases List.mem_cons.1 hy with rfl | hy
  · exact h1
  · exact klt_trans h1 (List.mem_filter.1 hy).2
theorem Srt.del {l : List (Hd F)} (hs : Srt l) (k : Ky) : Srt (del k l) := hs.filter _
/-- Two sorted lists with the same members are the same. -/
theorem Srt.ext {l m : List (Hd F)} (hl : Srt l) (hm : Srt m) (h : ∀ x, x ∈ l ↔ x ∈ m) : l = m := by
  induction l generalizing m with
  | nil =>
    cases m with
    | nil => rfl
    | cons b t => have := (h b).2 (by simp); cases this
  | cons a t ih =>
    cases m with
    | nil => have := (h a).1 (by simp); cases this
    | cons b u =>
      have ha := List.pairwise_cons.1 hl
      have hb := List.pairwise_cons.1 hm
      have hab : a = b := by
        rcases List.mem_cons.1 ((h a).1 (by simp)) with e | e
        · exact e
        · rcases List.mem_cons.1 ((h b).2 (by simp)) with e' | e'
          · exact e'.symm
          · have h1 := ha.1 b e'
            have h2 := hb.1 a e
            rw [klt_asymm h1] at h2; cases h2
      subst hab
      congr 1
      refine ih ha.2 hb.2 (fun x => ?_)
      constructor
      · intro hx
        rcases List.mem_cons.1 ((h x).1 (by simp [hx])) with e | e
        · subst e; have := ha.1 x hx; rw [klt_irr] at this; cases this
        · exact e
      · intro hx
        rcases List.mem_cons.1 ((h x).2 (by simp [hx])) with e | e
        · subst e; have := hb.1 x hx; rw [klt_irr] at this; cases this
        · exact e

variable (cov : F → F → Bool)
def hides (g h : Hd F) : Bool := cov g.f h.f && (!(cov h.f g.f) || klt g.key h.key)
/-- What is told to a neighbour. -/
def told (l : List (Hd F)) (n : Int) : List (Hd F) := l.filter fun h => !(h.fr == n) && !(l.any fun g => !(g.fr == n) && hides cov g h)
theorem mem_told {l : List (Hd F)} {n : Int} {h : Hd F} : h ∈ told cov l n ↔ h ∈ l ∧ h.fr ≠ n ∧ ∀ g ∈ l, g.fr ≠ n → hides cov g h = false := by
  simp only [told, List.mem_filter, Bool.and_eq_true, Bool.not_eq_true', beq_eq_false_iff_ne, List.any_eq_false]
  constructor
  · rintro ⟨h1, h2, h3⟩
    refine ⟨h1, h2, fun g hg hn => ?_⟩
    have := h3 g hg
    simpa [hn] using this
  · rintro ⟨h1, h2, h3⟩
    refine ⟨h1, h2, fun g hg => ?_⟩
    by_cases hn : g.fr = n
    · simp [hn]
    · simp [h3 g hg hn]
theorem Srt.told {l : List (Hd F)} (hs : Srt l) (n : Int) : Srt (told cov l n) := hs.filter _

/-- Covering is an order (of what is held). -/
structure Pre (cov : F → F → Bool) (ok : F → Prop) : Prop where
  refl : ∀ f, ok f → cov f f = true
  trans : ∀ f g h, ok f → ok g → ok h → cov f g = true → cov g h = true → cov f h = true
variable {cov}
variable {ok : F → Prop}
theorem hides_irr (g : Hd F) : hides cov g g = false := by
  simp only [hides, klt_irr, Bool.or_false]
  cases cov g.f g.f <;> rfl
theorem hides_trans (P : Pre cov ok) {a b c : Hd F} (oa : ok a.f) (ob : ok b.f) (oc : ok c.f) (h : hides cov a b = true) (k : hides cov b c = true) : hides cov a c = true := by
  simp only [hides, Bool.and_eq_true, Bool.or_eq_true, Bool.not_eq_true'] at *
  refine ⟨P.trans _ _ _ oa ob oc h.1 k.1, ?_⟩
  cases hca : cov c.f a.f with
  | false => exact Or.inl rfl
  | true =>
    right
    have hba : cov b.f a.f = true := P.trans _ _ _ ob oc oa k.1 hca
    have hcb : cov c.f b.f = true := P.trans _ _ _ oc oa ob hca h.1
    rcases h.2 with h2 | h2
    · rw [hba] at h2; cases h2
    · rcases k.2 with k2 | k2
      · rw [hcb] at k2; cases k2
      · exact klt_trans h2 k2
theorem hides_cov {g h : Hd F} (k : hides cov g h = true) : cov g.f h.f = true := by
  simp only [hides, Bool.and_eq_true] at k; exact k.1
theorem filter_lt {α : Type} {l : List α} {p q : α → Bool} {x : α} (hx : x ∈ l) (hpq : ∀ y ∈ l, p y = true → q y = true) (hq : q x = true) (hp : p x = false) : (l.filter p).length < (l.filter q).length := by
  induction l with
  | nil => cases hx
  | cons a t ih =>
    have hle : ∀ (t : List α), (∀ y ∈ t, p y = true → q y = true) → (t.filter p).length ≤ (t.filter q).length := by
      intro t
      induction t with
      | nil => intro _; simp
      | cons b u ihu =>
        intro h
        have h1 := ihu (fun y hy => h y (by simp [hy]))
        have h2 := h b (by simp)
        simp only [List.filter_cons]
        cases hpb : p b with
        | false => cases hqb : q b <;> simp <;> omega
        | true => simp [h2 hpb]; omega
    rcases List.mem_cons.1 hx with rfl | hx'
    · have := hle t (fun y hy => hpq y (by simp [hy]))
      simp [hp, hq]; omega
    · have h1 := ih hx' (fun y hy => hpq y (by simp [hy]))
      have h2 := hpq a (by simp)
      simp only [List.filter_cons]
      cases hpa : p a with
      | false => cases hqa : q a <;> simp <;> omega
      | true => simp [h2 hpa]; omega
/-- Whatever is held from other sides is told, or something that hides it is. -/
theorem told_over (P : Pre cov ok) {l : List (Hd F)} {n : Int} (hok : ∀ h ∈ l, ok h.f) : ∀ (k : Nat) (h : Hd F), h ∈ l → h.fr ≠ n → (l.filter fun g => !(g.fr == n) && hides cov g h).length ≤ k → ∃ g ∈ told cov l n, g = h ∨ hides cov g h = true := by
  intro k
  induction k with
  | zero =>
    intro h hm hn hl
    refine ⟨h, (mem_told cov).2 ⟨hm, hn, fun g hg hgn => ?_⟩, Or.inl rfl⟩
    cases hh : hides cov g h with
    | false => rfl
    | true =>
      have : g ∈ l.filter fun g => !(g.fr == n) && hides cov g h := List.mem_filter.2 ⟨hg, by simp [hgn, hh]⟩
      rw [List.length_eq_zero_iff.1 (Nat.le_zero.1 hl)] at this
      cases this
  | succ k ih =>
    intro h hm hn hl
    by_cases ht : ∀ g ∈ l, g.fr ≠ n → hides cov g h = false
    · exact ⟨h, (mem_told cov).2 ⟨hm, hn, ht⟩, Or.inl rfl⟩
    · have : ∃ g ∈ l, g.fr ≠ n ∧ hides cov g h = true := by
        refine Classical.byContradiction fun hno => ht fun g hg hgn => ?_
        cases hh : hides cov g h with
        | false => rfl
        | true => exact absurd ⟨g, hg, hgn, hh⟩ hno
      obtain ⟨g, hg, hgn, hgh⟩ := this
      have hlt : (l.filter fun x => !(x.fr == n) && hides cov x g).length < (l.filter fun x => !(x.fr == n) && hides cov x h).length := by
        refine filter_lt (x := g) hg ?_ ?_ ?_
        · intro x hx hp
          simp only [Bool.and_eq_true] at hp ⊢
          exact ⟨hp.1, hides_trans P (hok x hx) (hok g hg) (hok h hm) hp.2 hgh⟩
        · simp [hgn, hgh]
        · simp [hides_irr]
      obtain ⟨x, hx, hxg⟩ := ih g hg hgn (by omega)
      refine ⟨x, hx, Or.inr ?_⟩
      rcases hxg with rfl | hxg
      · exact hgh
      · exact hides_trans P (hok x ((mem_told cov).1 hx).1) (hok g hg) (hok h hm) hxg hgh
end
end Go.Proofs.YtecnfgikbmcgoaaGreat
