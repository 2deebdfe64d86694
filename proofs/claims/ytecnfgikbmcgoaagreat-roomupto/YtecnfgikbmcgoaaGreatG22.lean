import Derived.Test.YtecnfgikbmcgoaaGreatG20
import Derived.Conc.EventLaws
import Derived.Test.YtecnfgikbmcgoaaGreatG15
import Derived.OwnWalk
import Derived.Test.YtecnfgikbmcgoaaGreatG16
import Derived.Test.YtecnfgikbmcgoaaGreatG19
import Derived.Test.YtecnfgikbmcgoaaGreatG14
import Derived.Test.YtecnfgikbmcgoaaGreatG21
import Derived.Test.YtecnfgikbmcgoaaGreatG18
namespace Go.Proofs.YtecnfgikbmcgoaaGreat
open Go.RowKit

theorem wpN_block {P : Program} {Q : Exit → Act → World → Prop} {a : Act} {w : World} {id : Nat} {c : Code} (h : wpN P c (Exit.inBlock id Q) a w) : wpN P (Code.block id c) Q a w := by
  intro b k cs hb
  obtain ⟨e, a₁, w₁, hq, harr⟩ := h b (.inBlock id :: k) cs hb
  cases e with
  | normal => exact ⟨.normal, a₁, w₁, hq, .head step_block (Steps.trans harr (.one step_inBlock))⟩
  | exit id' =>
    by_cases hid : id' = id
    · simp only [Exit.inBlock, hid, if_true] at hq
      exact ⟨.normal, a₁, w₁, hq, .head step_block (harr k (by simp [exitTo, hid]))⟩
    · simp only [Exit.inBlock, hid, if_false] at hq
      refine ⟨.exit id', a₁, w₁, hq, fun k' hk => .head step_block (harr k' ?_)⟩
      have : (id == id') = false := by simp; exact fun h => hid h.symm
      simp [exitTo, this, hk]
  | goto l => exact ⟨_, a₁, w₁, hq, fun k' hk => .head step_block (harr k' (by simp [gotoIn, hk]))⟩
  | ret => exact ⟨_, a₁, w₁, hq, .of_steps (.one step_block) harr⟩
  | panic ch => exact ⟨_, a₁, w₁, hq, .of_steps (.one step_block) harr⟩
  | outgrown => exact ⟨_, a₁, w₁, hq, .of_steps (b := b) (k := k) (cs := cs) (e := .outgrown) (.one step_block) harr⟩
/-- A closed inbox out of which j events are taken. -/
structure Ek (w wr : World) (c : Cl) (j : Nat) : Prop where
  ot : ∀ k, k < w.heap.size → k ≠ c.chn → wr.heap[k]? = w.heap[k]?
  ch : ∃ s q tm, wr.heap[c.chn]? = some (.chan 16 ((c.box.drop j).map bv).toArray true s q tm)
  lt : c.chn < w.heap.size
  size : w.heap.size ≤ wr.heap.size
  os : wr.os = w.os
  tape : wr.tape = w.tape
  output : wr.output = w.output
theorem Ek.below {w wr w' : World} {c : Cl} {j : Nat} (h : Ek w wr c j) (g : Below w.heap.size wr w') : Ek w w' c j := by
  obtain ⟨s, q, tm, h1⟩ := h.ch
  exact ⟨fun k hk hn => (g.block k hk).trans (h.ot k hk hn), ⟨s, q, tm, (g.block _ h.lt).trans h1⟩, h.lt, Nat.le_trans h.size g.size, g.os.trans h.os, g.tape.trans h.tape, g.output.trans h.output⟩
theorem Ek.recv {w wr : World} {c : Cl} {j : Nat} (h : Ek w wr c j) {s q : Nat} {tm : Bool} : Ek w (wr.setChan c.chn 16 (((c.box.drop j).map bv).toArray.extract 1 ((c.box.drop j).map bv).toArray.size) true s q tm) c (j + 1) := by
  have hl := h.lt
  have hs := h.size
  refine ⟨fun k hk hn => (setChan_other hn).trans (h.ot k hk hn), ⟨s, q, tm, ?_⟩, hl, by rw [setChan_size]; exact hs, h.os, h.tape, h.output⟩
  rw [setChan_get (by omega)]
  simp only [List.size_toArray, List.extract_toArray, ← List.map_drop, List.drop_drop, List.length_map, List.length_drop, List.extract_eq_take_drop, Option.some.injEq, Obj.chan.injEq, true_and, and_true]
  rw [List.take_of_length_le (by simp only [List.length_map, List.length_drop]; omega)]
theorem owns_chan {w : World} {base : Nat} {e : TypeId} {size n : Nat} {v : Value} {xs : List Value} (h : w.ownsRow base e size v n xs) {b cap s r : Nat} {buf : Array Value} {cl tm : Bool} (hb : b < base) : (w.setChan b cap buf cl s r tm).ownsRow base e size v n xs := by
  refine ⟨h.1, h.2.imp id ?_⟩
  rintro ⟨g, cp, cur, h1, h2, h3, h4⟩
  exact ⟨g, cp, cur, h1, h2, (setChan_other (by omega)).trans h3, h4⟩
theorem three_setCell1 {w : World} {b : Nat} {x y z u : Value} {t : TypeId} (h : w.heap[b]? = some (.cells #[x, y, z] t (0, 0))) : (w.setCell ⟨b, 1, none⟩ u).heap[b]? = some (.cells #[x, u, z] t (0, 0)) := by
  have hl := blk_lt h
  have h' : w.heap[b] = .cells #[x, y, z] t (0, 0) := by rw [Array.getElem?_eq_getElem hl] at h; injection h
  show (w.heap.modify b _)[b]? = _
  rw [Array.getElem?_eq_getElem (by simpa using hl), Array.getElem_modify_self, h']
  rfl
/-- The world when an inbox is emptied. -/
def emW (wr : World) (b : Nat) : World := (((wr.alloc (.chan 16 #[] false 0 0 false)).setCell ⟨b, 1, none⟩ (.chan (some wr.heap.size))).setCell ⟨b, 2, none⟩ (.int .i64 0))
theorem emW_size (wr : World) (b : Nat) : (emW wr b).heap.size = wr.heap.size + 1 := by unfold emW; rw [size_set, size_set]; simp
theorem Tm.emptied {T : Tc} {r : Nat → Rl} {w : World} {Xs : Nat → List Hm} {qs : Nat → Nat → List Mm} {m1 m2 : List Cl} {c : Cl} (h : Tm T r w Xs qs (m1 ++ c :: m2)) {wr : World} {j : Nat} (E : Ek w wr c j) {v : Value} {n : Nat} {xs : List Value} (O : wr.ownsRow w.heap.size 65 1 v n xs) :
    ∃ r' c', (Tm T r' (emW wr c.blk) Xs qs (m1 ++ c' :: m2) ∧ Fr r r' w (emW wr c.blk)) ∧ (emW wr c.blk).ownsRow w.heap.size 65 1 v n xs ∧ c'.num = c.num ∧ c'.at' = c.at' ∧ c'.lost = 0 ∧ c'.box = [] ∧ ∀ g, v.ownBlock = some g → r' g = .no := by
  have hmem : c ∈ m1 ++ c :: m2 := List.mem_append.2 (Or.inr (List.mem_cons_self))
  obtain ⟨rB, hB⟩ := h.k.blk c hmem
  obtain ⟨rC, s0, q0, tm0, hC⟩ := h.k.chn c hmem
  have lC := blk_lt hC
  have lB := blk_lt hB
  have hs := E.size
  have hne : c.blk ≠ c.chn := fun e => by rw [e, rC] at rB; cases rB
  have ot0 : ∀ k, k ≠ c.blk → k < wr.heap.size → (emW wr c.blk).heap[k]? = wr.heap[k]? := fun k h1 h2 => by
    unfold emW
    rw [Below.heap_setCell _ _ _ k h1, Below.heap_setCell _ _ _ k h1, heap_alloc_old _ _ h2]
  have ot : ∀ k, k < w.heap.size → k ≠ c.blk → k ≠ c.chn → (emW wr c.blk).heap[k]? = w.heap[k]? := fun k hk h1 h2 => (ot0 k h1 (by omega)).trans (E.ot k hk h2)
  have hsame : ∀ k, k < w.heap.size → (if k = wr.heap.size then Rl.ch c.num else r k) = r k := fun k hk => if_neg (by omega)
  refine ⟨fun k => if k = wr.heap.size then .ch c.num else r k, { c with chn := wr.heap.size, lost := 0, box := [] }, ⟨h.client { c with chn := wr.heap.size, lost := 0, box := [] } rfl rfl rfl (by rw [emW_size]; omega) ot hsame (fun k hk => ?_) ?_ ⟨if_pos rfl, 0, 0, false, ?_⟩ (fun x hx => by cases hx), ⟨E.os, E.tape, E.output, by rw [emW_size]; omega, fun k hk hr => ot k hk ?_ ?_, hsame⟩⟩, ?_, rfl, rfl, rfl, rfl, fun g hg => ?_⟩
  · rw [emW_size] at hk
    show (if k = wr.heap.size then Rl.ch c.num else r k) = .no
    rw [if_neg (by omega)]; exact h.b.top k (by omega)
  · exact three_setCell (three_setCell1 (by rw [heap_alloc_old _ _ (by omega)]; exact (E.ot _ lB hne).trans hB))
  · show (emW wr c.blk).heap[wr.heap.size]? = _
    unfold emW
    rw [Below.heap_setCell _ _ _ _ (by show wr.heap.size ≠ c.blk; omega), Below.heap_setCell _ _ _ _ (by show wr.heap.size ≠ c.blk; omega), heap_alloc_new]
    rfl
  · exact fun e => by rw [e, rB] at hr; rcases hr with hr | hr <;> cases hr
  · exact fun e => by rw [e, rC] at hr; rcases hr with hr | hr <;> cases hr
  · refine ⟨O.1, O.2.imp id ?_⟩
    rintro ⟨g, cp, cur, h1, h2, h3, h4⟩
    exact ⟨g, cp, cur, h1, h2, (ot0 g (by omega) (blk_lt h3)).trans h3, h4⟩
  · rcases O.2 with ⟨h1, _⟩ | ⟨g', cp, cur, h1, h2, h3, _⟩
    · rw [h1] at hg; simp [Value.ownBlock] at hg
    · rw [h1] at hg
      simp only [Value.ownBlock, Option.some.injEq] at hg
      subst hg
      have hlt := blk_lt h3
      show (if g' = wr.heap.size then Rl.ch c.num else r g') = .no
      rw [if_neg (by omega)]; exact h.b.top g' h2
set_option maxRecDepth 100000 in
set_option maxHeartbeats 4000000 in
theorem empty_t (T : Tc) (r : Nat → Rl) (w : World) (Xs : Nat → List Hm) (qs : Nat → Nat → List Mm) (m1 m2 : List Cl) (c : Cl) (hT : Tm T r w Xs qs (m1 ++ c :: m2)) (hbox : c.box.length ≤ 16) :
    Calls Tryz.prog 50 #[.pointer (some ⟨c.blk, 0, none⟩)] w fun x w' => ∃ v r' c', x = .returned (.tuple #[v, .int .i64 c.lost]) ∧ (Tm T r' w' Xs qs (m1 ++ c' :: m2) ∧ Fr r r' w w') ∧ w'.ownsRow w.heap.size 65 1 v c.box.length (c.box.map bv) ∧ c'.num = c.num ∧ c'.at' = c.at' ∧ c'.lost = 0 ∧ c'.box = [] ∧ ∀ g, v.ownBlock = some g → r' g = .no := by
  obtain ⟨i0, hi, hz0, hz1, hz2⟩ := info_parts Tryz.infoEvC
  have hmem : c ∈ m1 ++ c :: m2 := List.mem_append.2 (Or.inr (List.mem_cons_self))
  have hB := (hT.k.blk c hmem).2
  have rB := (hT.k.blk c hmem).1
  obtain ⟨rC, s, q, tm, hC⟩ := hT.k.chn c hmem
  have c1 : w.cell? ⟨c.blk, 1, none⟩ = some (.chan (some c.chn)) := by rw [cell_of_row _ _ _ _ _ _ hB]; rfl
  have HB := Hid.mk' hB
  have HT := Hid.mk' hT
  have HR := Hid.mk' (And.intro rB rC)
  clear hB hT rB rC hmem
  refine calls_of_wpN (fn := Tryz.f50) Tryz.func50 rfl ?_
  simp only [Tryz.ntmps50, List.size_toArray, List.length_cons, List.length_nil, Nat.reduceAdd, Nat.reduceSub, Array.replicate_succ, Array.replicate_zero, List.push_toArray, List.append_toArray, List.nil_append, List.cons_append]
  refine wpN_seq (fun K hK => ?_)
  go_wp2_with fail
  refine wpN_seq (fun K hK => ?_)
  have hcl : (Builtin.close_ #[124] 0 #[.chan (some c.chn)]).run Tryz.prog w = .ok (.tuple #[]) (w.setChan c.chn 16 (c.box.map bv).toArray true s q tm) := run_close_open _ _ hC
  go_wp2_with fail
  have hlt := blk_lt hC
  have hne : c.blk ≠ c.chn := fun e => by have h1 := HR.out.1; rw [e, HR.out.2] at h1; cases h1
  have E0 : Hid (Ek w (w.setChan c.chn 16 (c.box.map bv).toArray true s q tm) c 0) := ⟨fun k hk hn => setChan_other hn, ⟨s, q, tm, setChan_get hlt⟩, hlt, by rw [setChan_size]; exact Nat.le_refl _, rfl, rfl, rfl⟩
  have hB' : (w.setChan c.chn 16 (c.box.map bv).toArray true s q tm).heap[c.blk]? = _ := (setChan_other hne).trans HB.out
  have c1' : (w.setChan c.chn 16 (c.box.map bv).toArray true s q tm).cell? ⟨c.blk, 1, none⟩ = some (.chan (some c.chn)) := by rw [cell_of_row _ _ _ _ _ _ hB']; rfl
  generalize w.setChan c.chn 16 (c.box.map bv).toArray true s q tm = w0 at E0 hB' c1' ⊢
  clear hcl hC c1
  refine wpN_seq (fun K hK => ?_)
  go_wp2_with fail
  refine wpN_seqN (fun K hK => ?_)
  refine wpN_seq (fun K2 hK2 => ?_)
  go_wp2_with fail
  refine wpN_block ?_
  refine wpN_loop (fun n a wr => ∃ j v x5 x15 x16 x17 x18 x19 x20 x21, n = c.box.length - j ∧ j ≤ c.box.length ∧ Hid (Ek w wr c j) ∧ Hid (wr.ownsRow w.heap.size 65 1 v j ((c.box.take j).map bv)) ∧ a = { tmps := #[.pointer (some ⟨c.blk, 0, none⟩), undef, .slice none 0 0, .int .i64 0, v, x5, undef, .pointer (some ⟨c.blk, 0, none⟩), .pointer (some ⟨c.blk, 0, none⟩), .pointer (some ⟨c.blk, 1, none⟩), .chan (some c.chn), .pointer (some ⟨c.blk, 0, none⟩), .pointer (some ⟨c.blk, 0, none⟩), .pointer (some ⟨c.blk, 1, none⟩), .chan (some c.chn), x15, x16, x17, x18, x19, x20, x21, undef, undef, undef, undef, undef, undef, undef, undef, undef, undef, undef, undef, undef], defers := [] }) (c.box.length - 0) ?h0 ?rd
  case h0 => exact ⟨0, _, _, _, _, _, _, _, _, _, rfl, Nat.zero_le _, E0, ⟨rfl, Or.inl ⟨rfl, rfl⟩⟩, rfl⟩
  case rd =>
    rintro n a wr ⟨j, v, x5, x15, x16, x17, x18, x19, x20, x21, rfl, hj, E, O, rfl⟩
    refine wpN_seqN (fun K3 hK3 => ?_)
    by_cases hjl : j < c.box.length
    · obtain ⟨s1, q1, tm1, hc1⟩ := E.out.ch
      obtain ⟨xa, xn, xc, hbv⟩ : ∃ xa xn xc, bv c.box[j] = .slice xa xn xc := ⟨_, _, _, rfl⟩
      refine wpN_comm rfl (recv_buf rfl (z := .slice none 0 0) (by simp [go_sem, execOp, Go.Conc.rcase, Act.eval]) hc1 (by simp; omega)) ?_
      have E2 : Hid (Ek w (wr.setChan c.chn 16 (((c.box.drop j).map bv).toArray.extract 1 ((c.box.drop j).map bv).toArray.size) true s1 (q1 + 1) tm1) c (j + 1)) := E.out.recv
      have O2 : Hid ((wr.setChan c.chn 16 (((c.box.drop j).map bv).toArray.extract 1 ((c.box.drop j).map bv).toArray.size) true s1 (q1 + 1) tm1).ownsRow w.heap.size 65 1 v j ((c.box.take j).map bv)) := owns_chan O.out hlt
      generalize wr.setChan c.chn 16 (((c.box.drop j).map bv).toArray.extract 1 ((c.box.drop j).map bv).toArray.size) true s1 (q1 + 1) tm1 = w2 at E2 O2 ⊢
      rw [show ((c.box.drop j).map bv).toArray.getD 0 undef = .slice xa xn xc by rw [← hbv]; simp [Array.getD, show 0 < c.box.length - j by omega]]
      have HBV := Hid.mk' hbv
      clear E O hc1 hbv
      obtain ⟨va, vm, vk, rfl⟩ := owns_slice O2.out
      go_wp2_with (at_builtin; refine wpList_append_own _ rfl _ _ 61 rfl w.heap.size 65 i0 (.slice none 0 0) 1 24 Tryz.underlying61 hi hz0 hz1 hz2 rfl (by decide) _ _ _ rfl (O2.out.alloc _) ⟨w2.heap.size, 0, none⟩ 1 1 [.slice xa xn xc] rfl rfl (cell_one_new _ _ _) ?k2 ?k3 ?k4 ?k5 ?_)
      case k2 => intro t ht; simp at ht; subst ht; rfl
      case k3 => unfold maxLen; omega
      case k4 => omega
      case k5 => have := E2.out.size; simp; omega
      intro v5 w5 ho5 hg5 _
      have B5 : Below w.heap.size w2 w5 := Below.grown ((Below.refl _ _).alloc E2.out.size _) hg5 (Nat.le_trans E2.out.size (by simp)) (own_low O2.out)
      have E5 := Hid.mk' (E2.out.below B5)
      have O5 : Hid (w5.ownsRow w.heap.size 65 1 v5 (j + 1) ((c.box.take (j + 1)).map bv)) := by
        show World.ownsRow _ _ _ _ _ _ _
        rw [List.take_succ_eq_append_getElem hjl, List.map_append, List.map_singleton, HBV.out]; simpa using ho5
      obtain ⟨ya, ym, yk, rfl⟩ := owns_slice ho5
      clear ho5 hg5 O2 E2 B5
      go_wp2_with fail
      exact ⟨c.box.length - (j + 1), by omega, j + 1, _, _, _, _, _, _, _, _, _, rfl, by omega, E5, O5, rfl⟩
    · have hjj : j = c.box.length := by omega
      subst hjj
      obtain ⟨s1, q1, tm1, hc1⟩ := E.out.ch
      rw [List.drop_length] at hc1
      have hB2 : wr.heap[c.blk]? = _ := (E.out.ot _ (blk_lt HB.out) hne).trans HB.out
      have b2 : wr.cell? ⟨c.blk, 2, none⟩ = some (.int .i64 c.lost) := by rw [cell_of_row _ _ _ _ _ _ hB2]; rfl
      refine wpN_comm rfl (recv_shut rfl (z := .slice none 0 0) (by simp [go_sem, execOp, Go.Conc.rcase, Act.eval]) hc1) ?_
      have f1 : ∀ j, wr.frozen? ⟨c.blk, j, none⟩ = false := fun j => frozen_of_row _ _ _ _ _ hB2
      clear hc1
      obtain ⟨va, vm, vk, rfl⟩ := owns_slice O.out
      go_wp2_with fail
      refine (newInbox_any wr).mono ?_
      rintro e w3 ⟨rfl, rfl⟩
      have lb : c.blk < wr.heap.size := Nat.lt_of_lt_of_le (blk_lt HB.out) E.out.size
      have hB3 : (wr.alloc (.chan 16 #[] false 0 0 false)).heap[c.blk]? = _ := (heap_alloc_old _ _ lb).trans hB2
      have d1 : (wr.alloc (.chan 16 #[] false 0 0 false)).cell? ⟨c.blk, 1, none⟩ = some (.chan (some c.chn)) := by rw [cell_of_row _ _ _ _ _ _ hB3]; rfl
      have d2 : (wr.alloc (.chan 16 #[] false 0 0 false)).cell? ⟨c.blk, 2, none⟩ = some (.int .i64 c.lost) := by rw [cell_of_row _ _ _ _ _ _ hB3]; rfl
      have f3 : ∀ j, (wr.alloc (.chan 16 #[] false 0 0 false)).frozen? ⟨c.blk, j, none⟩ = false := fun j => frozen_of_row _ _ _ _ _ hB3
      have FIN := Hid.mk' (HT.out.emptied E.out O.out)
      rw [List.take_length] at FIN
      unfold emW at FIN
      clear hB3 hB2 b2 E O
      generalize wr.alloc (.chan 16 #[] false 0 0 false) = w4 at d1 d2 f3 FIN ⊢
      go_wp2_with fail
      go_ret2
      obtain ⟨r', c', h1, h2, h3⟩ := FIN.out
      exact ⟨_, r', c', rfl, h1, h2, h3⟩
end Go.Proofs.YtecnfgikbmcgoaaGreat
namespace Go.Proofs.YtecnfgikbmcgoaaGreat
open Go.RowKit

set_option maxRecDepth 100000 in
set_option maxHeartbeats 4000000 in
/-- What came for a client is taken. -/
theorem Inbox_in (T : Tc) (r : Nat → Rl) (w : World) (Xs : Nat → List Hm) (qs : Nat → Nat → List Mm) (m1 m2 : List Cl) (c : Cl) (hT : Tm T r w Xs qs (m1 ++ c :: m2)) (hbox : c.box.length ≤ 16) :
    Calls Tryz.prog 23 #[.pointer (some ⟨T.TB, 0, none⟩), .int .i64 c.num] w fun x w' => ∃ v r' c', x = .returned (.tuple #[v, .int .i64 c.lost, .int .i64 0]) ∧ (Tm T r' w' Xs qs (m1 ++ c' :: m2) ∧ Fr r r' w w') ∧ w'.ownsRow w.heap.size 65 1 v c.box.length (c.box.map bv) ∧ c'.num = c.num ∧ c'.at' = c.at' ∧ c'.lost = 0 ∧ c'.box = [] ∧ ∀ g, v.ownBlock = some g → r' g = .no := by
  have hlu := hT.k.find (x := c) (List.mem_append.2 (Or.inr List.mem_cons_self))
  have c1 := hT.b.c1
  have HC := Hid.mk' (empty_t T r w Xs qs m1 m2 c hT hbox)
  clear hT
  go_enter Tryz.func23, Tryz.ntmps23
  go_wp2_with fail
  refine HC.out.mono ?_
  rintro e w1 ⟨v, r', c', rfl, h⟩
  obtain ⟨va, vm, vk, rfl⟩ := owns_slice h.2.1
  have H := Hid.mk' h
  clear h
  go_wp2_with fail
  go_ret3
  exact ⟨_, r', c', rfl, H.out⟩
end Go.Proofs.YtecnfgikbmcgoaaGreat
namespace Go.Proofs.YtecnfgikbmcgoaaGreat
open Go.RowKit

theorem keepValue_gr (n : Int) (w : World) (h1 : -9223372036854775808 ≤ n) (h2 : n ≤ 9223372036854775807) :
    Calls Tryz.prog 52 #[.int .i64 n] w fun e w' => e = .returned (.agg #[.int .i64 (valK n), .int .i64 (valN n), .string (valS n)]) ∧ Gr w w' :=
  (keepValue_any n w h1 h2).mono fun e w' ⟨he, hw⟩ => ⟨he, by rw [hw]; exact valW_gr n w⟩
theorem quarter (n : Int) (h1 : -9223372036854775808 ≤ n) (h2 : n ≤ 9223372036854775807) : wrap64 (n.tdiv 4) = n.tdiv 4 :=
  (IntWalk.i64_left _).symm.trans (wrap_i64_tdiv n 4 h1 h2 (by omega))
theorem quarter_bd (n : Int) (h1 : -9223372036854775808 ≤ n) (h2 : n ≤ 9223372036854775807) : -9223372036854775808 ≤ n.tdiv 4 ∧ n.tdiv 4 ≤ 9223372036854775807 := by
  rcases Int.le_total 0 n with h | h
  · rw [Int.tdiv_eq_ediv_of_nonneg h]; omega
  · have e : n.tdiv 4 = -((-n) / 4) := by rw [← Int.tdiv_eq_ediv_of_nonneg (by omega), Int.neg_tdiv]; omega
    rw [e]; omega

set_option maxRecDepth 100000 in
set_option maxHeartbeats 2000000 in
theorem event_any (zs : List Int) (ad : Option Addr) (cap : Nat) (w : World) (hl : zs.length ≤ maxLen) (h : InAt w ad zs) (hwf : IntWf zs) :
    Calls Tryz.prog 24 #[.slice ad zs.length cap] w fun e w' => ∃ v, e = .returned v ∧ Gr w w' ∧ w'.ownsRow w.heap.size 74 4 v (evF zs).length (acells (evF zs)) := by
  unfold maxLen at hl
  obtain ⟨i0, hi, hz0, hz1, hz2⟩ := info_parts Tryz.infoAttr
  have HW : Hid (IntWf zs) := hwf
  have HA : Hid (InAt w ad zs) := h
  clear hwf h
  go_enter Tryz.func24, Tryz.ntmps24
  go_wp2
  go_loopw [3, 4] (fun v i wr => ∃ k : Nat, k ≤ 3 ∧ i = .int .i64 k ∧ Gr w wr ∧ Hid (wr.ownsRow w.heap.size 74 4 v (ke zs k).length (acells (ke zs k)))) (fun _ i _ => 3 - (intOf i).toNat)
  case atStart => exact ⟨0, by omega, rfl, Gr.refl _, World.ownsRow_nil _ _ _ _⟩
  case round =>
    obtain ⟨k, hk3, rfl, g, HO⟩ := hrel
    by_cases hlt : k < 3
    · by_cases hzl : k < zs.length
      · have HN : Hid (nOf zs k = iat zs k) := by
          show _ = _
          rw [nOf, if_pos hzl]
        rcases HA.out with hne | ⟨b, off, rfl, hb, hat⟩
        · subst hne; simp at hzl
        have c1 := (hat.gr g hb) k hzl
        clear hat
        cases hp : (pickF (iat zs k) 4 == 3)
        · have hp' : (pickF (iat zs k) 4 != 3) = true := by simp [bne, hp]
          have HK : Hid (ke zs (k + 1) = ke zs k ++ [atrF zs k]) := by
            show _ = _
            rw [ke, if_neg (by rw [HN.out]; simpa using hp)]
          clear hp
          go_wp2_with fail
          refine (pick_any _ _ _ (iat_bd HW.out hzl).1 (iat_bd HW.out hzl).2 (by omega) (by omega)).mono ?_
          rintro e w1 ⟨rfl, rfl⟩
          go_wp2_with fail
          refine (keepName_any _ _ (by omega) (by omega)).mono ?_
          rintro e w1 ⟨rfl, rfl⟩
          go_wp2_with fail
          rw [quarter _ (iat_bd HW.out hzl).1 (iat_bd HW.out hzl).2]
          refine (keepValue_gr _ _ (quarter_bd _ (iat_bd HW.out hzl).1 (iat_bd HW.out hzl).2).1 (quarter_bd _ (iat_bd HW.out hzl).1 (iat_bd HW.out hzl).2).2).mono ?_
          rintro e w2 ⟨rfl, hb2⟩
          have g2 : Gr w w2 := Gr.call g hb2
          have HO2 : Hid (w2.ownsRow w.heap.size 74 4 u3 (ke zs k).length (acells (ke zs k))) := ownsGr HO.out hb2
          have hsz := g2.size
          have hkl := ke_len zs k
          try clear c1
          go_wp2_with (at_builtin; refine wpList_append_own _ rfl _ _ 65 rfl w.heap.size 74 i0 _ 4 48 Tryz.underlying65 hi hz0 hz1 hz2 rfl (by decide) _ _ _ rfl (HO2.out.alloc _) ⟨w2.heap.size, 0, none⟩ 1 1 [.string (nameF (k : Int)), .int .i64 (valK ((iat zs k).tdiv 4)), .int .i64 (valN ((iat zs k).tdiv 4)), .string (valS ((iat zs k).tdiv 4))] rfl rfl (World.news_of_block (heap_alloc_new _ _)) ?c2 ?c3 ?c4 ?c5 ?_)
          case c2 => intro u hu; simp at hu; rcases hu with rfl | rfl | rfl | rfl <;> rfl
          case c3 => unfold maxLen; omega
          case c4 => omega
          case c5 => simp; omega
          intro v' w4 hown' hgrow _
          have g4 : Gr w w4 := owns_grown rfl HO2.out g2 hgrow
          have HO4 : Hid (w4.ownsRow w.heap.size 74 4 v' (ke zs (k + 1)).length (acells (ke zs (k + 1)))) := by
            show World.ownsRow _ _ _ _ _ _ _
            rw [HK.out, acells_snoc, List.length_append]
            simp only [atrF, HN.out]; exact hown'
          clear hown' hgrow
          go_wp2
          go_roundw
          case rel => exact ⟨k + 1, by omega, by go_num, g4, HO4⟩
          case measure => simp [intOf]; omega
        · have hp' : (pickF (iat zs k) 4 != 3) = false := by simp [bne, hp]
          have HK : Hid (ke zs (k + 1) = ke zs k) := by
            show _ = _
            rw [ke, if_pos (by rw [HN.out]; simpa using hp)]
          clear hp
          go_wp2_with fail
          refine (pick_any _ _ _ (iat_bd HW.out hzl).1 (iat_bd HW.out hzl).2 (by omega) (by omega)).mono ?_
          rintro e w1 ⟨rfl, rfl⟩
          go_wp2_with fail
          go_roundw
          case rel => exact ⟨k + 1, by omega, by go_num, g, by rw [HK.out]; exact HO.out⟩
          case measure => simp [intOf]; omega
      · have HN : Hid (nOf zs k = (k : Int)) := by
          show _ = _
          rw [nOf, if_neg hzl]
        cases hp : (pickF (k : Int) 4 == 3)
        · have hp' : (pickF (k : Int) 4 != 3) = true := by simp [bne, hp]
          have HK : Hid (ke zs (k + 1) = ke zs k ++ [atrF zs k]) := by
            show _ = _
            rw [ke, if_neg (by rw [HN.out]; simpa using hp)]
          clear hp
          go_wp2_with fail
          refine (pick_any _ _ _ (by omega) (by omega) (by omega) (by omega)).mono ?_
          rintro e w1 ⟨rfl, rfl⟩
          go_wp2_with fail
          refine (keepName_any _ _ (by omega) (by omega)).mono ?_
          rintro e w1 ⟨rfl, rfl⟩
          go_wp2_with fail
          rw [← Int.tdiv_eq_ediv_of_nonneg (a := (k : Int)) (b := 4) (by omega)]
          refine (keepValue_gr _ _ (quarter_bd _ (by omega) (by omega)).1 (quarter_bd _ (by omega) (by omega)).2).mono ?_
          rintro e w2 ⟨rfl, hb2⟩
          have g2 : Gr w w2 := Gr.call g hb2
          have HO2 : Hid (w2.ownsRow w.heap.size 74 4 u3 (ke zs k).length (acells (ke zs k))) := ownsGr HO.out hb2
          have hsz := g2.size
          have hkl := ke_len zs k
          try clear c1
          go_wp2_with (at_builtin; refine wpList_append_own _ rfl _ _ 65 rfl w.heap.size 74 i0 _ 4 48 Tryz.underlying65 hi hz0 hz1 hz2 rfl (by decide) _ _ _ rfl (HO2.out.alloc _) ⟨w2.heap.size, 0, none⟩ 1 1 [.string (nameF (k : Int)), .int .i64 (valK ((k : Int).tdiv 4)), .int .i64 (valN ((k : Int).tdiv 4)), .string (valS ((k : Int).tdiv 4))] rfl rfl (World.news_of_block (heap_alloc_new _ _)) ?c2 ?c3 ?c4 ?c5 ?_)
          case c2 => intro u hu; simp at hu; rcases hu with rfl | rfl | rfl | rfl <;> rfl
          case c3 => unfold maxLen; omega
          case c4 => omega
          case c5 => simp; omega
          intro v' w4 hown' hgrow _
          have g4 : Gr w w4 := owns_grown rfl HO2.out g2 hgrow
          have HO4 : Hid (w4.ownsRow w.heap.size 74 4 v' (ke zs (k + 1)).length (acells (ke zs (k + 1)))) := by
            show World.ownsRow _ _ _ _ _ _ _
            rw [HK.out, acells_snoc, List.length_append]
            simp only [atrF, HN.out]; exact hown'
          clear hown' hgrow
          go_wp2
          go_roundw
          case rel => exact ⟨k + 1, by omega, by go_num, g4, HO4⟩
          case measure => simp [intOf]; omega
        · have hp' : (pickF (k : Int) 4 != 3) = false := by simp [bne, hp]
          have HK : Hid (ke zs (k + 1) = ke zs k) := by
            show _ = _
            rw [ke, if_pos (by rw [HN.out]; simpa using hp)]
          clear hp
          go_wp2_with fail
          refine (pick_any _ _ _ (by omega) (by omega) (by omega) (by omega)).mono ?_
          rintro e w1 ⟨rfl, rfl⟩
          go_wp2_with fail
          go_roundw
          case rel => exact ⟨k + 1, by omega, by go_num, g, by rw [HK.out]; exact HO.out⟩
          case measure => simp [intOf]; omega
    · have hk : k = 3 := by omega
      subst hk
      obtain ⟨ad', cap', rfl⟩ := owns_form HO.out
      by_cases hne : (ke zs 3).length = 0
      · have HF : Hid (evF zs = [dAtr]) := by
          show _ = _
          rw [evF, if_pos (List.length_eq_zero_iff.1 hne)]
        have hne' : (((ke zs 3).length : Int) == 0) = true := by simp; exact List.length_eq_zero_iff.1 hne
        rw [hne] at *
        go_wp2_with fail
        refine (keepValue_gr 0 _ (by omega) (by omega)).mono ?_
        rintro e w2 ⟨rfl, hb2⟩
        go_wp2_with fail
        go_ret
        refine ⟨_, rfl, (Gr.call g hb2).alloc _, ?_⟩
        rw [HF.out]
        exact World.ownsRow_lit w2 #[.string ⟨#[100]⟩, .int .i64 (valK 0), .int .i64 (valN 0), .string (valS 0)] 1 (Gr.call g hb2).size (by unfold maxLen; omega) rfl
      · have HF : Hid (evF zs = ke zs 3) := by
          show _ = _
          rw [evF, if_neg (fun h => hne (by rw [h]; rfl))]
        have hne' : (((ke zs 3).length : Int) == 0) = false := by simp; exact fun h => hne (by rw [h]; rfl)
        go_wp2
        go_ret
        refine ⟨_, rfl, g, ?_⟩
        rw [HF.out]; exact HO.out

theorem mRes_one (l : List Atr) (f : List Wnt) (he : evOk l = true) (hf : filterOk f = true) : mErr l [f] = 0 ∧ mRes l [f] = if mat l f then [0] else [] := by
  have h1 : mErr l [f] = 0 := by simp [mErr, he, hf]
  refine ⟨h1, ?_⟩
  cases hm : mat l f <;> simp [mRes, h1, hits, List.range_succ, fat, hm]

set_option maxHeartbeats 2000000 in
theorem one_any (l : List Atr) (f : List Wnt) (ad ad' : Option Addr) (cap cap' : Nat) (m : Int) (w : World) (hl : l.length ≤ maxLen) (h : EvAt w ad l) (hwf : ∀ x ∈ l, Atr.Wf x)
    (hl' : f.length ≤ maxLen) (h' : FiAt w ad' f) (hwf' : ∀ x ∈ f, Wnt.Wf x) (he : evOk l = true) (hf : filterOk f = true) (hM : Ml m w) :
    Calls Tryz.prog 26 #[.slice ad l.length cap, .slice ad' f.length cap'] w fun e w' => e = .returned (.bool (mat l f)) ∧ Gr w w' := by
  have HE : Hid (EvAt w ad l) := h
  have HF : Hid (FiAt w ad' f) := h'
  have HW : Hid (∀ x ∈ l, Atr.Wf x) := hwf
  have HW' : Hid (∀ x ∈ f, Wnt.Wf x) := hwf'
  have HL : Hid (l.length ≤ maxLen) := hl
  have HL' : Hid (f.length ≤ maxLen) := hl'
  have HR : Hid (mErr l [f] = 0 ∧ mRes l [f] = if mat l f then [0] else []) := mRes_one l f he hf
  clear h h' hwf hwf' hl hl' he hf
  go_enter Tryz.func26, Tryz.ntmps26
  go_wp2_with fail
  refine (Match_any l [f] ad cap w.heap.size 0 1 m _ HL.out (HE.out.gr ((Gr.refl w).alloc _)) HW.out (by simp) (by simp) ?_ ?_ ?_ (hM.alloc _)).mono ?_
  · intro i hi
    have e : i = 0 := by simpa using hi
    subst e
    exact ⟨ad', cap', by simp [go_sem, fat], HF.out.gr ((Gr.refl w).alloc _)⟩
  · intro x hx; simp at hx; subst hx; exact HL'.out
  · intro x hx; simp at hx; subst hx; exact HW'.out
  rw [HR.out.1, HR.out.2]
  rintro e w1 ⟨v, rfl, hb1, hown⟩
  have g1 : Gr w w1 := Gr.call ((Gr.refl w).alloc _) hb1
  cases hm : mat l f
  · rw [hm] at hown
    obtain ⟨ad2, cap2, rfl⟩ := owns_form hown
    clear hown
    go_wp2_with fail
    go_ret
    exact ⟨ret_bool hm.symm, g1⟩
  · rw [hm] at hown
    rcases hown.2 with ⟨_, hn⟩ | ⟨b2, cap2, cur, rfl, hb2, _⟩
    · simp at hn
    have hc := World.ownsRow.cellAt hown 0 (by simp)
    simp [ints] at hc
    clear hown
    go_wp2_with fail
    go_ret
    exact ⟨ret_bool hm.symm, g1⟩
end Go.Proofs.YtecnfgikbmcgoaaGreat
namespace Go.Proofs.YtecnfgikbmcgoaaGreat
open Go.RowKit

/-- A client whose inbox was taken. -/
def clrC (n : Int) (c : Pc (List Atr)) : Pc (List Atr) := if c.num = n then { c with box := [], lost := 0 } else c
theorem clr_map {m1 m2 : List Cl} {c c' : Cl} (h1 : ∀ x, x ∈ m1 ∨ x ∈ m2 → x.num ≠ c.num) (hn : c'.num = c.num) (ha : c'.at' = c.at') (hl : c'.lost = 0) (hb : c'.box = []) : (m1 ++ c' :: m2).map pcOf = ((m1 ++ c :: m2).map pcOf).map (clrC c.num) := by
  have oth : ∀ m : List Cl, (∀ x ∈ m, x.num ≠ c.num) → m.map pcOf = (m.map pcOf).map (clrC c.num) := fun m hm => by
    rw [List.map_map]
    refine List.map_congr_left fun x hx => ?_
    show pcOf x = clrC c.num (pcOf x)
    unfold clrC
    rw [if_neg (by exact hm x hx)]
  simp only [List.map_append, List.map_cons]
  rw [← oth m1 (fun x hx => h1 x (Or.inl hx)), ← oth m2 (fun x hx => h1 x (Or.inr hx))]
  congr 2
  show _ = if c.num = c.num then _ else _
  rw [if_pos rfl]
  simp only [pcOf, hn, ha, hl, hb, List.map_nil]
/-- What came for a client is taken. -/
theorem Inbox_t (T : Tc) (r : Nat → Rl) (w : World) (cs : List (Pc (List Atr))) (s : Ts) (c : Pc (List Atr)) (hT : Tf T r w cs s) (hc : c ∈ cs) (hbox : c.box.length ≤ 16) :
    Calls Tryz.prog 23 #[.pointer (some ⟨T.TB, 0, none⟩), .int .i64 c.num] w fun x w' => ∃ (v : Value) (r' : Nat → Rl) (L : List (List Atr × Option Addr × Nat)), x = .returned (.tuple #[v, .int .i64 c.lost, .int .i64 0]) ∧ Tf T r' w' (cs.map (clrC c.num)) s ∧ Fr r r' w w' ∧ w'.ownsRow w.heap.size 65 1 v L.length (L.map bv) ∧ L.map (·.1) = c.box ∧ (∀ y ∈ L, EvR r' w' y.2.1 y.1) ∧ ∀ k, v.ownBlock = some k → r' k = .no := by
  obtain ⟨cls, x, ⟨Xs, qs, h1, hV⟩, rfl, hx, rfl⟩ := hT.find hc
  obtain ⟨m1, m2, rfl⟩ := List.append_of_mem hx
  have hl : x.box.length ≤ 16 := by simpa [pcOf] using hbox
  have hev : ∀ y ∈ x.box, EvR r w y.2.1 y.1 := h1.k.box x (List.mem_append.2 (Or.inr List.mem_cons_self))
  refine (Inbox_in T r w Xs qs m1 m2 x h1 hl).mono ?_
  rintro e w' ⟨v, r', c', h2, ⟨h3, h4⟩, h5, h6, h7, h8, h9, h10⟩
  refine ⟨v, r', x.box, h2, ⟨_, ⟨Xs, qs, h3, hV⟩, ?_⟩, h4, h5, rfl, fun y hy => (hev y hy).keep h4.size (fun i hi hr => h4.keep i hi (Or.inr hr)) h4.same, h10⟩
  exact clr_map (fun z hz => h1.apartC hz) h6 h7 h8 h9
theorem Fr.ownsB {r r' : Nat → Rl} {w w' : World} {bs n size : Nat} {e : TypeId} {v : Value} {xs : List Value} (h : Fr r r' w w') (o : w.ownsRow bs e size v n xs) (hr : ∀ k, v.ownBlock = some k → r k = .no) : w'.ownsRow bs e size v n xs ∧ ∀ k, v.ownBlock = some k → r' k = .no := by
  rcases o.2 with h2 | ⟨g, cap, cur, hv, hb, hh, rr⟩
  · exact ⟨⟨o.1, Or.inl h2⟩, fun k hk => by rw [h2.1] at hk; simp [Value.ownBlock] at hk⟩
  · have hg := hr g (by rw [hv]; rfl)
    refine ⟨⟨o.1, Or.inr ⟨g, cap, cur, hv, hb, (h.keep g (blk_lt hh) (Or.inl hg)).trans hh, rr⟩⟩, fun k hk => ?_⟩
    rw [hv] at hk
    simp only [Value.ownBlock, Option.some.injEq] at hk
    subst hk
    exact (h.same _ (blk_lt hh)).trans hg
theorem EvR.fr {r r' : Nat → Rl} {w w' : World} {ad : Option Addr} {l : List Atr} (h : EvR r w ad l) (k : Fr r r' w w') : EvR r' w' ad l := h.keep k.size (fun i hi hr => k.keep i hi (Or.inr hr)) k.same
/-- An event of the caller's own. -/
structure EvN (r : Nat → Rl) (w : World) (ad : Option Addr) (f : List Atr) : Prop where
  m : EvM w ad f
  r : ∃ b off, ad = some ⟨b, off, none⟩ ∧ r b = .no
theorem EvN.fr {r r' : Nat → Rl} {w w' : World} {ad : Option Addr} {f : List Atr} (h : EvN r w ad f) (k : Fr r r' w w') : EvN r' w' ad f := by
  obtain ⟨⟨⟨b, off, h1, h2, h3⟩, hwf, hok⟩, b', off', h4, h5⟩ := h
  have e := h1.symm.trans h4
  injection e with e
  injection e with e1 e2
  subst e1
  exact ⟨⟨⟨b, off, h1, Nat.lt_of_lt_of_le h2 k.size, h3.blk (k.keep b h2 (Or.inl h5))⟩, hwf, hok⟩, b, off, h1, (k.same b h2).trans h5⟩
theorem evn_of {r : Nat → Rl} {w : World} {base g cap : Nat} {e : TypeId} {l : List Atr} (h : w.ownsRow base e 4 (.slice (some ⟨g, 0, none⟩) l.length cap) l.length (acells l)) (hok : evOk l = true) (hwf : ∀ x ∈ l, Atr.Wf x) (hr : r g = .no) : EvN r w (some ⟨g, 0, none⟩) l := by
  obtain ⟨ad, cp, e1, hfa⟩ := owns_attrs h
  injection e1 with e1 _ _
  subst e1
  refine ⟨⟨?_, hwf, hok⟩, g, 0, rfl, hr⟩
  rcases hfa with h0 | h0
  · exact absurd h0 (ev_ok_of hok).2
  · exact h0
set_option maxRecDepth 100000 in
set_option maxHeartbeats 4000000 in
theorem sameEv_yes (l : List Atr) (ad ad' : Option Addr) (cap cap' : Nat) (w : World) (h : EvM w ad l) (h' : EvM w ad' l) :
    Calls Tryz.prog 27 #[.slice ad l.length cap, .slice ad' l.length cap'] w fun e w' => e = .returned (.bool true) ∧ Gr w w' := by
  have hlen := h.len
  obtain ⟨b, off, rfl, hb, hat⟩ := h.at'
  obtain ⟨b', off', rfl, hb', hat'⟩ := h'.at'
  have A1 := Hid.mk' hat
  have A2 := Hid.mk' hat'
  clear h h' hat hat'
  go_enter Tryz.func27, Tryz.ntmps27
  go_wp2_with fail
  go_loopw [5] (fun i wr => ∃ q : Nat, q ≤ l.length ∧ i = .int .i64 q ∧ Hid (Gr w wr)) (fun i _ => l.length - (intOf i).toNat)
  case atStart => exact ⟨0, Nat.zero_le _, rfl, Gr.refl _⟩
  case round =>
    obtain ⟨q, hq, rfl, G⟩ := hrel
    by_cases hlt : q < l.length
    · obtain ⟨c1, c2, c3, c4⟩ := (A1.out.gr G.out hb) q hlt
      obtain ⟨d1, d2, d3, d4⟩ := (A2.out.gr G.out hb') q hlt
      generalize aat l q = z at *
      go_wp2_with fail
      go_quiet (fail)
      have G2 := Hid.mk' (G.out.drewN nq)
      clear c1 c2 c3 c4 d1 d2 d3 d4
      go_wp2_with fail
      exact ⟨⟨q + 1, hlt, by simp, G2⟩, measM_dec _ _ hlt⟩
    · have hqe : q = l.length := by omega
      subst hqe
      go_wp2_with fail
      go_ret
      exact ⟨rfl, G.out⟩
end Go.Proofs.YtecnfgikbmcgoaaGreat
namespace Go.Proofs.YtecnfgikbmcgoaaGreat

section
variable {F E : Type}
variable {cov : F → F → Bool} {adj : Nat → Nat → Bool} {nxt : Nat → Nat → Int} {home : Int → Nat} {ok : F → Prop} {rank : Nat → Nat → Nat} {mt : E → F → Bool}
/-- What a client asks for: at its own broker, and nowhere else. -/
theorem asks_home {nb : Nat} (Z : Nz nb adj nxt) (hh : ∀ c, home c < nb) {s : TS F E} (I : Inv cov adj nxt home ok s) {b : Nat} (hb : b < nb) {c : Int} {e : E} (h : asksP mt (s.held b) (true, c) e = true) : home c = b := by
  simp only [asksP, List.any_eq_true, Bool.and_eq_true, decide_eq_true_eq] at h
  obtain ⟨x, hx, h1, _⟩ := h
  unfold sd at h1
  split at h1
  · rename_i h2
    injection h1 with _ h3
    rw [I.rt b x hx, h3] at h2
    exact (Z.one b _ hb (hh c) h2).symm
  · injection h1 with h1; cases h1
theorem asks_ow {s : TS F E} {l : List (Ky × F)} (O : Ow home s l) {c : Int} {e : E} : asksP mt (s.held (home c)) (true, c) e = true ↔ ∃ k f, (k, f) ∈ l ∧ k.1 = c ∧ mt e f = true := by
  simp only [asksP, List.any_eq_true, Bool.and_eq_true, decide_eq_true_eq]
  constructor
  · rintro ⟨x, hx, h1, h2⟩
    unfold sd at h1
    split at h1
    · rename_i h3
      injection h1 with _ h4
      exact ⟨x.key, x.f, ((O _ x.key x.f).1 ⟨x, hx, h3, rfl, rfl⟩).2, h4, h2⟩
    · injection h1 with h1; cases h1
  · rintro ⟨k, f, h1, h2, h3⟩
    obtain ⟨x, hx, h4, h5, h6⟩ := ow_mem O h1
    rw [h2] at hx
    refine ⟨x, hx, ?_, by rw [h6]; exact h3⟩
    unfold sd
    rw [if_pos h4, h5, h2]
/-- While an event is under way: what the clients have heard. -/
def Hc (mt : E → F → Bool) (home : Int → Nat) (H : Nat → List (Hd F)) (fr : Int) (e : E) (V : Nat → Prop) (cs : List (Pc E)) : Prop :=
  ∀ c ∈ cs, c.at' = home c.num ∧ c.lost = 0 ∧ ((V c.at' ∧ c.num ≠ fr ∧ asksP mt (H c.at') (true, c.num) e = true) → c.box = [e]) ∧ (¬ (V c.at' ∧ c.num ≠ fr ∧ asksP mt (H c.at') (true, c.num) e = true) → c.box = [])
theorem hear_empty {e : E} {c : Pc E} (h : c.box = []) : (c.hear e).box = [e] ∧ (c.hear e).lost = c.lost := by
  unfold Pc.hear
  rw [h]
  simp
/-- An event is published in a quiet tree. -/
theorem ew_init {s : TS F E} (hq : quiet s) (hirr : ∀ a, adj a a = false) (b0 : Nat) (e : E) : Ew adj nxt mt s.held b0 e (fun x => x = b0) (s.come adj mt b0 (-1) e) := by
  have hq' : ∀ x y, (s.come adj mt b0 (-1) e).q x y = if x = b0 ∧ adj b0 y = true ∧ (y : Int) ≠ -1 ∧ goes mt s e b0 y = true then [.ev e] else [] := by
    intro x y
    show (if x = b0 ∧ adj b0 y = true ∧ (y : Int) ≠ -1 ∧ _ then s.q x y ++ [.ev e] else s.q x y) = _
    rw [hq x y]; rfl
  refine ⟨rfl, rfl, fun a b hne => ?_, fun a b hab ha hb hg => ?_, fun b hb => Or.inl hb⟩
  · rw [hq'] at hne ⊢
    split at hne
    · rename_i h
      rw [if_pos h]
      obtain ⟨rfl, h2, _, h4⟩ := h
      exact ⟨h2, rfl, (fun e => by rw [e, hirr] at h2; cases h2), h4, rfl⟩
    · exact absurd rfl hne
  · rw [hq']
    have ha : a = b0 := ha
    subst ha
    rw [if_pos ⟨rfl, hab, by omega, hg⟩]
theorem hc_init {nb : Nat} (Z : Nz nb adj nxt) (hh : ∀ c, home c < nb) {s : TS F E} (I : Inv cov adj nxt home ok s) {fr : Int} {e : E} {cs : List (Pc E)} (hc : ∀ c ∈ cs, c.at' = home c.num ∧ c.lost = 0 ∧ c.box = []) : Hc mt home s.held fr e (fun x => x = home fr) (cs.map (hearAt mt (s.held (home fr)) (true, fr) e)) := by
  intro c hcm
  obtain ⟨d, hd, rfl⟩ := List.mem_map.1 hcm
  obtain ⟨h1, h2, h3⟩ := hc d hd
  rw [(hearAt_num _ _ _ d).1, (hearAt_num _ _ _ d).2]
  obtain ⟨r1, r2⟩ := hear_empty (e := e) h3
  unfold hearAt
  by_cases hx : (true, d.num) ≠ (true, fr) ∧ asksP mt (s.held (home fr)) (true, d.num) e = true
  · rw [if_pos hx]
    have hat := asks_home Z hh I (hh fr) hx.2
    refine ⟨h1, by rw [r2, h2], fun _ => r1, fun hn => absurd ⟨by rw [h1, hat], fun e => hx.1 (by rw [e]), by rw [h1, hat]; exact hx.2⟩ hn⟩
  · rw [if_neg hx]
    refine ⟨h1, h2, fun hn => absurd ⟨fun e => hn.2.1 (by injection e), ?_⟩ hx, fun _ => h3⟩
    rw [← hn.1]; exact hn.2.2
theorem hc_step (N : Nx adj nxt) {nb : Nat} (Z : Nz nb adj nxt) (hh : ∀ c, home c < nb) {s : TS F E} (I : Inv cov adj nxt home ok s) {H : Nat → List (Hd F)} {b0 : Nat} {fr : Int} {e : E} {V : Nat → Prop} {cs : List (Pc E)} (hb0 : b0 = home fr) (W : Ew adj nxt mt H b0 e V s) (h : Hc mt home H fr e V cs) {a b : Nat} (ha : adj a b = true) {m : Ms F E} {r : List (Ms F E)} (hq : s.q a b = m :: r) :
    Hc mt home H fr e (fun x => V x ∨ x = b) (hrs mt (s.held b) a m cs) := by
  obtain ⟨rfl, hva, hvb, _⟩ := ew_step (cov := cov) N W ha hq
  intro c hcm
  obtain ⟨d, hd, rfl⟩ := List.mem_map.1 hcm
  obtain ⟨h1, h2, h3, h4⟩ := h d hd
  rw [(hearAt_num _ _ _ d).1, (hearAt_num _ _ _ d).2]
  have hin := Z.inn a b ha
  unfold hearAt
  by_cases hx : (true, d.num) ≠ (false, (a : Int)) ∧ asksP mt (s.held b) (true, d.num) e = true
  · rw [if_pos hx]
    have hat := asks_home Z hh I hin.2 hx.2
    have hno : d.box = [] := h4 (fun hn => hvb (by rw [← hat, ← h1]; exact hn.1))
    obtain ⟨r1, r2⟩ := hear_empty (e := e) hno
    refine ⟨h1, by rw [r2, h2], fun _ => r1, fun hn => absurd ⟨Or.inr (by rw [h1, hat]), fun e => ?_, ?_⟩ hn⟩
    · rw [e, ← hb0] at hat
      exact hvb (by rw [← hat]; exact W.at0)
    · rw [h1, hat, ← W.held]; exact hx.2
  · rw [if_neg hx]
    refine ⟨h1, h2, fun hn => ?_, fun hn => h4 (fun hm => hn ⟨Or.inl hm.1, hm.2⟩)⟩
    rcases hn.1 with hv | hv
    · exact h3 ⟨hv, hn.2⟩
    · refine absurd ⟨fun e => (by injection e with e; cases e), ?_⟩ hx
      rw [W.held, ← hv]; exact hn.2.2
/-- When nothing waits any more, everybody has heard just what they asked for. -/
theorem heard_end (P : Pre cov ok) (N : Nx adj nxt) {nb : Nat} (Z : Nz nb adj nxt) (R : Rk adj nxt rank) (hm : ∀ e f g, ok f → ok g → cov f g = true → mt e g = true → mt e f = true) (hh : ∀ c, home c < nb) {s s' : TS F E} (I : Inv cov adj nxt home ok s) (hq : quiet s) {l : List (Ky × F)} (O : Ow home s l) {fr : Int} {e : E} {cs cs' : List (Pc E)} (hc : ∀ c ∈ cs, c.at' = home c.num ∧ c.lost = 0 ∧ c.box = []) {n : Nat}
    (h : Run cov adj mt (s.come adj mt (home fr) (-1) e) (cs.map (hearAt mt (s.held (home fr)) (true, fr) e)) n s' cs') (hq' : quiet s') :
    Inv cov adj nxt home ok s' ∧ Ow home s' l ∧ ∀ c ∈ cs', c.at' = home c.num ∧ c.lost = 0 ∧ ((c.num ≠ fr ∧ ∃ k f, (k, f) ∈ l ∧ k.1 = c.num ∧ mt e f = true) → c.box = [e]) ∧ (¬ (c.num ≠ fr ∧ ∃ k f, (k, f) ∈ l ∧ k.1 = c.num ∧ mt e f = true) → c.box = []) := by
  have I1 : Inv cov adj nxt home ok (s.come adj mt (home fr) (-1) e) := come_inv I _ _ _
  have key := Run.keep (P := fun t ds => Inv cov adj nxt home ok t ∧ ∃ V, Ew adj nxt mt s.held (home fr) e V t ∧ Hc mt home s.held fr e V ds) (fun t ds a b m r p h1 h2 => by
    obtain ⟨J, V, W, C⟩ := p
    exact ⟨nstep_inv N J h1 h2, _, (ew_step (cov := cov) N W h1 h2).2.2.2, hc_step N Z hh J rfl W C h1 h2⟩) h ⟨I1, _, ew_init hq N.irr _ _, hc_init Z hh I hc⟩
  obtain ⟨J, V, W, C⟩ := key
  refine ⟨J, h.ow N I1 O, fun c hcm => ?_⟩
  obtain ⟨h1, h2, h3, h4⟩ := C c hcm
  have hask : asksP mt (s.held c.at') (true, c.num) e = true ↔ ∃ k f, (k, f) ∈ l ∧ k.1 = c.num ∧ mt e f = true := by rw [h1]; exact asks_ow O
  have hV : asksP mt (s.held c.at') (true, c.num) e = true → V c.at' := by
    intro ha
    by_cases hb0 : c.at' = home fr
    · rw [hb0]; exact W.at0
    · have hlt : c.at' < nb := by rw [h1]; exact hh _
      rcases R.nb c.at' (home fr) with e' | ⟨m, e', hm'⟩
      · exact absurd (Z.one _ _ hlt (hh fr) e') hb0
      · refine ew_all P R N Z hm (hh fr) J W hq' _ c.at' m hlt e' hm' (Nat.le_refl _) ?_
        simp only [asksP, List.any_eq_true, Bool.and_eq_true, decide_eq_true_eq] at ha
        obtain ⟨x, hx, k1, k2⟩ := ha
        rw [← W.held] at hx
        refine ⟨x, hx, ?_, k2⟩
        unfold sd at k1
        split at k1
        · rename_i k3; rw [k3]; omega
        · injection k1 with k1; cases k1
  exact ⟨h1, h2, fun hx => h3 ⟨hV (hask.2 hx.2), hx.1, hask.2 hx.2⟩, fun hx => h4 (fun hn => hx ⟨hn.2.1, hask.1 hn.2.2⟩)⟩
end
end Go.Proofs.YtecnfgikbmcgoaaGreat
namespace Go.Proofs.YtecnfgikbmcgoaaGreat

section
variable {F E : Type}
variable {cov : F → F → Bool} {adj : Nat → Nat → Bool} {nxt : Nat → Nat → Int} {home : Int → Nat} {ok : F → Prop} {rank : Nat → Nat → Nat} {mt : E → F → Bool}
/-- One filter, everywhere, and nothing else. -/
theorem rm_start (P : Pre cov ok) (R : Rk adj nxt rank) (N : Nx adj nxt) {nb : Nat} (Z : Nz nb adj nxt) {k : Ky} {f : F} (hf : ok f) (h0 : home k.1 < nb) (e : E) {cs cs' : List (Pc E)} (hc : ∀ c ∈ cs, c.box = [] ∧ c.lost = 0) {s' : TS F E} {n : Nat}
    (h : Run cov adj mt ((TS.none F E).turn cov adj (home k.1) [⟨k, f, -1⟩]) cs n s' cs') (hq : quiet s') : Rm nb adj nxt k (home k.1) f e k.1 s' cs' 0 ∧ cs' = cs := by
  obtain ⟨_, I, L⟩ := fl_count (mt := mt) P R N Z hf h0 h.sts hq
  have I0 : Inv cov adj nxt home ok ((TS.none F E).turn cov adj (home k.1) [⟨k, f, -1⟩]) := sub_inv N none_inv k f hf (fun g hg => by cases hg)
  have K0 : Kif (fun k' f' => k' = k ∧ f' = f) ((TS.none F E).turn cov adj (home k.1) [⟨k, f, -1⟩]) := turn_kif ⟨(fun b h hm => by cases hm), (fun a b k f hm => by cases hm)⟩ (fun x hx => by rw [List.mem_singleton.1 hx]; exact ⟨rfl, rfl⟩)
  have L0 : Fl k (home k.1) ((TS.none F E).turn cov adj (home k.1) [⟨k, f, -1⟩]) := by
    refine ⟨fun b h hm => (K0.held b h hm).1, fun a b m hm => ?_, ?_⟩
    · have hm' : m ∈ (if a = home k.1 ∧ adj (home k.1) b = true then [] ++ chg cov [] [(⟨k, f, -1⟩ : Hd F)] b else []) := hm
      split at hm'
      · rw [List.nil_append] at hm'
        cases m with
        | sub k' f' => exact ⟨f', by rw [(K0.q a b k' f' hm).1]⟩
        | uns k' =>
          obtain ⟨g, hg, _⟩ := mem_chg_uns hm'
          cases hg
        | ev e =>
          simp only [chg, subs, unss, List.mem_append, List.mem_map] at hm'
          rcases hm' with ⟨_, _, h⟩ | ⟨_, _, h⟩ <;> cases h
      · cases hm'
    · show (if home k.1 = home k.1 then [(⟨k, f, -1⟩ : Hd F)] else []) ≠ []
      rw [if_pos rfl]; simp
  have key := Run.keep (P := fun s ds => Inv cov adj nxt home ok s ∧ Fl k (home k.1) s ∧ Kif (fun k' f' => k' = k ∧ f' = f) s ∧ ds = cs) (fun s ds a b m r p h1 h2 => by
    obtain ⟨p1, p2, p3, p4⟩ := p
    refine ⟨nstep_inv N p1 h1 h2, (fl_step (mt := mt) Z p1 p2 h1 h2).1, nstep_kif p3 h2, ?_⟩
    obtain ⟨f', rfl⟩ := p2.ms a b m (by rw [h2]; simp)
    exact p4) h ⟨I0, L0, K0, rfl⟩
  obtain ⟨_, _, K, rfl⟩ := key
  refine ⟨⟨fun b hb => ?_, (fun a b m hm => by rw [hq] at hm; cases hm), I.nq, fun c hcm _ => ⟨0, ?_, ?_, ?_⟩⟩, rfl⟩
  · have hne : s'.held b ≠ [] := by
      rcases R.nb b (home k.1) with e | ⟨m, e, hm⟩
      · rw [Z.one b _ hb h0 e]; exact L.at0
      · exact fl_all P R N Z I h0 L hq _ b m hb e hm (Nat.le_refl _)
    have all : ∀ x ∈ s'.held b, x = ⟨k, f, nxt b (home k.1)⟩ := fun x hx => by
      have h1 := K.held b x hx
      have h2 := I.rt b x hx
      rw [h1.1] at h2
      cases x
      simp only at h1 h2
      rw [h1.1, h1.2, h2]
    have hs := I.srt b
    cases hl : s'.held b with
    | nil => exact absurd hl hne
    | cons x t =>
      rw [hl] at all hs
      have hx := all x (by simp)
      cases t with
      | nil => rw [hx]
      | cons y u =>
        have hy := all y (by simp)
        have := (List.pairwise_cons.1 hs).1 y (by simp)
        rw [hx, hy, klt_irr] at this; cases this
  · have : sm nb (fun a => sm nb fun b => (s'.q a b).length) = sm nb fun _ => 0 := sm_congr nb (fun a _ => by
      rw [sm_congr nb (g := fun _ => 0) (fun b _ => by rw [hq]; rfl), sm_zero])
    rw [this, sm_zero]
  · rw [(hc c hcm).1]; rfl
  · rw [(hc c hcm).2]; rfl
/-- When nothing waits, all have come. -/
theorem rm_end {nb : Nat} {k : Ky} {b1 : Nat} {f : F} {e : E} {s : TS F E} {cs : List (Pc E)} {n : Nat} (h : Rm nb adj nxt k b1 f e k.1 s cs n) (hq : quiet s) {c : Pc E} (hc : c ∈ cs) (hn : c.num = k.1) : c.box = List.replicate (min n 16) e ∧ c.lost = ((n - 16 : Nat) : Int) := by
  obtain ⟨j, hj, h1, h2⟩ := h.c c hc hn
  have : sm nb (fun a => sm nb fun b => (s.q a b).length) = sm nb fun _ => 0 := sm_congr nb (fun a _ => by
    rw [sm_congr nb (g := fun _ => 0) (fun b _ => by rw [hq]; rfl), sm_zero])
  rw [this, sm_zero] at hj
  have : j = n := by omega
  rw [← this]; exact ⟨h1, h2⟩
end
end Go.Proofs.YtecnfgikbmcgoaaGreat
