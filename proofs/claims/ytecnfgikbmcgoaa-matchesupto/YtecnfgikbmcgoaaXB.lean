import Derived.Test.YtecnfgikbmcgoaaTried
import Derived.WalkKit
import Derived.WalkSpells
import Derived.WalkLawsBesides
import Derived.Test.YtecnfgikbmcgoaaRows
namespace Go.Proofs.Ytecnfgikbmcgoaa
open Go.RowKit

theorem Try.infoValue : (Try.prog.info? 49).map (fun i => (i.zero, i.size, i.bytes)) = some (some (.agg #[.int .i64 0, .int .i64 0, .string ⟨#[]⟩]), 3, 32) := by kernel_rfl

theorem blk_lt {w : World} {k : Nat} {o : Obj} (h : w.heap[k]? = some o) : k < w.heap.size := by
  rcases Nat.lt_or_ge k w.heap.size with h' | h'
  · exact h'
  · rw [Array.getElem?_eq_none (by omega)] at h; cases h

set_option maxRecDepth 100000 in
set_option maxHeartbeats 4000000 in
theorem tried_any (a : ByteArray) (y k n : Int) (s a' : ByteArray) (y' k' n' : Int) (s' : ByteArray) (w : World) (hs : s.size ≤ 32) (hs' : s'.size ≤ 32) :
    Calls Try.prog 44 #[.agg #[.string a, .int .i64 y, .int .i64 k, .int .i64 n, .string s], .agg #[.string a', .int .i64 y', .int .i64 k', .int .i64 n', .string s']] w
      fun e w' => ∃ v, e = .returned v ∧ Gr w w' ∧ w'.ownsRow w.heap.size 49 3 v (triedL n s n' s').length (vcells (triedL n s n' s')) := by
  obtain ⟨i0, hi, hz0, hz1, hz2⟩ := info_parts Try.infoValue
  go_enter Try.func44, Try.ntmps44
  go_wp2
  go_loopw [5, 8] (fun v i wr => ∃ j : Nat, j ≤ 3 ∧ i = .int .i64 j ∧ Gr w wr ∧ Hid (wr.heap[w.heap.size + 1 + 1 + 1]? = some (.cells #[.int .i64 n, .int .i64 n', .int .i64 0] 3 (0, 0))) ∧ Hid (wr.heap[w.heap.size + 1 + 1 + 1 + 1]? = some (.cells #[.string ⟨#[]⟩, .string s, .string s'] 9 (0, 0))) ∧ Hid (wr.ownsRow w.heap.size 49 3 v (TL n s n' s' j).length (vcells (TL n s n' s' j)))) (fun _ i _ => 3 - (intOf i).toNat)
  case atStart =>
    refine ⟨0, by omega, rfl, by repeat (first | exact Gr.refl _ | apply Gr.alloc), ?_, ?_, ?_⟩
    · show _ = _
      rw [heap_alloc_old _ _ (by simp)]
      have := heap_alloc_new (((w.alloc (.cells #[.string a, .int .i64 y, .int .i64 k, .int .i64 n, .string s] 51)).alloc (.cells #[.string a', .int .i64 y', .int .i64 k', .int .i64 n', .string s'] 51)).alloc (.cells #[.int .i64 3, .int .i64 0, .string ⟨#[]⟩, .int .i64 3, .int .i64 1, .string ⟨#[]⟩, .int .i64 1, .int .i64 (-9223372036854775808), .string ⟨#[]⟩, .int .i64 1, .int .i64 9223372036854775807, .string ⟨#[]⟩] 49)) (.cells #[.int .i64 n, .int .i64 n', .int .i64 0] 3)
      simpa using this
    · show _ = _
      have := heap_alloc_new ((((w.alloc (.cells #[.string a, .int .i64 y, .int .i64 k, .int .i64 n, .string s] 51)).alloc (.cells #[.string a', .int .i64 y', .int .i64 k', .int .i64 n', .string s'] 51)).alloc (.cells #[.int .i64 3, .int .i64 0, .string ⟨#[]⟩, .int .i64 3, .int .i64 1, .string ⟨#[]⟩, .int .i64 1, .int .i64 (-9223372036854775808), .string ⟨#[]⟩, .int .i64 1, .int .i64 9223372036854775807, .string ⟨#[]⟩] 49)).alloc (.cells #[.int .i64 n, .int .i64 n', .int .i64 0] 3)) (.cells #[.string ⟨#[]⟩, .string s, .string s'] 9)
      simpa using this
    · have := World.ownsRow_lit (base := w.heap.size) (e := 49) (size := 3) ((w.alloc (.cells #[.string a, .int .i64 y, .int .i64 k, .int .i64 n, .string s] 51)).alloc (.cells #[.string a', .int .i64 y', .int .i64 k', .int .i64 n', .string s'] 51)) #[.int .i64 3, .int .i64 0, .string ⟨#[]⟩, .int .i64 3, .int .i64 1, .string ⟨#[]⟩, .int .i64 1, .int .i64 (-9223372036854775808), .string ⟨#[]⟩, .int .i64 1, .int .i64 9223372036854775807, .string ⟨#[]⟩] 4 (by simp; omega) (by unfold maxLen; omega) rfl
      have h2 := (this.alloc (.cells #[.int .i64 n, .int .i64 n', .int .i64 0] 3)).alloc (.cells #[.string ⟨#[]⟩, .string s, .string s'] 9)
      rw [show ((w.alloc (.cells #[.string a, .int .i64 y, .int .i64 k, .int .i64 n, .string s] 51)).alloc (.cells #[.string a', .int .i64 y', .int .i64 k', .int .i64 n', .string s'] 51)).heap.size = w.heap.size + 1 + 1 by simp] at h2
      exact h2
  case round =>
    obtain ⟨j, hj, rfl, g, NB, TB, O⟩ := hrel
    have hTL := TL_len n s n' s' j
    by_cases hlt : j < 3
    · have cn : wr.cell? ⟨w.heap.size + 1 + 1 + 1, j, none⟩ = some (.int .i64 (tnum n n' j)) := by
        rw [cell_of_row _ _ _ _ _ _ NB.out]
        have : j = 0 ∨ j = 1 ∨ j = 2 := by omega
        rcases this with rfl | rfl | rfl <;> simp [tnum]
      go_wp2_with (at_builtin; refine wpList_append_own _ rfl _ _ 100 rfl w.heap.size 49 i0 _ 3 32 Try.underlying100 hi hz0 hz1 hz2 rfl (by decide) _ _ _ rfl (O.out.alloc _) ⟨wr.heap.size, 0, none⟩ 3 3 [.int .i64 1, .int .i64 (tnum n n' j), .string ⟨#[]⟩, .int .i64 1, .int .i64 (wrap64 (tnum n n' j + 1)), .string ⟨#[]⟩, .int .i64 1, .int .i64 (wrap64 (tnum n n' j - 1)), .string ⟨#[]⟩] rfl rfl (World.news_of_block (heap_alloc_new _ _)) ?c2A ?c3A ?c4A ?c5A ?_)
      case c2A => intro u hu; simp at hu; rcases hu with rfl | rfl | rfl | rfl | rfl | rfl | rfl | rfl | rfl <;> rfl
      case c3A => unfold maxLen; omega
      case c4A => omega
      case c5A => have := g.size; simp; omega
      intro va wa hownA hgrowA _
      have gA : Gr w wa := owns_grown rfl O.out g hgrowA
      have NBA : Hid (wa.heap[w.heap.size + 1 + 1 + 1]? = some (.cells #[.int .i64 n, .int .i64 n', .int .i64 0] 3 (0, 0))) := grown_block hgrowA (by rw [heap_alloc_old _ _ (blk_lt NB.out)]; exact NB.out) (own_ne O.out NB.out (by decide))
      have TBA : Hid (wa.heap[w.heap.size + 1 + 1 + 1 + 1]? = some (.cells #[.string ⟨#[]⟩, .string s, .string s'] 9 (0, 0))) := grown_block hgrowA (by rw [heap_alloc_old _ _ (blk_lt TB.out)]; exact TB.out) (own_ne O.out TB.out (by decide))
      have OA : Hid (wa.ownsRow w.heap.size 49 3 va (T1 n s n' s' j).length (vcells (T1 n s n' s' j))) := by
        show World.ownsRow _ _ _ _ _ _ _
        rw [T1, vcells_app, List.length_append]; exact hownA
      clear hownA hgrowA
      have ct : wa.cell? ⟨w.heap.size + 1 + 1 + 1 + 1, j, none⟩ = some (.string (ttxt s s' j)) := by
        rw [cell_of_row _ _ _ _ _ _ TBA.out]
        have : j = 0 ∨ j = 1 ∨ j = 2 := by omega
        rcases this with rfl | rfl | rfl <;> simp [ttxt, noText]
      clear cn
      have hx : (ttxt s s' j).size ≤ 32 := by unfold ttxt; split; decide; split <;> assumption
      have hl1 := (T3_len n s n' s' j 0 hj (by omega)).1
      go_wp2_with (at_builtin; refine wpList_append_own _ rfl _ _ 100 rfl w.heap.size 49 i0 _ 3 32 Try.underlying100 hi hz0 hz1 hz2 rfl (by decide) _ _ _ rfl (OA.out.alloc _) ⟨wa.heap.size, 0, none⟩ 1 1 [.int .i64 2, .int .i64 0, .string (ttxt s s' j)] rfl rfl (World.news_of_block (heap_alloc_new _ _)) ?c2B ?c3B ?c4B ?c5B ?_)
      case c2B => intro u hu; simp at hu; rcases hu with rfl | rfl | rfl <;> rfl
      case c3B => unfold maxLen; omega
      case c4B => omega
      case c5B => have := gA.size; simp; omega
      intro vb wb hownB hgrowB _
      have gB : Gr w wb := owns_grown rfl OA.out gA hgrowB
      have NBB : Hid (wb.heap[w.heap.size + 1 + 1 + 1]? = some (.cells #[.int .i64 n, .int .i64 n', .int .i64 0] 3 (0, 0))) := grown_block hgrowB (by rw [heap_alloc_old _ _ (blk_lt NBA.out)]; exact NBA.out) (own_ne OA.out NBA.out (by decide))
      have TBB : Hid (wb.heap[w.heap.size + 1 + 1 + 1 + 1]? = some (.cells #[.string ⟨#[]⟩, .string s, .string s'] 9 (0, 0))) := grown_block hgrowB (by rw [heap_alloc_old _ _ (blk_lt TBA.out)]; exact TBA.out) (own_ne OA.out TBA.out (by decide))
      have OB : Hid (wb.ownsRow w.heap.size 49 3 vb (T2 n s n' s' j).length (vcells (T2 n s n' s' j))) := by
        show World.ownsRow _ _ _ _ _ _ _
        rw [T2, vcells_app, List.length_append]; exact hownB
      clear hownB hgrowB
      clear ct NB TB O NBA TBA OA
      go_wp2
      go_loopw [5, 11] (fun v i wr => ∃ q : Nat, q ≤ 4 ∧ i = .int .i64 q ∧ Gr w wr ∧ Hid (wr.heap[w.heap.size + 1 + 1 + 1]? = some (.cells #[.int .i64 n, .int .i64 n', .int .i64 0] 3 (0, 0))) ∧ Hid (wr.heap[w.heap.size + 1 + 1 + 1 + 1]? = some (.cells #[.string ⟨#[]⟩, .string s, .string s'] 9 (0, 0))) ∧ Hid (wr.ownsRow w.heap.size 49 3 v (T3 n s n' s' j q).length (vcells (T3 n s n' s' j q)))) (fun _ i _ => 4 - (intOf i).toNat)
      case atStart => exact ⟨0, by omega, rfl, gB, NBB, TBB, by rw [T3_zero]; exact OB.out⟩
      case round =>
        obtain ⟨q, hq, rfl, g2, NB2, TB2, O2⟩ := hrel
        have hl3 := (T3_len n s n' s' j q hj hq).2
        by_cases hqt : q < 4
        · have hc1 := cT_size q hqt
          by_cases hx2 : (ttxt s s' j).size < 32
          · have HN : Hid (T3 n s n' s' j (q + 1) = T3 n s n' s' j q ++ ext (ttxt s s' j) q) := T3_yes hx2
            go_wp2_with (at_builtin; refine wpList_append_own _ rfl _ _ 100 rfl w.heap.size 49 i0 _ 3 32 Try.underlying100 hi hz0 hz1 hz2 rfl (by decide) _ _ _ rfl (O2.out.alloc _) ⟨wr.heap.size, 0, none⟩ 2 2 [.int .i64 2, .int .i64 0, .string (ttxt s s' j ++ (⟨#[97, 122, 0, 255]⟩ : ByteArray).extract q (q + 1)), .int .i64 2, .int .i64 0, .string ((⟨#[97, 122, 0, 255]⟩ : ByteArray).extract q (q + 1) ++ ttxt s s' j)] rfl rfl (World.news_of_block (heap_alloc_new _ _)) ?c2C ?c3C ?c4C ?c5C ?_)
            case c2C => intro u hu; simp at hu; rcases hu with rfl | rfl | rfl | rfl | rfl | rfl <;> rfl
            case c3C => unfold maxLen; omega
            case c4C => omega
            case c5C => have := g2.size; simp; omega
            intro vc wc hownC hgrowC _
            have gC : Gr w wc := owns_grown rfl O2.out g2 hgrowC
            have NBC : Hid (wc.heap[w.heap.size + 1 + 1 + 1]? = some (.cells #[.int .i64 n, .int .i64 n', .int .i64 0] 3 (0, 0))) := grown_block hgrowC (by rw [heap_alloc_old _ _ (blk_lt NB2.out)]; exact NB2.out) (own_ne O2.out NB2.out (by decide))
            have TBC : Hid (wc.heap[w.heap.size + 1 + 1 + 1 + 1]? = some (.cells #[.string ⟨#[]⟩, .string s, .string s'] 9 (0, 0))) := grown_block hgrowC (by rw [heap_alloc_old _ _ (blk_lt TB2.out)]; exact TB2.out) (own_ne O2.out TB2.out (by decide))
            have OC : Hid (wc.ownsRow w.heap.size 49 3 vc (T3 n s n' s' j (q + 1)).length (vcells (T3 n s n' s' j (q + 1)))) := by
              show World.ownsRow _ _ _ _ _ _ _
              rw [HN.out, vcells_app, List.length_append]; exact hownC
            clear hownC hgrowC
            go_wp2
            go_roundw
            case rel => exact ⟨q + 1, by omega, by go_num, gC, NBC, TBC, OC⟩
            case measure => simp [intOf]; omega
          · have HN : Hid (T3 n s n' s' j (q + 1) = T3 n s n' s' j q) := T3_no hx2
            go_wp2
            go_roundw
            case rel => exact ⟨q + 1, by omega, by go_num, g2, NB2, TB2, by rw [HN.out]; exact O2.out⟩
            case measure => simp [intOf]; omega
        · have hq4 : q = 4 := by omega
          subst hq4
          go_wp2
          go_roundw
          case rel => exact ⟨j + 1, by omega, by go_num, g2, NB2, TB2, by rw [← T3_four]; exact O2.out⟩
          case measure => simp [intOf]; omega
    · have hj3 : j = 3 := by omega
      subst hj3
      go_wp2
      go_ret
      refine ⟨_, rfl, g, ?_⟩
      rw [← TL_eq]; exact O.out
end Go.Proofs.Ytecnfgikbmcgoaa
