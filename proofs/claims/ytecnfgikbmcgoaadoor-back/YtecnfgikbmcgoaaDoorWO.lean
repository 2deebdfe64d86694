import Derived.Test.YtecnfgikbmcgoaaDoorWN
import Derived.Test.YtecnfgikbmcgoaaDoorWants
import Derived.LoopN
namespace Go.Proofs.YtecnfgikbmcgoaaDoor
open Go.RowKit

theorem Tryd.infoWant : (Tryd.prog.info? 76).map (fun i => (i.zero, i.size, i.bytes)) = some (some (.agg #[.string ⟨#[]⟩, .int .i64 0, .int .i64 0, .int .i64 0, .string ⟨#[]⟩]), 5, 56) := by kernel_rfl
theorem Tryd.infoAttr : (Tryd.prog.info? 37).map (fun i => (i.zero, i.size, i.bytes)) = some (some (.agg #[.string ⟨#[]⟩, .int .i64 0, .int .i64 0, .string ⟨#[]⟩]), 4, 48) := by kernel_rfl

set_option maxHeartbeats 2000000 in
theorem wants_nil (ad : Option Addr) (cap : Nat) (w : World) :
    Calls Tryd.prog 24 #[.slice ad 0 cap] w fun e w' => ∃ v, e = .returned v ∧ Gr w w' ∧ w'.ownsRow w.heap.size 76 5 v 1 (wcells [anyW]) := by
  go_enter Tryd.func24, Tryd.ntmps24
  go_wp2
  refine wp_loop_rounds 1 ?_
  rw [rounds_succ]
  go_wp2
  go_ret
  refine ⟨_, rfl, (Gr.refl w).alloc _, ?_⟩
  exact World.ownsRow_lit w #[.string ⟨#[97]⟩, .int .i64 1, .int .i64 0, .int .i64 0, .string ⟨#[]⟩] 1 (Nat.le_refl _) (by unfold maxLen; omega) rfl

set_option maxRecDepth 100000 in
set_option maxHeartbeats 2000000 in
theorem wants_any (zs : List Int) (ad : Option Addr) (cap : Nat) (w : World) (hl : zs.length ≤ maxLen) (h : InAt w ad zs) (hwf : IntWf zs) :
    Calls Tryd.prog 24 #[.slice ad zs.length cap] w fun e w' => ∃ v, e = .returned v ∧ Gr w w' ∧ w'.ownsRow w.heap.size 76 5 v (wantsF zs).length (wcells (wantsF zs)) := by
  unfold maxLen at hl
  obtain ⟨i0, hi, hz0, hz1, hz2⟩ := info_parts Tryd.infoWant
  have HW : Hid (IntWf zs) := hwf
  clear hwf
  by_cases hne : zs = []
  · subst hne; exact wants_nil ad cap w
  rcases h with h | ⟨b, off, rfl, hb, hat⟩
  · exact absurd h hne
  have HC : Hid (IntsAt w b off zs) := hat
  have HE : Hid (zs ≠ []) := hne
  clear hat hne
  go_enter Tryd.func24, Tryd.ntmps24
  go_wp2
  go_loopw [3, 4] (fun v i wr => ∃ k : Nat, k ≤ zs.length ∧ k ≤ 3 ∧ i = .int .i64 k ∧ Gr w wr ∧ Hid (wr.ownsRow w.heap.size 76 5 v k (wcells (kw zs k)))) (fun _ i _ => 3 - (intOf i).toNat)
  case atStart => exact ⟨0, Nat.zero_le _, by omega, rfl, Gr.refl _, World.ownsRow_nil _ _ _ _⟩
  case round =>
    obtain ⟨k, hk, hk3, rfl, g, HO⟩ := hrel
    by_cases hlt : k < zs.length ∧ k < 3
    · obtain ⟨hlt, hlt3⟩ := hlt
      have c1 := (HC.out.gr g hb) k hlt
      have hbr := g.lt hb
      go_wp2_with fail
      refine (keepWant_any _ _ (iat_bd HW.out hlt).1 (iat_bd HW.out hlt).2).mono ?_
      rintro e w1 ⟨rfl, hb1⟩
      have g1 : Gr w w1 := Gr.call g hb1
      have HO1 : Hid (w1.ownsRow w.heap.size 76 5 u3 k (wcells (kw zs k))) := ownsGr HO.out hb1
      have hsz := g1.size
      clear c1
      go_wp2_with (at_builtin; refine wpList_append_own _ rfl _ _ 43 rfl w.heap.size 76 i0 _ 5 56 Tryd.underlying43 hi hz0 hz1 hz2 rfl (by decide) _ _ _ rfl (HO1.out.alloc _) ⟨w1.heap.size, 0, none⟩ 1 1 [.string (wantF (iat zs k)).a, .int .i64 (wantF (iat zs k)).y, .int .i64 (wantF (iat zs k)).k, .int .i64 (wantF (iat zs k)).n, .string (wantF (iat zs k)).s] rfl rfl (World.news_of_block (heap_alloc_new _ _)) ?c2 ?c3 ?c4 ?c5 ?_)
      case c2 => intro u hu; simp at hu; rcases hu with rfl | rfl | rfl | rfl | rfl <;> rfl
      case c3 => unfold maxLen; omega
      case c4 => omega
      case c5 => simp; omega
      intro v' w4 hown' hgrow _
      have g4 : Gr w w4 := owns_grown rfl HO1.out g1 hgrow
      have HO4 : Hid (w4.ownsRow w.heap.size 76 5 v' (k + 1) (wcells (kw zs (k + 1)))) := by
        show World.ownsRow _ _ _ _ _ _ _
        rw [kw_snoc hlt, wcells_snoc]; exact hown'
      clear hown' hgrow
      go_wp2
      go_roundw
      case rel => exact ⟨k + 1, by omega, by omega, by go_num, g4, HO4⟩
      case measure => simp [intOf]; omega
    · obtain ⟨hf, hk0⟩ := kw_full hlt hk hk3 HE.out
      have HF : Hid (wantsF zs = kw zs k) := hf
      clear hf
      obtain ⟨ad', cap', rfl⟩ := owns_form HO.out
      have hk1 : ((k : Int) == 0) = false := by simp; omega
      have HR : Hid (∀ w', Gr wr w' → w'.ownsRow w.heap.size 76 5 (.slice ad' k cap') (wantsF zs).length (wcells (wantsF zs))) := fun w' hg => by
        rw [HF.out, kw_len hk]; exact ownsGr HO.out hg
      by_cases hl1 : k < zs.length
      · have hl3 : ¬ k < 3 := by omega
        clear hlt
        go_wp2
        go_ret
        exact ⟨_, rfl, g, HR.out _ (Gr.refl _)⟩
      · clear hlt
        go_wp2
        go_ret
        exact ⟨_, rfl, g, HR.out _ (Gr.refl _)⟩
end Go.Proofs.YtecnfgikbmcgoaaDoor
