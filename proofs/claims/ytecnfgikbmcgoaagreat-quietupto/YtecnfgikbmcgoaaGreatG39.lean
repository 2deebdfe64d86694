import Derived.Test.YtecnfgikbmcgoaaGreatG37
import Derived.Test.YtecnfgikbmcgoaaGreatG38
namespace Go.Proofs.YtecnfgikbmcgoaaGreat
open Go.RowKit

/-! ### heraldkeep.shape -/
def nbF (zs : List Int) : Nat := min (1 + zs.length) 6
def edge1 (zs : List Int) (i : Nat) : Ky := if (iat zs (i - 1)).tmod 2 = 0 then (pickF (iat zs (i - 1)) i, (i : Int)) else ((i : Int), pickF (iat zs (i - 1)) i)
/-- The edges of the brokers 1 to k. -/
def edTo (zs : List Int) (k : Nat) : List Ky := (List.range k).map fun i => edge1 zs (i + 1)
theorem edTo_succ (zs : List Int) (k : Nat) : edTo zs (k + 1) = edTo zs k ++ [edge1 zs (k + 1)] := by simp [edTo, List.range_succ]
theorem edTo_len (zs : List Int) (k : Nat) : (edTo zs k).length = k := by simp [edTo]
theorem edge_nat (zs : List Int) (i : Nat) : ∃ a : Nat, a < i + 1 ∧ (edge1 zs (i + 1) = ((a : Int), ((i + 1 : Nat) : Int)) ∨ edge1 zs (i + 1) = (((i + 1 : Nat) : Int), (a : Int))) := by
  have hb := pickF_bd (iat zs (i + 1 - 1)) ((i + 1 : Nat) : Int) (by omega)
  refine ⟨(pickF (iat zs (i + 1 - 1)) ((i + 1 : Nat) : Int)).toNat, by omega, ?_⟩
  unfold edge1
  split
  · exact Or.inl (by rw [Int.toNat_of_nonneg hb.1])
  · exact Or.inr (by rw [Int.toNat_of_nonneg hb.1])
theorem tRun_append (n : Nat) : ∀ (a b : List Ky) (p : List Nat), tRun n p (a ++ b) = (tRun n p a).bind fun q => tRun n q b
  | [], _, _ => rfl
  | e :: a, b, p => by
    show (tStep n p e).bind (fun q => tRun n q (a ++ b)) = ((tStep n p e).bind fun q => tRun n q a).bind _
    cases tStep n p e with
    | none => rfl
    | some q => exact tRun_append n a b q
theorem ed_run (zs : List Int) (n : Nat) : ∀ k, k < n → ∃ p, tRun n (List.range n) (edTo zs k) = some p ∧ p.length = n ∧ (∀ x, x < k + 1 → pat p x < k + 1) ∧ ∀ x, k + 1 ≤ x → x < n → pat p x = x
  | 0, h => ⟨List.range n, rfl, by simp, fun x hx => by
      have : x = 0 := by omega
      subst this; simp [pat, h], fun x _ hx => by simp [pat, hx]⟩
  | k + 1, h => by
    obtain ⟨p, h1, h2, h3, h4⟩ := ed_run zs n k (by omega)
    obtain ⟨a, ha, hE⟩ := edge_nat zs k
    have pk1 := h4 (k + 1) (Nat.le_refl _) h
    have pa := h3 a ha
    have pm : ∀ (f : Nat → Nat) x, x < n → pat (p.map f) x = f (pat p x) := fun f x hx => pat_map (by omega)
    rw [edTo_succ, tRun_append, h1]
    rcases hE with hE | hE
    · refine ⟨p.map fun x => if x = pat p (k + 1) then pat p a else x, ?_, by simpa using h2, fun x hx => ?_, fun x hx hxn => ?_⟩
      · show tRun n p [edge1 zs (k + 1)] = _
        rw [hE]
        show (tStep n p _).bind _ = _
        unfold tStep
        simp only [Int.toNat_natCast]
        rw [if_pos ⟨by omega, by omega, by omega, by omega, by omega⟩]; rfl
      · rw [pm _ x (by omega), pk1]
        split
        · omega
        · by_cases hxk : x = k + 1
          · subst hxk; omega
          · have := h3 x (by omega); omega
      · rw [pm _ x hxn, h4 x (by omega) hxn, pk1, if_neg (by omega)]
    · refine ⟨p.map fun x => if x = pat p a then pat p (k + 1) else x, ?_, by simpa using h2, fun x hx => ?_, fun x hx hxn => ?_⟩
      · show tRun n p [edge1 zs (k + 1)] = _
        rw [hE]
        show (tStep n p _).bind _ = _
        unfold tStep
        simp only [Int.toNat_natCast]
        rw [if_pos ⟨by omega, by omega, by omega, by omega, by omega⟩]; rfl
      · rw [pm _ x (by omega), pk1]
        split
        · omega
        · by_cases hxk : x = k + 1
          · subst hxk; omega
          · have := h3 x (by omega); omega
      · rw [pm _ x hxn, h4 x (by omega) hxn, if_neg (by omega)]
theorem shape_tree (zs : List Int) : treeB (nbF zs) (edTo zs (nbF zs - 1)) = true := by
  have h1 : 1 ≤ nbF zs ∧ nbF zs ≤ 6 := by unfold nbF; omega
  obtain ⟨p, hp, _⟩ := ed_run zs (nbF zs) (nbF zs - 1) (by omega)
  simp only [treeB, edTo_len, Int.toNat_natCast, hp, Option.isSome_some, Bool.and_true, Bool.and_eq_true, decide_eq_true_eq]
  omega
theorem ed_mem {zs : List Int} {k : Nat} {e : Ky} (h : e ∈ edTo zs k) : ∃ a b : Nat, e = ((a : Int), (b : Int)) ∧ a ≤ k ∧ b ≤ k := by
  simp only [edTo, List.mem_map, List.mem_range] at h
  obtain ⟨i, hi, rfl⟩ := h
  obtain ⟨a, ha, hE⟩ := edge_nat zs i
  rcases hE with hE | hE
  · exact ⟨a, i + 1, hE, by omega, by omega⟩
  · exact ⟨i + 1, a, hE, by omega, by omega⟩
theorem Tryz.infoEd : (Tryz.prog.info? 81).map (fun i => (i.zero, i.size, i.bytes)) = some (some (.agg #[.int .i64 0, .int .i64 0]), 2, 16) := by kernel_rfl
set_option maxRecDepth 100000 in
set_option maxHeartbeats 4000000 in
theorem shape_any (zs : List Int) (ad : Option Addr) (cap : Nat) (w : World) (hl : zs.length ≤ 1048576) (h : InAt w ad zs) (hwf : IntWf zs) :
    Calls Tryz.prog 15 #[.slice ad zs.length cap] w fun e w' => ∃ v, e = .returned (.tuple #[.int .i64 (nbF zs : Nat), v]) ∧ w'.ownsRow w.heap.size 81 2 v (nbF zs - 1) (kcells (edTo zs (nbF zs - 1))) ∧ Gr w w' := by
  obtain ⟨i0, hi, hz0, hz1, hz2⟩ := info_parts Tryz.infoEd
  have HH := Hid.mk' h
  have HW := Hid.mk' hwf
  have hnb : 1 ≤ nbF zs ∧ nbF zs ≤ 6 := by unfold nbF; omega
  have hnl : nbF zs ≤ 1 + zs.length := by unfold nbF; omega
  clear h hwf
  have hw1 : wrap64 (1 + (zs.length : Int)) = 1 + (zs.length : Int) := by unfold wrap64; omega
  go_enter Tryz.func15, Tryz.ntmps15
  have NB : (6 : Int) < 1 + (zs.length : Int) ∧ nbF zs = 6 ∨ ¬ (6 : Int) < 1 + (zs.length : Int) ∧ (1 + (zs.length : Int) = (nbF zs : Int)) := by unfold nbF; omega
  rcases NB with ⟨h6, hn6⟩ | ⟨h6, hn6⟩
  · rw [hn6] at hnb hnl ⊢
    go_wp2_with fail
    clear hw1 h6
    go_loopw [5, 6] (fun v i wr => ∃ q : Nat, q + 1 ≤ 6 ∧ i = .int .i64 ((q + 1 : Nat) : Int) ∧ Hid (Gr w wr) ∧ Hid (wr.ownsRow w.heap.size 81 2 v q (kcells (edTo zs q)))) (fun _ i _ => 6 - (intOf i).toNat)
    case atStart => exact ⟨0, by omega, rfl, Gr.refl _, World.ownsRow_nil _ _ _ _⟩
    case round =>
      obtain ⟨q, hq, rfl, G, O⟩ := hrel
      obtain ⟨va, vm, vk, rfl⟩ := owns_slice O.out
      by_cases hlt : q + 1 < 6
      · have hqz : q < zs.length := by omega
        obtain ⟨b, off, rfl, hbw, hat⟩ : ∃ b off, ad = some ⟨b, off, none⟩ ∧ b < w.heap.size ∧ IntsAt w b off zs := by
          rcases HH.out with h0 | h0
          · rw [h0] at hqz; simp at hqz
          · exact h0
        have hat' := hat.gr G.out hbw
        have cz := hat' q hqz
        have hbd := iat_bd HW.out hqz
        have hbd2 := G.out.lt hbw
        have PK := Hid.mk' (pick_any (iat zs q) ((q + 1 : Nat) : Int) wr hbd.1 hbd.2 (by omega) (by omega))
        have ED : Hid (edge1 zs (q + 1) = if (iat zs q).tmod 2 = 0 then (pickF (iat zs q) ((q + 1 : Nat) : Int), ((q + 1 : Nat) : Int)) else (((q + 1 : Nat) : Int), pickF (iat zs q) ((q + 1 : Nat) : Int))) := rfl
        have SUC := Hid.mk' (edTo_succ zs q)
        have hpb := pickF_bd (iat zs q) ((q + 1 : Nat) : Int) (by omega)
        have hsub : wrap64 (((q + 1 : Nat) : Int) - 1) = (q : Int) := by unfold wrap64; omega
        have SZ := G.out.size
        clear hat hat'
        generalize iat zs q = z at *
        generalize pickF z ((q + 1 : Nat) : Int) = pz at *
        have cast1 : ((q + 1 : Nat) : Int) = (q : Int) + 1 := by omega
        by_cases hev : z.tmod 2 = 0
        · have hev' : (z.tmod 2 == 0) = true := by simpa using hev
          have EE : Hid (edTo zs (q + 1) = edTo zs q ++ [(pz, ((q + 1 : Nat) : Int))]) := by
            show _ = _
            rw [SUC.out, ED.out, if_pos hev]
          clear ED SUC
          rw [cast1] at PK
          go_wp2_with fail
          refine PK.out.mono ?_
          rintro e w1 ⟨rfl, hw⟩
          have hw' := hw.symm
          clear hw
          subst hw'
          go_wp2_with (at_builtin; refine wpList_append_own _ rfl _ _ 22 rfl w.heap.size 81 i0 (.agg #[.int .i64 0, .int .i64 0]) 2 16 Tryz.underlying22 hi hz0 hz1 hz2 rfl (by decide) _ _ _ rfl (O.out.alloc _) ⟨wr.heap.size, 0, none⟩ 1 1 [.int .i64 pz, .int .i64 ((q : Int) + 1)] rfl rfl (World.news_of_block (heap_alloc_new _ _)) ?k2 ?k3 ?k4 ?k5 ?_)
          case k2 => first | exact ⟨rfl, rfl⟩ | (intro t ht; simp at ht; rcases ht with rfl | rfl <;> rfl)
          case k3 => unfold maxLen; omega
          case k4 => omega
          case k5 => simp; omega
          intro v5 w5 ho5 hg5 _
          have G5 : Hid (Gr w w5) := Below.grown (G.out.alloc _) hg5 (Nat.le_trans G.out.size (by simp)) (own_low O.out)
          have O5 : Hid (w5.ownsRow w.heap.size 81 2 v5 (q + 1) (kcells (edTo zs (q + 1)))) := by
            show World.ownsRow _ _ _ _ _ _ _
            rw [EE.out, kcells_snoc]; exact ho5
          obtain ⟨za, zm, zk, rfl⟩ := owns_slice ho5
          clear ho5 hg5 O G cz
          go_wp2_with fail
          refine ⟨⟨q + 1, hlt, by simp, G5, O5⟩, ?_⟩
          simp [intOf]; omega
        · have hev' : (z.tmod 2 == 0) = false := by simpa using hev
          have EE : Hid (edTo zs (q + 1) = edTo zs q ++ [(((q + 1 : Nat) : Int), pz)]) := by
            show _ = _
            rw [SUC.out, ED.out, if_neg hev]
          clear ED SUC
          rw [cast1] at PK
          go_wp2_with fail
          refine PK.out.mono ?_
          rintro e w1 ⟨rfl, hw⟩
          have hw' := hw.symm
          clear hw
          subst hw'
          go_wp2_with (at_builtin; refine wpList_append_own _ rfl _ _ 22 rfl w.heap.size 81 i0 (.agg #[.int .i64 0, .int .i64 0]) 2 16 Tryz.underlying22 hi hz0 hz1 hz2 rfl (by decide) _ _ _ rfl (O.out.alloc _) ⟨wr.heap.size, 0, none⟩ 1 1 [.int .i64 ((q : Int) + 1), .int .i64 pz] rfl rfl (World.news_of_block (heap_alloc_new _ _)) ?k2 ?k3 ?k4 ?k5 ?_)
          case k2 => first | exact ⟨rfl, rfl⟩ | (intro t ht; simp at ht; rcases ht with rfl | rfl <;> rfl)
          case k3 => unfold maxLen; omega
          case k4 => omega
          case k5 => simp; omega
          intro v5 w5 ho5 hg5 _
          have G5 : Hid (Gr w w5) := Below.grown (G.out.alloc _) hg5 (Nat.le_trans G.out.size (by simp)) (own_low O.out)
          have O5 : Hid (w5.ownsRow w.heap.size 81 2 v5 (q + 1) (kcells (edTo zs (q + 1)))) := by
            show World.ownsRow _ _ _ _ _ _ _
            rw [EE.out, kcells_snoc]; exact ho5
          obtain ⟨za, zm, zk, rfl⟩ := owns_slice ho5
          clear ho5 hg5 O G cz
          go_wp2_with fail
          refine ⟨⟨q + 1, hlt, by simp, G5, O5⟩, ?_⟩
          simp [intOf]; omega
      · have hqn : 6 - 1 = q := by omega
        have hqq : q + 1 = 6 := by omega
        have OE : Hid (wr.ownsRow w.heap.size 81 2 (.slice va vm vk) (6 - 1) (kcells (edTo zs (6 - 1)))) := by
          show World.ownsRow _ _ _ _ _ _ _
          rw [hqn]; exact O.out
        clear O
        go_wp2_with fail
        exact bodyPost_ret (v := .tuple #[.int .i64 ((6 : Nat) : Int), .slice va vm vk]) (by simp [results, Tryz.results15, go_sem]) rfl ⟨_, rfl, OE.out, G.out⟩
  · go_wp2_with fail
    clear hw1 h6
    try simp only [hn6]
    clear hn6
    go_loopw [5, 6] (fun v i wr => ∃ q : Nat, q + 1 ≤ nbF zs ∧ i = .int .i64 ((q + 1 : Nat) : Int) ∧ Hid (Gr w wr) ∧ Hid (wr.ownsRow w.heap.size 81 2 v q (kcells (edTo zs q)))) (fun _ i _ => nbF zs - (intOf i).toNat)
    case atStart => exact ⟨0, by omega, rfl, Gr.refl _, World.ownsRow_nil _ _ _ _⟩
    case round =>
      obtain ⟨q, hq, rfl, G, O⟩ := hrel
      obtain ⟨va, vm, vk, rfl⟩ := owns_slice O.out
      by_cases hlt : q + 1 < nbF zs
      · have hqz : q < zs.length := by omega
        obtain ⟨b, off, rfl, hbw, hat⟩ : ∃ b off, ad = some ⟨b, off, none⟩ ∧ b < w.heap.size ∧ IntsAt w b off zs := by
          rcases HH.out with h0 | h0
          · rw [h0] at hqz; simp at hqz
          · exact h0
        have hat' := hat.gr G.out hbw
        have cz := hat' q hqz
        have hbd := iat_bd HW.out hqz
        have hbd2 := G.out.lt hbw
        have PK := Hid.mk' (pick_any (iat zs q) ((q + 1 : Nat) : Int) wr hbd.1 hbd.2 (by omega) (by omega))
        have ED : Hid (edge1 zs (q + 1) = if (iat zs q).tmod 2 = 0 then (pickF (iat zs q) ((q + 1 : Nat) : Int), ((q + 1 : Nat) : Int)) else (((q + 1 : Nat) : Int), pickF (iat zs q) ((q + 1 : Nat) : Int))) := rfl
        have SUC := Hid.mk' (edTo_succ zs q)
        have hpb := pickF_bd (iat zs q) ((q + 1 : Nat) : Int) (by omega)
        have hsub : wrap64 (((q + 1 : Nat) : Int) - 1) = (q : Int) := by unfold wrap64; omega
        have SZ := G.out.size
        clear hat hat'
        generalize iat zs q = z at *
        generalize pickF z ((q + 1 : Nat) : Int) = pz at *
        have cast1 : ((q + 1 : Nat) : Int) = (q : Int) + 1 := by omega
        by_cases hev : z.tmod 2 = 0
        · have hev' : (z.tmod 2 == 0) = true := by simpa using hev
          have EE : Hid (edTo zs (q + 1) = edTo zs q ++ [(pz, ((q + 1 : Nat) : Int))]) := by
            show _ = _
            rw [SUC.out, ED.out, if_pos hev]
          clear ED SUC
          rw [cast1] at PK
          go_wp2_with fail
          refine PK.out.mono ?_
          rintro e w1 ⟨rfl, hw⟩
          have hw' := hw.symm
          clear hw
          subst hw'
          go_wp2_with (at_builtin; refine wpList_append_own _ rfl _ _ 22 rfl w.heap.size 81 i0 (.agg #[.int .i64 0, .int .i64 0]) 2 16 Tryz.underlying22 hi hz0 hz1 hz2 rfl (by decide) _ _ _ rfl (O.out.alloc _) ⟨wr.heap.size, 0, none⟩ 1 1 [.int .i64 pz, .int .i64 ((q : Int) + 1)] rfl rfl (World.news_of_block (heap_alloc_new _ _)) ?k2 ?k3 ?k4 ?k5 ?_)
          case k2 => first | exact ⟨rfl, rfl⟩ | (intro t ht; simp at ht; rcases ht with rfl | rfl <;> rfl)
          case k3 => unfold maxLen; omega
          case k4 => omega
          case k5 => simp; omega
          intro v5 w5 ho5 hg5 _
          have G5 : Hid (Gr w w5) := Below.grown (G.out.alloc _) hg5 (Nat.le_trans G.out.size (by simp)) (own_low O.out)
          have O5 : Hid (w5.ownsRow w.heap.size 81 2 v5 (q + 1) (kcells (edTo zs (q + 1)))) := by
            show World.ownsRow _ _ _ _ _ _ _
            rw [EE.out, kcells_snoc]; exact ho5
          obtain ⟨za, zm, zk, rfl⟩ := owns_slice ho5
          clear ho5 hg5 O G cz
          go_wp2_with fail
          refine ⟨⟨q + 1, hlt, by simp, G5, O5⟩, ?_⟩
          simp [intOf]; omega
        · have hev' : (z.tmod 2 == 0) = false := by simpa using hev
          have EE : Hid (edTo zs (q + 1) = edTo zs q ++ [(((q + 1 : Nat) : Int), pz)]) := by
            show _ = _
            rw [SUC.out, ED.out, if_neg hev]
          clear ED SUC
          rw [cast1] at PK
          go_wp2_with fail
          refine PK.out.mono ?_
          rintro e w1 ⟨rfl, hw⟩
          have hw' := hw.symm
          clear hw
          subst hw'
          go_wp2_with (at_builtin; refine wpList_append_own _ rfl _ _ 22 rfl w.heap.size 81 i0 (.agg #[.int .i64 0, .int .i64 0]) 2 16 Tryz.underlying22 hi hz0 hz1 hz2 rfl (by decide) _ _ _ rfl (O.out.alloc _) ⟨wr.heap.size, 0, none⟩ 1 1 [.int .i64 ((q : Int) + 1), .int .i64 pz] rfl rfl (World.news_of_block (heap_alloc_new _ _)) ?k2 ?k3 ?k4 ?k5 ?_)
          case k2 => first | exact ⟨rfl, rfl⟩ | (intro t ht; simp at ht; rcases ht with rfl | rfl <;> rfl)
          case k3 => unfold maxLen; omega
          case k4 => omega
          case k5 => simp; omega
          intro v5 w5 ho5 hg5 _
          have G5 : Hid (Gr w w5) := Below.grown (G.out.alloc _) hg5 (Nat.le_trans G.out.size (by simp)) (own_low O.out)
          have O5 : Hid (w5.ownsRow w.heap.size 81 2 v5 (q + 1) (kcells (edTo zs (q + 1)))) := by
            show World.ownsRow _ _ _ _ _ _ _
            rw [EE.out, kcells_snoc]; exact ho5
          obtain ⟨za, zm, zk, rfl⟩ := owns_slice ho5
          clear ho5 hg5 O G cz
          go_wp2_with fail
          refine ⟨⟨q + 1, hlt, by simp, G5, O5⟩, ?_⟩
          simp [intOf]; omega
      · have hqn : nbF zs - 1 = q := by omega
        have hqq : q + 1 = nbF zs := by omega
        have OE : Hid (wr.ownsRow w.heap.size 81 2 (.slice va vm vk) (nbF zs - 1) (kcells (edTo zs (nbF zs - 1)))) := by
          show World.ownsRow _ _ _ _ _ _ _
          rw [hqn]; exact O.out
        clear O
        go_wp2_with fail
        exact bodyPost_ret (v := .tuple #[.int .i64 ((nbF zs : Nat) : Int), .slice va vm vk]) (by simp [results, Tryz.results15, go_sem]) rfl ⟨_, rfl, OE.out, G.out⟩
end Go.Proofs.YtecnfgikbmcgoaaGreat
