import Derived.Test.YtecnfgikbmcgoaaGreatG39
import Derived.Test.YtecnfgikbmcgoaaGreatG2
namespace Go.Proofs.YtecnfgikbmcgoaaGreat
open Go.RowKit

/-- Where a tree leads. -/
structure Sh (T : Tc) (nxt : Nat → Nat → Int) (rank : Nat → Nat → Nat) : Prop where
  N : Nx T.adj nxt
  Z : Nz T.nb T.adj nxt
  R : Rk T.adj nxt rank
  le : ∀ a b, rank a b ≤ T.nb
def plc (ps : List Int) (c : Nat) : Int := if c < ps.length then iat ps c else (c : Int)
def hmF (ps : List Int) (nb : Nat) (c : Int) : Nat := (pickF (plc ps c.toNat) nb).toNat
theorem hmF_lt (ps : List Int) {nb : Nat} (h : 1 ≤ nb) (c : Int) : hmF ps nb c < nb := by
  have := pickF_bd (plc ps c.toNat) (nb : Int) (by omega)
  unfold hmF; omega
theorem behind_le (nb : Nat) (nxt : Nat → Nat → Int) (a b : Nat) : behind nb nxt a b ≤ nb := by
  have := sm_le (f := fun t => if nxt b t = (a : Int) then 1 else 0) (g := fun _ => 1) nb (fun i _ => by split <;> omega)
  rw [sm_const, Nat.mul_one] at this
  exact this
theorem kcells_at : ∀ (L : List Ky) (j : Nat), j < L.length → (kcells L)[j * 2]? = some (.int .i64 (eat L j).1) ∧ (kcells L)[j * 2 + 1]? = some (.int .i64 (eat L j).2)
  | [], j, h => by simp at h
  | x :: l, 0, _ => by simp [kcells, kcell, eat]
  | x :: l, j + 1, h => by
    have ih := kcells_at l j (by simpa using h)
    have e : ∀ k, (kcells (x :: l))[(j + 1) * 2 + k]? = (kcells l)[j * 2 + k]? := fun k => by
      have : (j + 1) * 2 + k = (j * 2 + k) + 2 := by omega
      rw [this]; simp [kcells, kcell, List.getElem?_cons_succ]
    have hh : eat (x :: l) (j + 1) = eat l j := by simp [eat]
    rw [hh]
    exact ⟨(e 0).trans ih.1, (e 1).trans ih.2⟩
theorem Fr.gr0 {r : Nat → Rl} {w w' : World} (h : Fr (fun _ => .no) r w w') : Gr w w' := ⟨h.os, h.tape, h.output, h.size, fun k hk => h.keep k hk (Or.inl rfl)⟩
/-- The clients so far. -/
structure Cls (ps : List Int) (nb k : Nat) (cls : List Cl) : Prop where
  len : cls.length = k
  lt : ∀ x ∈ cls, 0 ≤ x.num ∧ x.num < k ∧ x.at' = hmF ps nb x.num ∧ x.lost = 0 ∧ x.box = []
  all : ∀ c, c < k → ∃ x ∈ cls, x.num = (c : Int)
set_option maxRecDepth 100000 in
set_option maxHeartbeats 4000000 in
theorem grown_any (zs ps : List Int) (ad ad' : Option Addr) (cap cap' : Nat) (ml : Int) (w : World) (hl : zs.length ≤ 1048576) (h : InAt w ad zs) (hwf : IntWf zs) (_hl' : ps.length ≤ 1048576) (h' : InAt w ad' ps) (hwf' : IntWf ps) (hml : Ml ml w) :
    Calls Tryz.prog 10 #[.slice ad zs.length cap, .slice ad' ps.length cap'] w fun e w' => ∃ T r cls nxt rank, e = .returned (.pointer (some ⟨T.TB, 0, none⟩)) ∧ Tw T r w' cls (TS.none (List Wnt) (List Atr)) ∧ Fr (fun _ => .no) r w w' ∧ T.nb = nbF zs ∧ T.ml = ml ∧ Sh T nxt rank ∧ Cls ps (nbF zs) 6 cls := by
  have SH := Hid.mk' (shape_any zs ad cap w hl h hwf)
  obtain ⟨nb, adj, nxt, hn, hn1, hn8, hes, hE, N, Z, R⟩ := tree_of (shape_tree zs)
  have hnb : nbF zs = nb := by omega
  have TR := Hid.mk' (shape_tree zs)
  have hed : ∀ e ∈ edTo zs (nbF zs - 1), ∃ a b : Nat, e = ((a : Int), (b : Int)) := fun e he => by
    obtain ⟨a, b, e1, _, _⟩ := ed_mem he
    exact ⟨a, b, e1⟩
  have hedI : ∀ e ∈ edTo zs (nbF zs - 1), I64 e.1 ∧ I64 e.2 := fun e he => by
    obtain ⟨a, b, rfl, h1, h2⟩ := ed_mem he
    exact ⟨⟨by omega, by omega⟩, ⟨by omega, by omega⟩⟩
  have hlen := edTo_len zs (nbF zs - 1)
  have NEW : Hid (∀ (w1 : World) (va : Option Addr) (vk : Nat), Gr w w1 → EdAt w1 va (edTo zs (nbF zs - 1)) → Calls Tryz.prog 35 #[.int .i64 (nbF zs : Nat), .slice va (nbF zs - 1) vk] w1 fun e w' => ∃ TB HB hcap MB CB LB r, e = .returned (.tuple #[.pointer (some ⟨TB, 0, none⟩), .int .i64 0]) ∧ Tw ⟨nbF zs, adj, TB, HB, hcap, MB, CB, LB, ml⟩ r w' [] (TS.none (List Wnt) (List Atr)) ∧ Fr (fun _ => .no) r w1 w') := by
    intro w1 va vk g ea
    have := New_tree (nbF zs) (edTo zs (nbF zs - 1)) va vk w1 adj ml (by omega) ea hedI TR.out (by omega) (by omega) (fun a b hab => by rw [hnb]; exact Z.inn a b hab) hE hed (g.ml hml)
    rw [hlen] at this
    exact this
  have HP := Hid.mk' h'
  have HPW := Hid.mk' hwf'
  have SHP : Hid (∀ TB HB hcap MB CB LB, Sh ⟨nbF zs, adj, TB, HB, hcap, MB, CB, LB, ml⟩ (dom nb nxt) (behind nb (dom nb nxt))) := fun TB HB hcap MB CB LB => ⟨N, by show Nz (nbF zs) adj _; rw [hnb]; exact Z, R, fun a b => by show _ ≤ nbF zs; rw [hnb]; exact behind_le _ _ _ _⟩
  have hb6 : 1 ≤ nbF zs ∧ nbF zs ≤ 6 := by unfold nbF; omega
  clear h hwf h' hwf' hml N Z R hE hed hedI hes hn TR hlen hnb hn1 hn8
  go_enter Tryz.func10, Tryz.ntmps10
  go_wp2_with fail

  refine SH.out.mono ?_
  rintro e w1 ⟨v, rfl, ho, g1⟩
  obtain ⟨va, vk, rfl, hva⟩ := owns_shape ho
  have ED : EdAt w1 va (edTo zs (nbF zs - 1)) := by
    by_cases h0 : nbF zs - 1 = 0
    · exact Or.inl (by rw [h0]; rfl)
    · obtain ⟨b, rfl⟩ := hva (by omega)
      refine Or.inr ⟨b, 0, rfl, owns_lt ho, fun i hi => ?_⟩
      rw [edTo_len] at hi
      have := kcells_at (edTo zs (nbF zs - 1)) i (by rw [edTo_len]; exact hi)
      rw [Nat.zero_add, World.ownsRow.cellAt ho _ (by omega), World.ownsRow.cellAt ho _ (by omega)]
      exact this
  have NE := Hid.mk' (NEW.out w1 va vk g1 ED)
  have G1 := Hid.mk' g1
  clear SH NEW ED ho g1 hva
  go_wp2_with fail
  refine NE.out.mono ?_
  rintro e w2 ⟨TB, HB, hcap, MB, CB, LB, r, rfl, T2, F2⟩
  have T2 := Hid.mk' T2
  have F2 := Hid.mk' ((Fr.gr (r := fun _ => .no) G1.out).trans F2)
  clear NE
  go_wp2_with fail
  have hnl : nbF zs ≤ 6 := hb6.2
  generalize hT : (⟨nbF zs, adj, TB, HB, hcap, MB, CB, LB, ml⟩ : Tc) = T at *
  have HSH : Hid (Sh T (dom nb nxt) (behind nb (dom nb nxt))) := by rw [← hT]; exact SHP.out TB HB hcap MB CB LB
  have hTB : T.TB = TB := by rw [← hT]
  have hTn : T.nb = nbF zs := by rw [← hT]
  have hTm : T.ml = ml := by rw [← hT]
  clear hT SHP
  subst hTB
  generalize hN : nbF zs = N at *
  have HNN := Hid.mk' hN
  clear hN
  go_loopw [9] (fun i wr => ∃ (j : Nat) (cls : List Cl) (r' : Nat → Rl), j ≤ 6 ∧ i = .int .i64 j ∧ Hid (Tw T r' wr cls (TS.none (List Wnt) (List Atr))) ∧ Hid (Fr (fun _ => .no) r' w wr) ∧ Hid (Cls ps N j cls)) (fun i _ => 6 - (intOf i).toNat)
  case atStart => exact ⟨0, [], r, Nat.zero_le _, rfl, T2, F2, ⟨rfl, fun x hx => (by cases hx), fun c hc => by omega⟩⟩
  case round =>
    obtain ⟨j, cls, r', hj, rfl, T3, F3, C3⟩ := hrel
    clear T2 F2
    by_cases hlt : j < 6
    · have hpb : ∀ z : Int, 0 ≤ pickF z (N : Int) ∧ pickF z (N : Int) < N := fun z => pickF_bd z N (by omega)
      have AT : Hid (∀ z : Int, z = plc ps j → Calls Tryz.prog 36 #[.pointer (some ⟨T.TB, 0, none⟩), .int .i64 j, .int .i64 (pickF z N)] wr fun e w' => e = .returned (.int .i64 0) ∧ ∃ r2 cls2, Tw T r2 w' cls2 (TS.none (List Wnt) (List Atr)) ∧ Fr (fun _ => .no) r2 w w' ∧ Cls ps N (j + 1) cls2) := by
        intro z hz
        have hb := hpb z
        have e1 : (((pickF z N).toNat : Nat) : Int) = pickF z N := Int.toNat_of_nonneg hb.1
        rw [← e1]
        refine (Attach_new T r' wr cls _ j (pickF z N).toNat T3.out ⟨by omega, by omega⟩ (by rw [hTn]; omega) (fun x hx => by have := (C3.out.lt x hx).2.1; omega) (by rw [C3.out.len]; omega)).mono ?_
        rintro e w' ⟨h1, r2, k, h, h2, h3⟩
        refine ⟨h1, r2, _, h2, F3.out.trans h3, ⟨by simp [C3.out.len], fun x hx => ?_, fun c hc => ?_⟩⟩
        · rcases List.mem_append.1 hx with hx | hx
          · have := C3.out.lt x hx
            exact ⟨this.1, by omega, this.2.2⟩
          · rw [List.mem_singleton.1 hx]
            refine ⟨by show (0 : Int) ≤ j; omega, by show (j : Int) < ((j + 1 : Nat) : Int); omega, ?_, rfl, rfl⟩
            show (pickF z N).toNat = hmF ps N j
            unfold hmF
            rw [Int.toNat_natCast, hz]
        · by_cases hcj : c < j
          · obtain ⟨x, hx, e⟩ := C3.out.all c hcj
            exact ⟨x, by simp [hx], e⟩
          · exact ⟨_, List.mem_append.2 (Or.inr (List.mem_singleton.2 rfl)), by show (j : Int) = c; omega⟩
      have hb1 : 1 ≤ (N : Int) := by omega
      by_cases hjp : j < ps.length
      · have hjp' : (j : Int) < (ps.length : Int) := by omega
        obtain ⟨b, off, rfl, hbw, hat⟩ : ∃ b off, ad' = some ⟨b, off, none⟩ ∧ b < w.heap.size ∧ IntsAt w b off ps := by
          rcases HP.out with h0 | h0
          · rw [h0] at hjp; simp at hjp
          · exact h0
        have cz := (hat.gr F3.out.gr0 hbw) j hjp
        have hbd := iat_bd HPW.out hjp
        have hbd2 := F3.out.gr0.lt hbw
        have PK := Hid.mk' (pick_any (iat ps j) (N : Int) wr hbd.1 hbd.2 (by omega) (by omega))
        have AT2 := Hid.mk' (AT.out (iat ps j) (by unfold plc; rw [if_pos hjp]))
        clear AT hat hpb
        generalize iat ps j = z at *
        go_wp2_with fail
        refine PK.out.mono ?_
        rintro e wx ⟨rfl, hw⟩
        have hw' := hw.symm
        clear hw
        subst hw'
        go_wp2_with fail
        refine AT2.out.mono ?_
        rintro e w4 ⟨rfl, r2, cls2, h1, h2, h3⟩
        have T4 := Hid.mk' h1
        have F4 := Hid.mk' h2
        have C4 := Hid.mk' h3
        clear AT2 PK h1 h2 h3 cz
        go_wp2_with fail
        exact ⟨⟨j + 1, cls2, r2, hlt, by simp, T4, F4, C4⟩, measM_dec _ _ hlt⟩
      · have hjp' : ¬ (j : Int) < (ps.length : Int) := by omega
        have PK := Hid.mk' (pick_any (j : Int) (N : Int) wr (by omega) (by omega) (by omega) (by omega))
        have AT2 := Hid.mk' (AT.out (j : Int) (by unfold plc; rw [if_neg hjp]))
        clear AT hpb
        go_wp2_with fail
        refine PK.out.mono ?_
        rintro e wx ⟨rfl, hw⟩
        have hw' := hw.symm
        clear hw
        subst hw'
        go_wp2_with fail
        refine AT2.out.mono ?_
        rintro e w4 ⟨rfl, r2, cls2, h1, h2, h3⟩
        have T4 := Hid.mk' h1
        have F4 := Hid.mk' h2
        have C4 := Hid.mk' h3
        clear AT2 PK h1 h2 h3
        go_wp2_with fail
        exact ⟨⟨j + 1, cls2, r2, hlt, by simp, T4, F4, C4⟩, measM_dec _ _ hlt⟩
    · have hje : j = 6 := by omega
      subst hje
      go_wp2_with fail
      go_ret
      refine ⟨T, r', cls, _, _, rfl, T3.out, F3.out, ?_, hTm, HSH.out, ?_⟩
      · rw [HNN.out]; exact hTn
      · rw [HNN.out]; exact C3.out
end Go.Proofs.YtecnfgikbmcgoaaGreat
namespace Go.Proofs.YtecnfgikbmcgoaaGreat
open Go.RowKit

theorem both_ok (f g : List Int) : filterOk (wantsF f ++ wantsF g) = true ∧ (∀ x ∈ wantsF f ++ wantsF g, Wnt.Wf x) := by
  obtain ⟨a1, a2, a3, a4⟩ := wantsF_ok f
  obtain ⟨b1, b2, b3, b4⟩ := wantsF_ok g
  refine ⟨?_, fun x hx => ?_⟩
  · have e1 : decide (1 ≤ ((wantsF f ++ wantsF g).length : Int)) = true := by simp; omega
    have e2 : decide (((wantsF f ++ wantsF g).length : Int) ≤ 6) = true := by simp; omega
    have e3 : (wantsF f ++ wantsF g).all wOk = true := by
      rw [List.all_append, List.all_eq_true.2 (fi_ok_of a1).1, List.all_eq_true.2 (fi_ok_of b1).1]; rfl
    simp only [filterOk, e1, e2, e3, Bool.and_self]
  · rcases List.mem_append.1 hx with h | h
    · exact a2 x h
    · exact b2 x h

theorem owns_pos {w : World} {base : Nat} {e : TypeId} {size : Nat} {v : Value} {n : Nat} {xs : List Value} (h : w.ownsRow base e size v n xs) (hn : 0 < n) : ∃ g cap, v = .slice (some ⟨g, 0, none⟩) n cap := by
  rcases h.2 with ⟨_, hn'⟩ | ⟨g, cap, cur, hv, _⟩
  · omega
  · exact ⟨g, cap, hv⟩
theorem owns_news {w : World} {base : Nat} {e : TypeId} {size g n cap : Nat} {xs : List Value} (h : w.ownsRow base e size (.slice (some ⟨g, 0, none⟩) n cap) n xs) : ∀ j u, xs[j]? = some u → w.cell? ((⟨g, 0, none⟩ : Addr).add j) = some u := fun j u hu => by
  have hadd : (⟨g, 0, none⟩ : Addr).add j = ⟨g, j, none⟩ := by unfold Addr.add; split <;> simp_all
  rw [hadd, World.ownsRow.cellAt h j ?_, hu]
  have := (List.getElem?_eq_some_iff.1 hu).1
  rw [h.1] at this; exact this
theorem wcells_one (l : List Wnt) : ∀ u ∈ wcells l, u.oneCell' = true := by
  intro u hu
  simp only [wcells, List.mem_flatMap, wcell] at hu
  obtain ⟨x, _, hu⟩ := hu
  simp at hu
  rcases hu with rfl | rfl | rfl | rfl | rfl <;> rfl
theorem wcells_app (a b : List Wnt) : wcells (a ++ b) = wcells a ++ wcells b := by simp [wcells]
theorem owns_fi {w : World} {base : Nat} {e : TypeId} {g cap : Nat} {l : List Wnt} (h : w.ownsRow base e 5 (.slice (some ⟨g, 0, none⟩) l.length cap) l.length (wcells l)) : FiAt w (some ⟨g, 0, none⟩) l := by
  obtain ⟨ad, c, e, hf⟩ := owns_wants h
  simp only [Value.slice.injEq] at e
  rw [e.1]; exact hf


/-! ### One filter, and a narrower one of the same client -/
def okF (f : List Wnt) : Prop := filterOk f = true ∧ ∀ x ∈ f, Wnt.Wf x
theorem preF : Pre cov okF := ⟨fun _ h => cov_sub h.1 h.1 h.2 (fun _ hx => hx), fun _ _ _ a b c h1 h2 => cov_trans a.2 b.2 c.2 h1 h2⟩
section
variable {adj : Nat → Nat → Bool} {nxt : Nat → Nat → Int} {home : Int → Nat} {ok : List Wnt → Prop}
theorem fl_q1 {s : Ts} {k : Ky} {b0 : Nat} (I : Inv cov adj nxt home ok s) (L : Fl k b0 s) (a b : Nat) : (s.q a b).length ≤ 1 := by
  by_cases hab : adj a b = true
  · have hw := I.al a b hab
    match hq : s.q a b with
    | [] => simp
    | [_] => simp
    | m1 :: m2 :: r =>
      exfalso
      obtain ⟨f1, rfl⟩ := L.ms a b m1 (by rw [hq]; simp)
      obtain ⟨f2, rfl⟩ := L.ms a b m2 (by rw [hq]; simp)
      rw [hq] at hw
      exact hw.2.1 f1 (Or.inl ⟨rfl, rfl⟩)
  · rw [I.nq a b (by simpa using hab)]; simp
theorem fl_h1 {s : Ts} {k : Ky} {b0 : Nat} (I : Inv cov adj nxt home ok s) (L : Fl k b0 s) (b : Nat) : (s.held b).length ≤ 1 := by
  have hs := I.srt b
  match hq : s.held b with
  | [] => simp
  | [_] => simp
  | x :: y :: r =>
    exfalso
    have h1 := L.key b x (by rw [hq]; simp)
    have h2 := L.key b y (by rw [hq]; simp)
    rw [hq] at hs
    have := (List.pairwise_cons.1 hs).1 y (by simp)
    rw [h1, h2, klt_irr] at this; cases this
theorem fl_home {s s' : Ts} {k : Ky} {n : Nat} (N : Nx adj nxt) {nb : Nat} (Z : Nz nb adj nxt) (h : Sts cov adj mat s n s') : Inv cov adj nxt home ok s → Fl k (home k.1) s → s'.held (home k.1) = s.held (home k.1) ∧ Inv cov adj nxt home ok s' ∧ Fl k (home k.1) s' := by
  induction h with
  | refl s => exact fun I L => ⟨rfl, I, L⟩
  | step ha hq _ ih =>
    intro I L
    rename_i s0 s1 a b n0 m r hst
    have I2 := nstep_inv (mt := mat) N I ha hq
    have L2 := (fl_step (mt := mat) Z I L ha hq).1
    obtain ⟨e, h2⟩ := ih I2 L2
    refine ⟨e.trans ?_, h2⟩
    obtain ⟨f, rfl⟩ := L.ms a b m (by rw [hq]; simp)
    have hn := (I.qs a b k f (by rw [hq]; simp)).1
    have hb : home k.1 ≠ b := fun e => by rw [← e, N.self] at hn; omega
    show (if home k.1 = b then _ else _) = _
    rw [if_neg hb]; rfl
theorem quiet_sts {s s' : Ts} {n : Nat} (h : Sts cov adj mat s n s') (hq : quiet s) : n = 0 ∧ s' = s := by
  cases h with
  | refl => exact ⟨rfl, rfl⟩
  | step ha h1 h2 => rw [hq] at h1; cases h1
theorem todo_le {s : Ts} {rank : Nat → Nat → Nat} {nb C L : Nat} (hr : ∀ a b, rank a b ≤ nb) (hC : 1 ≤ C) (hq : ∀ a b, (s.q a b).length ≤ L) : todo rank nb C s ≤ nb * (nb * (L * C ^ nb)) := by
  unfold todo
  rw [← sm_const (nb * (L * C ^ nb)) nb]
  refine sm_le nb fun a _ => ?_
  rw [← sm_const (L * C ^ nb) nb]
  exact sm_le nb fun b _ => Nat.mul_le_mul (hq a b) (Nat.pow_le_pow_right hC (hr b a))
theorem todo_zero {s : Ts} {rank : Nat → Nat → Nat} {nb C : Nat} (hq : quiet s) : todo rank nb C s = 0 := by
  unfold todo
  have : (fun a => sm nb fun b => (s.q a b).length * C ^ rank b a) = fun _ => 0 := by
    funext a
    have : (fun b => (s.q a b).length * C ^ rank b a) = fun _ => 0 := by funext b; rw [hq]; simp
    rw [this, sm_zero]
  rw [this, sm_zero]
/-- The narrower one, at its broker. -/
theorem narrow_chg {c : Int} {W V : List Wnt} (hWV : cov W V = true) (n : Nat) :
    (chg cov [⟨(c, 1), W, -1⟩] (ins ⟨(c, 2), V, -1⟩ [⟨(c, 1), W, -1⟩]) (n : Int) : List (Ms (List Wnt) (List Atr))) = [] := by
  have hk : klt ((c, 1) : Ky) (c, 2) = true := by simp [klt]
  have hk2 : klt ((c, 2) : Ky) (c, 1) = false := by simp [klt]
  rw [chg_ins (by simp [Srt]) (fun g hg => by rw [List.mem_singleton.1 hg]; simp) (by show (-1 : Int) ≠ n; omega)]
  have hf : ¬ (-1 : Int) = (n : Int) := by omega
  simp [isT, woT, hides, unss, hWV, hk, hk2, hf]
theorem ins_two {c : Int} {W V : List Wnt} : ins (⟨(c, 2), V, -1⟩ : Hw) [⟨(c, 1), W, -1⟩] = [⟨(c, 1), W, -1⟩, ⟨(c, 2), V, -1⟩] := by simp [ins, klt]
theorem del_two {c : Int} {W V : List Wnt} : del ((c, 2) : Ky) [(⟨(c, 1), W, -1⟩ : Hw), ⟨(c, 2), V, -1⟩] = [⟨(c, 1), W, -1⟩] := by simp [del]
theorem narrow_del {c : Int} {W V : List Wnt} (hWV : cov W V = true) (n : Nat) :
    (chg cov [⟨(c, 1), W, -1⟩, ⟨(c, 2), V, -1⟩] (del (c, 2) [⟨(c, 1), W, -1⟩, ⟨(c, 2), V, -1⟩]) (n : Int) : List (Ms (List Wnt) (List Atr))) = [] := by
  have hk : klt ((c, 1) : Ky) (c, 2) = true := by simp [klt]
  have hk2 : klt ((c, 2) : Ky) (c, 1) = false := by simp [klt]
  have := chg_del (E := List Atr) (cov := cov) (l := [⟨(c, 1), W, -1⟩, ⟨(c, 2), V, -1⟩]) (h := ⟨(c, 2), V, -1⟩) (by simp [Srt, hk]) (by simp) (n := (n : Int)) (by show (-1 : Int) ≠ n; omega)
  have hf : ¬ (-1 : Int) = (n : Int) := by omega
  rw [this, del_two]
  simp [isT, woT, hides, subs, hWV, hk, hk2, hf]
end
end Go.Proofs.YtecnfgikbmcgoaaGreat
namespace Go.Proofs.YtecnfgikbmcgoaaGreat
open Go.RowKit

def nOf (zs : List Int) (i : Nat) : Int := if i < zs.length then iat zs i else (i : Int)
def atrF (zs : List Int) (i : Nat) : Atr := ⟨nameF (i : Int), valK ((nOf zs i).tdiv 4), valN ((nOf zs i).tdiv 4), valS ((nOf zs i).tdiv 4)⟩
def ke (zs : List Int) : Nat → List Atr
  | 0 => []
  | k + 1 => if pickF (nOf zs k) 4 = 3 then ke zs k else ke zs k ++ [atrF zs k]
def dAtr : Atr := ⟨⟨#[100]⟩, valK 0, valN 0, valS 0⟩
/-- The event that 'event' makes. -/
def evF (zs : List Int) : List Atr := if ke zs 3 = [] then [dAtr] else ke zs 3

theorem ke_len (zs : List Int) : ∀ k, (ke zs k).length ≤ k
  | 0 => by simp [ke]
  | k + 1 => by
    have := ke_len zs k
    unfold ke; split
    · omega
    · simp; omega
theorem ke_wf (zs : List Int) : ∀ k, ∀ x ∈ ke zs k, x.Wf
  | 0 => by simp [ke]
  | k + 1 => by
    have ih := ke_wf zs k
    have h1 := name_size (k : Int)
    have h3 := val_bd ((nOf zs k).tdiv 4)
    have h4 := valS_size ((nOf zs k).tdiv 4)
    unfold ke; split
    · exact ih
    · intro x hx
      simp at hx
      rcases hx with hx | rfl
      · exact ih x hx
      · constructor <;> simp only [atrF, maxLen, minI, maxI] <;> omega
theorem evF_wf (zs : List Int) : ∀ x ∈ evF zs, x.Wf := by
  unfold evF; split
  · intro x hx
    simp at hx; subst hx
    have h3 := val_bd 0
    have h4 := valS_size 0
    have e : (⟨#[100]⟩ : ByteArray).size = 1 := rfl
    constructor <;> simp only [dAtr, maxLen, minI, maxI] <;> omega
  · exact ke_wf zs 3
theorem evF_len (zs : List Int) : 1 ≤ (evF zs).length ∧ (evF zs).length ≤ 3 := by
  have := ke_len zs 3
  unfold evF; split
  · simp
  · rename_i h
    have hp : 0 < (ke zs 3).length := by
      cases hk : ke zs 3 with
      | nil => exact absurd hk h
      | cons => simp
    omega

theorem one_ok (x : Atr) (hn : nameOk x.a = true) (hv : valOk x.k x.n x.s = true) : evOk [x] = true := by
  simp [evOk, okAt, aat, hn, hv, List.range_succ]
theorem two_ok (x y : Atr) (hn : nameOk x.a = true) (hv : valOk x.k x.n x.s = true) (hn' : nameOk y.a = true) (hv' : valOk y.k y.n y.s = true) (h : Op.bytesLess x.a.toList y.a.toList = true) : evOk [x, y] = true := by
  simp [evOk, okAt, aat, hn, hv, hn', hv', h, List.range_succ]
theorem three_ok (x y z : Atr) (hn : nameOk x.a = true) (hv : valOk x.k x.n x.s = true) (hn' : nameOk y.a = true) (hv' : valOk y.k y.n y.s = true) (hn2 : nameOk z.a = true) (hv2 : valOk z.k z.n z.s = true)
    (h : Op.bytesLess x.a.toList y.a.toList = true) (h' : Op.bytesLess y.a.toList z.a.toList = true) : evOk [x, y, z] = true := by
  simp [evOk, okAt, aat, hn, hv, hn', hv', hn2, hv2, h, h', List.range_succ]
theorem names_rise : Op.bytesLess (nameF 0).toList (nameF 1).toList = true ∧ Op.bytesLess (nameF 1).toList (nameF 2).toList = true ∧ Op.bytesLess (nameF 0).toList (nameF 2).toList = true := by
  simp [nameF, ByteArray.toList_eq, Op.bytesLess]
theorem evF_ok (zs : List Int) : evOk (evF zs) = true := by
  obtain ⟨r1, r2, r3⟩ := names_rise
  have n0 : nameOk (atrF zs 0).a = true := name_ok ((0 : Nat) : Int)
  have n1 : nameOk (atrF zs 1).a = true := name_ok ((1 : Nat) : Int)
  have n2 : nameOk (atrF zs 2).a = true := name_ok ((2 : Nat) : Int)
  have v0 : valOk (atrF zs 0).k (atrF zs 0).n (atrF zs 0).s = true := val_ok _
  have v1 : valOk (atrF zs 1).k (atrF zs 1).n (atrF zs 1).s = true := val_ok _
  have v2 : valOk (atrF zs 2).k (atrF zs 2).n (atrF zs 2).s = true := val_ok _
  have d : evOk [dAtr] = true := one_ok dAtr (by decide) (val_ok 0)
  by_cases h0 : pickF (nOf zs 0) 4 = 3 <;> by_cases h1 : pickF (nOf zs 1) 4 = 3 <;> by_cases h2 : pickF (nOf zs 2) 4 = 3 <;> simp [evF, ke, h0, h1, h2]
  · exact d
  · exact one_ok _ n2 v2
  · exact one_ok _ n1 v1
  · exact two_ok _ _ n1 v1 n2 v2 r2
  · exact one_ok _ n0 v0
  · exact two_ok _ _ n0 v0 n2 v2 r3
  · exact two_ok _ _ n0 v0 n1 v1 r1
  · exact three_ok _ _ _ n0 v0 n1 v1 n2 v2 r1 r2

end Go.Proofs.YtecnfgikbmcgoaaGreat
