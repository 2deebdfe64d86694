import Derived.Test.YtecnfgikbmcgoaaGreatG25
namespace Go.Proofs.YtecnfgikbmcgoaaGreat
open Go.RowKit

/-- Lists of ints in memory. -/
def zat (zss : List (List Int)) (i : Nat) : List Int := zss.getD i []
theorem zat_mem {zss : List (List Int)} {i : Nat} (h : i < zss.length) : zat zss i ∈ zss := getD_mem h []
def InsAt (w : World) (b off : Nat) (zss : List (List Int)) : Prop := ∀ i, i < zss.length → ∃ ad cap, w.cell? ⟨b, off + i, none⟩ = some (.slice ad (zat zss i).length cap) ∧ InAt w ad (zat zss i)
theorem InsAt.gr {w w' : World} {b off : Nat} {zss : List (List Int)} (h : InsAt w b off zss) (g : Gr w w') (hb : b < w.heap.size) : InsAt w' b off zss := fun i hi => by
  obtain ⟨ad, cap, h1, h2⟩ := h i hi
  exact ⟨ad, cap, by rw [(bcell g).1 b _ hb]; exact h1, h2.gr g⟩
def InsAd (w : World) (ad : Option Addr) (zss : List (List Int)) : Prop := zss = [] ∨ ∃ b off, ad = some ⟨b, off, none⟩ ∧ b < w.heap.size ∧ InsAt w b off zss
/-- The caller's own blocks. -/
def Own0 (w0 w : World) (r : Nat → Rl) : Nat → Prop := fun k => w0.heap.size ≤ k ∧ k < w.heap.size ∧ r k = .no
/-- What a law over one tree keeps between its calls. -/
structure Hst (w0 w : World) (T : Tc) (nxt : Nat → Nat → Int) (rank : Nat → Nat → Nat) (home : Int → Nat) (r : Nat → Rl) (cs : List (Pc (List Atr))) (s : Ts) (n M : Nat) (L : List Mn) (v : Value) (l : List (Ky × List Wnt)) : Prop where
  t : Tf T r w cs s
  G : Gd T nxt rank home k24 s cs n M
  O : Ow home s l
  D : Idn home cs
  m : Mi (Own0 w0 w r) w v L
  e : L.map (·.1) = l
  K : NK l
  F : Gr w0 w
  z : ∀ k, k < w0.heap.size → r k = .no
theorem own0_of {w0 w w' : World} {r r' : Nat → Rl} (hs : w.heap.size ≤ w'.heap.size) (h : ∀ k, k < w.heap.size → r' k = r k) {k : Nat} (hk : Own0 w0 w r k) : Own0 w0 w' r' k := ⟨hk.1, Nat.lt_of_lt_of_le hk.2.1 hs, (h k hk.2.1).trans hk.2.2⟩
theorem gr_of_fr {w0 w w' : World} {r r' : Nat → Rl} (g : Gr w0 w) (f : Fr r r' w w') (h : ∀ k, k < w0.heap.size → r k = .no) : Gr w0 w' :=
  ⟨f.os.trans g.os, f.tape.trans g.tape, f.output.trans g.output, Nat.le_trans g.size f.size, fun k hk => (f.keep k (Nat.lt_of_lt_of_le hk g.size) (Or.inl (h k hk))).trans (g.block k hk)⟩
/-- A call on the tree that leaves the caller's blocks. -/
theorem Hst.fr {w0 w w' : World} {T : Tc} {nxt : Nat → Nat → Int} {rank : Nat → Nat → Nat} {home : Int → Nat} {r r' : Nat → Rl} {cs cs' : List (Pc (List Atr))} {s s' : Ts} {n n' M M' : Nat} {L : List Mn} {v : Value} {l : List (Ky × List Wnt)} (h : Hst w0 w T nxt rank home r cs s n M L v l) (f : Fr r r' w w') (t : Tf T r' w' cs' s') (g : Gd T nxt rank home k24 s' cs' n' M') (o : Ow home s' l) (d : Idn home cs') : Hst w0 w' T nxt rank home r' cs' s' n' M' L v l :=
  ⟨t, g, o, d, h.m.keep f.size (fun k hk hR => ⟨f.keep k hk (Or.inl hR.2.2), own0_of f.size f.same hR⟩), h.e, h.K, gr_of_fr h.F f h.z, fun k hk => (f.same k (Nat.lt_of_lt_of_le hk h.F.size)).trans (h.z k hk)⟩
theorem Hst.gr {w0 w w' : World} {T : Tc} {nxt : Nat → Nat → Int} {rank : Nat → Nat → Nat} {home : Int → Nat} {r : Nat → Rl} {cs : List (Pc (List Atr))} {s : Ts} {n M : Nat} {L : List Mn} {v : Value} {l : List (Ky × List Wnt)} (h : Hst w0 w T nxt rank home r cs s n M L v l) (g : Gr w w') : Hst w0 w' T nxt rank home r cs s n M L v l := h.fr (Fr.gr g) (h.t.gr g) h.G h.O h.D
/-- How much a deed may add. -/
def dD (T : Tc) : Nat := T.nb * (k24.length + 1) + T.nb + 1
theorem happens_h (w0 w : World) (T : Tc) (nxt : Nat → Nat → Int) (rank : Nat → Nat → Nat) (home : Int → Nat) (r : Nat → Rl) (cs : List (Pc (List Atr))) (s : Ts) (n M : Nat) (L : List Mn) (va : Option Addr) (vk : Nat) (l : List (Ky × List Wnt)) (d : Dd) (wa : Option Addr) (wc : Nat)
    (h : Hst w0 w T nxt rank home r cs s n M L (.slice va L.length vk) l) (S : Sh T nxt rank) (hh : ∀ c, home c < T.nb) (hM : M + dD T < 549755813888) (hw0 : 0 < w0.heap.size) (hwa : InAt w0 wa d.wants) (hwf : IntWf d.wants) (hwl : d.wants.length ≤ maxLen) (hd : I64 d.kind ∧ I64 d.client ∧ I64 d.id ∧ I64 d.turn) :
    Calls Tryz.prog 12 #[.pointer (some ⟨T.TB, 0, none⟩), .agg #[.int .i64 d.kind, .int .i64 d.client, .int .i64 d.id, .int .i64 d.turn, .slice wa d.wants.length wc], .slice va L.length vk] w fun e w' => ∃ va' vk' L' s' cs' r' n', e = .returned (.tuple #[.slice va' L'.length vk', .bool true]) ∧ Hst w0 w' T nxt rank home r' cs' s' n' (M + dD T) L' (.slice va' L'.length vk') (dmF d l) ∧ Fr (msk (Value.ownBlock (.slice va L.length vk)) r) (msk (Value.ownBlock (.slice va L.length vk)) r') w w' ∧ ∀ k, k < w.heap.size → r' k = r k := by
  obtain ⟨k1, k2⟩ := nk_of (show NK (L.map (·.1)) by rw [h.e]; exact h.K)
  refine (happens_t T r w cs s nxt rank home k24 n M L va vk (Own0 w0 w r) d wa wc w0 h.t S h.G (by rw [k24_len]; omega) (by unfold dD at hM; omega) (fun a b h1 h2 h3 h4 => k24_mem h1 h2 h3 h4) hh (by rw [h.e]; exact h.O) k1 k2 h.D h.m (fun k hk => ⟨hk.2.2, hk.1⟩) hw0 h.F h.z hwa hwf hwl hd).mono ?_
  rintro e w' ⟨va', vk', L', s', cs', r', n', h1, h2, h3, h4, h5, h6, h7, h8, h9⟩
  rw [h.e] at h5
  have hx : ∀ k, k < w0.heap.size → msk (Value.ownBlock (.slice va L.length vk)) r k = .no := fun k hk => by
    unfold msk
    rw [if_neg (fun e => by have := (h.m.q.own k e).1.1; omega)]
    exact h.z k hk
  refine ⟨va', vk', L', s', cs', r', n', h1, ⟨h2, by unfold dD; simpa [Nat.add_assoc] using h6, by rw [← h5]; exact h7, h8, ?_, h5, nk_dm h.K d, gr_of_fr h.F h3 hx, fun k hk => (h9 k (Nat.lt_of_lt_of_le hk h.F.size)).trans (h.z k hk)⟩, h3, h9⟩
  refine h4.keep (Nat.le_refl _) (fun k hk hR => ⟨rfl, ?_⟩)
  rcases hR with hR | ⟨q1, q2, q3⟩
  · exact own0_of h3.size h9 hR
  · exact ⟨Nat.le_trans h.F.size q1, q2, q3⟩
theorem gd_clr {T : Tc} {nxt : Nat → Nat → Int} {rank : Nat → Nat → Nat} {home : Int → Nat} {Ks : List Ky} {s : Ts} {cs : List (Pc (List Atr))} {n M : Nat} (h : Gd T nxt rank home Ks s cs n M) (c : Int) : Gd T nxt rank home Ks s (cs.map (clrC c)) n M :=
  ⟨h.I, h.K, h.W, fun d hd => by
    obtain ⟨x, hx, rfl⟩ := List.mem_map.1 hd
    have := h.L x hx
    have := h.le
    unfold clrC
    split
    · exact ⟨Int.le_refl _, by show (0 : Int) + n ≤ M; omega, by simp⟩
    · exact h.L x hx, h.le⟩
/-- What came for a client is taken, and the tree stays well. -/
theorem Inbox_h (w0 w : World) (T : Tc) (nxt : Nat → Nat → Int) (rank : Nat → Nat → Nat) (home : Int → Nat) (r : Nat → Rl) (cs : List (Pc (List Atr))) (s : Ts) (n M : Nat) (L : List Mn) (v : Value) (l : List (Ky × List Wnt)) (c : Nat) (hc6 : c < 6)
    (h : Hst w0 w T nxt rank home r cs s n M L v l) :
    Calls Tryz.prog 23 #[.pointer (some ⟨T.TB, 0, none⟩), .int .i64 (c : Int)] w fun x w' => ∃ (v' : Value) (r' : Nat → Rl) (B : List (List Atr × Option Addr × Nat)) (d : Pc (List Atr)), d ∈ cs ∧ d.num = (c : Int) ∧ x = .returned (.tuple #[v', .int .i64 d.lost, .int .i64 0]) ∧ Hst w0 w' T nxt rank home r' (cs.map (clrC c)) s n M L v l ∧ Fr r r' w w' ∧ w'.ownsRow w.heap.size 65 1 v' B.length (B.map bv) ∧ B.map (·.1) = d.box ∧ (∀ y ∈ B, EvR r' w' y.2.1 y.1) ∧ ∀ k, v'.ownBlock = some k → r' k = .no := by
  obtain ⟨d, hd, hdn, hda⟩ := h.D.get hc6
  have := Inbox_t T r w cs s d h.t hd (h.G.L d hd).2.2
  rw [hdn] at this
  refine this.mono ?_
  rintro x w' ⟨v', r', B, h1, h2, h3, h4, h5, h6, h7⟩
  exact ⟨v', r', B, d, hd, hdn, h1, h.fr h3 h2 (gd_clr h.G _) h.O (h.D.of ids_clr), h3, h4, h5, h6, h7⟩
/-- Whom an event is for. -/
def hearsB (l : List (Ky × List Wnt)) (fr : Int) (e : List Atr) (n : Int) : Bool := (l.any fun x => decide (x.1.1 = n) && mat e x.2) && decide (n ≠ fr)
theorem hearsB_iff {l : List (Ky × List Wnt)} {fr : Int} {e : List Atr} {n : Int} : hearsB l fr e n = true ↔ n ≠ fr ∧ ∃ k f, (k, f) ∈ l ∧ k.1 = n ∧ mat e f = true := by
  simp only [hearsB, Bool.and_eq_true, List.any_eq_true, decide_eq_true_eq]
  constructor
  · rintro ⟨⟨⟨k, f⟩, h1, h2, h3⟩, h4⟩; exact ⟨h4, k, f, h1, h2, h3⟩
  · rintro ⟨h4, k, f, h1, h2, h3⟩; exact ⟨⟨(k, f), h1, h2, h3⟩, h4⟩
/-- What the clients still have, while their inboxes are taken one after another. -/
def Tkn (l : List (Ky × List Wnt)) (fr : Int) (e : List Atr) (c : Nat) (cs : List (Pc (List Atr))) : Prop :=
  ∀ d ∈ cs, d.lost = 0 ∧ (d.num < c → d.box = []) ∧ (¬ d.num < c → d.box = if hearsB l fr e d.num then [e] else [])
theorem Tkn.clr {l : List (Ky × List Wnt)} {fr : Int} {e : List Atr} {c : Nat} {cs : List (Pc (List Atr))} (h : Tkn l fr e c cs) : Tkn l fr e (c + 1) (cs.map (clrC (c : Int))) := by
  intro d hd
  obtain ⟨x, hx, rfl⟩ := List.mem_map.1 hd
  have h1 := h x hx
  unfold clrC
  split
  · rename_i hn
    refine ⟨rfl, fun _ => rfl, fun hlt => absurd ?_ hlt⟩
    show x.num < ((c + 1 : Nat) : Int)
    omega
  · rename_i hn
    exact ⟨h1.1, fun hlt => h1.2.1 (by omega), fun hlt => h1.2.2 (by omega)⟩
/-- So far so many deeds. -/
def dAll (ds : List Dm) : Nat → List (Ky × List Wnt)
  | 0 => []
  | i + 1 => dmF (dmt ds i).1 (dAll ds i)
set_option maxRecDepth 100000 in
set_option maxHeartbeats 4000000 in
theorem Heard_any (zs ps : List Int) (ds : List Dm) (ess : List (List Int)) (ts : List Int) (az ap ad ae at' : Option Addr) (cz cp cd ce ct : Nat) (ml : Int) (w : World)
    (lz : zs.length ≤ 1048576) (hz : InAt w az zs) (wz : IntWf zs) (lp : ps.length ≤ 1048576) (hp : InAt w ap ps) (wp : IntWf ps) (ld : ds.length ≤ 1048576) (hd : DsAd w ad ds) (wd : DdWf ds)
    (le : ess.length ≤ 1048576) (he : InsAd w ae ess) (we : ∀ z ∈ ess, IntWf z ∧ z.length ≤ maxLen) (lt : ts.length ≤ 1048576) (ht : InAt w at' ts) (wt : IntWf ts) (hml : Ml ml w) :
    Calls Tryz.prog 6 #[.slice az zs.length cz, .slice ap ps.length cp, .slice ad ds.length cd, .slice ae ess.length ce, .slice at' ts.length ct] w fun e w' => e = .returned (.bool true) ∧ Gr w w' := by
  have LV := Hid.mk' (lives_any ml w hml)
  have HZ := Hid.mk' (And.intro hz (And.intro wz (And.intro hp wp)))
  have HD := Hid.mk' (And.intro hd wd)
  have HE := Hid.mk' (And.intro he we)
  have HTS := Hid.mk' (And.intro ht wt)
  have HML := Hid.mk' hml
  have hb6 : 1 ≤ nbF zs ∧ nbF zs ≤ 6 := by unfold nbF; omega
  have HB6 := Hid.mk' hb6
  have hw0 := hml.pos
  clear hz wz hp wp hd wd he we ht wt hml hb6
  go_enter Tryz.func6, Tryz.ntmps6
  go_wp2_with fail
  refine LV.out.mono ?_
  rintro e w1 ⟨rfl, g1⟩
  have GR := Hid.mk' (grown_any zs ps az ap cz cp ml w1 lz (HZ.out.1.gr g1) HZ.out.2.1 lp (HZ.out.2.2.1.gr g1) HZ.out.2.2.2 (g1.ml HML.out))
  have G1 := Hid.mk' g1
  clear LV g1
  go_wp2_with fail
  refine GR.out.mono ?_
  rintro e w2 ⟨T, r, cls, nxt, rank, rfl, t2, f2, hTn, hTm, SH, CL⟩
  obtain ⟨ID, CL0⟩ := cls_idn CL
  have HH : Hid (∀ c, hmF ps (nbF zs) c < T.nb) := fun c => by rw [hTn]; exact hmF_lt ps HB6.out.1 c
  have hT6 : T.nb ≤ 6 := by rw [hTn]; exact HB6.out.2
  generalize hmF ps (nbF zs) = home at *
  have H2 : Hid (Hst w w2 T nxt rank home r (cls.map pcOf) (TS.none (List Wnt) (List Atr)) 0 0 [] (.slice none 0 0) []) := ⟨⟨cls, t2, rfl⟩, gd_none CL0, ow_none, ID, mi_nil _ _, rfl, nk_nil, Gr.call G1.out f2.gr0, fun k hk => f2.same k (Nat.lt_of_lt_of_le hk G1.out.size)⟩
  have S1 := Hid.mk' SH
  have hDD : dD T ≤ 157 := by
    unfold dD; rw [k24_len]
    have := Nat.mul_le_mul_right 25 hT6
    omega
  have HDD := Hid.mk' (And.intro hDD hT6)
  clear GR t2 f2 SH CL ID CL0 hTn hTm G1 HB6
  go_wp2_with fail
  go_loopw [13, 14] (fun v i wr => ∃ (j : Nat) (L : List Mn) (va : Option Addr) (vk : Nat) (s' : Ts) (cs' : List (Pc (List Atr))) (r' : Nat → Rl) (n' : Nat), j ≤ ds.length ∧ i = .int .i64 j ∧ v = .slice va L.length vk ∧ Hid (Hst w wr T nxt rank home r' cs' s' n' (j * dD T) L (.slice va L.length vk) (dAll ds j))) (fun _ i _ => ds.length - (intOf i).toNat)
  case atStart => exact ⟨0, [], none, 0, _, _, r, 0, Nat.zero_le _, rfl, rfl, by show Hst _ _ _ _ _ _ _ _ _ _ _ _ _ _; rw [Nat.zero_mul]; exact H2.out⟩
  case round =>
    clear H2
    obtain ⟨j, L, va, vk, s', cs', r', n', hj, rfl, rfl, H3⟩ := hrel
    by_cases hjl : j < ds.length
    · obtain ⟨b, off, rfl, hbw, hat⟩ : ∃ b off, ad = some ⟨b, off, none⟩ ∧ b < w.heap.size ∧ DdsAt w b off ds := by
        rcases HD.out.1 with h0 | h0
        · rw [h0] at hjl; simp at hjl
        · exact h0
      obtain ⟨⟨x0, x1, x2, x3, x4⟩, hx5⟩ := (hat.gr H3.out.F hbw) j hjl
      have hbr := H3.out.F.lt hbw
      have hwf := HD.out.2 _ (dmt_mem hjl)
      have hMj : j * dD T + dD T < 549755813888 := by
        have := Nat.mul_le_mul (show j + 1 ≤ 1048576 by omega) HDD.out.1
        rw [Nat.add_mul] at this; omega
      have HP := Hid.mk' (happens_h w wr T nxt rank home r' cs' s' n' _ L va vk _ (dmt ds j).1 (dmt ds j).2.1 (dmt ds j).2.2 H3.out S1.out HH.out hMj hw0 ((hat j hjl).2) hwf.2.1 hwf.2.2 hwf.1)
      have HALL : Hid (dAll ds (j + 1) = dmF (dmt ds j).1 (dAll ds j)) := rfl
      have HMJ : Hid ((j + 1) * dD T = j * dD T + dD T) := by show _ = _; rw [Nat.add_mul, Nat.one_mul]
      clear hx5 hwf hMj hat H3
      generalize dmt ds j = y at *
      go_wp2_with fail
      refine HP.out.mono ?_
      rintro e w3 ⟨va', vk', L', s3, cs3, r3, n3, rfl, h3, _, _⟩
      have H4 : Hid (Hst w w3 T nxt rank home r3 cs3 s3 n3 ((j + 1) * dD T) L' (.slice va' L'.length vk') (dAll ds (j + 1))) := by
        show Hst _ _ _ _ _ _ _ _ _ _ _ _ _ _
        rw [HMJ.out, HALL.out]; exact h3
      clear HP h3 HALL HMJ x0 x1 x2 x3 x4
      go_wp2_with fail
      exact ⟨⟨j + 1, L', va', vk', s3, cs3, r3, n3, hjl, by simp, rfl, H4⟩, measM_dec _ _ hjl⟩
    · have hje : j = ds.length := by omega
      subst hje
      have hMd : ds.length * dD T ≤ 164626432 := by
        have := Nat.mul_le_mul ld HDD.out.1
        omega
      have DR := Hid.mk' (Drain_t T r' wr cs' s' nxt rank home k24 _ _ H3.out.t S1.out H3.out.G (by rw [k24_len]; omega) (by omega))
      have HMD := Hid.mk' hMd
      clear hj hjl hMd
      go_wp2_with fail
      refine DR.out.mono ?_
      rintro e w4 ⟨k4, s4, cs4, r4, n4, rfl, hrun, hq4, t4, g4, hk4, f4⟩
      have H4 := Hid.mk' (H3.out.fr f4 t4 g4 (hrun.ow S1.out.N H3.out.G.I H3.out.O) (H3.out.D.of hrun.ids))
      have Q4 := Hid.mk' hq4
      generalize dAll ds ds.length = l at *
      generalize hMM : ds.length * dD T = M4 at *
      clear DR hrun hq4 t4 g4 hk4 f4 H3 hMM
      go_wp2_with fail
      go_loopw [17] (fun i wr => ∃ (c : Nat) (cs' : List (Pc (List Atr))) (r' : Nat → Rl), c ≤ 6 ∧ i = .int .i64 c ∧ Hid (Hst w wr T nxt rank home r' cs' s4 n4 M4 L (.slice va L.length vk) l) ∧ Hid (∀ d ∈ cs', d.num < c → d.box = [] ∧ d.lost = 0)) (fun i _ => 6 - (intOf i).toNat)
      case atStart => exact ⟨0, cs4, r4, by omega, rfl, H4, fun d hd h0 => by have := (H4.out.D.mem hd).1; omega⟩
      case round =>
        clear H4
        obtain ⟨c, cs5, r5, hc, rfl, H5, Z5⟩ := hrel
        by_cases hc6 : c < 6
        · have IB := Hid.mk' (Inbox_h w wr T nxt rank home r5 cs5 s4 n4 M4 L _ l c hc6 H5.out)
          go_wp2_with fail
          refine IB.out.mono ?_
          rintro e w6 ⟨v6, r6, B6, d6, _, _, rfl, h6, _, o6, _⟩
          have H6 := Hid.mk' h6
          have Z6 : Hid (∀ d ∈ cs5.map (clrC (c : Int)), d.num < ((c + 1 : Nat) : Int) → d.box = [] ∧ d.lost = 0) := fun d hd h1 => by
            obtain ⟨x, hx, rfl⟩ := List.mem_map.1 hd
            unfold clrC at h1 ⊢
            split at h1
            · rename_i h2; rw [if_pos h2]; exact ⟨rfl, rfl⟩
            · rename_i h2; rw [if_neg h2]; exact Z5.out x hx (by omega)
          obtain ⟨ya, ym, yk, rfl⟩ := owns_slice o6
          clear IB h6 o6 H5 Z5
          go_wp2_with fail
          exact ⟨⟨c + 1, _, r6, hc6, by simp, H6, Z6⟩, measM_dec _ _ hc6⟩
        · have hce : c = 6 := by omega
          subst hce
          rw [show ((6 : Nat) : Int) = 6 from rfl]
          have CLN : Hid (∀ d ∈ cs5, d.at' = home d.num ∧ d.lost = 0 ∧ d.box = []) := fun d hd => by
            have h1 := H5.out.D.mem hd
            have h2 := Z5.out d hd h1.2.1
            exact ⟨h1.2.2, h2.2, h2.1⟩
          clear Z5 hc hc6
          go_wp2_with fail
          have MB : Hid (∀ q, q ≤ 1048576 → M4 + q * (T.nb + 1) < 549755813888) := fun q hq => by
            have := Nat.mul_le_mul hq (show T.nb + 1 ≤ 7 by have := HDD.out.2; omega)
            have := HMD.out
            omega
          go_loopw [21] (fun i wr => ∃ (j : Nat) (s' : Ts) (cs' : List (Pc (List Atr))) (r' : Nat → Rl) (n' : Nat), j ≤ ess.length ∧ i = .int .i64 j ∧ Hid (Hst w wr T nxt rank home r' cs' s' n' (M4 + j * (T.nb + 1)) L (.slice va L.length vk) l) ∧ Hid (quiet s') ∧ Hid (∀ d ∈ cs', d.at' = home d.num ∧ d.lost = 0 ∧ d.box = [])) (fun i _ => ess.length - (intOf i).toNat)
          case atStart => exact ⟨0, s4, cs5, r5, n4, Nat.zero_le _, rfl, by show Hst _ _ _ _ _ _ _ _ _ _ _ _ _ _; rw [Nat.zero_mul]; exact H5.out, Q4, CLN⟩
          case round =>
            clear H5 CLN Q4
            obtain ⟨j, s5, cs6, r6, n6, hj, rfl, H6, Q6, CLN⟩ := hrel
            by_cases hjl : j < ess.length
            · obtain ⟨b, off, rfl, hbw, hat⟩ : ∃ b off, ae = some ⟨b, off, none⟩ ∧ b < w.heap.size ∧ InsAt w b off ess := by
                rcases HE.out.1 with h0 | h0
                · rw [h0] at hjl; simp at hjl
                · exact h0
              obtain ⟨aj, cj, x0, hx5⟩ := (hat.gr H6.out.F hbw) j hjl
              have hbr := H6.out.F.lt hbw
              have hwf := HE.out.2 _ (zat_mem hjl)
              have EVT := Hid.mk' (event_any (zat ess j) aj cj wr hwf.2 hx5 hwf.1)
              have hlE : 1 ≤ (evF (zat ess j)).length ∧ (evF (zat ess j)).length ≤ 3 := evF_len (zat ess j)
              have OKE := Hid.mk' (And.intro (evF_ok (zat ess j)) (evF_wf (zat ess j)))
              obtain ⟨f6, hf6⟩ : ∃ f6, f6 = j % 6 := ⟨_, rfl⟩
              have hf6l : f6 < 6 := by rw [hf6]; exact Nat.mod_lt _ (by omega)
              have hf6c : (j : Int) % 6 = (f6 : Int) := by rw [hf6]; norm_cast
              clear hx5 hwf hat hf6
              generalize evF (zat ess j) = ev at *
              go_wp2_with fail
              refine EVT.out.mono ?_
              rintro e w7 ⟨v7, rfl, g7, o7⟩
              obtain ⟨gx, cx, rfl⟩ := owns_pos o7 (by omega)
              have EV7 := Hid.mk' (evn_of (r := r6) o7 OKE.out.1 OKE.out.2 (H6.out.t.b.top gx (own_low o7 gx rfl)))
              have H7 := Hid.mk' (H6.out.gr g7)
              obtain ⟨cf, hcf, hcfn, hcfa⟩ := H6.out.D.get hf6l
              have SM := H6.out.G.sm S1.out (by rw [k24_len]; omega) (MB.out j (by omega))
              have PB := Publish_t T r6 w7 cs6 s5 cf ev (some ⟨gx, 0, none⟩) cx H7.out.t hcf EV7.out.m SM (fun c hc => ⟨(H6.out.G.L c hc).1, by have := (H6.out.G.L c hc).2.1; have := MB.out j (by omega); omega⟩)
              rw [hcfn, hcfa] at PB
              have PB2 := Hid.mk' PB
              have GP := Hid.mk' (H6.out.G.pub S1.out (home f6) (HH.out _) (-1) (true, (f6 : Int)) ev)
              clear EVT o7 g7 hcf hcfn hcfa SM PB x0
              go_wp2_with fail
              refine PB2.out.mono ?_
              rintro e w8 ⟨rfl, r8, t8, f8⟩
              have H8 : Hid (Hst w w8 T nxt rank home r8 _ _ _ (M4 + j * (T.nb + 1) + T.nb + 1) L (.slice va L.length vk) l) := H7.out.fr f8 t8 GP.out (ow_come H7.out.O _ _ _) (H7.out.D.of ids_hear)
              have EV8 := Hid.mk' (EV7.out.fr f8)
              have HEND : Hid (∀ s' cs' q, Run cov T.adj mat (s5.come T.adj mat (home f6) (-1) ev) (cs6.map (hearAt mat (s5.held (home f6)) (true, (f6 : Int)) ev)) q s' cs' → quiet s' → ∀ c ∈ cs', c.at' = home c.num ∧ c.lost = 0 ∧ ((c.num ≠ f6 ∧ ∃ k f, (k, f) ∈ l ∧ k.1 = c.num ∧ mat ev f = true) → c.box = [ev]) ∧ (¬ (c.num ≠ f6 ∧ ∃ k f, (k, f) ∈ l ∧ k.1 = c.num ∧ mat ev f = true) → c.box = [])) := fun s' cs' q hr hqq =>
                (heard_end preF S1.out.N S1.out.Z S1.out.R HH.out H6.out.G.I Q6.out H6.out.O (fun f g h1 h2 h3 h4 => mat_cov h1.2 h2.2 OKE.out.1 OKE.out.2 h3 h4) CLN.out hr hqq).2.2
              clear PB2 t8 f8 H7 EV7 GP H6 Q6 CLN
              generalize s5.come T.adj mat (home f6) (-1) ev = sp at *
              generalize cs6.map (hearAt mat (s5.held (home f6)) (true, (f6 : Int)) ev) = cp' at *
              go_wp2_with fail
              have hMq := MB.out (j + 1) (by omega)
              have HMQ : Hid (M4 + j * (T.nb + 1) + T.nb + 1 < 549755813888) := by
                show _ < _
                rw [Nat.add_mul] at hMq; omega
              clear hMq
              generalize hMM : M4 + j * (T.nb + 1) + T.nb + 1 = M8 at *
              have HM8 : Hid (M8 = M4 + (j + 1) * (T.nb + 1)) := by show _ = _; rw [← hMM, Nat.add_mul]; omega
              clear hMM
              go_loopw [25] (fun i wr => ∃ (k : Nat) (s' : Ts) (cs' : List (Pc (List Atr))) (r' : Nat → Rl) (n' : Nat), k ≤ ts.length ∧ i = .int .i64 k ∧ Hid (Hst w wr T nxt rank home r' cs' s' n' M8 L (.slice va L.length vk) l) ∧ Hid (∃ q, Run cov T.adj mat sp cp' q s' cs') ∧ Hid (EvN r' wr (some ⟨gx, 0, none⟩) ev)) (fun i _ => ts.length - (intOf i).toNat)
              case atStart => exact ⟨0, sp, cp', r8, _, Nat.zero_le _, rfl, H8, ⟨0, Run.refl _ _⟩, EV8⟩
              case round =>
                clear H8 EV8
                obtain ⟨k, s9, cs9, r9, n9, hk, rfl, H9, R9, EV9⟩ := hrel
                by_cases hkl : k < ts.length
                · obtain ⟨b2, off2, rfl, hbw2, hat2⟩ : ∃ b off, at' = some ⟨b, off, none⟩ ∧ b < w.heap.size ∧ IntsAt w b off ts := by
                    rcases HTS.out.1 with h0 | h0
                    · rw [h0] at hkl; simp at hkl
                    · exact h0
                  have x0 := (hat2.gr H9.out.F hbw2) k hkl
                  have hbr2 := H9.out.F.lt hbw2
                  have TN := Hid.mk' (turn_t T r9 wr cs9 s9 nxt rank home k24 n9 M8 (iat ts k) H9.out.t S1.out H9.out.G (by rw [k24_len]; omega) HMQ.out (iat_bd HTS.out.2 hkl))
                  clear hat2
                  generalize iat ts k = z at *
                  go_wp2_with fail
                  refine TN.out.mono ?_
                  rintro e w10 ⟨s10, cs10, r10, n10, rfl, mv, t10, f10⟩
                  obtain ⟨q10, hq10⟩ := mv.R
                  have H10 := Hid.mk' (H9.out.fr f10 t10 mv.G (hq10.ow S1.out.N H9.out.G.I H9.out.O) (H9.out.D.of hq10.ids))
                  have R10 : Hid (∃ q, Run cov T.adj mat sp cp' q s10 cs10) := by
                    obtain ⟨q, hq⟩ := R9.out
                    exact hq.trans hq10
                  have EV10 := Hid.mk' (EV9.out.fr f10)
                  clear TN mv t10 f10 hq10 H9 R9 EV9 x0
                  go_wp2_with fail
                  exact ⟨⟨k + 1, s10, cs10, r10, n10, hkl, by simp, H10, R10, EV10⟩, measM_dec _ _ hkl⟩
                · have DR := Hid.mk' (Drain_t T r9 wr cs9 s9 nxt rank home k24 n9 M8 H9.out.t S1.out H9.out.G (by rw [k24_len]; omega) HMQ.out)
                  go_wp2_with fail
                  refine DR.out.mono ?_
                  rintro e w10 ⟨k10, s10, cs10, r10, n10, rfl, hrun, hq10, t10, g10, _, f10⟩
                  have H10 := Hid.mk' (H9.out.fr f10 t10 g10 (hrun.ow S1.out.N H9.out.G.I H9.out.O) (H9.out.D.of hrun.ids))
                  have EV10 := Hid.mk' (EV9.out.fr f10)
                  have Q10 := Hid.mk' hq10
                  have TK10 : Hid (Tkn l (f6 : Int) ev 0 cs10) := by
                    obtain ⟨q, hq⟩ := R9.out
                    obtain ⟨q2, hq2⟩ := hq.trans hrun
                    intro d hd
                    obtain ⟨h1, h2, h3, h4⟩ := HEND.out s10 cs10 q2 hq2 hq10 d hd
                    refine ⟨h2, fun h5 => by have := (H10.out.D.mem hd).1; omega, fun _ => ?_⟩
                    cases hb : hearsB l (f6 : Int) ev d.num with
                    | true => exact h3 (hearsB_iff.1 hb)
                    | false => exact h4 (fun h5 => by rw [hearsB_iff.2 h5] at hb; cases hb)
                  clear DR hrun hq10 t10 g10 f10 H9 R9 EV9 HEND
                  go_wp2_with fail
                  go_loopw [26] (fun i wr => ∃ (c : Nat) (cs' : List (Pc (List Atr))) (r' : Nat → Rl), c ≤ 6 ∧ i = .int .i64 c ∧ Hid (Hst w wr T nxt rank home r' cs' s10 n10 M8 L (.slice va L.length vk) l) ∧ Hid (Tkn l (f6 : Int) ev c cs') ∧ Hid (EvN r' wr (some ⟨gx, 0, none⟩) ev)) (fun i _ => 6 - (intOf i).toNat)
                  case atStart => exact ⟨0, cs10, r10, by omega, rfl, H10, TK10, EV10⟩
                  case round =>
                    clear H10 TK10 EV10
                    obtain ⟨c, cs11, r11, hc, rfl, H11, TK11, EV11⟩ := hrel
                    by_cases hc6 : c < 6
                    · obtain ⟨hcI, hcJ⟩ : (0 : Int) ≤ (c : Int) ∧ (c : Int) < 6 := ⟨by omega, by omega⟩
                      have CL : Hid (∀ q, q < L.length → ∃ g off, va = some ⟨g, off, none⟩ ∧ ∀ W : World, Gr wr W → W.cell? ⟨g, off + q * 3, none⟩ = some (.int .i64 (nat' L q).1.1.1) ∧ W.cell? ⟨g, off + q * 3 + 1, none⟩ = some (.int .i64 (nat' L q).1.1.2) ∧ W.cell? ⟨g, off + q * 3 + 1 + 1, none⟩ = some (.slice (nat' L q).2.1 (nat' L q).1.2.length (nat' L q).2.2) ∧ FiM W (nat' L q).2.1 (nat' L q).1.2) := fun q hq => by
                        rcases H11.out.m.q.2 with ⟨h2, h3⟩ | ⟨g, off, cap, cur, hv, _⟩
                        · omega
                        · injection hv with hv _ _
                          subst hv
                          refine ⟨g, off, rfl, fun W hW => ?_⟩
                          have qq := (H11.out.m.gr hW).q
                          obtain ⟨c1, c2, c3⟩ := ncells_at L q hq
                          obtain ⟨_, _, _, _, _, hf⟩ := (H11.out.m.gr hW).f _ (nat'_mem hq)
                          exact ⟨qq.cellAt c1, qq.cellAt c2, qq.cellAt c3, hf⟩
                      have ML : Hid (∀ W, Gr wr W → Ml T.ml W) := fun W hW => hW.ml H11.out.t.b.ml
                      have hLl : L.length ≤ 24 := by
                        obtain ⟨k1, k2⟩ := nk_of (show NK (L.map (·.1)) by rw [H11.out.e]; exact H11.out.K)
                        have := keys_le (L.map fun x => x.1.1) k24 (by rw [List.pairwise_map]; exact k1) (fun k hk => by
                          obtain ⟨x, hx, rfl⟩ := List.mem_map.1 hk
                          exact k2 x hx)
                        rw [List.length_map, k24_len] at this
                        exact this
                      go_wp2_with fail
                      go_loopw [27, 28] (fun h i W => ∃ q : Nat, q ≤ L.length ∧ i = .int .i64 q ∧ h = .bool ((L.take q).any fun x => decide (x.1.1.1 = (c : Int)) && mat ev x.1.2) ∧ Hid (Gr wr W)) (fun _ i _ => L.length - (intOf i).toNat)
                      case atStart => exact ⟨0, Nat.zero_le _, rfl, by simp, Gr.refl _⟩
                      case round =>
                        obtain ⟨q, hq, rfl, rfl, G⟩ := hrel
                        by_cases hql : q < L.length
                        · obtain ⟨g, off, rfl, hcc⟩ := CL.out q hql
                          obtain ⟨c1, c2, c3, c4⟩ := hcc wr G.out
                          have TKQ : Hid (((L.take (q + 1)).any fun x => decide (x.1.1.1 = (c : Int)) && mat ev x.1.2) = (((L.take q).any fun x => decide (x.1.1.1 = (c : Int)) && mat ev x.1.2) || (decide ((nat' L q).1.1.1 = (c : Int)) && mat ev (nat' L q).1.2))) := by
                            show _ = _
                            rw [nat'_take hql, List.any_append]; simp
                          have ON : Hid (Calls Tryz.prog 26 #[.slice (some ⟨gx, 0, none⟩) ev.length cx, .slice (nat' L q).2.1 (nat' L q).1.2.length (nat' L q).2.2] wr fun e w' => e = .returned (.bool (mat ev (nat' L q).1.2)) ∧ Gr wr w') := one_any ev (nat' L q).1.2 (some ⟨gx, 0, none⟩) (nat' L q).2.1 cx (nat' L q).2.2 T.ml wr (by unfold maxLen; omega) (Or.inr (EV11.out.m.gr G.out).at') EV11.out.m.wf (by have := c4.len; unfold maxLen; omega) (Or.inr c4.at') c4.wf EV11.out.m.ok c4.ok (ML.out wr G.out)
                          clear hcc c4
                          generalize nat' L q = y at *
                          generalize ((L.take q).any fun x => decide (x.1.1.1 = (c : Int)) && mat ev x.1.2) = hb at *
                          by_cases hy : y.1.1.1 = (c : Int)
                          · have TKQ2 : Hid (((L.take (q + 1)).any fun x => decide (x.1.1.1 = (c : Int)) && mat ev x.1.2) = (hb || mat ev y.1.2)) := by show _ = _; rw [TKQ.out, hy]; simp
                            rw [hy] at c1
                            clear TKQ hy
                            go_wp2_with fail
                            refine ON.out.mono ?_
                            cases hm : mat ev y.1.2 with
                            | true =>
                              rintro e w12 ⟨rfl, g12⟩
                              have G12 := Hid.mk' (Gr.call G.out g12)
                              have TK3 : Hid (((L.take (q + 1)).any fun x => decide (x.1.1.1 = (c : Int)) && mat ev x.1.2) = true) := by show _ = _; rw [TKQ2.out, hm, Bool.or_true]
                              clear ON g12 c1 c2 c3 TKQ2 hm
                              cases hb with
                              | true =>
                                go_wp2_with fail
                                exact ⟨⟨q + 1, hql, by simp, by rw [TK3.out], G12⟩, measM_dec _ _ hql⟩
                              | false =>
                                go_wp2_with fail
                                exact ⟨⟨q + 1, hql, by simp, by rw [TK3.out], G12⟩, measM_dec _ _ hql⟩
                            | false =>
                              rintro e w12 ⟨rfl, g12⟩
                              have G12 := Hid.mk' (Gr.call G.out g12)
                              have TK3 : Hid (((L.take (q + 1)).any fun x => decide (x.1.1.1 = (c : Int)) && mat ev x.1.2) = hb) := by show _ = _; rw [TKQ2.out, hm, Bool.or_false]
                              clear ON g12 c1 c2 c3 TKQ2 hm
                              cases hb with
                              | true =>
                                go_wp2_with fail
                                exact ⟨⟨q + 1, hql, by simp, by rw [TK3.out], G12⟩, measM_dec _ _ hql⟩
                              | false =>
                                go_wp2_with fail
                                exact ⟨⟨q + 1, hql, by simp, by rw [TK3.out], G12⟩, measM_dec _ _ hql⟩
                          · have TK3 : Hid (((L.take (q + 1)).any fun x => decide (x.1.1.1 = (c : Int)) && mat ev x.1.2) = hb) := by show _ = _; rw [TKQ.out, decide_eq_false hy, Bool.false_and, Bool.or_false]
                            have hy' : (y.1.1.1 == (c : Int)) = false := by simpa using hy
                            clear ON TKQ hy
                            cases hb with
                            | true =>
                              go_wp2_with fail
                              exact ⟨⟨q + 1, hql, by simp, by rw [TK3.out], G⟩, measM_dec _ _ hql⟩
                            | false =>
                              go_wp2_with fail
                              exact ⟨⟨q + 1, hql, by simp, by rw [TK3.out], G⟩, measM_dec _ _ hql⟩
                        · have hqe : q = L.length := by omega
                          subst hqe
                          rw [List.take_length]
                          have ANY : Hid (hearsB l (f6 : Int) ev (c : Int) = ((L.any fun x => decide (x.1.1.1 = (c : Int)) && mat ev x.1.2) && decide ((c : Int) ≠ (f6 : Int)))) := by
                            show _ = _
                            unfold hearsB
                            rw [← H11.out.e, List.any_map]; rfl
                          have IB := Hid.mk' (Inbox_h w wr T nxt rank home r11 cs11 s10 n10 M8 L _ l c hc6 (H11.out.gr G.out))
                          have EV12 := Hid.mk' (EV11.out.fr (Fr.gr (r := r11) G.out))
                          have TK12 := Hid.mk' TK11.out.clr
                          have DD : Hid (∀ d ∈ cs11, d.num = (c : Int) → d.lost = 0 ∧ d.box = if hearsB l (f6 : Int) ev (c : Int) then [ev] else []) := fun d hd hn => by
                            have := TK11.out d hd
                            rw [hn] at this
                            exact ⟨this.1, this.2.2 (by omega)⟩
                          generalize (L.any fun x => decide (x.1.1.1 = (c : Int)) && mat ev x.1.2) = hb at *
                          clear CL ML TK11 H11 EV11 G
                          by_cases hce : c = f6
                          · have hs2 : hearsB l (f6 : Int) ev (c : Int) = false := by rw [ANY.out, decide_eq_false (by omega), Bool.and_false]
                            rw [hs2] at DD
                            have hce' : (c : Int) = (f6 : Int) := by omega
                            clear ANY hs2
                            subst hce
                            cases hb with
                            | true =>
                              go_wp2_with fail
                              refine IB.out.mono ?_
                              rintro e w12 ⟨v12, r12, B, d, hd, hdn, rfl, h12, f12, o12, hB, _, _⟩
                              obtain ⟨hd1, hd2⟩ := DD.out d hd hdn
                              rw [hd2] at hB
                              have hB0 : B.length = 0 := by
                                have := congrArg List.length hB
                                simpa using this
                              rw [hB0] at o12
                              rw [hd1]
                              obtain ⟨xa, xk, rfl, _⟩ := owns_shape o12
                              have E12 := Hid.mk' (And.intro h12 (EV12.out.fr f12))
                              clear IB DD h12 f12 o12 hB hB0 hd hdn hd1 hd2 EV12
                              go_wp2_with fail
                              go_loopw [33] (fun i W => i = .int .i64 0 ∧ Hid (Gr w12 W)) (fun _ _ => 0)
                              case atStart => exact ⟨rfl, Gr.refl _⟩
                              case round =>
                                obtain ⟨rfl, G13⟩ := hrel
                                have E13 := Hid.mk' (And.intro (E12.out.1.gr G13.out) (E12.out.2.fr (Fr.gr (r := r12) G13.out)))
                                go_wp2_with fail
                                exact ⟨⟨c + 1, _, r12, hc6, by simp, E13.out.1, TK12, E13.out.2⟩, measM_dec _ _ hc6⟩
                            | false =>
                              go_wp2_with fail
                              refine IB.out.mono ?_
                              rintro e w12 ⟨v12, r12, B, d, hd, hdn, rfl, h12, f12, o12, hB, _, _⟩
                              obtain ⟨hd1, hd2⟩ := DD.out d hd hdn
                              rw [hd2] at hB
                              have hB0 : B.length = 0 := by
                                have := congrArg List.length hB
                                simpa using this
                              rw [hB0] at o12
                              rw [hd1]
                              obtain ⟨xa, xk, rfl, _⟩ := owns_shape o12
                              have E12 := Hid.mk' (And.intro h12 (EV12.out.fr f12))
                              clear IB DD h12 f12 o12 hB hB0 hd hdn hd1 hd2 EV12
                              go_wp2_with fail
                              go_loopw [33] (fun i W => i = .int .i64 0 ∧ Hid (Gr w12 W)) (fun _ _ => 0)
                              case atStart => exact ⟨rfl, Gr.refl _⟩
                              case round =>
                                obtain ⟨rfl, G13⟩ := hrel
                                have E13 := Hid.mk' (And.intro (E12.out.1.gr G13.out) (E12.out.2.fr (Fr.gr (r := r12) G13.out)))
                                go_wp2_with fail
                                exact ⟨⟨c + 1, _, r12, hc6, by simp, E13.out.1, TK12, E13.out.2⟩, measM_dec _ _ hc6⟩
                          · have hce' : ((c : Int) == (f6 : Int)) = false := by simp; omega
                            have hce2 : ((c : Int) != (f6 : Int)) = true := by simp; omega
                            have hs2 : hearsB l (f6 : Int) ev (c : Int) = hb := by rw [ANY.out, decide_eq_true (by omega), Bool.and_true]
                            rw [hs2] at DD
                            clear ANY hs2
                            cases hb with
                            | true =>
                              go_wp2_with fail
                              refine IB.out.mono ?_
                              rintro e w12 ⟨v12, r12, B, d, hd, hdn, rfl, h12, f12, o12, hB, hev, hrole⟩
                              obtain ⟨hd1, hd2⟩ := DD.out d hd hdn
                              rw [hd2] at hB
                              obtain ⟨b0, hB1, hb0⟩ : ∃ b0, B = [b0] ∧ b0.1 = ev := by
                                match B, hB with
                                | [b0], hB => exact ⟨b0, rfl, by simpa using hB⟩
                              subst hB1
                              rw [List.length_singleton] at o12
                              rw [hd1]
                              obtain ⟨xa, xk, rfl, hxa⟩ := owns_shape o12
                              obtain ⟨xb, rfl⟩ := hxa (by omega)
                              have E12 := Hid.mk' (And.intro h12 (EV12.out.fr f12))
                              have O12 := Hid.mk' o12
                              have EB := Hid.mk' (hev b0 (by simp)).m
                              have HB0 := Hid.mk' hb0
                              clear IB DD h12 f12 o12 hB hd hdn hd1 hd2 EV12 hev hrole hxa hb0
                              go_wp2_with fail
                              go_loopw [33] (fun i W => ∃ q : Nat, q ≤ 1 ∧ i = .int .i64 q ∧ Hid (Gr w12 W)) (fun i _ => 1 - (intOf i).toNat)
                              case atStart => exact ⟨0, by omega, rfl, Gr.refl _⟩
                              case round =>
                                obtain ⟨q, hq, rfl, G13⟩ := hrel
                                by_cases hq1 : q < 1
                                · obtain rfl : q = 0 := by omega
                                  have cc : wr.cell? ⟨xb, 0, none⟩ = some (.slice b0.2.1 ev.length b0.2.2) := by
                                    rw [World.ownsRow.cellAt (ownsGr O12.out G13.out) 0 (by omega)]
                                    simp only [List.map_cons, List.map_nil, List.getElem?_cons_zero, bv]
                                    rw [HB0.out]
                                  have SE := Hid.mk' (sameEv_yes ev b0.2.1 (some ⟨gx, 0, none⟩) b0.2.2 cx wr (by rw [← HB0.out]; exact EB.out.gr G13.out) (E12.out.2.m.gr G13.out))
                                  go_wp2_with fail
                                  refine SE.out.mono ?_
                                  rintro e w14 ⟨rfl, g14⟩
                                  have G14 := Hid.mk' (Gr.call G13.out g14)
                                  clear SE g14 cc
                                  go_wp2_with fail
                                  exact ⟨⟨1, by omega, by simp, G14⟩, by simp [intOf]⟩
                                · obtain rfl : q = 1 := by omega
                                  have E13 := Hid.mk' (And.intro (E12.out.1.gr G13.out) (E12.out.2.fr (Fr.gr (r := r12) G13.out)))
                                  go_wp2_with fail
                                  exact ⟨⟨c + 1, _, r12, hc6, by simp, E13.out.1, TK12, E13.out.2⟩, measM_dec _ _ hc6⟩
                            | false =>
                              go_wp2_with fail
                              refine IB.out.mono ?_
                              rintro e w12 ⟨v12, r12, B, d, hd, hdn, rfl, h12, f12, o12, hB, _, _⟩
                              obtain ⟨hd1, hd2⟩ := DD.out d hd hdn
                              rw [hd2] at hB
                              have hB0 : B.length = 0 := by
                                have := congrArg List.length hB
                                simpa using this
                              rw [hB0] at o12
                              rw [hd1]
                              obtain ⟨xa, xk, rfl, _⟩ := owns_shape o12
                              have E12 := Hid.mk' (And.intro h12 (EV12.out.fr f12))
                              clear IB DD h12 f12 o12 hB hB0 hd hdn hd1 hd2 EV12
                              go_wp2_with fail
                              go_loopw [33] (fun i W => i = .int .i64 0 ∧ Hid (Gr w12 W)) (fun _ _ => 0)
                              case atStart => exact ⟨rfl, Gr.refl _⟩
                              case round =>
                                obtain ⟨rfl, G13⟩ := hrel
                                have E13 := Hid.mk' (And.intro (E12.out.1.gr G13.out) (E12.out.2.fr (Fr.gr (r := r12) G13.out)))
                                go_wp2_with fail
                                exact ⟨⟨c + 1, _, r12, hc6, by simp, E13.out.1, TK12, E13.out.2⟩, measM_dec _ _ hc6⟩
                    · have hce : c = 6 := by omega
                      subst hce
                      have E11 : Hid (Hst w wr T nxt rank home r11 cs11 s10 n10 (M4 + (j + 1) * (T.nb + 1)) L (.slice va L.length vk) l ∧ ∀ d ∈ cs11, d.at' = home d.num ∧ d.lost = 0 ∧ d.box = []) := by
                        show _ ∧ _
                        rw [← HM8.out]
                        refine ⟨H11.out, fun d hd => ?_⟩
                        have h1 := H11.out.D.mem hd
                        have h2 := TK11.out d hd
                        exact ⟨h1.2.2, h2.1, h2.2.1 (by omega)⟩
                      clear H11 TK11 EV11 hc hc6
                      go_wp2_with fail
                      exact ⟨⟨j + 1, s10, cs11, r11, n10, hjl, by simp, E11.out.1, Q10, E11.out.2⟩, measM_dec _ _ hjl⟩
            · go_wp2_with fail
              go_ret
              exact ⟨rfl, H6.out.F⟩
end Go.Proofs.YtecnfgikbmcgoaaGreat
