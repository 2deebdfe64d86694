import Derived.Test.YtecnfgikbmcgoaaGreatG33
import Derived.Conc.SmallLaws
import Derived.Test.YtecnfgikbmcgoaaGreatG10
import Derived.Test.YtecnfgikbmcgoaaGreatG2
import Derived.Deep.QuietTactic
import Derived.BigQuiet
import Derived.Test.YtecnfgikbmcgoaaGreatG9
namespace Go.Proofs.YtecnfgikbmcgoaaGreat
open Go.RowKit
open Go.Maps (Keyed)
open Go.ChangeMaps (setBlock)

theorem Tryz.infoEvC : (Tryz.prog.info? 65).map (fun i => (i.zero, i.size, i.bytes)) = some (some (.slice none 0 0), 1, 24) := by kernel_rfl
theorem mkInbox (w : World) : (Instr.makeChan 124 (.int .i64 16)).run Tryz.prog w = .ok (.chan (some w.heap.size)) (w.alloc (.chan 16 #[] false 0 0 false)) := by
  obtain ⟨i, hi, _, _, hb⟩ := info_parts Tryz.infoEvC
  simpa using Go.Conc.run_makeChan (P := Tryz.prog) (w := w) Tryz.underlying124 hi .i64 16 (by omega) (by rw [hb]; omega)
set_option maxRecDepth 100000 in
theorem newInbox_any (w : World) : Calls Tryz.prog 87 #[] w fun e w' => e = .returned (.chan (some w.heap.size)) ∧ w' = w.alloc (.chan 16 #[] false 0 0 false) := by
  have hmk := mkInbox
  go_enter Tryz.func87, Tryz.ntmps87
  go_wp2_with fail
  go_ret
  exact ⟨rfl, rfl⟩
set_option maxRecDepth 100000 in
theorem newClient_any (b : Nat) (w : World) : Calls Tryz.prog 74 #[.int .i64 b] w fun e w' => e = .returned (.pointer (some ⟨w.heap.size + 1, 0, none⟩)) ∧ w' = (w.alloc (.chan 16 #[] false 0 0 false)).alloc (.cells #[.int .i64 b, .chan (some w.heap.size), .int .i64 0] 126) := by
  go_enter Tryz.func74, Tryz.ntmps74
  go_wp2_with fail
  refine (newInbox_any w).mono ?_
  rintro e w1 ⟨rfl, rfl⟩
  go_wp2_with fail
  go_ret
  exact ⟨by simp, rfl⟩
set_option maxRecDepth 100000 in
set_option maxHeartbeats 4000000 in
theorem hasBroker_in (T : Tc) (r : Nat → Rl) (w : World) (b : Nat) (h : Tb T r w) (hb : b < T.nb) : Calls Tryz.prog 39 #[.pointer (some ⟨T.TB, 0, none⟩), .int .i64 b] w fun e w' => e = .returned (.bool true) ∧ Gr w w' := by
  have c0 := h.c0
  have hnb := h.nb8
  have h1 : (0 : Int) ≤ (b : Int) := by omega
  have h2 : (b : Int) < (T.nb : Int) := by omega
  go_enter Tryz.func39, Tryz.ntmps39
  go_wp2_with fail
  go_ret
  exact ⟨rfl, Gr.refl _⟩
/-- A client comes. -/
theorem Tm.attach {T : Tc} {r : Nat → Rl} {w : World} {Xs : Nat → List Hm} {qs : Nat → Nat → List Mm} {cls : List Cl} (h : Tm T r w Xs qs cls) (c : Int) (b : Nat) (hc : I64 c) (hb : b < T.nb) (_hn : ∀ x ∈ cls, x.num ≠ c) {w1 : World} (g : Gr w w1) {w2 : World} (hw2 : w2 = (w1.alloc (.chan 16 #[] false 0 0 false)).alloc (.cells #[.int .i64 b, .chan (some w1.heap.size), .int .i64 0] 126))
    {w3 : World} (g3 : Gr w2 w3) {es : Array MapEntry} {clock : Nat} (hm : Mp Tryz.prog 3 (setBlock w3 T.CB (.map es clock)) T.CB (cls.map cv ++ [(.int .i64 c, .pointer (some ⟨w1.heap.size + 1, 0, none⟩))]) es clock) :
    ∃ r', Tm T r' (setBlock w3 T.CB (.map es clock)) Xs qs (cls ++ [⟨c, b, w1.heap.size + 1, w1.heap.size, 0, []⟩]) ∧ Fr r r' w (setBlock w3 T.CB (.map es clock)) := by
  have g2 : Gr w1 w2 := by rw [hw2]; exact ((Gr.refl w1).alloc _).alloc _
  have gg := Gr.call (Gr.call g g2) g3
  have s2 : w2.heap.size = w1.heap.size + 2 := by rw [hw2]; simp
  have hcm : r T.CB = .cm := h.k.cm
  have hlt : T.CB < w.heap.size := h.b.lt (by rw [hcm]; exact fun e => by cases e)
  have hs : w.heap.size ≤ (setBlock w3 T.CB (.map es clock)).heap.size := by simp only [setBlock]; simpa using gg.size
  have hkeep : ∀ k, k < w.heap.size → r k ≠ .cm → (setBlock w3 T.CB (.map es clock)).heap[k]? = w.heap[k]? := fun k hk h1 => (setBlock_other (fun e => h1 (by rw [e]; exact hcm))).trans (gg.block k hk)
  have hsz := g.size
  have hch : (setBlock w3 T.CB (.map es clock)).heap[w1.heap.size]? = some (.chan 16 #[] false 0 0 false) := by
    rw [setBlock_other (by omega), g3.block _ (by omega), hw2, heap_alloc_old _ _ (by simp)]
    exact heap_alloc_new w1 _
  have hcl : (setBlock w3 T.CB (.map es clock)).heap[w1.heap.size + 1]? = some (.cells #[.int .i64 b, .chan (some w1.heap.size), .int .i64 0] 126 (0, 0)) := by
    rw [setBlock_other (by omega), g3.block _ (by omega), hw2]
    have := heap_alloc_new (w1.alloc (.chan 16 #[] false 0 0 false)) (.cells #[.int .i64 b, .chan (some w1.heap.size), .int .i64 0] 126)
    rw [show (w1.alloc (.chan 16 #[] false 0 0 false)).heap.size = w1.heap.size + 1 by simp] at this
    exact this
  have hs3 : (setBlock w3 T.CB (.map es clock)).heap.size = w3.heap.size := by simp [setBlock]
  have hsame : ∀ k, k < w.heap.size → (if k = w1.heap.size then Rl.ch c else if k = w1.heap.size + 1 then .cl c else r k) = r k := fun k hk => by rw [if_neg (by omega), if_neg (by omega)]
  have htop : ∀ k, (setBlock w3 T.CB (.map es clock)).heap.size ≤ k → (if k = w1.heap.size then Rl.ch c else if k = w1.heap.size + 1 then .cl c else r k) = .no := fun k hk => by
    have := g3.size
    rw [if_neg (by omega), if_neg (by omega)]; exact h.b.top k (by omega)
  refine ⟨fun k => if k = w1.heap.size then .ch c else if k = w1.heap.size + 1 then .cl c else r k, ⟨h.b.keep hs (fun k hk hr => hkeep k hk ?_) hsame htop, h.h.keep hs (fun k hk hr => hkeep k hk ?_) hsame, h.l.keep hs (fun k hk hr => hkeep k hk ?_) hsame, ⟨(hsame _ hlt).trans hcm, ⟨es, clock, by rw [List.map_append]; exact hm⟩, fun x hx => ?_, fun x hx => ?_, fun x hx => ?_, fun x hx y hy => ?_⟩⟩, ⟨gg.os, gg.tape, gg.output, hs, fun k hk hr => hkeep k hk ?_, hsame⟩⟩
  · rcases hr with hr | hr <;> (rw [hr]; exact fun e => by cases e)
  · rcases hr with hr | ⟨_, hr⟩ <;> (rw [hr]; exact fun e => by cases e)
  · rcases hr with hr | hr | ⟨_, _, hr⟩ <;> (rw [hr]; exact fun e => by cases e)
  · rcases List.mem_append.1 hx with hx | hx
    · exact h.k.num x hx
    · rw [List.mem_singleton.1 hx]; exact ⟨hc, hb⟩
  · rcases List.mem_append.1 hx with hx | hx
    · obtain ⟨k1, k2⟩ := h.k.blk x hx
      exact ⟨(hsame _ (blk_lt k2)).trans k1, (hkeep _ (blk_lt k2) (by rw [k1]; exact fun e => by cases e)).trans k2⟩
    · rw [List.mem_singleton.1 hx]
      exact ⟨by show (if w1.heap.size + 1 = w1.heap.size then _ else _) = _; rw [if_neg (by omega), if_pos rfl], hcl⟩
  · rcases List.mem_append.1 hx with hx | hx
    · obtain ⟨k1, s, q, tm, k2⟩ := h.k.chn x hx
      exact ⟨(hsame _ (blk_lt k2)).trans k1, s, q, tm, (hkeep _ (blk_lt k2) (by rw [k1]; exact fun e => by cases e)).trans k2⟩
    · rw [List.mem_singleton.1 hx]
      exact ⟨if_pos rfl, 0, 0, false, hch⟩
  · rcases List.mem_append.1 hx with hx | hx
    · exact (h.k.box x hx y hy).keep hs (fun k hk hr => hkeep k hk (by rw [hr]; exact fun e => by cases e)) hsame
    · rw [List.mem_singleton.1 hx] at hy; cases hy
  · rcases hr with hr | hr <;> (rw [hr]; exact fun e => by cases e)
theorem Tryz.zeroC (w : World) : (zeroValue 113).run Tryz.prog w = .ok (.pointer none) w := Tryz.zeroValue113 w
set_option maxRecDepth 100000 in
set_option maxHeartbeats 4000000 in
theorem Attach_new (T : Tc) (r : Nat → Rl) (w : World) (cls : List Cl) (s : Ts) (c : Int) (b : Nat) (hT : Tw T r w cls s) (hc : I64 c) (hb : b < T.nb) (hn : ∀ x ∈ cls, x.num ≠ c) (hl : cls.length < 16) :
    Calls Tryz.prog 36 #[.pointer (some ⟨T.TB, 0, none⟩), .int .i64 c, .int .i64 b] w fun e w' => e = .returned (.int .i64 0) ∧ ∃ r' k h, Tw T r' w' (cls ++ [⟨c, b, k, h, 0, []⟩]) s ∧ Fr r r' w w' := by
  obtain ⟨Xs, qs, hT, hV⟩ := hT
  obtain ⟨es, clock, hmp⟩ := hT.k.mp
  obtain ⟨lk, hlk⟩ := keyI c hc
  have hno : ∀ v, (Value.int .i64 c, v) ∉ cls.map cv := by
    intro v hv'
    obtain ⟨x, hx, e⟩ := List.mem_map.1 hv'
    injection e with e1 e2
    injection e1 with e1 e3
    exact hn x hx e3
  have HB := Hid.mk' (hasBroker_in T r w b hT.b hb)
  have HT := Hid.mk' hT
  have HV := Hid.mk' hV
  have HMP := Hid.mk' hmp
  have HN := Hid.mk' hn
  have HNO := Hid.mk' hno
  have HC := Hid.mk' hc
  clear hT hV hmp hn hno hc
  go_enter Tryz.func36, Tryz.ntmps36
  go_wp2_with fail
  refine HB.out.mono ?_
  rintro e w1 ⟨rfl, g1⟩
  have hlu := Mp.look_no Tryz.keyedI Tryz.underlying116 (HMP.out.kept (g1.block _ HMP.out.lt)) hlk HNO.out Tryz.zeroC true
  have T1 := HT.out.gr g1
  have c1 := T1.b.c1
  have hblk := (HMP.out.kept (g1.block _ HMP.out.lt)).blk
  have hsz : es.size = cls.length := by
    have := congrArg List.length HMP.out.ent
    simpa using this
  have G1 := Hid.mk' g1
  have hlen : (Builtin.len_ #[116] 3 #[.map (some T.CB)]).run Tryz.prog w1 = .ok (.int .i64 (cls.length : Nat)) w1 := by
    simp [Builtin.len_, run_underlying Tryz.underlying116, getObj, Sem.run, hblk, hsz, goInt]
  have hTB := T1.tlt
  clear HB T1 g1
  obtain ⟨hup, hM'⟩ := Mp.put_new (v := .pointer (some ⟨w1.heap.size + 1, 0, none⟩)) Tryz.keyedI Tryz.underlying116 (HMP.out.kept (w' := ((w1.alloc (.chan 16 #[] false 0 0 false)).alloc (.cells #[.int .i64 b, .chan (some w1.heap.size), .int .i64 0] 126)).drew) (((G1.out.alloc _).alloc _).drew.block _ HMP.out.lt)) hlk HNO.out
  have FIN := Tm.attach HT.out c b HC.out hb HN.out G1.out rfl ((Gr.refl _).drew) hM'
  have HF := Hid.mk' FIN
  clear FIN hM'
  go_wp2_with fail
  go_region_with (go_at_call 74; refine (newClient_any b _).mono ?_; rintro e w2 ⟨rfl, rfl⟩)
  all_goals
    go_wp2_with fail
    go_ret
    obtain ⟨r', z1, z2⟩ := HF.out
    exact ⟨rfl, r', _, _, ⟨Xs, qs, z1, HV.out⟩, z2⟩
end Go.Proofs.YtecnfgikbmcgoaaGreat
namespace Go.Proofs.YtecnfgikbmcgoaaGreat
open Go.RowKit

set_option maxHeartbeats 1000000 in
theorem refCheck_any (l : List Wnt) (b off cap : Nat) (w : World) (hl : l.length ≤ maxLen) (hb : b < w.heap.size) (hat : WantsAt w b off l) (hwf : ∀ x ∈ l, Wnt.Wf x) :
    Calls Tryz.prog 94 #[.slice (some ⟨b, off, none⟩) l.length cap] w fun e w' => e = .returned (.int .i64 (chk l)) ∧ Gr w w' := by
  unfold maxLen at hl
  have HC : Hid (WantsAt w b off l) := hat
  have HF : Hid (∀ x ∈ l, Wnt.Wf x) := hwf
  clear hat hwf
  go_enter Tryz.func94, Tryz.ntmps94
  go_wp2
  · go_ret; exact ⟨ret_int (chk_size ‹_›).symm, Gr.refl _⟩
  · go_loopw [3] (fun i wr => ∃ k : Nat, k ≤ l.length ∧ i = .int .i64 k ∧ Gr w wr ∧ Hid ((l.take k).all wOk = true)) (fun i _ => l.length - (intOf i).toNat)
    case atStart => exact ⟨0, Nat.zero_le _, rfl, Gr.refl _, rfl⟩
    case round =>
      obtain ⟨k, hk, rfl, g, HA⟩ := hrel
      by_cases hlt : k < l.length
      · obtain ⟨c1, c2, c3, c4, c5⟩ := (HC.out.gr g hb) k hlt
        go_wp2_with fail
        refine (WantOf_any _ _ _ _ _ _ (HF.out _ (wat_mem hlt)).a).mono ?_
        rintro e w1 ⟨rfl, hb1⟩
        have g1 : Gr w w1 := Gr.call g hb1
        clear c1 c2 c3 c4 c5
        go_wp2
        · go_ret
          refine ⟨ret_int (chk_stop k hlt ?_).symm, g1⟩
          simpa [wOk] using ‹(!wantOk _ _ _ _ _) = true›
        · go_roundw
          case rel =>
            refine ⟨k + 1, by omega, by go_num, g1, all_snoc wOk l k dW hlt HA.out ?_⟩
            simpa [wOk, wat] using ‹(!wantOk _ _ _ _ _) = false›
          case measure => simp [intOf]; omega
      · go_wp2
        go_ret
        exact ⟨ret_int (chk_end k hlt (by omega) (by omega) HA.out).symm, g⟩
  · go_ret; exact ⟨ret_int (chk_size (Or.inl ‹_›)).symm, Gr.refl _⟩

set_option maxHeartbeats 2000000 in
theorem CheckEvent_any (l : List Atr) (b off cap : Nat) (w : World) (hl : l.length ≤ maxLen) (hb : b < w.heap.size) (hat : AttrsAt w b off l) (hwf : ∀ x ∈ l, Atr.Wf x) :
    Calls Tryz.prog 53 #[.slice (some ⟨b, off, none⟩) l.length cap] w fun e w' => e = .returned (.int .i64 (chkE l)) ∧ Gr w w' := by
  unfold maxLen at hl
  have HC : Hid (AttrsAt w b off l) := hat
  have HF : Hid (∀ x ∈ l, Atr.Wf x) := hwf
  clear hat hwf
  go_enter Tryz.func53, Tryz.ntmps53
  go_wp2
  · go_ret; exact ⟨ret_int (chkE_size ‹_›).symm, Gr.refl _⟩
  · go_loopw [15] (fun i wr => ∃ k : Nat, k ≤ l.length ∧ i = .int .i64 k ∧ Gr w wr ∧ Hid ((List.range k).all (okAt l) = true)) (fun i _ => l.length - (intOf i).toNat)
    case atStart => exact ⟨0, Nat.zero_le _, rfl, Gr.refl _, rfl⟩
    case round =>
      obtain ⟨k, hk, rfl, g, HA⟩ := hrel
      by_cases hlt : k < l.length
      · obtain ⟨c1, c2, c3, c4⟩ := (HC.out.gr g hb) k hlt
        have hb' := g.lt hb
        cases hn : nameOk (aat l k).a
        · go_wp2_with (go_at_call 88; refine (goodName_any _ _ (HF.out _ (aat_mem hlt)).a).mono ?_; rw [hn]; rintro e w' ⟨rfl, rfl⟩)
          go_ret
          exact ⟨ret_int (chkE_stop k hlt (by simp [okAt, hn])).symm, g.alloc _⟩
        · cases hv : valOk (aat l k).k (aat l k).n (aat l k).s
          · go_wp2_with (first | (go_at_call 88; refine (goodName_any _ _ (HF.out _ (aat_mem hlt)).a).mono ?_; rw [hn]; rintro e w' ⟨rfl, rfl⟩) | (go_at_call 89; refine (goodValue_any _ _ _ _).mono ?_; rw [hv]; rintro e w1 ⟨rfl, hb1⟩))
            go_ret
            exact ⟨ret_int (chkE_stop k hlt (by simp [okAt, hv])).symm, Gr.call (g.alloc _) hb1⟩
          · go_wp2_with (first | (go_at_call 88; refine (goodName_any _ _ (HF.out _ (aat_mem hlt)).a).mono ?_; rw [hn]; rintro e w' ⟨rfl, rfl⟩) | (go_at_call 89; refine (goodValue_any _ _ _ _).mono ?_; rw [hv]; rintro e w1 ⟨rfl, hb1⟩; obtain ⟨hc1, hf1⟩ := bcell hb1))
            have gz : Gr w w1 := Gr.call (g.alloc _) hb1
            have hbz := gz.lt hb
            have q1 : w1.cell? ⟨wr.heap.size, 0, none⟩ = some (.string (aat l k).a) := by rw [hc1 _ _ (by simp)]; simp [go_sem]
            clear hc1 hf1 c1 c2 c3 c4
            by_cases hk0 : k = 0
            · have hd : decide (0 < (k : Int)) = false := by simp; omega
              have HO : Hid (okAt l k = true) := by
                show _ = _
                simp only [okAt, hn, hv, show (k == 0) = true by simpa using hk0, Bool.true_or, Bool.and_self]
              go_quiet (fail)
              go_wp2
              go_roundw
              case rel => exact ⟨k + 1, by omega, by subst hk0; rfl, gz.drewN _, range_snoc k HA.out HO.out⟩
              case measure => simp [intOf]; omega
            · obtain ⟨p1, p2, p3, p4⟩ := (HC.out.gr gz hb) (k - 1) (by omega)
              have hi0 : 0 < k := by omega
              have hd : decide (0 < k) = true := by simpa using hi0
              clear hk0
              have hw1 : IntKind.i64.wrap ((k : Int) - 1) = ((k - 1 : Nat) : Int) := by rw [IntWalk.i64_in _ (by omega)]; omega
              have hi1 : (0 : Int) < (k : Int) := by omega
              have hi4 : ((k - 1 : Nat) : Int) < (l.length : Int) := by omega
              have hi5 : k - 1 < l.length := by omega
              have hi2 : (0 : Int) ≤ (k : Int) - 1 := by omega
              have hi3 : (k : Int) - 1 < (l.length : Int) := by omega
              have HO : Hid (okAt l k = Op.bytesLess (aat l (k - 1)).a.toList (aat l k).a.toList) := by
                show _ = _
                simp [okAt, hn, hv, show (k == 0) = false by simp; omega]
              go_quiet (fail)
              go_wp2
              · go_ret
                refine ⟨ret_int (chkE_stop k hlt ?_).symm, gz.drewN _⟩
                rw [HO.out]
                simpa using ‹(!Op.bytesLess _ _) = true›
              · go_roundw
                case rel =>
                  refine ⟨k + 1, by omega, by go_num, gz.drewN _, range_snoc k HA.out ?_⟩
                  rw [HO.out]
                  simpa using ‹(!Op.bytesLess _ _) = false›
                case measure => simp [intOf]; omega
      · go_wp2
        go_ret
        exact ⟨ret_int (chkE_end k hlt hk (by omega) (by omega) HA.out).symm, g⟩
  · go_ret; exact ⟨ret_int (chkE_size (Or.inl ‹_›)).symm, Gr.refl _⟩
end Go.Proofs.YtecnfgikbmcgoaaGreat
namespace Go.Proofs.YtecnfgikbmcgoaaGreat
open Go.RowKit

set_option maxHeartbeats 1000000 in
theorem answers_any (l : List Atr) (x : Wnt) (b off cap : Nat) (m : Int) (w : World) (hl : l.length ≤ maxLen) (hb : b < w.heap.size) (hat : AttrsAt w b off l) (hv : ∀ z ∈ l, valOk z.k z.n z.s = true) (hx : wOk x = true) (hM : Ml m w) :
    Calls Tryz.prog 118 #[.slice (some ⟨b, off, none⟩) l.length cap, .agg #[.string x.a, .int .i64 x.y, .int .i64 x.k, .int .i64 x.n, .string x.s]] w
      fun e w' => e = .returned (.bool (ans l x)) ∧ Gr w w' := by
  unfold maxLen at hl
  have HC : Hid (AttrsAt w b off l) := hat
  have HV : Hid (∀ z ∈ l, valOk z.k z.n z.s = true) := hv
  have HX : Hid (wayOk x.y x.k x.n x.s = true) := by
    show _ = _
    simp [wOk, wantOk] at hx; exact hx.2
  clear hat hv hx
  go_enter Tryz.func118, Tryz.ntmps118
  go_wp2
  go_loopw [9] (fun i wr => ∃ k : Nat, k ≤ l.length ∧ i = .int .i64 k ∧ Gr (w.alloc (.cells #[.string x.a, .int .i64 x.y, .int .i64 x.k, .int .i64 x.n, .string x.s] 76)) wr ∧ Hid (ans (l.drop k) x = ans l x)) (fun i _ => l.length - (intOf i).toNat)
  case atStart => exact ⟨0, Nat.zero_le _, rfl, Gr.refl _, rfl⟩
  case round =>
    obtain ⟨k, hk, rfl, g, HA⟩ := hrel
    have gw : Gr w wr := Gr.call ((Gr.refl w).alloc _) g
    by_cases hlt : k < l.length
    · obtain ⟨c1, c2, c3, c4⟩ := (HC.out.gr gw hb) k hlt
      have hb' := gw.lt hb
      have hzr : w.heap.size < wr.heap.size := g.lt (by simp)
      have x1 : wr.cell? ⟨w.heap.size, 0, none⟩ = some (.string x.a) := by rw [(bcell g).1 _ _ (by simp)]; simp [go_sem]
      have x2 : wr.cell? ⟨w.heap.size, 1, none⟩ = some (.int .i64 x.y) := by rw [(bcell g).1 _ _ (by simp)]; simp [go_sem]
      have x3 : wr.cell? ⟨w.heap.size, 1 + 1, none⟩ = some (.int .i64 x.k) := by rw [(bcell g).1 _ _ (by simp)]; simp [go_sem]
      have x4 : wr.cell? ⟨w.heap.size, 1 + 1 + 1, none⟩ = some (.int .i64 x.n) := by rw [(bcell g).1 _ _ (by simp)]; simp [go_sem]
      have x5 : wr.cell? ⟨w.heap.size, 1 + 1 + 1 + 1, none⟩ = some (.string x.s) := by rw [(bcell g).1 _ _ (by simp)]; simp [go_sem]
      cases hn : ((aat l k).a.toList == x.a.toList)
      · have HN := ans_next (x := x) k hlt hn
        have HN' : Hid (ans (l.drop (k + 1)) x = ans l x) := by
          show _ = _
          rw [← HN]; exact HA.out
        clear HN
        go_wp2_with fail
        clear c1 c2 c3 c4 x1 x2 x3 x4 x5
        go_roundw
        case rel => exact ⟨k + 1, by omega, by go_num, g.alloc _, HN'⟩
        case measure => simp [intOf]; omega
      · have HN : Hid (ans l x = lets x.y x.k x.n x.s (aat l k).k (aat l k).n (aat l k).s) := by
          show _ = _
          rw [← HA.out]; exact ans_here k hlt hn
        go_wp2_with fail
        refine (letsBy_any _ _ _ _ _ _ _ _ m _ HX.out (HV.out _ (aat_mem hlt)) ((gw.ml hM).alloc _)).mono ?_
        rintro e w1 ⟨rfl, hb1⟩
        go_wp2_with fail
        go_ret
        exact ⟨ret_bool (by rw [HN.out]), Gr.call (gw.alloc _) hb1⟩
    · go_wp2
      go_ret
      refine ⟨ret_bool ?_, gw⟩
      rw [← HA.out, ans_end k hlt]

set_option maxHeartbeats 1000000 in
theorem matches_any (f : List Wnt) (l : List Atr) (b' off' cap' b off cap : Nat) (m : Int) (w : World) (hf : f.length ≤ maxLen) (hl : l.length ≤ maxLen) (hb' : b' < w.heap.size) (hat' : WantsAt w b' off' f) (hb : b < w.heap.size) (hat : AttrsAt w b off l)
    (hv : ∀ z ∈ l, valOk z.k z.n z.s = true) (hx : ∀ x ∈ f, wOk x = true) (hM : Ml m w) :
    Calls Tryz.prog 92 #[.slice (some ⟨b', off', none⟩) f.length cap', .slice (some ⟨b, off, none⟩) l.length cap] w
      fun e w' => e = .returned (.bool (mat l f)) ∧ Gr w w' := by
  have HL : Hid (l.length ≤ maxLen) := hl
  unfold maxLen at hl hf
  have HC : Hid (AttrsAt w b off l) := hat
  have HC' : Hid (WantsAt w b' off' f) := hat'
  have HV : Hid (∀ z ∈ l, valOk z.k z.n z.s = true) := hv
  have HX : Hid (∀ x ∈ f, wOk x = true) := hx
  clear hat hv hx hat'
  go_enter Tryz.func92, Tryz.ntmps92
  go_wp2
  go_loopw [9] (fun i wr => ∃ k : Nat, k ≤ f.length ∧ i = .int .i64 k ∧ Gr w wr ∧ Hid ((f.take k).all (ans l) = true)) (fun i _ => f.length - (intOf i).toNat)
  case atStart => exact ⟨0, Nat.zero_le _, rfl, Gr.refl _, rfl⟩
  case round =>
    obtain ⟨k, hk, rfl, g, HA⟩ := hrel
    by_cases hlt : k < f.length
    · obtain ⟨c1, c2, c3, c4, c5⟩ := (HC'.out.gr g hb') k hlt
      have hbr := g.lt hb'
      go_wp2_with fail
      refine (answers_any l (wat f k) _ _ _ m _ HL.out (Gr.lt (g.alloc _) hb) (HC.out.gr (g.alloc _) hb) HV.out (HX.out _ (wat_mem hlt)) ((g.ml hM).alloc _)).mono ?_
      rintro e w1 ⟨rfl, hb1⟩
      have g1 : Gr w w1 := Gr.call (g.alloc _) hb1
      clear c1 c2 c3 c4 c5
      go_wp2
      · go_ret
        refine ⟨ret_bool (all_stop _ f k dW hlt ?_).symm, g1⟩
        simpa [wat] using ‹(!(ans l _)) = true›
      · go_roundw
        case rel =>
          refine ⟨k + 1, by omega, by go_num, g1, all_snoc _ f k dW hlt HA.out ?_⟩
          simpa [wat] using ‹(!(ans l _)) = false›
        case measure => simp [intOf]; omega
    · go_wp2
      go_ret
      exact ⟨ret_bool (all_end _ f k hlt HA.out).symm, g⟩
end Go.Proofs.YtecnfgikbmcgoaaGreat
