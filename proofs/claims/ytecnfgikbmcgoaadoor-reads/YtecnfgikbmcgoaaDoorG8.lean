import Derived.Test.YtecnfgikbmcgoaaDoorG7
import Derived.Test.YtecnfgikbmcgoaaDoorG2
import Derived.Test.YtecnfgikbmcgoaaDoorG0
import Derived.Laws.IdiomStrings
namespace Go.Proofs.YtecnfgikbmcgoaaDoor
open Go.RowKit

def encA (z : Atr) : List UInt8 := encS z.a ++ encV z.k z.n z.s
def encE (l : List Atr) : List UInt8 := 69 :: UInt8.ofNat l.length :: l.flatMap encA
theorem name_size' {a : ByteArray} (h : nameOk a = true) : a.size ≤ 16 := by
  simp [nameOk] at h; omega
theorem ev_at {l : List Atr} (h : evOk l = true) {i : Nat} (hi : i < l.length) : nameOk (aat l i).a = true ∧ valOk (aat l i).k (aat l i).n (aat l i).s = true := by
  simp only [evOk, Bool.and_eq_true, List.all_eq_true, List.mem_range] at h
  have := h.2 i hi
  simp only [okAt, Bool.and_eq_true] at this
  exact ⟨this.1.1, this.1.2⟩
theorem ev_len {l : List Atr} (h : evOk l = true) : 1 ≤ l.length ∧ l.length ≤ 8 := by
  simp only [evOk, Bool.and_eq_true, decide_eq_true_eq] at h
  omega
theorem flat_take (l : List Atr) (i : Nat) (h : i < l.length) : (l.take (i + 1)).flatMap encA = (l.take i).flatMap encA ++ encA (aat l i) := by
  have e : aat l i = l[i] := by simp [aat, List.getD_eq_getElem?_getD, List.getElem?_eq_getElem h]
  rw [List.take_succ_eq_append_getElem h, List.flatMap_append, e]; simp
theorem Kp.drew {ts : List TypeId} {base : Nat} {a w : World} (h : Kp ts base a w) : Kp ts base a w.drew := ⟨h.be.drew, h.kp⟩
theorem Br.drew {base : Nat} {w : World} {v : Value} {l : List UInt8} (h : Br base w v l) : Br base w.drew v l := h
theorem putString_s (wz : World) (l : List UInt8) (s : ByteArray) (v : Value) (base : Nat) (w : World) (hl : l.length ≤ 1048576) (hs : s.size ≤ 255) (hle : base ≤ wz.heap.size) (hb : Br base w v l) (hk : Kp tsU base wz w) :
    Calls Tryd.prog 53 #[v, .string s] w fun e w' => ∃ a k c, e = .returned (.slice a k c) ∧ Kp tsU base wz w' ∧ Br base w' (.slice a k c) (l ++ encS s) ∧ (∀ (k : Nat) (o : Obj), w.heap[k]? = some o → v.ownBlock ≠ some k → w'.heap[k]? = some o) :=
  (putString_any l s v base w hl hs (Nat.le_trans hle hk.size) hb).mono fun e w' ⟨v', h1, h2, h3, h4⟩ => by
    obtain ⟨a, k, c, rfl⟩ := owns_slice h3
    exact ⟨a, k, c, h1, hk.trans h2, h3, h4⟩
theorem putValue_s (wz : World) (l : List UInt8) (k n : Int) (s : ByteArray) (v : Value) (base : Nat) (w : World) (hl : l.length ≤ 1000000) (hok : valOk k n s = true) (hle : base ≤ wz.heap.size) (hb : Br base w v l) (hk : Kp tsU base wz w) :
    Calls Tryd.prog 52 #[v, .agg #[.int .i64 k, .int .i64 n, .string s]] w fun e w' => ∃ a k' c, e = .returned (.slice a k' c) ∧ Kp tsU base wz w' ∧ Br base w' (.slice a k' c) (l ++ encV k n s) :=
  (putValue_any l k n s v base w hl hok (Nat.le_trans hle hk.size) hb).mono fun e w' ⟨v', h1, h2, h3⟩ => by
    obtain ⟨a, k', c, rfl⟩ := owns_slice h3
    exact ⟨a, k', c, h1, hk.trans h2, h3⟩
theorem val_sz {k n : Int} {s : ByteArray} (h : valOk k n s = true) : s.size ≤ 32 := by
  have e : s.size = s.toList.length := by rw [ByteArray.toList_eq]; rfl
  simp only [valOk, Bool.or_eq_true, Bool.and_eq_true, List.isEmpty_iff, decide_eq_true_eq] at h
  rcases h with (⟨_, h⟩ | ⟨_, h⟩) | ⟨⟨_, h⟩, _⟩
  · rw [e, h]; simp
  · omega
  · rw [e, h]; simp
theorem encA_le {z : Atr} (h1 : nameOk z.a = true) (h3 : z.s.size ≤ 32) : (encA z).length ≤ 51 := by
  have := name_size' h1
  have := encV_len (k := z.k) (n := z.n) h3
  simp only [encA, List.length_append, encS_len]
  omega
set_option maxRecDepth 100000 in
set_option maxHeartbeats 4000000 in
theorem putEvent_any (l : List Atr) (ad : Option Addr) (cap : Nat) (base : Nat) (w : World) (hle : base ≤ w.heap.size) (h : EvAt w ad l) (hE : ∀ b off, ad = some ⟨b, off, none⟩ → b < base) (hok : evOk l = true) :
    Calls Tryd.prog 27 #[.slice none 0 0, .slice ad l.length cap] w fun e w' => ∃ v', e = .returned v' ∧ Kp tsU base w w' ∧ Br base w' v' (encE l) := by
  have HO := Hid.mk' hok
  obtain ⟨h1, h8⟩ := ev_len hok
  rcases h with rfl | ⟨b, off, rfl, hb, hat⟩
  · simp at h1
  have hbb := hE b off rfl
  have HAT := Hid.mk' hat
  clear hat hok hE
  go_enter Tryd.func27, Tryd.ntmps27
  go_wp2_with (at_builtin; refine wp_bytes _ rfl _ _ rfl base [] [69, UInt8.ofNat l.length] _ [.int .u8 69, .int .u8 l.length] w.heap.size 2 rfl rfl (heap_alloc_new _ _) ?c1 rfl (World.ownsRow_nil _ _ _ _) (by simp) (by simp; omega) ?_)
  case c1 => simp [bcs]; omega
  intro a1 k1 c1 w1 O1 B1
  have O2 := Hid.mk' O1
  have B2 := Hid.mk' (((Kp.refl tsU base w).alloc hle _).trans B1)
  clear O1 B1
  go_wp2_with fail
  go_loopw [0, 15] (fun v i wr => ∃ q : Nat, q ≤ l.length ∧ i = .int .i64 q ∧ Hid (Kp tsU base w wr) ∧ Hid (Br base wr v ([69, UInt8.ofNat l.length] ++ (l.take q).flatMap encA)) ∧ Hid (((l.take q).flatMap encA).length ≤ q * 51)) (fun _ i _ => l.length - (intOf i).toNat)
  case atStart => exact ⟨0, Nat.zero_le _, rfl, B2, O2, by simp [Hid]⟩
  case round =>
    clear O2 B2
    obtain ⟨q, hq, rfl, B, O, L⟩ := hrel
    obtain ⟨xa, xm, xk, rfl⟩ := owns_slice O.out
    by_cases hlt : q < l.length
    · have hbw : b < wr.heap.size := Nat.lt_of_lt_of_le hb B.out.size
      obtain ⟨d1, d2, d3, d4⟩ := HAT.out q hlt
      have ee : ∀ o, wr.cell? ⟨b, o, none⟩ = w.cell? ⟨b, o, none⟩ := fun o => B.out.be.cell (p := ⟨b, o, none⟩) hbb
      rw [← ee] at d1 d2 d3 d4
      obtain ⟨hn1, hv1⟩ := ev_at HO.out hlt
      have HV := Hid.mk' hv1
      have hsn := name_size' hn1
      have hle1 : base ≤ wr.heap.size := Nat.le_trans hle B.out.size
      clear ee hv1
      go_wp2_with fail
      obtain ⟨wz, hz⟩ : ∃ wz, wz = wr.alloc (.cells #[.string (aat l q).a, .int .i64 (aat l q).k, .int .i64 (aat l q).n, .string (aat l q).s] 37) := ⟨_, rfl⟩
      have NZ : Hid (wz.heap[wr.heap.size]? = some (.cells #[.string (aat l q).a, .int .i64 (aat l q).k, .int .i64 (aat l q).n, .string (aat l q).s] 37 (0, 0))) := by
        show _ = _
        rw [hz]; exact heap_alloc_new _ _
      have BZ : Hid (Kp tsU base w wz) := by
        show Kp _ _ _ _
        rw [hz]; exact B.out.alloc hle1 _
      have OZ : Hid (Br base wz (.slice xa xm xk) ([69, UInt8.ofNat l.length] ++ (l.take q).flatMap encA)) := by
        show Br _ _ _ _
        rw [hz]; exact O.out.alloc _
      have hlz : base ≤ wz.heap.size := Nat.le_trans hle BZ.out.size
      rw [← hz]
      have T : Hid (∀ w', Kp tsU base wz w' → (Kp tsU base wz w' ∧ w'.cell? ⟨wr.heap.size, 0, none⟩ = some (.string (aat l q).a) ∧ w'.cell? ⟨wr.heap.size, 1, none⟩ = some (.int .i64 (aat l q).k) ∧ w'.cell? ⟨wr.heap.size, 2, none⟩ = some (.int .i64 (aat l q).n) ∧ w'.cell? ⟨wr.heap.size, 3, none⟩ = some (.string (aat l q).s))) := by
        intro w' hk
        have hb' := hk.kp _ _ _ _ NZ.out (by decide)
        refine ⟨hk, ?_, ?_, ?_, ?_⟩ <;> rw [cell_of_row _ _ _ _ _ _ hb'] <;> rfl
      have hLq : ([69, UInt8.ofNat l.length] ++ (l.take q).flatMap encA).length ≤ 500 := by
        have := L.out
        simp only [List.length_append, List.length_cons, List.length_nil]
        omega
      have hL5 : ([69, UInt8.ofNat l.length] ++ (l.take q).flatMap encA ++ encS (aat l q).a).length ≤ 1000000 := by
        rw [List.length_append, encS_len]; omega
      have hA := encA_le hn1 (val_sz HV.out)
      clear hz d1 d2 d3 d4 O B
      go_region_held3 (fun w' => Kp tsU base wz w' ∧ w'.cell? ⟨wr.heap.size, 0, none⟩ = some (.string (aat l q).a) ∧ w'.cell? ⟨wr.heap.size, 1, none⟩ = some (.int .i64 (aat l q).k) ∧ w'.cell? ⟨wr.heap.size, 2, none⟩ = some (.int .i64 (aat l q).n) ∧ w'.cell? ⟨wr.heap.size, 3, none⟩ = some (.string (aat l q).s))
        (exact T.out _ (by first | assumption | exact (Kp.refl _ _ _).drew | exact Kp.refl _ _ _)) (first | (go_at_call 53; refine (putString_s wz _ _ _ base _ (by exact Nat.le_trans hLq (by decide)) (by omega) hlz (by exact OZ.out.drew) (by exact (show Kp tsU base wz _ ∧ _ by assumption).1)).mono ?_; rintro e w5 ⟨s1, s2, s3, rfl, k5, o5, _⟩; have O5 := Hid.mk' o5; clear o5) | (go_at_call 52; refine (putValue_s wz ([69, UInt8.ofNat l.length] ++ (l.take q).flatMap encA ++ encS (aat l q).a) _ _ _ _ base _ hL5 HV.out hlz (by exact O5.out) (by exact (show Kp tsU base wz _ ∧ _ by assumption).1)).mono ?_; rintro e w6 ⟨t1, t2, t3, rfl, k6, o6⟩; have O6 := Hid.mk' o6; clear o6))
      have K6 := Hid.mk' (BZ.out.trans k6)
      have O7 : Hid (Br base w6 (.slice t1 t2 t3) ([69, UInt8.ofNat l.length] ++ (l.take (q + 1)).flatMap encA)) := by
        have := O6.out
        show Br _ _ _ _
        simpa [flat_take l q hlt, encA, List.append_assoc] using this
      have L7 : Hid (((l.take (q + 1)).flatMap encA).length ≤ (q + 1) * 51) := by
        have := L.out
        show _ ≤ _
        rw [flat_take l q hlt, List.length_append]; omega
      clear k6 O6 k5 O5 BZ OZ L T NZ
      go_wp2_with fail
      go_roundw
      case rel => exact ⟨q + 1, by omega, by go_num, K6, O7, L7⟩
      case measure => simp [intOf]; omega
    · have hql : q = l.length := by omega
      subst hql
      rw [List.take_length] at O
      go_wp2_with fail
      go_ret
      exact ⟨_, rfl, B.out, O.out⟩
end Go.Proofs.YtecnfgikbmcgoaaDoor
namespace Go.Proofs.YtecnfgikbmcgoaaDoor
open Go.RowKit

set_option maxHeartbeats 1000000 in
theorem Check_any (l : List Wnt) (b off cap : Nat) (w : World) (hl : l.length ≤ maxLen) (hb : b < w.heap.size) (hat : WantsAt w b off l) (hwf : ∀ x ∈ l, Wnt.Wf x) :
    Calls Tryd.prog 29 #[.slice (some ⟨b, off, none⟩) l.length cap] w fun e w' => e = .returned (.int .i64 (chk l)) ∧ Gr w w' := by
  unfold maxLen at hl
  have HC : Hid (WantsAt w b off l) := hat
  have HF : Hid (∀ x ∈ l, Wnt.Wf x) := hwf
  clear hat hwf
  go_enter Tryd.func29, Tryd.ntmps29
  go_wp2
  · go_ret; exact ⟨ret_int (chk_size ‹_›).symm, Gr.refl _⟩
  · go_loopw [15] (fun i wr => ∃ k : Nat, k ≤ l.length ∧ i = .int .i64 k ∧ Gr w wr ∧ Hid ((l.take k).all wOk = true)) (fun i _ => l.length - (intOf i).toNat)
    case atStart => exact ⟨0, Nat.zero_le _, rfl, Gr.refl _, rfl⟩
    case round =>
      obtain ⟨k, hk, rfl, g, HA⟩ := hrel
      by_cases hlt : k < l.length
      · obtain ⟨c1, c2, c3, c4, c5⟩ := (HC.out.gr g hb) k hlt
        have hb' := g.lt hb
        go_wp2_with fail
        refine (goodWant_any _ _ _ _ _ _ (HF.out _ (wat_mem hlt)).a).mono ?_
        rintro e w1 ⟨rfl, hb1⟩
        have g1 : Gr w w1 := Gr.call (g.alloc _) hb1
        clear c1 c2 c3 c4 c5
        go_wp2
        · go_ret
          refine ⟨ret_int (chk_stop k hlt ?_).symm, g1⟩
          simpa [wOk] using ‹(!wantOk _ _ _ _ _) = true›
        · go_roundw
          case rel =>
            refine ⟨k + 1, by omega, by go_num, g1, all_snoc wOk l k dW hlt HA.out ?_⟩
            simpa [wOk, wat] using ‹(!wantOk _ _ _ _ _) = false›
          case measure => simp [intOf]; omega
      · go_wp2
        go_ret
        exact ⟨ret_int (chk_end k hlt (by omega) (by omega) HA.out).symm, g⟩
  · go_ret; exact ⟨ret_int (chk_size (Or.inl ‹_›)).symm, Gr.refl _⟩
end Go.Proofs.YtecnfgikbmcgoaaDoor
namespace Go.Proofs.YtecnfgikbmcgoaaDoor
open Go.RowKit

set_option maxHeartbeats 1000000 in
theorem Check_nil' (ad : Option Addr) (cap : Nat) (w : World) : Calls Tryd.prog 29 #[.slice ad 0 cap] w fun e w' => e = .returned (.int .i64 2) ∧ w' = w := by
  go_enter Tryd.func29, Tryd.ntmps29
  go_wp2
  go_ret
  exact ⟨rfl, rfl⟩
set_option maxHeartbeats 1000000 in
theorem CheckEvent_nil' (ad : Option Addr) (cap : Nat) (w : World) : Calls Tryd.prog 26 #[.slice ad 0 cap] w fun e w' => e = .returned (.int .i64 1) ∧ w' = w := by
  go_enter Tryd.func26, Tryd.ntmps26
  go_wp2
  go_ret
  exact ⟨rfl, rfl⟩
theorem CheckF (l : List Wnt) (ad : Option Addr) (cap : Nat) (w : World) (hl : l.length ≤ maxLen) (h : FiAt w ad l) (hwf : ∀ x ∈ l, Wnt.Wf x) :
    Calls Tryd.prog 29 #[.slice ad l.length cap] w fun e w' => e = .returned (.int .i64 (chk l)) ∧ Gr w w' := by
  rcases h with rfl | ⟨b, off, rfl, hb, hat⟩
  · exact (Check_nil' ad cap w).mono fun e w' ⟨h1, h2⟩ => ⟨h1, by rw [h2]; exact Gr.refl _⟩
  · exact Check_any l b off cap w hl hb hat hwf
theorem CheckE (l : List Atr) (ad : Option Addr) (cap : Nat) (w : World) (hl : l.length ≤ maxLen) (h : EvAt w ad l) (hwf : ∀ x ∈ l, Atr.Wf x) :
    Calls Tryd.prog 26 #[.slice ad l.length cap] w fun e w' => e = .returned (.int .i64 (chkE l)) ∧ Gr w w' := by
  rcases h with rfl | ⟨b, off, rfl, hb, hat⟩
  · exact (CheckEvent_nil' ad cap w).mono fun e w' ⟨h1, h2⟩ => ⟨h1, by rw [h2]; exact Gr.refl _⟩
  · exact CheckEvent_any l b off cap w hl hb hat hwf
set_option maxRecDepth 100000 in
theorem Br.conv {base : Nat} {w : World} {a : Option Addr} {m c : Nat} {l : List UInt8} (h : Br base w (.slice a m c) l) (h0 : 0 < l.length) : (convert 80 9 (.slice a m c)).run Tryd.prog w = .ok (.string ⟨l.toArray⟩) w := by
  obtain ⟨a', c', he, hs⟩ := owns_shape h
  obtain ⟨g, rfl⟩ := hs h0
  injection he with e1 e2 e3
  subst e1 e2 e3
  refine run_convert_bytes_back w 80 9 5 ⟨g, 0, none⟩ c l Tryd.underlying80 Tryd.underlying5 Tryd.underlying9 (fun j hj => ?_)
  rw [Addr.add_lit, Nat.zero_add, World.ownsRow.cellAt h j (by omega)]
  simp [bcs, hj]
/-- What is put of an event. -/
def putE (l : List Atr) : ByteArray := if evOk l then ⟨(encE l).toArray⟩ else ⟨#[]⟩
set_option maxRecDepth 100000 in
set_option maxHeartbeats 4000000 in
theorem PutEvent_any (l : List Atr) (ad : Option Addr) (cap : Nat) (w : World) (hl : l.length ≤ maxLen) (h : EvAt w ad l) (hwf : ∀ x ∈ l, Atr.Wf x) :
    Calls Tryd.prog 6 #[.slice ad l.length cap] w fun e w' => e = .returned (.tuple #[.string (putE l), .int .i64 (chkE l)]) ∧ Gr w w' := by
  have HE := Hid.mk' h
  have HW := Hid.mk' hwf
  have HL := Hid.mk' hl
  clear h hwf hl
  cases h1 : evOk l
  · have hc : chkE l = 1 := by simp [chkE, h1]
    have hp : putE l = ⟨#[]⟩ := by simp [putE, h1]
    rw [hp]
    go_enter Tryd.func6, Tryd.ntmps6
    go_wp2_with fail
    refine (CheckE l ad cap _ HL.out HE.out HW.out).mono ?_
    rw [hc]
    rintro e w1 ⟨rfl, g1⟩
    go_wp2_with fail
    go_ret2
    exact ⟨by rw [hc]; rfl, g1⟩
  · have hc : chkE l = 0 := by simp [chkE, h1]
    have hp : putE l = ⟨(encE l).toArray⟩ := by simp [putE, h1]
    rw [hp, hc]
    go_enter Tryd.func6, Tryd.ntmps6
    go_wp2_with fail
    refine (CheckE l ad cap _ HL.out HE.out HW.out).mono ?_
    rw [hc]
    rintro e w1 ⟨rfl, g1⟩
    go_wp2_with fail
    refine (putEvent_any l ad cap w1.heap.size w1 (Nat.le_refl _) (HE.out.gr g1) ?_ h1).mono ?_
    · intro b off hb
      rcases HE.out.gr g1 with h2 | ⟨b', off', e1, e2, _⟩
      · rw [h2] at h1; simp [evOk] at h1
      · rw [hb] at e1
        obtain ⟨rfl, rfl⟩ : b = b' ∧ off = off' := by simpa using e1
        exact e2
    rintro e w2 ⟨v2, rfl, k2, o2⟩
    have K2 := Hid.mk' k2
    have O2 := Hid.mk' o2
    obtain ⟨xa, xm, xk, rfl⟩ := owns_slice o2
    have hcv := Br.conv o2 (by simp [encE])
    clear k2 o2
    go_wp2_with fail
    go_ret2
    exact ⟨rfl, Gr.call g1 K2.out.be⟩
end Go.Proofs.YtecnfgikbmcgoaaDoor
