import Derived.Test.YtecnfgikbmcgoaaDoorG2
import Derived.Test.YtecnfgikbmcgoaaDoorG5
import Derived.Test.YtecnfgikbmcgoaaDoorG1
import Derived.Test.YtecnfgikbmcgoaaDoorG6
import Derived.Deep.RegionLaw
import Derived.ArgAppend
namespace Go.Proofs.YtecnfgikbmcgoaaDoor
open Go.RowKit

theorem num_any (n : Int) (w : World) : Calls Tryd.prog 11 #[.int .i64 n] w fun e w' => e = .returned (.int .i64 n) ∧ w' = w := by
  go_enter Tryd.func11, Tryd.ntmps11
  go_wp2
  go_ret
  exact ⟨rfl, rfl⟩
def nineA : Atr := ⟨⟨#[115, 105, 122, 101]⟩, 1, 9, ⟨#[]⟩⟩
set_option maxHeartbeats 2000000 in
theorem refCheckEvent_any (l : List Atr) (b off cap : Nat) (w : World) (hl : l.length ≤ maxLen) (hb : b < w.heap.size) (hat : AttrsAt w b off l) (hwf : ∀ x ∈ l, Atr.Wf x) :
    Calls Tryd.prog 12 #[.slice (some ⟨b, off, none⟩) l.length cap] w fun e w' => e = .returned (.int .i64 (chkE l)) ∧ Gr w w' := by
  unfold maxLen at hl
  have HC : Hid (AttrsAt w b off l) := hat
  have HF : Hid (∀ x ∈ l, Atr.Wf x) := hwf
  clear hat hwf
  go_enter Tryd.func12, Tryd.ntmps12
  go_wp2
  · go_ret; exact ⟨ret_int (chkE_size ‹_›).symm, Gr.refl _⟩
  · go_loopw [3] (fun i wr => ∃ k : Nat, k ≤ l.length ∧ i = .int .i64 k ∧ Gr w wr ∧ Hid ((List.range k).all (okAt l) = true)) (fun i _ => l.length - (intOf i).toNat)
    case atStart => exact ⟨0, Nat.zero_le _, rfl, Gr.refl _, rfl⟩
    case round =>
      obtain ⟨k, hk, rfl, g, HA⟩ := hrel
      by_cases hlt : k < l.length
      · obtain ⟨c1, c2, c3, c4⟩ := (HC.out.gr g hb) k hlt
        have hb' := g.lt hb
        cases hn : nameOk (aat l k).a
        · generalize hv : valOk (aat l k).k (aat l k).n (aat l k).s = bv
          go_wp2_with (first | (go_at_call 32; refine (name_any _ _ (HF.out _ (aat_mem hlt)).a).mono ?_; rw [hn]; rintro e w' ⟨rfl, rfl⟩) | (go_at_call 33; refine (value_any _ _ _ _).mono ?_; rw [hv]; rintro e w1 ⟨rfl, hb1⟩))
          have gz : Gr w w1 := Gr.call g hb1
          clear c1 c2 c3 c4
          go_quiet (fail)
          go_wp2
          go_ret
          exact ⟨ret_int (chkE_stop k hlt (by simp [okAt, hn])).symm, gz.drewN _⟩
        · cases hv : valOk (aat l k).k (aat l k).n (aat l k).s
          · go_wp2_with (first | (go_at_call 32; refine (name_any _ _ (HF.out _ (aat_mem hlt)).a).mono ?_; rw [hn]; rintro e w' ⟨rfl, rfl⟩) | (go_at_call 33; refine (value_any _ _ _ _).mono ?_; rw [hv]; rintro e w1 ⟨rfl, hb1⟩))
            have gz : Gr w w1 := Gr.call g hb1
            clear c1 c2 c3 c4
            go_quiet (fail)
            go_wp2
            go_ret
            exact ⟨ret_int (chkE_stop k hlt (by simp [okAt, hv])).symm, gz.drewN _⟩
          · go_wp2_with (first | (go_at_call 32; refine (name_any _ _ (HF.out _ (aat_mem hlt)).a).mono ?_; rw [hn]; rintro e w' ⟨rfl, rfl⟩) | (go_at_call 33; refine (value_any _ _ _ _).mono ?_; rw [hv]; rintro e w1 ⟨rfl, hb1⟩))
            have gz : Gr w w1 := Gr.call g hb1
            have hbz := gz.lt hb
            clear c1 c2 c3 c4
            by_cases hk0 : k = 0
            · have hd : decide (0 < (k : Int)) = false := by simp; omega
              have HO : Hid (okAt l k = true) := by
                show _ = _
                simp only [okAt, hn, hv, show (k == 0) = true by simpa using hk0, Bool.true_or, Bool.and_self]
              go_quiet (fail)
              go_wp2
              go_roundw
              case rel => exact ⟨k + 1, by omega, by subst hk0; rfl, gz.drewN _, range_snoc k HA.out HO.out⟩
              case measure => simp [intOf]; omega
            · obtain ⟨p1, p2, p3, p4⟩ := (HC.out.gr gz hb) (k - 1) (by omega)
              obtain ⟨c1, c2, c3, c4⟩ := (HC.out.gr gz hb) k hlt
              have hi0 : 0 < k := by omega
              have hd : decide (0 < k) = true := by simpa using hi0
              clear hk0
              have hw1 : IntKind.i64.wrap ((k : Int) - 1) = ((k - 1 : Nat) : Int) := by rw [IntWalk.i64_in _ (by omega)]; omega
              have hi1 : (0 : Int) < (k : Int) := by omega
              have hi4 : ((k - 1 : Nat) : Int) < (l.length : Int) := by omega
              have hi5 : k - 1 < l.length := by omega
              have hi6 : (k : Int) < (l.length : Int) := by omega
              have hi2 : (0 : Int) ≤ (k : Int) - 1 := by omega
              have hi3 : (k : Int) - 1 < (l.length : Int) := by omega
              have HO : Hid (okAt l k = Op.bytesLess (aat l (k - 1)).a.toList (aat l k).a.toList) := by
                show _ = _
                simp [okAt, hn, hv, show (k == 0) = false by simp; omega]
              go_quiet (fail)
              go_wp2
              · have hh : (!Op.bytesLess (aat l (k - 1)).a.toList (aat l k).a.toList) = true := by rw [← bytes_total]; first | assumption | (simpa [Bool.or_comm] using ‹_ ∨ _›) | (simp; simp_all)
                go_ret
                refine ⟨ret_int (chkE_stop k hlt ?_).symm, gz.drewN _⟩
                rw [HO.out]
                simpa using hh
              · have hh : (!Op.bytesLess (aat l (k - 1)).a.toList (aat l k).a.toList) = false := by rw [← bytes_total]; first | assumption | (simpa [Bool.or_comm] using ‹_ ∨ _›) | (simp; simp_all)
                refine ⟨⟨k + 1, by omega, by go_num, gz.drewN _, range_snoc k HA.out ?_⟩, ?_⟩
                · rw [HO.out]
                  simpa using hh
                · simp [intOf]; omega
      · go_wp2
        go_ret
        exact ⟨ret_int (chkE_end k hlt hk (by omega) (by omega) HA.out).symm, g⟩
  · go_ret; exact ⟨ret_int (chkE_size (Or.inl ‹_›)).symm, Gr.refl _⟩
set_option maxHeartbeats 1000000 in
theorem refCheckEvent_nil (ad : Option Addr) (cap : Nat) (w : World) : Calls Tryd.prog 12 #[.slice ad 0 cap] w fun e w' => e = .returned (.int .i64 1) ∧ w' = w := by
  go_enter Tryd.func12, Tryd.ntmps12
  go_wp2
  go_ret
  exact ⟨rfl, rfl⟩
set_option maxHeartbeats 1000000 in
theorem refCheck_nil (ad : Option Addr) (cap : Nat) (w : World) : Calls Tryd.prog 13 #[.slice ad 0 cap] w fun e w' => e = .returned (.int .i64 2) ∧ w' = w := by
  go_enter Tryd.func13, Tryd.ntmps13
  go_wp2
  go_ret
  exact ⟨rfl, rfl⟩
theorem refCheckEvent_ad (l : List Atr) (ad : Option Addr) (cap : Nat) (w : World) (hl : l.length ≤ maxLen) (h : EvAt w ad l) (hwf : ∀ x ∈ l, Atr.Wf x) :
    Calls Tryd.prog 12 #[.slice ad l.length cap] w fun e w' => e = .returned (.int .i64 (chkE l)) ∧ Gr w w' := by
  rcases h with rfl | ⟨b, off, rfl, hb, hat⟩
  · exact (refCheckEvent_nil ad cap w).mono fun e w' ⟨h1, h2⟩ => ⟨h1, by rw [h2]; exact Gr.refl _⟩
  · exact refCheckEvent_any l b off cap w hl hb hat hwf
theorem refCheckF_ad (l : List Wnt) (ad : Option Addr) (cap : Nat) (w : World) (hl : l.length ≤ maxLen) (h : FiAt w ad l) (hwf : ∀ x ∈ l, Wnt.Wf x) :
    Calls Tryd.prog 13 #[.slice ad l.length cap] w fun e w' => e = .returned (.int .i64 (chk l)) ∧ Gr w w' := by
  rcases h with rfl | ⟨b, off, rfl, hb, hat⟩
  · exact (refCheck_nil ad cap w).mono fun e w' ⟨h1, h2⟩ => ⟨h1, by rw [h2]; exact Gr.refl _⟩
  · exact refCheck_any l b off cap w hl hb hat hwf
end Go.Proofs.YtecnfgikbmcgoaaDoor
namespace Go.Proofs.YtecnfgikbmcgoaaDoor
open Go.RowKit

/-- k times the same element. -/
def rep (k : Nat) (mk : List Value) : List Value := (List.replicate k mk).flatten
theorem rep_zero (mk : List Value) : rep 0 mk = [] := rfl
theorem rep_len (k : Nat) (mk : List Value) : (rep k mk).length = k * mk.length := by simp [rep]
theorem rep_add (a b : Nat) (mk : List Value) : rep (a + b) mk = rep a mk ++ rep b mk := by
  simp only [rep]; rw [← List.replicate_append_replicate, List.flatten_append]
theorem rep_one (mk : List Value) : rep 1 mk = mk := by simp [rep]
theorem rep_mem {k : Nat} {mk : List Value} {u : Value} (h : u ∈ rep k mk) : u ∈ mk := by
  simp only [rep, List.mem_flatten, List.mem_replicate] at h
  obtain ⟨l, ⟨_, rfl⟩, hu⟩ := h
  exact hu
theorem rep_take {a b : Nat} (h : a ≤ b) (mk : List Value) : (rep b mk).take (a * mk.length) = rep a mk := by
  obtain ⟨c, rfl⟩ := Nat.exists_eq_add_of_le h
  rw [rep_add, ← rep_len, List.take_left]
theorem owns_base {w : World} {base b2 : Nat} {e : TypeId} {size : Nat} {v : Value} {n : Nat} {xs : List Value} (h : w.ownsRow b2 e size v n xs) (hb : base ≤ b2) : w.ownsRow base e size v n xs := by
  obtain ⟨h1, h2⟩ := h
  refine ⟨h1, ?_⟩
  rcases h2 with h2 | ⟨b, cap, cur, hv, hl, r⟩
  · exact Or.inl h2
  · exact Or.inr ⟨b, cap, cur, hv, by omega, r⟩
/-- A shorter piece of a row of one's own. -/
theorem owns_short {w : World} {base : Nat} {e : TypeId} {g n k cap : Nat} {mk : List Value} (h : w.ownsRow base e mk.length (.slice (some ⟨g, 0, none⟩) n cap) n (rep n mk)) (hk : k ≤ n) : w.ownsRow base e mk.length (.slice (some ⟨g, 0, none⟩) k cap) k (rep k mk) := by
  refine ⟨rep_len _ _, ?_⟩
  rcases h.2 with ⟨hv, _⟩ | ⟨b, cap', cur, hv, hl, hh, hc, hm, hs, ht⟩
  · cases hv
  · simp only [Value.slice.injEq, Option.some.injEq, Addr.mk.injEq, and_true, true_and] at hv
    obtain ⟨rfl, rfl⟩ := hv
    refine Or.inr ⟨g, cap, cur, rfl, hl, hh, by omega, hm, hs, ?_⟩
    rw [← rep_take hk, ← ht, List.take_take, Nat.min_eq_left (Nat.mul_le_mul_right _ hk)]

section
variable {P : Program} (w : World)
theorem run_append_rep (t ty : TypeId) (base : Nat) (e : TypeId) (i : TypeInfo) (z : Value) (bytes : Nat) (mk : List Value) (ht : P.underlying t = some (.slice e)) (hi : P.info? e = some i) (hz : i.zero = some z)
    (hsize : i.size = mk.length) (hby : i.bytes = bytes) (hzs : z.cells.size = mk.length) (hsz : 0 < mk.length)
    (v : Value) (n : Nat) (hown : w.ownsRow base e mk.length v n (rep n mk))
    (ad : Addr) (m c : Nat) (hnews : ∀ j u, (rep m mk)[j]? = some u → w.cell? (ad.add j) = some u) (h1 : ∀ u ∈ mk, u.oneCell' = true)
    (h63 : n + m ≤ maxLen) (hbytes : (n + m) * bytes ≤ 140737488355328) (hbase : base ≤ w.heap.size) :
    ∃ v' w', (Builtin.append_ #[t, t] ty #[v, .slice (some ad) m c]).run P w = .ok v' w' ∧ w'.ownsRow base e mk.length v' (n + m) (rep (n + m) mk) ∧ w.grownBy w' v.ownBlock ∧
      (∀ u k, w.ownsRow base e mk.length u k (rep k mk) → w'.ownsRow base e mk.length u k (rep k mk)) := by
  have h1' : ∀ u ∈ rep m mk, u.oneCell' = true := fun u hu => h1 u (rep_mem hu)
  rcases hown.2 with ⟨hv, hn⟩ | ⟨g, cap, cur, hv, hb, hh, hnc, hcm, hcs, htk⟩
  · subst hv
    obtain ⟨v', w', hr, h2, h3, _⟩ := run_append_own (P := P) w base t ty e i z mk.length bytes ht hi hz hsize hby hzs hsz _ n _ hown ad m c (rep m mk) (rep_len _ _) hnews h1' h63 hbytes hbase
    refine ⟨v', w', hr, by rw [rep_add]; exact h2, h3, fun u k hu => owns_kept hu h3 (fun k _ => by simp [Value.ownBlock])⟩
  · subst hv
    by_cases hroom : n + m ≤ cap
    · have hfit : n * mk.length + (rep m mk).length ≤ cur.size := by rw [rep_len, hcs, ← Nat.add_mul]; exact Nat.mul_le_mul_right _ hroom
      have hr := run_append_room (P := P) w t ty e i ht hi g n cap cur hh ad m c (rep m mk) (by rw [hsize]; exact rep_len _ _) hnews h1' hroom (by rw [hsize]; exact hfit)
      rw [hsize] at hr
      have hcur : cur.toList.take (n * mk.length) ++ rep m mk = rep (n + m) mk := by rw [htk, rep_add]
      have hlen : (rep (n + m) mk).length = n * mk.length + (rep m mk).length := by rw [rep_len, rep_len, Nat.add_mul]
      refine ⟨_, _, hr, ?_, ?_, fun u k hu => ?_⟩
      · refine ⟨rep_len _ _, Or.inr ⟨g, cap, _, rfl, hb, setRow_heap w g cur _ e _ hh, hroom, hcm, ?_, ?_⟩⟩
        · simp only [List.size_toArray, List.length_append, List.length_take, List.length_drop, Array.length_toList]
          omega
        · rw [hcur, ← rep_len]; exact List.take_left
      · exact ⟨rfl, rfl, rfl, by simp, fun k _ hk => setRow_other w g k _ (fun e => hk (by simp [e, Value.ownBlock]))⟩
      · rcases hu.2 with ⟨hv, hk0⟩ | ⟨g', cap', cur', hv, hb', hh', hkc, hkm, hcs', htk'⟩
        · exact ⟨hu.1, Or.inl ⟨hv, hk0⟩⟩
        · by_cases hg : g' = g
          · subst hg
            rw [hh] at hh'
            injection hh' with hh'
            injection hh' with hh' _
            subst hh'
            refine ⟨hu.1, Or.inr ⟨g', cap', _, hv, hb', setRow_heap w g' cur _ e _ hh, hkc, hkm, ?_, ?_⟩⟩
            · simp only [List.size_toArray, List.length_append, List.length_take, List.length_drop, Array.length_toList]
              omega
            · rw [hcur]
              by_cases hk : k ≤ n + m
              · have hle : k * mk.length ≤ (rep (n + m) mk).length := by rw [rep_len]; exact Nat.mul_le_mul_right _ hk
                show ((rep (n + m) mk ++ _).toArray.toList).take _ = _
                rw [List.toList_toArray, List.take_append_of_le_length hle, rep_take hk]
              · have hc2 : cur.toList.take ((n + m) * mk.length) = rep (n + m) mk := by
                  rw [← rep_take (show n + m ≤ k by omega), ← htk', List.take_take, Nat.min_eq_left (Nat.mul_le_mul_right _ (by omega))]
                have hc3 : rep (n + m) mk ++ cur.toList.drop (n * mk.length + (rep m mk).length) = cur.toList := by
                  rw [← hlen, rep_len, ← hc2, List.take_append_drop]
                show ((rep (n + m) mk ++ _).toArray.toList).take _ = _
                rw [List.toList_toArray, hc3, htk']
          · refine ⟨hu.1, Or.inr ⟨g', cap', cur', hv, hb', ?_, hkc, hkm, hcs', htk'⟩⟩
            rw [← hh']; exact setRow_other w g g' _ hg
    · obtain ⟨v', w', hr, h2, h3⟩ := run_append_arg_grows (P := P) w t ty e i z mk.length bytes ht hi hz hsize hby hzs hsz ⟨g, 0, none⟩ n cap (rep n mk) hown.1 (fun j u hj => by
          have hl : j < n * mk.length := by rw [← rep_len]; exact (List.getElem?_eq_some_iff.1 hj).1
          rw [Addr.add_lit, Nat.zero_add, World.ownsRow.cellAt hown j hl]; exact hj) ad m c (rep m mk) (rep_len _ _) hnews (by omega) h63 hbytes
      refine ⟨v', w', hr, by rw [rep_add]; exact owns_base h2 hbase, ⟨h3.os, h3.tape, h3.output, h3.size, fun k hk _ => h3.block k hk (by simp)⟩, fun u k hu => owns_kept hu h3 (fun k _ => by simp)⟩

/-- append, and the old value is still what it was. -/
theorem run_append_keep (t ty : TypeId) (base : Nat) (e : TypeId) (i : TypeInfo) (z : Value) (size bytes : Nat) (ht : P.underlying t = some (.slice e)) (hi : P.info? e = some i) (hz : i.zero = some z)
    (hsize : i.size = size) (hby : i.bytes = bytes) (hzs : z.cells.size = size) (hsz : 0 < size)
    (v : Value) (n : Nat) (xs : List Value) (hown : w.ownsRow base e size v n xs)
    (ad : Addr) (m c : Nat) (news : List Value) (hl : news.length = m * size) (hnews : ∀ j u, news[j]? = some u → w.cell? (ad.add j) = some u) (h1 : ∀ u ∈ news, u.oneCell' = true)
    (h63 : n + m ≤ maxLen) (hbytes : (n + m) * bytes ≤ 140737488355328) (hbase : base ≤ w.heap.size) :
    ∃ v' w', (Builtin.append_ #[t, t] ty #[v, .slice (some ad) m c]).run P w = .ok v' w' ∧ w'.ownsRow base e size v' (n + m) (xs ++ news) ∧ w.grownBy w' v.ownBlock ∧ w'.ownsRow base e size v n xs := by
  rcases hown.2 with ⟨hv, hn⟩ | ⟨g, cap, cur, hv, hb, hh, hnc, hcm, hcs, htk⟩
  · subst hv
    obtain ⟨v', w', hr, h2, h3, _⟩ := run_append_own (P := P) w base t ty e i z size bytes ht hi hz hsize hby hzs hsz _ n _ hown ad m c news hl hnews h1 h63 hbytes hbase
    exact ⟨v', w', hr, h2, h3, owns_kept hown h3 (fun k _ => by simp [Value.ownBlock])⟩
  · subst hv
    by_cases hroom : n + m ≤ cap
    · obtain ⟨w', hr, h2, h3⟩ := run_append_fits (P := P) w base t ty e i size ht hi hsize g n cap _ hown ad m c news hl hnews h1 hroom
      refine ⟨_, w', hr, h2, h3, hown.1, ?_⟩
      rcases h2.2 with ⟨hv, _⟩ | ⟨g', cap', cur', hv, hb', hh', _, hm', hs', ht'⟩
      · cases hv
      · simp only [Value.slice.injEq, Option.some.injEq, Addr.mk.injEq, and_true, true_and] at hv
        obtain ⟨rfl, rfl⟩ := hv
        refine Or.inr ⟨g, cap, cur', rfl, hb', hh', hnc, hm', hs', ?_⟩
        have h5 : (cur'.toList.take ((n + m) * size)).take (n * size) = (xs ++ news).take (n * size) := by rw [ht']
        rw [List.take_take, Nat.min_eq_left (Nat.mul_le_mul_right _ (by omega)), ← hown.1, List.take_left, hown.1] at h5
        exact h5
    · obtain ⟨v', w', hr, h2, h3⟩ := run_append_arg_grows (P := P) w t ty e i z size bytes ht hi hz hsize hby hzs hsz ⟨g, 0, none⟩ n cap xs hown.1 (fun j u hj => by
          have hl' : j < n * size := by rw [← hown.1]; exact (List.getElem?_eq_some_iff.1 hj).1
          rw [Addr.add_lit, Nat.zero_add, World.ownsRow.cellAt hown j hl']; exact hj) ad m c news hl hnews (by omega) h63 hbytes
      exact ⟨v', w', hr, owns_base h2 hbase, ⟨h3.os, h3.tape, h3.output, h3.size, fun k hk _ => h3.block k hk (by simp)⟩, owns_kept hown h3 (fun k _ => by simp)⟩
theorem wp_append_keep {o : Oper} {a : Act} {K : Act → World → Prop} {Q : Exit → Act → World → Prop} (s x : Operand) (t : TypeId)
    (ho : o.op = .call { callee := .builtin .append, args := #[s, x], argTypes := #[t, t] })
    (base : Nat) (e : TypeId) (i : TypeInfo) (z : Value) (size bytes : Nat) (ht : P.underlying t = some (.slice e)) (hi : P.info? e = some i) (hz : i.zero = some z)
    (hsize : i.size = size) (hby : i.bytes = bytes) (hzs : z.cells.size = size) (hsz : 0 < size)
    (v : Value) (n : Nat) (xs : List Value) (hs : a.eval s = v) (hown : w.ownsRow base e size v n xs)
    (ad : Addr) (m c : Nat) (news : List Value) (hx : a.eval x = .slice (some ad) m c) (hl : news.length = m * size) (hnews : ∀ j u, news[j]? = some u → w.cell? (ad.add j) = some u) (h1 : ∀ u ∈ news, u.oneCell' = true)
    (h63 : n + m ≤ maxLen) (hbytes : (n + m) * bytes ≤ 140737488355328) (hbase : base ≤ w.heap.size)
    (h : ∀ v' w', w'.ownsRow base e size v' (n + m) (xs ++ news) → w.grownBy w' v.ownBlock → w'.ownsRow base e size v n xs → K (a.put o.dst v') w') : o.wp P a w K Q := by
  obtain ⟨v', w', hr, h2, h3, h4⟩ := run_append_keep (P := P) w t o.type base e i z size bytes ht hi hz hsize hby hzs hsz v n xs hown ad m c news hl hnews h1 h63 hbytes hbase
  unfold Oper.wp execOp
  simp only [ho, resolve, invoke, builtin, Sem.run_bind, Sem.run_pure, Result.andThen_ok, List.map_toArray, List.map_cons, List.map_nil, hs, hx, hr]
  exact h v' w' h2 h3 h4
theorem wp_append_rep {o : Oper} {a : Act} {K : Act → World → Prop} {Q : Exit → Act → World → Prop} (s x : Operand) (t : TypeId)
    (ho : o.op = .call { callee := .builtin .append, args := #[s, x], argTypes := #[t, t] })
    (base : Nat) (e : TypeId) (i : TypeInfo) (z : Value) (bytes : Nat) (mk : List Value) (ht : P.underlying t = some (.slice e)) (hi : P.info? e = some i) (hz : i.zero = some z)
    (hsize : i.size = mk.length) (hby : i.bytes = bytes) (hzs : z.cells.size = mk.length) (hsz : 0 < mk.length)
    (v : Value) (n : Nat) (hs : a.eval s = v) (hown : w.ownsRow base e mk.length v n (rep n mk))
    (ad : Addr) (m c : Nat) (hx : a.eval x = .slice (some ad) m c) (hnews : ∀ j u, (rep m mk)[j]? = some u → w.cell? (ad.add j) = some u) (h1 : ∀ u ∈ mk, u.oneCell' = true)
    (h63 : n + m ≤ maxLen) (hbytes : (n + m) * bytes ≤ 140737488355328) (hbase : base ≤ w.heap.size)
    (h : ∀ v' w', w'.ownsRow base e mk.length v' (n + m) (rep (n + m) mk) → w.grownBy w' v.ownBlock → (∀ u k, w.ownsRow base e mk.length u k (rep k mk) → w'.ownsRow base e mk.length u k (rep k mk)) → K (a.put o.dst v') w') : o.wp P a w K Q := by
  obtain ⟨v', w', hr, h2, h3, h4⟩ := run_append_rep (P := P) w t o.type base e i z bytes mk ht hi hz hsize hby hzs hsz v n hown ad m c hnews h1 h63 hbytes hbase
  unfold Oper.wp execOp
  simp only [ho, resolve, invoke, builtin, Sem.run_bind, Sem.run_pure, Result.andThen_ok, List.map_toArray, List.map_cons, List.map_nil, hs, hx, hr]
  exact h v' w' h2 h3 h4
theorem step_append_rep {ops : Array Oper} {o : Oper} {a : Act} {K : Act → World → Prop} {Q : Exit → Act → World → Prop} {E : Prop} (hgd : o.guard = none) (s x : Operand) (t : TypeId)
    (ho : o.op = .call { callee := .builtin .append, args := #[s, x], argTypes := #[t, t] })
    (base : Nat) (e : TypeId) (i : TypeInfo) (z : Value) (bytes : Nat) (mk : List Value) (ht : P.underlying t = some (.slice e)) (hi : P.info? e = some i) (hz : i.zero = some z)
    (hsize : i.size = mk.length) (hby : i.bytes = bytes) (hzs : z.cells.size = mk.length) (hsz : 0 < mk.length)
    (v : Value) (n : Nat) (hs : a.eval s = v) (hown : w.ownsRow base e mk.length v n (rep n mk))
    (ad : Addr) (m c : Nat) (hx : a.eval x = .slice (some ad) m c) (hnews : ∀ j u, (rep m mk)[j]? = some u → w.cell? (ad.add j) = some u) (h1 : ∀ u ∈ mk, u.oneCell' = true)
    (h63 : n + m ≤ maxLen) (hbytes : (n + m) * bytes ≤ 140737488355328) (hbase : base ≤ w.heap.size)
    (h : ∀ v' w', w'.ownsRow base e mk.length v' (n + m) (rep (n + m) mk) → w.grownBy w' v.ownBlock → (∀ u k, w.ownsRow base e mk.length u k (rep k mk) → w'.ownsRow base e mk.length u k (rep k mk)) → K (a.put o.dst v') w') :
    if Region.wanted o (yielded ops a.tmps) = true then Oper.wp P o a w K Q else E := by
  have hw : Region.wanted o (yielded ops a.tmps) = true := by simp [Region.wanted, hgd]
  rw [if_pos hw]
  exact wp_append_rep w s x t ho base e i z bytes mk ht hi hz hsize hby hzs hsz v n hs hown ad m c hx hnews h1 h63 hbytes hbase h
end
end Go.Proofs.YtecnfgikbmcgoaaDoor
