import Derived.Test.YtecnfgikbmcgoaaGreatG10
import Derived.Test.YtecnfgikbmcgoaaGreatG9
import Derived.Test.YtecnfgikbmcgoaaGreatG2
namespace Go.Proofs.YtecnfgikbmcgoaaGreat
open Go.RowKit

def impW (x x' : Wnt) : Bool := impB x.a x.y x.k x.n x.s x'.a x'.y x'.k x'.n x'.s
def cov (f g : List Wnt) : Bool := filterOk f && filterOk g && f.all fun x => g.any fun v => impW v x

set_option maxHeartbeats 2000000 in
theorem Implies_any (a : ByteArray) (y k n : Int) (s a' : ByteArray) (y' k' n' : Int) (s' : ByteArray) (m : Int) (w : World) (ha : a.size ≤ maxLen) (ha' : a'.size ≤ maxLen) (hlo : minI ≤ n) (hhi : n ≤ maxI) (hM : Ml m w) :
    Calls Tryz.prog 115 #[.agg #[.string a, .int .i64 y, .int .i64 k, .int .i64 n, .string s], .agg #[.string a', .int .i64 y', .int .i64 k', .int .i64 n', .string s']] w
      fun e w' => e = .returned (.bool (impB a y k n s a' y' k' n' s')) ∧ Gr w w' := by
  have Hlo : Hid (minI ≤ n) := hlo
  have Hhi : Hid (n ≤ maxI) := hhi
  clear hlo hhi
  cases h1 : wantOk a y k n s
  · have Hr : Hid (impB a y k n s a' y' k' n' s' = false) := by
      show _ = _
      simp [impB, h1]
    go_enter Tryz.func115, Tryz.ntmps115
    go_wp2_with fail
    refine (goodWant_any _ _ _ _ _ _ ha).mono ?_
    rw [h1]
    rintro e w1 ⟨rfl, hb1⟩
    go_wp2_with fail
    go_ret
    exact ⟨ret_bool (by rw [Hr.out]), Gr.call (((Gr.refl w).alloc _).alloc _) hb1⟩
  cases h2 : wantOk a' y' k' n' s'
  · have Hr : Hid (impB a y k n s a' y' k' n' s' = false) := by
      show _ = _
      simp [impB, h2]
    go_enter Tryz.func115, Tryz.ntmps115
    go_wp2_with fail
    refine (goodWant_any _ _ _ _ _ _ ha).mono ?_
    rw [h1]
    rintro e w1 ⟨rfl, hb1⟩
    obtain ⟨hc1, hf1⟩ := bcell hb1
    go_wp2_with fail
    refine (goodWant_any _ _ _ _ _ _ ha').mono ?_
    rw [h2]
    rintro e w2 ⟨rfl, hb2⟩
    go_wp2_with fail
    go_ret
    exact ⟨ret_bool (by rw [Hr.out]), Gr.call (Gr.call (((Gr.refl w).alloc _).alloc _) hb1) hb2⟩
  have Hw : Hid (wayOk y k n s = true) := by
    show _ = _
    simp [wantOk] at h1; exact h1.2
  have Hw' : Hid (wayOk y' k' n' s' = true) := by
    show _ = _
    simp [wantOk] at h2; exact h2.2
  cases h3 : (a.toList == a'.toList)
  · have Hr : Hid (impB a y k n s a' y' k' n' s' = false) := by
      show _ = _
      simp [impB, h3]
    go_enter Tryz.func115, Tryz.ntmps115
    go_wp2_with fail
    refine (goodWant_any _ _ _ _ _ _ ha).mono ?_
    rw [h1]
    rintro e w1 ⟨rfl, hb1⟩
    obtain ⟨hc1, hf1⟩ := bcell hb1
    have hz1 : w.heap.size < w1.heap.size := Gr.lt hb1 (by simp; omega)
    have hz1' : w.heap.size + 1 < w1.heap.size := Gr.lt hb1 (by simp)
    go_wp2_with fail
    refine (goodWant_any _ _ _ _ _ _ ha').mono ?_
    rw [h2]
    rintro e w2 ⟨rfl, hb2⟩
    obtain ⟨hc2, hf2⟩ := bcell hb2
    go_wp2_with fail
    go_ret
    exact ⟨ret_bool (by rw [Hr.out]), Gr.call (Gr.call (((Gr.refl w).alloc _).alloc _) hb1) hb2⟩
  · have Hr : Hid (impB a y k n s a' y' k' n' s' = withinB y k n s y' k' n' s') := by
      show _ = _
      simp [impB, h1, h2, h3]
    go_enter Tryz.func115, Tryz.ntmps115
    go_wp2_with fail
    refine (goodWant_any _ _ _ _ _ _ ha).mono ?_
    rw [h1]
    rintro e w1 ⟨rfl, hb1⟩
    obtain ⟨hc1, hf1⟩ := bcell hb1
    have hz1 : w.heap.size < w1.heap.size := Gr.lt hb1 (by simp; omega)
    have hz1' : w.heap.size + 1 < w1.heap.size := Gr.lt hb1 (by simp)
    go_wp2_with fail
    refine (goodWant_any _ _ _ _ _ _ ha').mono ?_
    rw [h2]
    rintro e w2 ⟨rfl, hb2⟩
    obtain ⟨hc2, hf2⟩ := bcell hb2
    go_wp2_with fail
    refine (within_any _ _ _ _ _ _ _ _ _ _ m _ Hw.out Hw'.out Hlo.out Hhi.out (Gr.ml hb2 (Gr.ml hb1 ((hM.alloc _).alloc _)))).mono ?_
    rintro e w3 ⟨rfl, hb3⟩
    go_wp2_with fail
    go_ret
    exact ⟨ret_bool (by rw [Hr.out]), Gr.call (Gr.call (Gr.call (((Gr.refl w).alloc _).alloc _) hb1) hb2) hb3⟩

theorem any_stop {α : Type} (p : α → Bool) (l : List α) (k : Nat) (d : α) (h : k < l.length) (hp : p (l.getD k d) = true) : l.any p = true := by
  rw [List.any_eq_true]
  exact ⟨_, getD_mem h d, hp⟩
theorem any_snoc {α : Type} (p : α → Bool) (l : List α) (k : Nat) (d : α) (h : k < l.length) (hk : (l.take k).any p = false) (hp : p (l.getD k d) = false) : (l.take (k + 1)).any p = false := by
  rw [List.take_succ_eq_append_getElem h, List.any_append, hk]
  simp [List.getD_eq_getElem?_getD, List.getElem?_eq_getElem h] at hp
  simp [hp]
theorem any_end {α : Type} (p : α → Bool) (l : List α) (k : Nat) (h : ¬ k < l.length) (hk : (l.take k).any p = false) : l.any p = false := by
  rwa [List.take_of_length_le (by omega)] at hk

set_option maxHeartbeats 1000000 in
theorem impliedByOne_any (x : Wnt) (l : List Wnt) (b off cap : Nat) (m : Int) (w : World) (hx : x.Wf) (hl : l.length ≤ maxLen) (hb : b < w.heap.size) (hat : WantsAt w b off l) (hwf : ∀ x ∈ l, Wnt.Wf x) (hM : Ml m w) :
    Calls Tryz.prog 82 #[.agg #[.string x.a, .int .i64 x.y, .int .i64 x.k, .int .i64 x.n, .string x.s], .slice (some ⟨b, off, none⟩) l.length cap] w
      fun e w' => e = .returned (.bool (l.any fun v => impW v x)) ∧ Gr w w' := by
  unfold maxLen at hl
  have HC : Hid (WantsAt w b off l) := hat
  have HF : Hid (∀ x ∈ l, Wnt.Wf x) := hwf
  have HX : Hid x.Wf := hx
  clear hat hwf hx
  go_enter Tryz.func82, Tryz.ntmps82
  go_wp2
  go_loopw [9] (fun i wr => ∃ k : Nat, k ≤ l.length ∧ i = .int .i64 k ∧ Gr (w.alloc (.cells #[.string x.a, .int .i64 x.y, .int .i64 x.k, .int .i64 x.n, .string x.s] 76)) wr ∧ Hid ((l.take k).any (fun v => impW v x) = false)) (fun i _ => l.length - (intOf i).toNat)
  case atStart => exact ⟨0, Nat.zero_le _, rfl, Gr.refl _, rfl⟩
  case round =>
    obtain ⟨k, hk, rfl, g, HA⟩ := hrel
    have gw : Gr w wr := Gr.call ((Gr.refl w).alloc _) g
    by_cases hlt : k < l.length
    · obtain ⟨c1, c2, c3, c4, c5⟩ := (HC.out.gr gw hb) k hlt
      have hb' := gw.lt hb
      have hzr : w.heap.size < wr.heap.size := g.lt (by simp)
      have x1 : wr.cell? ⟨w.heap.size, 0, none⟩ = some (.string x.a) := by rw [(bcell g).1 _ _ (by simp)]; simp [go_sem]
      have x2 : wr.cell? ⟨w.heap.size, 1, none⟩ = some (.int .i64 x.y) := by rw [(bcell g).1 _ _ (by simp)]; simp [go_sem]
      have x3 : wr.cell? ⟨w.heap.size, 1 + 1, none⟩ = some (.int .i64 x.k) := by rw [(bcell g).1 _ _ (by simp)]; simp [go_sem]
      have x4 : wr.cell? ⟨w.heap.size, 1 + 1 + 1, none⟩ = some (.int .i64 x.n) := by rw [(bcell g).1 _ _ (by simp)]; simp [go_sem]
      have x5 : wr.cell? ⟨w.heap.size, 1 + 1 + 1 + 1, none⟩ = some (.string x.s) := by rw [(bcell g).1 _ _ (by simp)]; simp [go_sem]
      go_wp2_with fail
      refine (Implies_any _ _ _ _ _ _ _ _ _ _ m _ (HF.out _ (wat_mem hlt)).a HX.out.a (HF.out _ (wat_mem hlt)).n1 (HF.out _ (wat_mem hlt)).n2 ((gw.ml hM).alloc _)).mono ?_
      rintro e w1 ⟨rfl, hb1⟩
      have g1 : Gr (w.alloc (.cells #[.string x.a, .int .i64 x.y, .int .i64 x.k, .int .i64 x.n, .string x.s] 76)) w1 := Gr.call (g.alloc _) hb1
      clear c1 c2 c3 c4 c5 x1 x2 x3 x4 x5
      go_wp2
      · go_ret
        refine ⟨ret_bool (any_stop _ l k dW hlt ?_).symm, Gr.call (gw.alloc _) hb1⟩
        exact ‹impB _ _ _ _ _ _ _ _ _ _ = true›
      · go_roundw
        case rel =>
          refine ⟨k + 1, by omega, by go_num, g1, any_snoc _ l k dW hlt HA.out ?_⟩
          exact ‹impB _ _ _ _ _ _ _ _ _ _ = false›
        case measure => simp [intOf]; omega
    · go_wp2
      go_ret
      exact ⟨ret_bool (any_end _ l k hlt HA.out).symm, gw⟩

set_option maxHeartbeats 1000000 in
theorem Covers_any (f g : List Wnt) (b off cap b' off' cap' : Nat) (m : Int) (w : World) (hl : f.length ≤ maxLen) (hb : b < w.heap.size) (hat : WantsAt w b off f) (hwf : ∀ x ∈ f, Wnt.Wf x)
    (hl' : g.length ≤ maxLen) (hb' : b' < w.heap.size) (hat' : WantsAt w b' off' g) (hwf' : ∀ x ∈ g, Wnt.Wf x) (hM : Ml m w) :
    Calls Tryz.prog 44 #[.slice (some ⟨b, off, none⟩) f.length cap, .slice (some ⟨b', off', none⟩) g.length cap'] w
      fun e w' => e = .returned (.bool (cov f g)) ∧ Gr w w' := by
  have HC : Hid (WantsAt w b off f) := hat
  have HF : Hid (∀ x ∈ f, Wnt.Wf x) := hwf
  have HC' : Hid (WantsAt w b' off' g) := hat'
  have HF' : Hid (∀ x ∈ g, Wnt.Wf x) := hwf'
  have HL : Hid (f.length ≤ maxLen) := hl
  have HL' : Hid (g.length ≤ maxLen) := hl'
  unfold maxLen at hl hl'
  clear hat hwf hat' hwf'
  cases h1 : filterOk f
  · have Hc : Hid (chk f = 2) := by
      show _ = _
      simp [chk, h1]
    have Hr : Hid (cov f g = false) := by
      show _ = _
      simp [cov, h1]
    go_enter Tryz.func44, Tryz.ntmps44
    go_wp2_with fail
    refine (Check_any _ _ _ _ _ HL.out hb HC.out HF.out).mono ?_
    rw [Hc.out]
    rintro e w1 ⟨rfl, hb1⟩
    go_wp2_with fail
    go_ret
    exact ⟨ret_bool (by rw [Hr.out]), hb1⟩
  have Hc : Hid (chk f = 0) := by
    show _ = _
    simp [chk, h1]
  cases h2 : filterOk g
  · have Hc' : Hid (chk g = 2) := by
      show _ = _
      simp [chk, h2]
    have Hr : Hid (cov f g = false) := by
      show _ = _
      simp [cov, h2]
    go_enter Tryz.func44, Tryz.ntmps44
    go_wp2_with fail
    refine (Check_any _ _ _ _ _ HL.out hb HC.out HF.out).mono ?_
    rw [Hc.out]
    rintro e w1 ⟨rfl, hb1⟩
    go_wp2_with fail
    refine (Check_any _ _ _ _ _ HL'.out (Gr.lt hb1 hb') (HC'.out.gr hb1 hb') HF'.out).mono ?_
    rw [Hc'.out]
    rintro e w2 ⟨rfl, hb2⟩
    go_wp2_with fail
    go_ret
    exact ⟨ret_bool (by rw [Hr.out]), Gr.call hb1 hb2⟩
  have Hc' : Hid (chk g = 0) := by
    show _ = _
    simp [chk, h2]
  have Hr : Hid (cov f g = f.all fun x => g.any fun v => impW v x) := by
    show _ = _
    simp [cov, h1, h2]
  go_enter Tryz.func44, Tryz.ntmps44
  go_wp2_with fail
  refine (Check_any _ _ _ _ _ HL.out hb HC.out HF.out).mono ?_
  rw [Hc.out]
  rintro e w1 ⟨rfl, hb1⟩
  go_wp2_with fail
  refine (Check_any _ _ _ _ _ HL'.out (Gr.lt hb1 hb') (HC'.out.gr hb1 hb') HF'.out).mono ?_
  rw [Hc'.out]
  rintro e w2 ⟨rfl, hb2⟩
  have g2 : Gr w w2 := Gr.call hb1 hb2
  clear hb1 hb2
  go_wp2_with fail
  go_loopw [17] (fun i wr => ∃ k : Nat, k ≤ f.length ∧ i = .int .i64 k ∧ Gr w wr ∧ Hid ((f.take k).all (fun x => g.any fun v => impW v x) = true)) (fun i _ => f.length - (intOf i).toNat)
  case atStart => exact ⟨0, Nat.zero_le _, rfl, g2, rfl⟩
  case round =>
    obtain ⟨k, hk, rfl, gr, HA⟩ := hrel
    by_cases hlt : k < f.length
    · obtain ⟨c1, c2, c3, c4, c5⟩ := (HC.out.gr gr hb) k hlt
      have hbr := gr.lt hb
      go_wp2_with fail
      refine (impliedByOne_any (wat f k) g _ _ _ m _ (HF.out _ (wat_mem hlt)) HL'.out (Gr.lt (gr.alloc _) hb') (HC'.out.gr (gr.alloc _) hb') HF'.out ((gr.ml hM).alloc _)).mono ?_
      rintro e w3 ⟨rfl, hb3⟩
      have g3 : Gr w w3 := Gr.call (gr.alloc _) hb3
      clear c1 c2 c3 c4 c5
      go_wp2
      · go_ret
        refine ⟨ret_bool ?_, g3⟩
        rw [Hr.out, all_stop _ f k dW hlt (by simpa [wat] using ‹(!(g.any _)) = true›)]
      · go_roundw
        case rel =>
          refine ⟨k + 1, by omega, by go_num, g3, all_snoc _ f k dW hlt HA.out ?_⟩
          simpa [wat] using ‹(!(g.any _)) = false›
        case measure => simp [intOf]; omega
    · go_wp2
      go_ret
      refine ⟨ret_bool ?_, gr⟩
      rw [Hr.out, all_end _ f k hlt HA.out]
end Go.Proofs.YtecnfgikbmcgoaaGreat
namespace Go.Proofs.YtecnfgikbmcgoaaGreat
open Go.RowKit

abbrev Hw := Hd (List Wnt)
/-- A holding, as a value: its filter lies at ad. -/
def hv (h : Hw) (ad : Option Addr) (c : Nat) : Array Value := #[.int .i64 h.key.1, .int .i64 h.key.2, .slice ad h.f.length c, .int .i64 h.fr]
/-- A filter in memory, and it is one. -/
structure FiM (w : World) (ad : Option Addr) (l : List Wnt) : Prop where
  at' : ∃ b off, ad = some ⟨b, off, none⟩ ∧ b < w.heap.size ∧ WantsAt w b off l
  wf : ∀ x ∈ l, Wnt.Wf x
  ok : filterOk l = true
theorem FiM.gr {w w' : World} {ad : Option Addr} {l : List Wnt} (h : FiM w ad l) (g : Gr w w') : FiM w' ad l := by
  obtain ⟨b, off, h1, h2, h3⟩ := h.at'
  exact ⟨⟨b, off, h1, g.lt h2, h3.gr g h2⟩, h.wf, h.ok⟩
theorem FiM.len {w : World} {ad : Option Addr} {l : List Wnt} (h : FiM w ad l) : l.length ≤ 6 := by
  have := h.ok
  simp only [filterOk, Bool.and_eq_true, decide_eq_true_eq] at this
  omega
theorem CoversM (f g : List Wnt) (a a' : Option Addr) (c c' : Nat) (m : Int) (w : World) (h : FiM w a f) (h' : FiM w a' g) (hM : Ml m w) :
    Calls Tryz.prog 44 #[.slice a f.length c, .slice a' g.length c'] w fun e w' => e = .returned (.bool (cov f g)) ∧ Gr w w' := by
  obtain ⟨b, off, rfl, h2, h3⟩ := h.at'
  obtain ⟨b', off', rfl, h2', h3'⟩ := h'.at'
  exact Covers_any f g b off c b' off' c' m w (by have := h.len; unfold maxLen; omega) h2 h3 h.wf (by have := h'.len; unfold maxLen; omega) h2' h3' h'.wf hM
set_option maxRecDepth 100000 in
set_option maxHeartbeats 4000000 in
theorem hides_any (g h : Hw) (a a' : Option Addr) (c c' : Nat) (m : Int) (w : World) (hg : FiM w a g.f) (hh : FiM w a' h.f) (hM : Ml m w) :
    Calls Tryz.prog 112 #[.agg (hv g a c), .agg (hv h a' c')] w fun e w' => e = .returned (.bool (hides cov g h)) ∧ Gr w w' := by
  have HG := Hid.mk' hg
  have HH := Hid.mk' hh
  have HM := Hid.mk' hM
  clear hg hh hM
  unfold hv
  have EH : Hid (hides cov g h = (cov g.f h.f && (!(cov h.f g.f) || klt g.key h.key))) := rfl
  generalize hides cov g h = r at *
  go_enter Tryz.func112, Tryz.ntmps112
  go_wp2_with fail
  have ga : Gr w ((w.alloc (.cells #[.int .i64 g.key.1, .int .i64 g.key.2, .slice a g.f.length c, .int .i64 g.fr] 121)).alloc (.cells #[.int .i64 h.key.1, .int .i64 h.key.2, .slice a' h.f.length c', .int .i64 h.fr] 121)) := ((Gr.refl w).alloc _).alloc _
  have P0 := heap_alloc_new w (.cells #[.int .i64 g.key.1, .int .i64 g.key.2, .slice a g.f.length c, .int .i64 g.fr] 121)
  have hsz : (w.alloc (.cells #[.int .i64 g.key.1, .int .i64 g.key.2, .slice a g.f.length c, .int .i64 g.fr] 121)).heap.size = w.heap.size + 1 := by simp
  have Q0 := heap_alloc_new (w.alloc (.cells #[.int .i64 g.key.1, .int .i64 g.key.2, .slice a g.f.length c, .int .i64 g.fr] 121)) (.cells #[.int .i64 h.key.1, .int .i64 h.key.2, .slice a' h.f.length c', .int .i64 h.fr] 121)
  rw [hsz] at Q0
  have P0' := blk_gr ((Gr.refl (w.alloc (.cells #[.int .i64 g.key.1, .int .i64 g.key.2, .slice a g.f.length c, .int .i64 g.fr] 121))).alloc (.cells #[.int .i64 h.key.1, .int .i64 h.key.2, .slice a' h.f.length c', .int .i64 h.fr] 121)) P0
  refine (CoversM g.f h.f a a' c c' m _ (HG.out.gr ga) (HH.out.gr ga) (ga.ml HM.out)).mono ?_
  rintro e w1 ⟨rfl, g1⟩
  have G1 := Hid.mk' (Gr.call ga g1)
  have P1 := Hid.mk' (blk_gr g1 P0')
  have Q1 := Hid.mk' (blk_gr g1 Q0)
  clear ga g1 P0 Q0 P0' hsz
  have p0 : w1.cell? ⟨w.heap.size, 0, none⟩ = some (.int .i64 g.key.1) := by rw [cell_of_row _ _ _ _ _ _ P1.out]; rfl
  have p1 : w1.cell? ⟨w.heap.size, 1, none⟩ = some (.int .i64 g.key.2) := by rw [cell_of_row _ _ _ _ _ _ P1.out]; rfl
  have p2 : w1.cell? ⟨w.heap.size, 2, none⟩ = some (.slice a g.f.length c) := by rw [cell_of_row _ _ _ _ _ _ P1.out]; rfl
  have p3 : w1.cell? ⟨w.heap.size, 3, none⟩ = some (.int .i64 g.fr) := by rw [cell_of_row _ _ _ _ _ _ P1.out]; rfl
  have q0 : w1.cell? ⟨w.heap.size + 1, 0, none⟩ = some (.int .i64 h.key.1) := by rw [cell_of_row _ _ _ _ _ _ Q1.out]; rfl
  have q1 : w1.cell? ⟨w.heap.size + 1, 1, none⟩ = some (.int .i64 h.key.2) := by rw [cell_of_row _ _ _ _ _ _ Q1.out]; rfl
  have q2 : w1.cell? ⟨w.heap.size + 1, 2, none⟩ = some (.slice a' h.f.length c') := by rw [cell_of_row _ _ _ _ _ _ Q1.out]; rfl
  have q3 : w1.cell? ⟨w.heap.size + 1, 3, none⟩ = some (.int .i64 h.fr) := by rw [cell_of_row _ _ _ _ _ _ Q1.out]; rfl
  cases c1 : cov g.f h.f with
  | false =>
    have er := EH.out
    rw [c1, Bool.false_and] at er
    subst er
    go_wp2_with fail
    go_ret
    exact ⟨rfl, G1.out⟩
  | true =>
    have er := Hid.mk' EH.out
    go_wp2_with fail
    refine (CoversM h.f g.f a' a c' c m w1 (HH.out.gr G1.out) (HG.out.gr G1.out) (G1.out.ml HM.out)).mono ?_
    rintro e w2 ⟨rfl, g2⟩
    have G2 := Hid.mk' (Gr.call G1.out g2)
    have P2 := Hid.mk' (blk_gr g2 P1.out)
    have Q2 := Hid.mk' (blk_gr g2 Q1.out)
    clear p0 p1 p2 p3 q0 q1 q2 q3 g2 P1 Q1 G1
    have p0 : w2.cell? ⟨w.heap.size, 0, none⟩ = some (.int .i64 g.key.1) := by rw [cell_of_row _ _ _ _ _ _ P2.out]; rfl
    have p1 : w2.cell? ⟨w.heap.size, 1, none⟩ = some (.int .i64 g.key.2) := by rw [cell_of_row _ _ _ _ _ _ P2.out]; rfl
    have p2 : w2.cell? ⟨w.heap.size, 2, none⟩ = some (.slice a g.f.length c) := by rw [cell_of_row _ _ _ _ _ _ P2.out]; rfl
    have p3 : w2.cell? ⟨w.heap.size, 3, none⟩ = some (.int .i64 g.fr) := by rw [cell_of_row _ _ _ _ _ _ P2.out]; rfl
    have q0 : w2.cell? ⟨w.heap.size + 1, 0, none⟩ = some (.int .i64 h.key.1) := by rw [cell_of_row _ _ _ _ _ _ Q2.out]; rfl
    have q1 : w2.cell? ⟨w.heap.size + 1, 1, none⟩ = some (.int .i64 h.key.2) := by rw [cell_of_row _ _ _ _ _ _ Q2.out]; rfl
    have q2 : w2.cell? ⟨w.heap.size + 1, 2, none⟩ = some (.slice a' h.f.length c') := by rw [cell_of_row _ _ _ _ _ _ Q2.out]; rfl
    have q3 : w2.cell? ⟨w.heap.size + 1, 3, none⟩ = some (.int .i64 h.fr) := by rw [cell_of_row _ _ _ _ _ _ Q2.out]; rfl
    cases c2 : cov h.f g.f with
    | false =>
      have hr : r = true := by rw [er.out, c1, c2]; rfl
      subst hr
      go_wp2_with fail

      go_ret
      exact ⟨rfl, G2.out⟩
    | true =>
      have hr : r = klt g.key h.key := by rw [er.out, c1, c2]; simp
      subst hr
      go_wp2_with fail
      refine (compareKeys_any g.key h.key w2).mono ?_
      rintro e w3 ⟨rfl, g3⟩
      have G3 := Hid.mk' (Gr.call G2.out g3)
      have hlt := cK_lt g.key h.key
      go_wp2_with fail
      go_ret
      exact ⟨rfl, G3.out⟩
end Go.Proofs.YtecnfgikbmcgoaaGreat
