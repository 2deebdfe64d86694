import Derived.Test.YtecnfgikbmcgoaaGreatG5
import Derived.Test.YtecnfgikbmcgoaaGreatG11
import Derived.Test.YtecnfgikbmcgoaaGreatG2
namespace Go.Proofs.YtecnfgikbmcgoaaGreat
open Go.RowKit

theorem wrap_bd (n : Int) : minI ≤ wrap64 n ∧ wrap64 n ≤ maxI := by unfold wrap64 minI maxI; omega
theorem app_size (s t : ByteArray) : (s ++ t).size = s.size + t.size := by simp
theorem piece_ok {n : Int} {s : ByteArray} (hlo : minI ≤ n) (hhi : n ≤ maxI) (hs : s.size ≤ 32) : ∀ v ∈ piece n s, valOk v.1 v.2.1 v.2.2 = true ∧ minI ≤ v.2.1 ∧ v.2.1 ≤ maxI := by
  have hz : minI ≤ 0 ∧ 0 ≤ maxI := by unfold minI maxI; omega
  have num : ∀ x, minI ≤ x → x ≤ maxI → valOk 1 x noText = true ∧ minI ≤ x ∧ x ≤ maxI := fun x h1 h2 => ⟨by simp [valOk, noText_list], h1, h2⟩
  have txt : ∀ t : ByteArray, t.size ≤ 32 → valOk 2 0 t = true ∧ minI ≤ 0 ∧ 0 ≤ maxI := fun t ht => ⟨by simp [valOk]; omega, hz.1, hz.2⟩
  have a1 : aT.size = 1 := rfl
  have z1 : zT.size = 1 := rfl
  have o1 : oT.size = 1 := rfl
  have f1 : fT.size = 1 := rfl
  intro v hv
  unfold piece at hv
  rcases List.mem_append.1 hv with hv | hv
  · simp only [List.mem_cons, List.not_mem_nil, or_false] at hv
    rcases hv with rfl | rfl | rfl | rfl
    · exact num n hlo hhi
    · exact num _ (wrap_bd _).1 (wrap_bd _).2
    · exact num _ (wrap_bd _).1 (wrap_bd _).2
    · exact txt s hs
  · split at hv
    · simp only [List.mem_cons, List.not_mem_nil, or_false] at hv
      rcases hv with rfl | rfl | rfl | rfl | rfl | rfl | rfl | rfl <;> exact txt _ (by rw [app_size]; omega)
    · simp at hv
theorem tried_ok {n : Int} {s : ByteArray} {n' : Int} {s' : ByteArray} (h1 : minI ≤ n) (h2 : n ≤ maxI) (h3 : minI ≤ n') (h4 : n' ≤ maxI) (hs : s.size ≤ 32) (hs' : s'.size ≤ 32) :
    ∀ v ∈ triedL n s n' s', valOk v.1 v.2.1 v.2.2 = true ∧ minI ≤ v.2.1 ∧ v.2.1 ≤ maxI := by
  have hz : minI ≤ 0 ∧ 0 ≤ maxI ∧ minI ≤ 1 ∧ 1 ≤ maxI ∧ minI ≤ maxI := by unfold minI maxI; omega
  intro v hv
  unfold triedL at hv
  rcases List.mem_append.1 hv with hv | hv
  · rcases List.mem_append.1 hv with hv | hv
    · rcases List.mem_append.1 hv with hv | hv
      · simp only [List.mem_cons, List.not_mem_nil, or_false] at hv
        rcases hv with rfl | rfl | rfl | rfl <;> refine ⟨by simp [valOk, noText_list], ?_, ?_⟩ <;> simp only <;> omega
      · exact piece_ok h1 h2 (by decide) v hv
    · exact piece_ok h3 h4 hs v hv
  · exact piece_ok hz.1 hz.2.1 hs' v hv

theorem way_size {y k n : Int} {s : ByteArray} (h : wayOk y k n s = true) : s.size ≤ 32 := by
  by_cases h1 : y = 1
  · subst h1
    simp [wayOk_any] at h
    have := empty_data h.2
    have e : s.size = s.data.toList.length := by simp
    rw [this, List.length_nil] at e
    omega
  · exact val_size (way_val h h1)

theorem within_iff {y k n : Int} {s : ByteArray} {y' k' n' : Int} {s' : ByteArray} (hw : wayOk y k n s = true) (hw' : wayOk y' k' n' s' = true) (hlo : minI ≤ n) (hhi : n ≤ maxI) (hlo' : minI ≤ n') (hhi' : n' ≤ maxI) :
    withinB y k n s y' k' n' s' = true ↔ implP y k n s y' k' n' s' := by
  constructor
  · exact within_sound hw hw' hlo hhi
  · intro h
    cases hb : withinB y k n s y' k' n' s'
    · obtain ⟨v, hm, h1, h2⟩ := within_wit hw hw' hlo hhi hb
      obtain ⟨o1, o2, o3⟩ := tried_ok hlo hhi hlo' hhi' (way_size hw) (way_size hw') v hm
      rw [h _ _ _ o1 o2 o3 h1] at h2; cases h2
    · rfl

/-- As the document's answer has it: all tried values. -/
def triedB (y k n : Int) (s : ByteArray) (y' k' n' : Int) (s' : ByteArray) : Bool := (triedL n s n' s').all fun v => !(lets y k n s v.1 v.2.1 v.2.2 && !lets y' k' n' s' v.1 v.2.1 v.2.2)
theorem tried_eq {y k n : Int} {s : ByteArray} {y' k' n' : Int} {s' : ByteArray} (hw : wayOk y k n s = true) (hw' : wayOk y' k' n' s' = true) (hlo : minI ≤ n) (hhi : n ≤ maxI) (hlo' : minI ≤ n') (hhi' : n' ≤ maxI) :
    triedB y k n s y' k' n' s' = withinB y k n s y' k' n' s' := by
  cases hb : withinB y k n s y' k' n' s'
  · obtain ⟨v, hm, h1, h2⟩ := within_wit hw hw' hlo hhi hb
    unfold triedB
    rw [List.all_eq_false]
    exact ⟨v, hm, by simp [h1, h2]⟩
  · have hs := within_sound hw hw' hlo hhi hb
    unfold triedB
    rw [List.all_eq_true]
    intro v hm
    obtain ⟨o1, o2, o3⟩ := tried_ok hlo hhi hlo' hhi' (way_size hw) (way_size hw') v hm
    cases hl : lets y k n s v.1 v.2.1 v.2.2
    · simp
    · simp [hs _ _ _ o1 o2 o3 hl]

theorem way_of {x : Wnt} (h : wOk x = true) : wayOk x.y x.k x.n x.s = true := by simp [wOk, wantOk] at h; exact h.2
theorem imp_iff {x x' : Wnt} (hx : x.Wf) (hx' : x'.Wf) : impW x x' = true ↔ wOk x = true ∧ wOk x' = true ∧ x.a.toList = x'.a.toList ∧ implP x.y x.k x.n x.s x'.y x'.k x'.n x'.s := by
  unfold impW impB
  simp only [Bool.and_eq_true, beq_iff_eq]
  constructor
  · rintro ⟨⟨⟨h1, h2⟩, h3⟩, h4⟩
    exact ⟨h1, h2, h3, (within_iff (way_of h1) (way_of h2) hx.n1 hx.n2 hx'.n1 hx'.n2).1 h4⟩
  · rintro ⟨h1, h2, h3, h4⟩
    exact ⟨⟨⟨h1, h2⟩, h3⟩, (within_iff (way_of h1) (way_of h2) hx.n1 hx.n2 hx'.n1 hx'.n2).2 h4⟩
theorem imp_refl {x : Wnt} (hx : x.Wf) (h : wOk x = true) : impW x x = true := (imp_iff hx hx).2 ⟨h, h, rfl, fun _ _ _ _ _ _ h => h⟩
theorem imp_trans {x y z : Wnt} (hx : x.Wf) (hy : y.Wf) (hz : z.Wf) (h1 : impW x y = true) (h2 : impW y z = true) : impW x z = true := by
  obtain ⟨a1, _, a3, a4⟩ := (imp_iff hx hy).1 h1
  obtain ⟨_, b2, b3, b4⟩ := (imp_iff hy hz).1 h2
  exact (imp_iff hx hz).2 ⟨a1, b2, a3.trans b3, fun k n s o1 o2 o3 hl => b4 k n s o1 o2 o3 (a4 k n s o1 o2 o3 hl)⟩

theorem cov_iff {f g : List Wnt} : cov f g = true ↔ filterOk f = true ∧ filterOk g = true ∧ ∀ x ∈ f, ∃ v ∈ g, impW v x = true := by
  unfold cov
  simp only [Bool.and_eq_true, List.all_eq_true, List.any_eq_true]
  constructor
  · rintro ⟨⟨h1, h2⟩, h3⟩; exact ⟨h1, h2, h3⟩
  · rintro ⟨h1, h2, h3⟩; exact ⟨⟨h1, h2⟩, h3⟩
theorem cov_sub {f g : List Wnt} (hf : filterOk f = true) (hg : filterOk g = true) (hwf : ∀ x ∈ f, Wnt.Wf x) (h : ∀ x ∈ f, x ∈ g) : cov f g = true :=
  cov_iff.2 ⟨hf, hg, fun x hx => ⟨x, h x hx, imp_refl (hwf x hx) ((fi_ok_of hf).1 x hx)⟩⟩
theorem cov_trans {f g h : List Wnt} (wf : ∀ x ∈ f, Wnt.Wf x) (wg : ∀ x ∈ g, Wnt.Wf x) (wh : ∀ x ∈ h, Wnt.Wf x) (h1 : cov f g = true) (h2 : cov g h = true) : cov f h = true := by
  obtain ⟨a1, _, a3⟩ := cov_iff.1 h1
  obtain ⟨_, b2, b3⟩ := cov_iff.1 h2
  refine cov_iff.2 ⟨a1, b2, fun x hx => ?_⟩
  obtain ⟨v, hv, e1⟩ := a3 x hx
  obtain ⟨u, hu, e2⟩ := b3 v hv
  exact ⟨u, hu, imp_trans (wh u hu) (wg v hv) (wf x hx) e2 e1⟩

theorem ans_imp {v p : Wnt} (hv : v.Wf) (hp : p.Wf) (h : impW v p = true) : ∀ l : List Atr, (∀ z ∈ l, valOk z.k z.n z.s = true) → (∀ z ∈ l, z.Wf) → ans l v = true → ans l p = true
  | [], _, _, hl => by simp [ans] at hl
  | z :: l, h1, h2, hl => by
    obtain ⟨_, _, a3, a4⟩ := (imp_iff hv hp).1 h
    unfold ans at hl ⊢
    rw [a3] at hl
    split
    · rename_i hn
      rw [if_pos hn] at hl
      exact a4 _ _ _ (h1 z (by simp)) (h2 z (by simp)).n1 (h2 z (by simp)).n2 hl
    · rename_i hn
      rw [if_neg hn] at hl
      exact ans_imp hv hp h l (fun z hz => h1 z (by simp [hz])) (fun z hz => h2 z (by simp [hz])) hl
theorem mat_cov {f g : List Wnt} {l : List Atr} (wf : ∀ x ∈ f, Wnt.Wf x) (wg : ∀ x ∈ g, Wnt.Wf x) (he : evOk l = true) (hl : ∀ z ∈ l, z.Wf) (h : cov f g = true) (hm : mat l g = true) : mat l f = true := by
  obtain ⟨_, _, a3⟩ := cov_iff.1 h
  unfold mat at *
  rw [List.all_eq_true] at *
  intro x hx
  obtain ⟨v, hv, e⟩ := a3 x hx
  exact ans_imp (wg v hv) (wf x hx) e l (ev_ok_of he).1 hl (hm v hv)
theorem mat_imp {p q : Wnt} {l : List Atr} (wp : p.Wf) (wq : q.Wf) (he : evOk l = true) (hl : ∀ z ∈ l, z.Wf) (h : impW p q = true) (hm : mat l [p] = true) : mat l [q] = true := by
  simp only [mat, List.all_cons, List.all_nil, Bool.and_true] at *
  exact ans_imp wp wq h l (ev_ok_of he).1 hl hm

end Go.Proofs.YtecnfgikbmcgoaaGreat
