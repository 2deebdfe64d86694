import Derived.Test.YtecnfgikbmcgoaaEvt
namespace Go.Proofs.Ytecnfgikbmcgoaa

theorem bytes_irr (x : List UInt8) : Op.bytesLess x x = false := by
  have h := bytes_total x x
  cases hb : Op.bytesLess x x
  · rfl
  · rw [hb] at h; simp at h
theorem bytes_trans : ∀ x y z : List UInt8, Op.bytesLess x y = true → Op.bytesLess y z = true → Op.bytesLess x z = true
  | [], y, [], h1, h2 => by cases y <;> simp [Op.bytesLess] at h2
  | [], _, _ :: _, _, _ => by simp [Op.bytesLess]
  | _ :: _, [], _, h1, _ => by simp [Op.bytesLess] at h1
  | _ :: _, _ :: _, [], _, h2 => by simp [Op.bytesLess] at h2
  | a :: x, b :: y, c :: z, h1, h2 => by
    have ih := bytes_trans x y z
    simp only [Op.bytesLess] at h1 h2 ⊢
    simp only [UInt8.lt_iff_toNat_lt, beq_iff_eq, Bool.or_eq_true, Bool.and_eq_true, decide_eq_true_eq, ← UInt8.toNat_inj] at h1 h2 ⊢
    rcases h1 with h1 | ⟨h1, k1⟩ <;> rcases h2 with h2 | ⟨h2, k2⟩
    · exact Or.inl (by omega)
    · exact Or.inl (by omega)
    · exact Or.inl (by omega)
    · exact Or.inr ⟨by omega, ih k1 k2⟩

/-- In an event names rise. -/
theorem ev_rise {l : List Atr} (h : evOk l = true) : ∀ (j i : Nat), i < j → j < l.length → Op.bytesLess (aat l i).a.toList (aat l j).a.toList = true
  | 0, i, hi, _ => by omega
  | j + 1, i, hi, hj => by
    have hk : okAt l (j + 1) = true := by
      simp only [evOk, Bool.and_eq_true] at h
      exact List.all_eq_true.mp h.2 (j + 1) (List.mem_range.mpr hj)
    have hs : Op.bytesLess (aat l j).a.toList (aat l (j + 1)).a.toList = true := by
      simp only [okAt, Bool.and_eq_true, Bool.or_eq_true] at hk
      rcases hk.2 with hk | hk
      · simp at hk
      · exact hk
    rcases Nat.lt_or_ge i j with hij | hij
    · exact bytes_trans _ _ _ (ev_rise h j i hij (by omega)) hs
    · have : i = j := by omega
      subst this; exact hs
theorem ev_apart {l : List Atr} (h : evOk l = true) {i j : Nat} (hij : i < j) (hj : j < l.length) : ((aat l j).a.toList == (aat l i).a.toList) = false := by
  have hr := ev_rise h j i hij hj
  cases hb : ((aat l j).a.toList == (aat l i).a.toList)
  · rfl
  · rw [beq_iff_eq] at hb
    rw [hb, bytes_irr] at hr; exact absurd hr (by simp)

/-- Any attribute of that name lets it by: in an event, the first one does. -/
def hit (x : Wnt) (z : Atr) : Bool := z.a.toList == x.a.toList && lets x.y x.k x.n x.s z.k z.n z.s
theorem ans_hit {l : List Atr} (h : evOk l = true) (x : Wnt) : ∀ (n k : Nat), k + n = l.length → ans (l.drop k) x = (l.drop k).any (hit x)
  | 0, k, hk => by rw [ans_end k (by omega), List.drop_of_length_le (by omega)]; rfl
  | n + 1, k, hk => by
    have hlt : k < l.length := by omega
    have e : l.drop k = aat l k :: l.drop (k + 1) := by
      rw [List.drop_eq_getElem_cons hlt]; simp [aat, List.getD_eq_getElem?_getD, List.getElem?_eq_getElem hlt]
    cases hn : ((aat l k).a.toList == x.a.toList)
    · rw [ans_next k hlt hn, ans_hit h x n (k + 1) (by omega), e, List.any_cons, hit, hn]; simp
    · rw [ans_here k hlt hn, e, List.any_cons]
      have hz : (l.drop (k + 1)).any (hit x) = false := by
        rw [List.any_eq_false]
        intro z hz
        obtain ⟨i, hi, rfl⟩ := List.mem_iff_getElem.mp hz
        simp only [List.length_drop] at hi
        have ha := ev_apart h (i := k) (j := k + 1 + i) (by omega) (by omega)
        rw [beq_iff_eq] at hn
        rw [hn] at ha
        have hg : (l.drop (k + 1))[i] = aat l (k + 1 + i) := by
          simp [aat, List.getD_eq_getElem?_getD, List.getElem?_eq_getElem (show k + 1 + i < l.length by omega)]
        rw [hg, hit, ha]; simp
      rw [hz, hit, hn]; simp
theorem mat_hit {l : List Atr} (h : evOk l = true) (f : List Wnt) : mat l f = f.all fun x => l.any (hit x) := by
  unfold mat
  congr 1
  funext x
  have := ans_hit h x l.length 0 (by omega)
  simpa using this

end Go.Proofs.Ytecnfgikbmcgoaa
