import Derived.Test.YtecnfgikbmcgoaaDoorUl
namespace Go.Proofs.YtecnfgikbmcgoaaDoor
open Go.RowKit

theorem pB_mono {l r t : List UInt8} {n : Nat} (h : pB l = some (n, r)) : pB (l ++ t) = some (n, r ++ t) := by
  cases l with
  | nil => cases h
  | cons b l => simp [pB] at h ⊢; exact ⟨h.1, by rw [h.2]⟩
theorem pT_mono {n : Nat} {l x r t : List UInt8} (h : pT n l = some (x, r)) : pT n (l ++ t) = some (x, r ++ t) := by
  unfold pT at h ⊢
  split at h
  · rename_i hl
    injection h with h; injection h with h1 h2
    rw [if_pos (by simp; omega), List.take_append_of_le_length hl, List.drop_append_of_le_length hl, h1, h2]
  · cases h
theorem pS_mono {l x r t : List UInt8} (h : pS l = some (x, r)) : pS (l ++ t) = some (x, r ++ t) := by
  unfold pS at h ⊢
  cases h1 : pB l with
  | none => rw [h1] at h; cases h
  | some y =>
    obtain ⟨n, q⟩ := y
    rw [h1] at h
    rw [pB_mono h1]
    exact pT_mono h
theorem pNk_mono : ∀ (k : Nat) {x n : Int} {l r t : List UInt8}, pNk k x l = some (n, r) → pNk k x (l ++ t) = some (n, r ++ t)
  | 0, x, n, l, r, t, h => by
    simp only [pNk, Option.some.injEq, Prod.mk.injEq] at h ⊢
    exact ⟨h.1, by rw [h.2]⟩
  | k + 1, x, n, l, r, t, h => by
    simp only [pNk] at h ⊢
    cases h1 : pB l with
    | none => rw [h1] at h; cases h
    | some y =>
      obtain ⟨b, q⟩ := y
      rw [h1] at h
      rw [pB_mono h1]
      exact pNk_mono k h
theorem pN_mono {n : Int} {l r t : List UInt8} (h : pN l = some (n, r)) : pN (l ++ t) = some (n, r ++ t) := pNk_mono 8 h
theorem pV_mono {v : Vl} {l r t : List UInt8} (h : pV l = some (v, r)) : pV (l ++ t) = some (v, r ++ t) := by
  unfold pV at h ⊢
  cases h1 : pB l with
  | none => rw [h1] at h; cases h
  | some y =>
    obtain ⟨b, q⟩ := y
    rw [h1] at h
    rw [pB_mono h1]
    simp only [Option.bind_some] at h ⊢
    split at h
    · rename_i hb
      rw [if_pos hb]
      cases h2 : pN q with
      | none => rw [h2] at h; cases h
      | some z => rw [h2] at h; rw [pN_mono (n := z.1) (r := z.2) h2]; simp at h ⊢; exact ⟨h.1, by rw [h.2]⟩
    · rename_i hb
      rw [if_neg hb]
      split at h
      · rename_i hb2
        rw [if_pos hb2]
        cases h2 : pS q with
        | none => rw [h2] at h; cases h
        | some z => rw [h2] at h; rw [pS_mono (x := z.1) (r := z.2) h2]; simp at h ⊢; exact ⟨h.1, by rw [h.2]⟩
      · rename_i hb2
        rw [if_neg hb2]
        split at h
        · rename_i hb3
          rw [if_pos hb3]
          cases h2 : pB q with
          | none => rw [h2] at h; cases h
          | some z => rw [h2] at h; rw [pB_mono (n := z.1) (r := z.2) h2]; simp at h ⊢; exact ⟨h.1, by rw [h.2]⟩
        · rename_i hb3
          rw [if_neg hb3]
          simp at h ⊢; exact ⟨h.1, by rw [h.2]⟩
theorem pA_mono {z : Atr} {l r t : List UInt8} (h : pA l = some (z, r)) : pA (l ++ t) = some (z, r ++ t) := by
  unfold pA at h ⊢
  cases h1 : pS l with
  | none => rw [h1] at h; cases h
  | some y =>
    rw [h1] at h
    rw [pS_mono (x := y.1) (r := y.2) h1]
    simp only [Option.bind_some] at h ⊢
    cases h2 : pV y.2 with
    | none => rw [h2] at h; cases h
    | some v => rw [h2] at h; rw [pV_mono (v := v.1) (r := v.2) h2]; simp at h ⊢; exact ⟨h.1, by rw [h.2]⟩
theorem pW_mono {z : Wnt} {l r t : List UInt8} (h : pW l = some (z, r)) : pW (l ++ t) = some (z, r ++ t) := by
  unfold pW at h ⊢
  cases h1 : pS l with
  | none => rw [h1] at h; cases h
  | some y =>
    rw [h1] at h
    rw [pS_mono (x := y.1) (r := y.2) h1]
    simp only [Option.bind_some] at h ⊢
    cases h2 : pB y.2 with
    | none => rw [h2] at h; cases h
    | some b =>
      rw [h2] at h
      rw [pB_mono (n := b.1) (r := b.2) h2]
      simp only [Option.bind_some] at h ⊢
      split at h
      · rename_i hb
        rw [if_pos hb]
        simp at h ⊢; exact ⟨h.1, by rw [h.2]⟩
      · rename_i hb
        rw [if_neg hb]
        cases h3 : pV b.2 with
        | none => rw [h3] at h; cases h
        | some v => rw [h3] at h; rw [pV_mono (v := v.1) (r := v.2) h3]; simp at h ⊢; exact ⟨h.1, by rw [h.2]⟩
theorem pMany_mono {α : Type} {p : List UInt8 → Option (α × List UInt8)} (hp : ∀ {z : α} {l r t : List UInt8}, p l = some (z, r) → p (l ++ t) = some (z, r ++ t)) : ∀ (k : Nat) {xs : List α} {l r t : List UInt8}, pMany p k l = some (xs, r) → pMany p k (l ++ t) = some (xs, r ++ t)
  | 0, xs, l, r, t, h => by
    simp only [pMany, Option.some.injEq, Prod.mk.injEq] at h ⊢
    exact ⟨h.1, by rw [h.2]⟩
  | k + 1, xs, l, r, t, h => by
    simp only [pMany] at h ⊢
    cases h1 : p l with
    | none => rw [h1] at h; cases h
    | some y =>
      rw [h1] at h
      rw [hp (z := y.1) (r := y.2) h1]
      simp only [Option.bind_some] at h ⊢
      cases h2 : pMany p k y.2 with
      | none => rw [h2] at h; cases h
      | some v => rw [h2] at h; rw [pMany_mono hp k (xs := v.1) (r := v.2) h2]; simp at h ⊢; exact ⟨h.1, by rw [h.2]⟩
theorem pE_mono {x : List Atr} {l r t : List UInt8} (h : pE l = some (x, r)) : pE (l ++ t) = some (x, r ++ t) := by
  unfold pE at h ⊢
  cases h1 : pB l with
  | none => rw [h1] at h; cases h
  | some m =>
    rw [h1] at h
    rw [pB_mono (n := m.1) (r := m.2) h1]
    simp only [Option.bind_some] at h ⊢
    split at h
    · rename_i hb
      rw [if_pos hb]
      cases h2 : pB m.2 with
      | none => rw [h2] at h; cases h
      | some c =>
        rw [h2] at h
        rw [pB_mono (n := c.1) (r := c.2) h2]
        exact pMany_mono pA_mono _ h
    · rename_i hb
      rw [if_neg hb]
      simp at h ⊢; exact ⟨h.1, by rw [h.2]⟩
theorem pF_mono {x : List Wnt} {l r t : List UInt8} (h : pF l = some (x, r)) : pF (l ++ t) = some (x, r ++ t) := by
  unfold pF at h ⊢
  cases h1 : pB l with
  | none => rw [h1] at h; cases h
  | some m =>
    rw [h1] at h
    rw [pB_mono (n := m.1) (r := m.2) h1]
    simp only [Option.bind_some] at h ⊢
    split at h
    · rename_i hb
      rw [if_pos hb]
      cases h2 : pB m.2 with
      | none => rw [h2] at h; cases h
      | some c =>
        rw [h2] at h
        rw [pB_mono (n := c.1) (r := c.2) h2]
        exact pMany_mono pW_mono _ h
    · rename_i hb
      rw [if_neg hb]
      simp at h ⊢; exact ⟨h.1, by rw [h.2]⟩
end Go.Proofs.YtecnfgikbmcgoaaDoor
