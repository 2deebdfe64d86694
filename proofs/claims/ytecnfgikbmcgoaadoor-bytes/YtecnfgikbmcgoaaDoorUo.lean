import Derived.Test.YtecnfgikbmcgoaaDoorUn
namespace Go.Proofs.YtecnfgikbmcgoaaDoor
open Go.RowKit

theorem pS_len {l x r : List UInt8} (h : pS l = some (x, r)) : x.length ≤ 255 := by
  unfold pS at h
  cases h1 : pB l with
  | none => rw [h1] at h; cases h
  | some y =>
    rw [h1] at h
    have := pB_lt (n := y.1) (r := y.2) h1
    have := pT_len h
    omega
theorem wrap_bd (x : Int) : minI ≤ wrap64 x ∧ wrap64 x ≤ maxI := by
  unfold wrap64 minI maxI; omega
theorem pNk_bd : ∀ (k : Nat) {x n : Int} {l r : List UInt8}, (minI ≤ x ∧ x ≤ maxI) → pNk k x l = some (n, r) → minI ≤ n ∧ n ≤ maxI
  | 0, x, n, l, r, hx, h => by
    simp only [pNk, Option.some.injEq, Prod.mk.injEq] at h
    rw [← h.1]; exact hx
  | k + 1, x, n, l, r, _, h => by
    simp only [pNk] at h
    cases h1 : pB l with
    | none => rw [h1] at h; cases h
    | some y => rw [h1] at h; exact pNk_bd k (wrap_bd _) h
theorem pV_wf {v : Vl} {l r : List UInt8} (h : pV l = some (v, r)) : v.s.length ≤ 255 ∧ minI ≤ v.n ∧ v.n ≤ maxI := by
  unfold pV at h
  cases h1 : pB l with
  | none => rw [h1] at h; cases h
  | some y =>
    rw [h1] at h
    simp only [Option.bind_some] at h
    have hz : minI ≤ (0 : Int) ∧ (0 : Int) ≤ maxI := by unfold minI maxI; omega
    split at h
    · cases h2 : pN y.2 with
      | none => rw [h2] at h; cases h
      | some z =>
        rw [h2] at h
        have hb := pNk_bd 8 (n := z.1) (r := z.2) hz h2
        simp at h; rw [← h.1]; exact ⟨by simp, hb⟩
    · split at h
      · cases h2 : pS y.2 with
        | none => rw [h2] at h; cases h
        | some z =>
          rw [h2] at h
          have hb := pS_len (x := z.1) (r := z.2) h2
          simp at h; rw [← h.1]; exact ⟨hb, hz⟩
      · split at h
        · cases h2 : pB y.2 with
          | none => rw [h2] at h; cases h
          | some z =>
            rw [h2] at h
            have hb := pB_lt (n := z.1) (r := z.2) h2
            simp at h; rw [← h.1]
            refine ⟨by simp, ?_⟩
            show minI ≤ (z.1 : Int) ∧ (z.1 : Int) ≤ maxI
            unfold minI maxI; omega
        · simp at h; rw [← h.1]; exact ⟨by simp, hz⟩
theorem str_wf {x : List UInt8} (h : x.length ≤ 255) : (str x).size ≤ maxLen := by rw [str_size]; unfold maxLen; omega
theorem pA_wf {z : Atr} {l r : List UInt8} (h : pA l = some (z, r)) : z.Wf := by
  unfold pA at h
  cases h1 : pS l with
  | none => rw [h1] at h; cases h
  | some y =>
    rw [h1] at h
    simp only [Option.bind_some] at h
    cases h2 : pV y.2 with
    | none => rw [h2] at h; cases h
    | some v =>
      rw [h2] at h
      have a1 := pS_len (x := y.1) (r := y.2) h1
      have a2 := pV_wf (v := v.1) (r := v.2) h2
      simp at h; rw [← h.1]
      exact ⟨str_wf a1, str_wf a2.1, a2.2.1, a2.2.2⟩
theorem pW_wf {z : Wnt} {l r : List UInt8} (h : pW l = some (z, r)) : z.Wf := by
  unfold pW at h
  cases h1 : pS l with
  | none => rw [h1] at h; cases h
  | some y =>
    rw [h1] at h
    simp only [Option.bind_some] at h
    have a1 := pS_len (x := y.1) (r := y.2) h1
    cases h2 : pB y.2 with
    | none => rw [h2] at h; cases h
    | some b =>
      rw [h2] at h
      simp only [Option.bind_some] at h
      split at h
      · simp at h; rw [← h.1]
        exact ⟨str_wf a1, str_wf (by simp), by show minI ≤ (0 : Int); unfold minI; omega, by show (0 : Int) ≤ maxI; unfold maxI; omega⟩
      · cases h3 : pV b.2 with
        | none => rw [h3] at h; cases h
        | some v =>
          rw [h3] at h
          have a2 := pV_wf (v := v.1) (r := v.2) h3
          simp at h; rw [← h.1]
          exact ⟨str_wf a1, str_wf a2.1, a2.2.1, a2.2.2⟩
theorem pMany_wf {α : Type} {p : List UInt8 → Option (α × List UInt8)} {P : α → Prop} (hp : ∀ {z : α} {l r : List UInt8}, p l = some (z, r) → P z) : ∀ (k : Nat) {xs : List α} {l r : List UInt8}, pMany p k l = some (xs, r) → (∀ x ∈ xs, P x) ∧ xs.length = k
  | 0, xs, l, r, h => by
    simp only [pMany, Option.some.injEq, Prod.mk.injEq] at h
    rw [← h.1]; simp
  | k + 1, xs, l, r, h => by
    simp only [pMany] at h
    cases h1 : p l with
    | none => rw [h1] at h; cases h
    | some y =>
      rw [h1] at h
      simp only [Option.bind_some] at h
      cases h2 : pMany p k y.2 with
      | none => rw [h2] at h; cases h
      | some v =>
        rw [h2] at h
        obtain ⟨i1, i2⟩ := pMany_wf hp k (xs := v.1) (r := v.2) h2
        simp at h; rw [← h.1]
        refine ⟨fun x hx => ?_, by simp [i2]⟩
        rcases List.mem_cons.1 hx with rfl | hx
        · exact hp (z := y.1) (r := y.2) h1
        · exact i1 x hx
theorem pE_wf {x : List Atr} {l r : List UInt8} (h : pE l = some (x, r)) : (∀ z ∈ x, Atr.Wf z) ∧ x.length ≤ 255 := by
  unfold pE at h
  cases h1 : pB l with
  | none => rw [h1] at h; cases h
  | some m =>
    rw [h1] at h
    simp only [Option.bind_some] at h
    split at h
    · cases h2 : pB m.2 with
      | none => rw [h2] at h; cases h
      | some c =>
        rw [h2] at h
        have hc := pB_lt (n := c.1) (r := c.2) h2
        obtain ⟨i1, i2⟩ := pMany_wf (P := Atr.Wf) pA_wf _ h
        exact ⟨i1, by omega⟩
    · simp at h; rw [h.1]; simp
theorem pF_wf {x : List Wnt} {l r : List UInt8} (h : pF l = some (x, r)) : (∀ z ∈ x, Wnt.Wf z) ∧ x.length ≤ 255 := by
  unfold pF at h
  cases h1 : pB l with
  | none => rw [h1] at h; cases h
  | some m =>
    rw [h1] at h
    simp only [Option.bind_some] at h
    split at h
    · cases h2 : pB m.2 with
      | none => rw [h2] at h; cases h
      | some c =>
        rw [h2] at h
        have hc := pB_lt (n := c.1) (r := c.2) h2
        obtain ⟨i1, i2⟩ := pMany_wf (P := Wnt.Wf) pW_wf _ h
        exact ⟨i1, by omega⟩
    · simp at h; rw [h.1]; simp
end Go.Proofs.YtecnfgikbmcgoaaDoor
