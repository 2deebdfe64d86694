import Derived.Test.YtecnfgikbmcgoaaYD
import Derived.Test.YtecnfgikbmcgoaaWQ
namespace Go.Proofs.Ytecnfgikbmcgoaa
open Go.RowKit

/-- What was handed over for f. -/
def Out (Fs : List FE) (ad : Option Addr) (f : List Wnt) : Prop := f = [] ∨ ∃ e ∈ Fs, e.f = f ∧ ad = some ⟨e.g, 0, none⟩
theorem Out.mono {Fs Fs' : List FE} {ad : Option Addr} {f : List Wnt} (h : Out Fs ad f) (k : ∀ e ∈ Fs, e ∈ Fs') : Out Fs' ad f := by
  rcases h with h | ⟨e, he, h1, h2⟩
  · exact Or.inl h
  · exact Or.inr ⟨e, k e he, h1, h2⟩
theorem Out.fi {w : World} {base LB : Nat} {ve vew vf vw : Value} {Fs : List FE} {ad : Option Addr} {f : List Wnt} (h : Out Fs ad f) (hL : LentF w base LB ve vew vf vw Fs) : FiAt w ad f := by
  rcases h with h | ⟨e, he, rfl, rfl⟩
  · exact Or.inl h
  · refine Or.inr ⟨e.g, 0, rfl, (hL.outs e he).2.1, fun i hi => ?_⟩
    have hc := (hL.outs e he).2.2
    obtain ⟨a1, a2, a3, a4, a5⟩ := wcells_at (outW e.f) i (by rw [outW_len]; omega)
    rw [outW_in hi] at a1 a2 a3 a4 a5
    rw [cell_of_row _ _ _ _ _ _ hc, cell_of_row _ _ _ _ _ _ hc, cell_of_row _ _ _ _ _ _ hc, cell_of_row _ _ _ _ _ _ hc, cell_of_row _ _ _ _ _ _ hc]
    simp only [List.getElem?_toArray, Nat.zero_add]
    exact ⟨a1, a2, a3, a4, a5⟩

def FiB' (base : Nat) (w : World) (ad : Option Addr) (f : List Wnt) : Prop := f = [] ∨ FiB base w ad f
theorem FiB'.gr {base : Nat} {w w' : World} {ad : Option Addr} {f : List Wnt} (h : FiB' base w ad f) (g : Below base w w') : FiB' base w' ad f := by
  rcases h with h | h
  · exact Or.inl h
  · exact Or.inr (h.gr g)

theorem lend_any (f : List Wnt) (ad : Option Addr) (cap : Nat) (base LB : Nat) (ve vew vf vw : Value) (Fs : List FE) (w : World) (hlen : f.length ≤ 2513169434845) (hF : FiB' base w ad f) (hwf : ∀ x ∈ f, Wnt.Wf x)
    (hn : Fs.length ≤ 1099511627776) (hb : ∀ e ∈ Fs, e.f.length ≤ 2513169434845) (hL : LentF w base LB ve vew vf vw Fs) :
    Calls Try.prog 10 #[.pointer (some ⟨LB, 0, none⟩), .slice ad f.length cap] w fun e w' => ∃ ad' cap' vf' vw' Fs', e = .returned (.slice ad' f.length cap') ∧ Below base w w' ∧
      LentF w' base LB ve vew vf' vw' Fs' ∧ (∀ e ∈ Fs, e ∈ Fs') ∧ Fs'.length ≤ Fs.length + 1 ∧ (∀ e ∈ Fs', e.f.length ≤ 2513169434845) ∧ Out Fs' ad' f := by
  rcases hF with rfl | hF
  · refine (filter_none ad cap _ w).mono ?_
    rintro e w' ⟨rfl, rfl⟩
    exact ⟨_, _, _, _, _, rfl, Below.refl _ _, hL, fun e he => he, by omega, hb, Or.inl rfl⟩
  · by_cases hne : f = []
    · subst hne
      refine (filter_none ad cap _ w).mono ?_
      rintro e w' ⟨rfl, rfl⟩
      exact ⟨_, _, _, _, _, rfl, Below.refl _ _, hL, fun e he => he, by omega, hb, Or.inl rfl⟩
    · refine (filter_any f ad cap base LB ve vew vf vw Fs w hne hlen hF hwf hn hL).mono ?_
      rintro e w' ⟨g, vf', vw', rfl, hbel, hg, hL'⟩
      refine ⟨_, _, _, _, _, rfl, hbel, hL', fun e he => List.mem_append_left _ he, by simp, ?_, Or.inr ⟨_, List.mem_append_right _ (List.mem_singleton.mpr rfl), rfl, rfl⟩⟩
      intro e he
      rcases List.mem_append.mp he with he | he
      · exact hb e he
      · simp only [List.mem_singleton] at he; subst he; exact hlen

/-- Covers of all filters, the empty ones too. -/
theorem Covers_all (f g : List Wnt) (ad ad' : Option Addr) (cap cap' : Nat) (m : Int) (w : World) (hl : f.length ≤ maxLen) (h : FiAt w ad f) (hwf : ∀ x ∈ f, Wnt.Wf x)
    (hl' : g.length ≤ maxLen) (h' : FiAt w ad' g) (hwf' : ∀ x ∈ g, Wnt.Wf x) (hM : Ml m w) :
    Calls Try.prog 23 #[.slice ad f.length cap, .slice ad' g.length cap'] w fun e w' => e = .returned (.bool (cov f g)) ∧ Gr w w' := by
  by_cases hne : f = []
  · subst hne
    have Hr : cov [] g = false := by simp [cov, filterOk]
    rw [Hr]
    go_enter Try.func23, Try.ntmps23
    go_wp2_with fail
    refine (Check_ad [] ad cap _ (by simp) (Or.inl rfl) (by simp)).mono ?_
    rw [show chk [] = 2 by simp [chk, filterOk]]
    rintro e w1 ⟨rfl, hb1⟩
    go_wp2_with fail
    go_ret
    exact ⟨rfl, hb1⟩
  · by_cases hne' : g = []
    · subst hne'
      have Hr : cov f [] = false := by simp [cov, filterOk]
      rw [Hr]
      go_enter Try.func23, Try.ntmps23
      go_wp2_with fail
      refine (Check_ad f ad cap _ hl h hwf).mono ?_
      cases h2 : filterOk f
      · rw [show chk f = 2 by simp [chk, h2]]
        rintro e w1 ⟨rfl, hb1⟩
        go_wp2_with fail
        go_ret
        exact ⟨rfl, hb1⟩
      · rw [show chk f = 0 by simp [chk, h2]]
        rintro e w1 ⟨rfl, hb1⟩
        go_wp2_with fail
        refine (Check_ad [] ad' cap' _ (by simp) (Or.inl rfl) (by simp)).mono ?_
        rw [show chk [] = 2 by simp [chk, filterOk]]
        rintro e w2 ⟨rfl, hb2⟩
        go_wp2_with fail
        go_ret
        exact ⟨rfl, Gr.call hb1 hb2⟩
    · exact Covers_ad f g ad ad' cap cap' m w hl h hwf hne hl' h' hwf' hne' hM
end Go.Proofs.Ytecnfgikbmcgoaa
