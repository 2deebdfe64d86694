import Derived.Test.YtecnfgikbmcgoaaDoorWants
namespace Go.Proofs.YtecnfgikbmcgoaaDoor
open Go.RowKit

def nOf (zs : List Int) (i : Nat) : Int := if i < zs.length then iat zs i else (i : Int)
def atrF (zs : List Int) (i : Nat) : Atr := ⟨nameF (i : Int), valK ((nOf zs i).tdiv 4), valN ((nOf zs i).tdiv 4), valS ((nOf zs i).tdiv 4)⟩
def ke (zs : List Int) : Nat → List Atr
  | 0 => []
  | k + 1 => if pickF (nOf zs k) 4 = 3 then ke zs k else ke zs k ++ [atrF zs k]
def dAtr : Atr := ⟨⟨#[100]⟩, valK 0, valN 0, valS 0⟩
/-- The event that 'event' makes. -/
def evF (zs : List Int) : List Atr := if ke zs 3 = [] then [dAtr] else ke zs 3

theorem ke_len (zs : List Int) : ∀ k, (ke zs k).length ≤ k
  | 0 => by simp [ke]
  | k + 1 => by
    have := ke_len zs k
    unfold ke; split
    · omega
    · simp; omega
theorem ke_wf (zs : List Int) : ∀ k, ∀ x ∈ ke zs k, x.Wf
  | 0 => by simp [ke]
  | k + 1 => by
    have ih := ke_wf zs k
    have h1 := name_size (k : Int)
    have h3 := val_bd ((nOf zs k).tdiv 4)
    have h4 := valS_size ((nOf zs k).tdiv 4)
    unfold ke; split
    · exact ih
    · intro x hx
      simp at hx
      rcases hx with hx | rfl
      · exact ih x hx
      · constructor <;> simp only [atrF, maxLen, minI, maxI] <;> omega
theorem evF_wf (zs : List Int) : ∀ x ∈ evF zs, x.Wf := by
  unfold evF; split
  · intro x hx
    simp at hx; subst hx
    have h3 := val_bd 0
    have h4 := valS_size 0
    have e : (⟨#[100]⟩ : ByteArray).size = 1 := rfl
    constructor <;> simp only [dAtr, maxLen, minI, maxI] <;> omega
  · exact ke_wf zs 3
theorem evF_len (zs : List Int) : 1 ≤ (evF zs).length ∧ (evF zs).length ≤ 3 := by
  have := ke_len zs 3
  unfold evF; split
  · simp
  · rename_i h
    have hp : 0 < (ke zs 3).length := by
      cases hk : ke zs 3 with
      | nil => exact absurd hk h
      | cons => simp
    omega

theorem one_ok (x : Atr) (hn : nameOk x.a = true) (hv : valOk x.k x.n x.s = true) : evOk [x] = true := by
  simp [evOk, okAt, aat, hn, hv, List.range_succ]
theorem two_ok (x y : Atr) (hn : nameOk x.a = true) (hv : valOk x.k x.n x.s = true) (hn' : nameOk y.a = true) (hv' : valOk y.k y.n y.s = true) (h : Op.bytesLess x.a.toList y.a.toList = true) : evOk [x, y] = true := by
  simp [evOk, okAt, aat, hn, hv, hn', hv', h, List.range_succ]
theorem three_ok (x y z : Atr) (hn : nameOk x.a = true) (hv : valOk x.k x.n x.s = true) (hn' : nameOk y.a = true) (hv' : valOk y.k y.n y.s = true) (hn2 : nameOk z.a = true) (hv2 : valOk z.k z.n z.s = true)
    (h : Op.bytesLess x.a.toList y.a.toList = true) (h' : Op.bytesLess y.a.toList z.a.toList = true) : evOk [x, y, z] = true := by
  simp [evOk, okAt, aat, hn, hv, hn', hv', hn2, hv2, h, h', List.range_succ]
theorem names_rise : Op.bytesLess (nameF 0).toList (nameF 1).toList = true ∧ Op.bytesLess (nameF 1).toList (nameF 2).toList = true ∧ Op.bytesLess (nameF 0).toList (nameF 2).toList = true := by
  simp [nameF, ByteArray.toList_eq, Op.bytesLess]
theorem evF_ok (zs : List Int) : evOk (evF zs) = true := by
  obtain ⟨r1, r2, r3⟩ := names_rise
  have n0 : nameOk (atrF zs 0).a = true := name_ok ((0 : Nat) : Int)
  have n1 : nameOk (atrF zs 1).a = true := name_ok ((1 : Nat) : Int)
  have n2 : nameOk (atrF zs 2).a = true := name_ok ((2 : Nat) : Int)
  have v0 : valOk (atrF zs 0).k (atrF zs 0).n (atrF zs 0).s = true := val_ok _
  have v1 : valOk (atrF zs 1).k (atrF zs 1).n (atrF zs 1).s = true := val_ok _
  have v2 : valOk (atrF zs 2).k (atrF zs 2).n (atrF zs 2).s = true := val_ok _
  have d : evOk [dAtr] = true := one_ok dAtr (by decide) (val_ok 0)
  by_cases h0 : pickF (nOf zs 0) 4 = 3 <;> by_cases h1 : pickF (nOf zs 1) 4 = 3 <;> by_cases h2 : pickF (nOf zs 2) 4 = 3 <;> simp [evF, ke, h0, h1, h2]
  · exact d
  · exact one_ok _ n2 v2
  · exact one_ok _ n1 v1
  · exact two_ok _ _ n1 v1 n2 v2 r2
  · exact one_ok _ n0 v0
  · exact two_ok _ _ n0 v0 n2 v2 r3
  · exact two_ok _ _ n0 v0 n1 v1 r1
  · exact three_ok _ _ _ n0 v0 n1 v1 n2 v2 r1 r2

end Go.Proofs.YtecnfgikbmcgoaaDoor
