import Derived.Test.YtecnfgikbmcgoaaDoorOwn
namespace Go.Proofs.YtecnfgikbmcgoaaDoor
open Go.RowKit

def pickF (c n : Int) : Int := (if c < 0 then -(c + 1) else c) % n
theorem pickF_bd (c n : Int) (hn : 1 ≤ n) : 0 ≤ pickF c n ∧ pickF c n < n := by
  unfold pickF
  exact ⟨Int.emod_nonneg _ (by omega), Int.emod_lt_of_pos _ (by omega)⟩

def textF (n : Int) : ByteArray :=
  if n % 6 = 0 then ⟨#[]⟩ else if n % 6 = 1 then ⟨#[97]⟩ else if n % 6 = 2 then ⟨#[97, 98]⟩ else if n % 6 = 3 then ⟨#[98, 97]⟩ else if n % 6 = 4 then ⟨#[97, 98, 97]⟩ else ⟨#[98]⟩
def nameF (n : Int) : ByteArray := if n % 3 = 0 then ⟨#[97]⟩ else if n % 3 = 1 then ⟨#[98]⟩ else ⟨#[99]⟩
def valK (n : Int) : Int := if pickF n 60 % 3 = 0 then 1 else if pickF n 60 % 3 = 1 then 2 else 3
def valN (n : Int) : Int := if pickF n 60 % 3 = 0 then pickF n 60 / 3 % 7 - 3 else if pickF n 60 % 3 = 1 then 0 else pickF n 60 / 3 % 2
def valS (n : Int) : ByteArray := if pickF n 60 % 3 = 0 then ⟨#[]⟩ else if pickF n 60 % 3 = 1 then textF (pickF n 60 / 3) else ⟨#[]⟩

def wk (n : Int) : Int := pickF n 1073741824
def wy (n : Int) : Int := 1 + wk n / 3 % 10
def wantF (n : Int) : Wnt :=
  if wy n = 1 then ⟨nameF (wk n), 1, 0, 0, ⟨#[]⟩⟩
  else if 8 ≤ wy n then ⟨nameF (wk n), wy n, 2, 0, textF (wk n / 30)⟩
  else if 4 ≤ wy n then ⟨nameF (wk n), wy n, 1, wk n / 30 % 7 - 3, ⟨#[]⟩⟩
  else ⟨nameF (wk n), wy n, valK (wk n / 30), valN (wk n / 30), valS (wk n / 30)⟩

theorem lit_list (l : List UInt8) : (⟨l.toArray⟩ : ByteArray).toList = l := by rw [ByteArray.toList_eq]
theorem text_size (n : Int) : (textF n).size ≤ 3 := by
  unfold textF
  repeat' split
  all_goals decide
theorem name_ok (n : Int) : nameOk (nameF n) = true := by
  unfold nameF
  repeat' split
  all_goals decide
theorem name_size (n : Int) : (nameF n).size = 1 := by
  unfold nameF
  repeat' split
  all_goals decide
theorem val_ok (n : Int) : valOk (valK n) (valN n) (valS n) = true := by
  have hs := text_size (pickF n 60 / 3)
  have he : (⟨#[]⟩ : ByteArray).toList = [] := noText_list
  unfold valK valN valS
  split
  · simp [valOk, he]
  · split
    · simp [valOk]; omega
    · simp [valOk, he]; omega
theorem val_bd (n : Int) : -3 ≤ valN n ∧ valN n ≤ 3 := by
  unfold valN; split
  · omega
  · split <;> omega
theorem valS_size (n : Int) : (valS n).size ≤ 3 := by
  unfold valS
  have := text_size (pickF n 60 / 3)
  have e : (⟨#[]⟩ : ByteArray).size = 0 := rfl
  split
  · omega
  · split
    · exact this
    · omega
theorem wantF_ok (n : Int) : wOk (wantF n) = true := by
  have hb := pickF_bd n 1073741824 (by omega)
  have hy : 1 ≤ wy n ∧ wy n ≤ 10 := by unfold wy; omega
  have he : (⟨#[]⟩ : ByteArray).toList = [] := noText_list
  have hs := text_size (wk n / 30)
  unfold wantF
  split
  · simp [wOk, wantOk, name_ok, wayOk_any, he]
  · split
    · simp only [wOk, wantOk, name_ok, Bool.true_and]
      rw [wayOk_hi _ _ _ _ (by omega) (by omega)]; simp [valOk]; omega
    · split
      · simp only [wOk, wantOk, name_ok, Bool.true_and]
        rw [wayOk_mid _ _ _ _ (by omega) (by omega)]; simp [valOk, he]
      · simp only [wOk, wantOk, name_ok, Bool.true_and]
        rw [wayOk_low _ _ _ _ (by omega) (by omega)]; exact val_ok _
theorem wantF_wf (n : Int) : (wantF n).Wf := by
  have h1 := name_size (wk n)
  have h2 := text_size (wk n / 30)
  have h3 := val_bd (wk n / 30)
  have h4 := valS_size (wk n / 30)
  have e : (⟨#[]⟩ : ByteArray).size = 0 := rfl
  unfold wantF
  repeat' split
  all_goals constructor <;> simp only [maxLen, minI, maxI] <;> omega

end Go.Proofs.YtecnfgikbmcgoaaDoor
