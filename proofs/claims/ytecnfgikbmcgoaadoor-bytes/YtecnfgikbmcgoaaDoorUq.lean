import Derived.Test.YtecnfgikbmcgoaaDoorUo
namespace Go.Proofs.YtecnfgikbmcgoaaDoor
open Go.RowKit

theorem str_data (s : ByteArray) : str s.data.toList = s := by simp [str]
theorem pS_enc (s : ByteArray) (r : List UInt8) (h : s.size ≤ 255) : pS (encS s ++ r) = some (s.data.toList, r) := by
  have hz : s.size = s.data.toList.length := by simp
  have hb : pB (encS s ++ r) = some (s.size, s.data.toList ++ r) := by
    simp only [encS, List.cons_append, pB, UInt8.toNat_ofNat']
    congr 2
    omega
  rw [pS, hb]
  simp only [Option.bind_some, pT]
  rw [if_pos (by rw [List.length_append]; omega), hz, List.take_left, List.drop_left]
theorem pB_nb (n : Int) (q : Nat) (r : List UInt8) : pB (nb n q :: r) = some ((n / 2 ^ (56 - 8 * q) % 256).toNat, r) := by
  have h1 : 0 ≤ n / 2 ^ (56 - 8 * q) % 256 := Int.emod_nonneg _ (by decide)
  have h2 : n / 2 ^ (56 - 8 * q) % 256 < 256 := Int.emod_lt_of_pos _ (by decide)
  simp only [pB, nb, UInt8.toNat_ofNat']
  congr 2
  omega
theorem pN_enc (n : Int) (r : List UInt8) (h1 : minI ≤ n) (h2 : n ≤ maxI) : pN (encN n ++ r) = some (n, r) := by
  have e : encN n ++ r = nb n 0 :: nb n 1 :: nb n 2 :: nb n 3 :: nb n 4 :: nb n 5 :: nb n 6 :: nb n 7 :: r := rfl
  rw [e, pN]
  simp only [pNk, pB_nb, Option.bind_some]
  congr 2
  simp only [Nat.mul_zero, Nat.sub_zero, show 56 - 8 * 1 = 48 from rfl, show 56 - 8 * 2 = 40 from rfl, show 56 - 8 * 3 = 32 from rfl, show 56 - 8 * 4 = 24 from rfl, show 56 - 8 * 5 = 16 from rfl, show 56 - 8 * 6 = 8 from rfl, show 56 - 8 * 7 = 0 from rfl]
  unfold minI at h1
  unfold maxI at h2
  obtain ⟨M, hM⟩ : ∃ M : Int, M = n % 18446744073709551616 := ⟨_, rfl⟩
  have s1 : stp 0 ((n / 2 ^ 56 % 256).toNat) = M / 72057594037927936 := by unfold stp wrap64; omega
  have s2 : stp (M / 72057594037927936) ((n / 2 ^ 48 % 256).toNat) = M / 281474976710656 := by unfold stp wrap64; omega
  have s3 : stp (M / 281474976710656) ((n / 2 ^ 40 % 256).toNat) = M / 1099511627776 := by unfold stp wrap64; omega
  have s4 : stp (M / 1099511627776) ((n / 2 ^ 32 % 256).toNat) = M / 4294967296 := by unfold stp wrap64; omega
  have s5 : stp (M / 4294967296) ((n / 2 ^ 24 % 256).toNat) = M / 16777216 := by unfold stp wrap64; omega
  have s6 : stp (M / 16777216) ((n / 2 ^ 16 % 256).toNat) = M / 65536 := by unfold stp wrap64; omega
  have s7 : stp (M / 65536) ((n / 2 ^ 8 % 256).toNat) = M / 256 := by unfold stp wrap64; omega
  have s8 : stp (M / 256) ((n / 2 ^ 0 % 256).toNat) = n := by unfold stp wrap64; omega
  rw [s1, s2, s3, s4, s5, s6, s7, s8]
theorem pV_enc {k n : Int} {s : ByteArray} (r : List UInt8) (h : valOk k n s = true) (h1 : minI ≤ n) (h2 : n ≤ maxI) : pV (encV k n s ++ r) = some (⟨k, n, s.data.toList⟩, r) := by
  have hk := val_kind h
  rcases hk with rfl | rfl | rfl
  · have hs : s.toList = [] := by simpa [valOk] using h
    have hs' : s.data.toList = [] := by rw [← ByteArray.toList_eq]; exact hs
    simp only [encV, if_true, List.cons_append, pV, pB, Option.bind_some]
    rw [if_pos (by rfl), pN_enc n r h1 h2, hs']
    rfl
  · have hn := val_text h
    subst hn
    have hz : s.size ≤ 32 := val_size' h
    simp only [encV, List.cons_append, pV, pB, Option.bind_some]
    rw [if_neg (by decide), if_pos (by first | rfl | trivial), if_neg (by decide), if_pos (by first | rfl | trivial), pS_enc s r (by omega)]
    rfl
  · obtain ⟨hn, hs⟩ := val_flag h
    have hs' : s.data.toList = [] := by rw [← ByteArray.toList_eq]; exact hs
    rw [hs']
    rcases hn with rfl | rfl <;> rfl
theorem pA_enc {z : Atr} (r : List UInt8) (hn : nameOk z.a = true) (hv : valOk z.k z.n z.s = true) (h1 : minI ≤ z.n) (h2 : z.n ≤ maxI) : pA (encA z ++ r) = some (z, r) := by
  have := name_size' hn
  rw [pA, encA, List.append_assoc, pS_enc _ _ (by omega)]
  simp only [Option.bind_some]
  rw [pV_enc _ hv h1 h2]
  simp [str_data]
theorem pW_enc {x : Wnt} (r : List UInt8) (hn : nameOk x.a = true) (hv : wayOk x.y x.k x.n x.s = true) (h1 : minI ≤ x.n) (h2 : x.n ≤ maxI) : pW (encW x ++ r) = some (x, r) := by
  have := name_size' hn
  have hy := way_bd hv
  have hb : ∀ t, pB (UInt8.ofNat x.y.toNat :: t) = some (x.y.toNat, t) := fun t => by
    simp only [pB, UInt8.toNat_ofNat']
    congr 2
    omega
  rw [pW, encW, List.append_assoc, pS_enc _ _ (by omega)]
  simp only [Option.bind_some, List.cons_append, hb]
  by_cases hy1 : x.y = 1
  · have hw : x.k = 0 ∧ x.n = 0 ∧ x.s.toList = [] := by
      rw [hy1] at hv
      simpa [wayOk, and_assoc] using hv
    rw [if_pos (by omega), if_pos hy1]
    obtain ⟨a, y, k, n, s⟩ := x
    simp only at hy1 hw ⊢
    obtain ⟨rfl, rfl, hs⟩ := hw
    subst hy1
    have hs' : s = str [] := by rw [← str_data s]; congr 1; rw [← ByteArray.toList_eq]; exact hs
    rw [str_data, hs']; rfl
  · rw [if_neg (by omega), if_neg hy1, pV_enc _ (way_val hv hy1) h1 h2]
    have e : ((x.y.toNat : Nat) : Int) = x.y := by omega
    simp [str_data, e]
theorem pMany_enc {α : Type} {p : List UInt8 → Option (α × List UInt8)} {enc : α → List UInt8} (r : List UInt8) : ∀ (l : List α), (∀ z ∈ l, ∀ t, p (enc z ++ t) = some (z, t)) → pMany p l.length (l.flatMap enc ++ r) = some (l, r)
  | [], _ => rfl
  | z :: l, h => by
    rw [List.length_cons, pMany, List.flatMap_cons, List.append_assoc, h z (by simp)]
    simp only [Option.bind_some]
    rw [pMany_enc r l (fun y hy => h y (by simp [hy]))]
    rfl
theorem pE_enc {l : List Atr} (r : List UInt8) (h : evOk l = true) (hw : ∀ z ∈ l, Atr.Wf z) : pE (encE l ++ r) = some (l, r) := by
  obtain ⟨h1, h8⟩ := ev_len h
  have e : encE l ++ r = 69 :: UInt8.ofNat l.length :: (l.flatMap encA ++ r) := by simp [encE]
  rw [e, pE]
  simp only [pB, Option.bind_some]
  rw [if_pos (by rfl)]
  have e2 : (UInt8.ofNat l.length).toNat = l.length := by rw [UInt8.toNat_ofNat']; omega
  rw [e2]
  refine pMany_enc r l (fun z hz t => ?_)
  obtain ⟨i, hi, rfl⟩ := List.getElem_of_mem hz
  obtain ⟨n1, v1⟩ := ev_at h hi
  have ea : aat l i = l[i] := by simp [aat, List.getD_eq_getElem?_getD, List.getElem?_eq_getElem hi]
  rw [ea] at n1 v1
  exact pA_enc t n1 v1 (hw _ hz).n1 (hw _ hz).n2
theorem pF_enc {l : List Wnt} (r : List UInt8) (h : filterOk l = true) (hw : ∀ z ∈ l, Wnt.Wf z) : pF (encF l ++ r) = some (l, r) := by
  obtain ⟨h1, h8⟩ := fi_len h
  have e : encF l ++ r = 70 :: UInt8.ofNat l.length :: (l.flatMap encW ++ r) := by simp [encF]
  rw [e, pF]
  simp only [pB, Option.bind_some]
  rw [if_pos (by rfl)]
  have e2 : (UInt8.ofNat l.length).toNat = l.length := by rw [UInt8.toNat_ofNat']; omega
  rw [e2]
  refine pMany_enc r l (fun z hz t => ?_)
  obtain ⟨i, hi, rfl⟩ := List.getElem_of_mem hz
  obtain ⟨n1, v1⟩ := fi_at h hi
  have ea : wat l i = l[i] := by simp [wat, List.getD_eq_getElem?_getD, List.getElem?_eq_getElem hi]
  rw [ea] at n1 v1
  exact pW_enc t n1 v1 (hw _ hz).n1 (hw _ hz).n2
end Go.Proofs.YtecnfgikbmcgoaaDoor
