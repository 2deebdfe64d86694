import Derived.Test.YtecnfgikbmcgoaaGreatG4
namespace Go.Proofs.YtecnfgikbmcgoaaGreat
open Go.RowKit

def aT : ByteArray := ⟨#[97]⟩
def zT : ByteArray := ⟨#[122]⟩
def oT : ByteArray := ⟨#[0]⟩
def fT : ByteArray := ⟨#[255]⟩
/-- The values that are tried of a number and a text. -/
def piece (n : Int) (s : ByteArray) : List (Int × Int × ByteArray) :=
  [(1, n, noText), (1, wrap64 (n + 1), noText), (1, wrap64 (n - 1), noText), (2, 0, s)] ++
    (if s.size < 32 then [(2, 0, s ++ aT), (2, 0, aT ++ s), (2, 0, s ++ zT), (2, 0, zT ++ s), (2, 0, s ++ oT), (2, 0, oT ++ s), (2, 0, s ++ fT), (2, 0, fT ++ s)] else [])
def triedL (n : Int) (s : ByteArray) (n' : Int) (s' : ByteArray) : List (Int × Int × ByteArray) :=
  [(3, 0, noText), (3, 1, noText), (1, minI, noText), (1, maxI, noText)] ++ piece n noText ++ piece n' s ++ piece 0 s'

def Wit (y k n : Int) (s : ByteArray) (y' k' n' : Int) (s' : ByteArray) : Prop :=
  ∃ v ∈ triedL n s n' s', lets y k n s v.1 v.2.1 v.2.2 = true ∧ lets y' k' n' s' v.1 v.2.1 v.2.2 = false

theorem app_data (s t : ByteArray) : (s ++ t).data.toList = s.data.toList ++ t.data.toList := by simp
theorem wit_mk {y k n : Int} {s : ByteArray} {y' k' n' : Int} {s' : ByteArray} (kv nv : Int) (sv : ByteArray) (hm : (kv, nv, sv) ∈ triedL n s n' s') (h1 : lets y k n s kv nv sv = true) (h2 : lets y' k' n' s' kv nv sv = false) : Wit y k n s y' k' n' s' :=
  ⟨_, hm, h1, h2⟩

section
variable (n : Int) (s : ByteArray) (n' : Int) (s' : ByteArray)
theorem m_f0 : (3, 0, noText) ∈ triedL n s n' s' := by simp [triedL]
theorem m_f1 : (3, 1, noText) ∈ triedL n s n' s' := by simp [triedL]
theorem m_min : (1, minI, noText) ∈ triedL n s n' s' := by simp [triedL]
theorem m_max : (1, maxI, noText) ∈ triedL n s n' s' := by simp [triedL]
theorem m_an : (1, n, noText) ∈ triedL n s n' s' := by simp [triedL, piece]
theorem m_anp : (1, wrap64 (n + 1), noText) ∈ triedL n s n' s' := by simp [triedL, piece]
theorem m_anm : (1, wrap64 (n - 1), noText) ∈ triedL n s n' s' := by simp [triedL, piece]
theorem m_bn : (1, n', noText) ∈ triedL n s n' s' := by simp [triedL, piece]
theorem m_0 : (1, 0, noText) ∈ triedL n s n' s' := by simp [triedL, piece]
theorem m_e : (2, 0, noText) ∈ triedL n s n' s' := by simp [triedL, piece]
theorem m_as : (2, 0, s) ∈ triedL n s n' s' := by simp [triedL, piece]
theorem m_bs : (2, 0, s') ∈ triedL n s n' s' := by simp [triedL, piece]
theorem m_ea : (2, 0, noText ++ aT) ∈ triedL n s n' s' := by simp [triedL, piece, show noText.size < 32 by decide]
theorem m_ez : (2, 0, noText ++ zT) ∈ triedL n s n' s' := by simp [triedL, piece, show noText.size < 32 by decide]
theorem m_sa (h : s.size < 32) : (2, 0, s ++ aT) ∈ triedL n s n' s' := by simp [triedL, piece, h]
theorem m_sz (h : s.size < 32) : (2, 0, s ++ zT) ∈ triedL n s n' s' := by simp [triedL, piece, h]
theorem m_as' (h : s.size < 32) : (2, 0, aT ++ s) ∈ triedL n s n' s' := by simp [triedL, piece, h]
theorem m_zs (h : s.size < 32) : (2, 0, zT ++ s) ∈ triedL n s n' s' := by simp [triedL, piece, h]
end

theorem wit_text {y : Int} {s : ByteArray} {y' : Int} {s' : ByteArray} (hw : wayOk y 2 0 s = true) (hw' : wayOk y' 2 0 s' = true) (v : ByteArray) (hm : (2, 0, v) ∈ triedL 0 s 0 s')
    (h1 : letsT y s.data.toList v.data.toList) (h2 : ¬ letsT y' s'.data.toList v.data.toList) : Wit y 2 0 s y' 2 0 s' := by
  refine wit_mk 2 0 v hm ((lets_text (way_texts hw)).2 h1) ?_
  cases h : lets y' 2 0 s' 2 0 v
  · rfl
  · exact absurd ((lets_text (way_texts hw')).1 h) h2

theorem letsT_in {y' : Int} {t v : List UInt8} (h3 : y' ≠ 3) (h : letsT y' t v) : t <:+: v := by
  rcases h with ⟨_, h⟩ | ⟨h, _⟩ | ⟨_, h⟩ | ⟨_, h⟩ | ⟨_, h⟩
  · rw [h]; exact List.infix_refl t
  · exact absurd h h3
  · exact h.isInfix
  · exact h.isInfix
  · exact h
theorem in_single {t : List UInt8} {c : UInt8} (h : t <:+: [c]) : t = [] ∨ t = [c] := by
  cases t with
  | nil => exact Or.inl rfl
  | cons d t =>
    refine Or.inr (h.eq_of_length ?_)
    have := h.length_le
    simp at this ⊢
    simp [this]
theorem in_empty {t : List UInt8} (h : t <:+: []) : t = [] := by
  have := h.length_le
  exact List.length_eq_zero_iff.1 (by simpa using this)
theorem pre_head {t s : List UInt8} {c : UInt8} (h : t <+: c :: s) (hne : t ≠ []) : t.head? = some c := by
  obtain ⟨p, hp⟩ := h
  cases t with
  | nil => exact absurd rfl hne
  | cons d t => simp at hp; simp [hp.1]
theorem suf_last {t s : List UInt8} {c : UInt8} (h : t <:+ s ++ [c]) (hne : t ≠ []) : t.getLast? = some c := by
  obtain ⟨p, hp⟩ := h
  have := congrArg List.getLast? hp
  rw [List.getLast?_append, List.getLast?_append] at this
  cases hl : t.getLast? with
  | none => exact absurd (List.getLast?_eq_none_iff.1 hl) hne
  | some d => rw [hl] at this; simpa using this

theorem texts_wit {y : Int} {s : ByteArray} {y' : Int} {s' : ByteArray} (hw : wayOk y 2 0 s = true) (hw' : wayOk y' 2 0 s' = true) (h3 : y' ≠ 3) (h : textsB y s y' s' = false) : Wit y 2 0 s y' 2 0 s' := by
  have hy := way_texts hw
  have hy' := way_texts hw'
  have hs32 := val_size (way_text hw)
  have da : (noText ++ aT).data.toList = [97] := rfl
  have dz : (noText ++ zT).data.toList = [122] := rfl
  have de : noText.data.toList = [] := rfl
  unfold textsB at h
  by_cases e3 : y = 3
  · subst e3
    simp only [beq_self_eq_true, if_true] at h
    have h2 : s'.data.toList = [] → y' = 2 := fun e => by
      have : s'.toList.isEmpty = true := (isEmpty_data s').2 e
      rw [this] at h; simpa using h
    by_cases hs : s'.data.toList = []
    · obtain rfl := h2 hs
      by_cases ha : s.data.toList = [97]
      · refine wit_text hw hw' _ (m_ez 0 s 0 s') (by rw [dz, ha]; simp [letsT]) ?_
        rw [dz, hs]; simp [letsT]
      · refine wit_text hw hw' _ (m_ea 0 s 0 s') (by rw [da]; simp [letsT]; exact fun e => ha e.symm) ?_
        rw [da, hs]; simp [letsT]
    · by_cases hs0 : s.data.toList = []
      · by_cases ha : s'.data.toList = [97]
        · refine wit_text hw hw' _ (m_ez 0 s 0 s') (by rw [dz, hs0]; simp [letsT]) (fun hl => ?_)
          rw [dz] at hl
          rcases in_single (letsT_in h3 hl) with e | e
          · exact hs e
          · rw [ha] at e; simp at e
        · refine wit_text hw hw' _ (m_ea 0 s 0 s') (by rw [da, hs0]; simp [letsT]) (fun hl => ?_)
          rw [da] at hl
          rcases in_single (letsT_in h3 hl) with e | e
          · exact hs e
          · exact ha e
      · refine wit_text hw hw' _ (m_e 0 s 0 s') (by rw [de]; exact Or.inr (Or.inl ⟨rfl, fun e => hs0 e.symm⟩)) (fun hl => ?_)
        rw [de] at hl
        exact hs (in_empty (letsT_in h3 hl))
  · have e3' : (y == 3) = false := by simpa using e3
    simp only [e3', Bool.false_eq_true, if_false] at h
    have hself : letsT y s.data.toList s.data.toList := by
      rcases hy with rfl | rfl | rfl | rfl | rfl
      · simp [letsT]
      · exact absurd rfl e3
      · simp [letsT]
      · simp [letsT]
      · simp [letsT]
    cases hb : lets y' 2 0 s' 2 0 s
    · exact wit_mk 2 0 s (m_as 0 s 0 s') ((lets_text hy).2 hself) hb
    · simp only [hb, Bool.not_true, Bool.false_eq_true, if_false] at h
      have hb' := (lets_text hy').1 hb
      by_cases e2 : (y == 2 || ((s.size : Int) == 32)) = true
      · rw [if_pos e2] at h; cases h
      · rw [if_neg e2] at h
        have e2' : y ≠ 2 ∧ s.size ≠ 32 := by simp at e2; omega
        have hlt : s.size < 32 := by omega
        have hy8 : y = 8 ∨ y = 9 ∨ y = 10 := by omega
        have pa : (s ++ aT).data.toList = s.data.toList ++ [97] := app_data s aT
        have pz : (s ++ zT).data.toList = s.data.toList ++ [122] := app_data s zT
        have qa : (aT ++ s).data.toList = 97 :: s.data.toList := app_data aT s
        have qz : (zT ++ s).data.toList = 122 :: s.data.toList := app_data zT s
        have suf : ∀ c : UInt8, y = 8 ∨ y = 10 → letsT y s.data.toList (s.data.toList ++ [c]) := fun c hc => by
          rcases hc with rfl | rfl
          · simp [letsT]
          · simp only [letsT]; simp; exact (List.prefix_append _ _).isInfix
        have pre : ∀ c : UInt8, y = 9 ∨ y = 10 → letsT y s.data.toList (c :: s.data.toList) := fun c hc => by
          rcases hc with rfl | rfl
          · simp only [letsT]; simp
          · simp only [letsT]; simp; exact (List.suffix_cons c _).isInfix
        by_cases e4 : y' = 2
        · subst e4
          have hss : s.data.toList = s'.data.toList := by simpa [letsT] using hb'
          by_cases h9 : y = 9
          · refine wit_text hw hw' _ (m_as' 0 s 0 s' hlt) (by rw [qa]; exact pre 97 (Or.inl h9)) ?_
            rw [qa, ← hss]; simp [letsT]
          · refine wit_text hw hw' _ (m_sa 0 s 0 s' hlt) (by rw [pa]; exact suf 97 (by omega)) ?_
            rw [pa, ← hss]; simp [letsT]
        · have e4' : (y' == 2) = false := by simpa using e4
          simp only [e4', Bool.false_eq_true, if_false, Bool.or_eq_false_iff] at h
          obtain ⟨⟨h10, hyy⟩, hse⟩ := h
          have h10' : y' ≠ 10 := by simpa using h10
          have hyy' : y' ≠ y := by simpa using hyy
          have hne : s'.data.toList ≠ [] := fun e => by
            rw [(isEmpty_data s').2 e] at hse; cases hse
          have hy89 : y' = 8 ∨ y' = 9 := by omega
          rcases hy89 with rfl | rfl
          · by_cases hh : s'.data.toList.head? = some 97
            · refine wit_text hw hw' _ (m_zs 0 s 0 s' hlt) (by rw [qz]; exact pre 122 (by omega)) (fun hl => ?_)
              rw [qz] at hl
              have := pre_head (by simpa [letsT] using hl) hne
              rw [hh] at this; simp at this
            · refine wit_text hw hw' _ (m_as' 0 s 0 s' hlt) (by rw [qa]; exact pre 97 (by omega)) (fun hl => ?_)
              rw [qa] at hl
              exact hh (pre_head (by simpa [letsT] using hl) hne)
          · by_cases hh : s'.data.toList.getLast? = some 97
            · refine wit_text hw hw' _ (m_sz 0 s 0 s' hlt) (by rw [pz]; exact suf 122 (by omega)) (fun hl => ?_)
              rw [pz] at hl
              have := suf_last (s := s.data.toList) (by simpa [letsT] using hl) hne
              rw [hh] at this; simp at this
            · refine wit_text hw hw' _ (m_sa 0 s 0 s' hlt) (by rw [pa]; exact suf 97 (by omega)) (fun hl => ?_)
              rw [pa] at hl
              exact hh (suf_last (s := s.data.toList) (by simpa [letsT] using hl) hne)

theorem lets_self {y k n : Int} {s : ByteArray} (hv : y = 2 ∨ y = 5 ∨ y = 7 ∨ y = 8 ∨ y = 9 ∨ y = 10) : lets y k n s k n s = true := by
  rcases hv with rfl | rfl | rfl | rfl | rfl | rfl
  · simp [lets]
  · simp [lets]
  · simp [lets]
  · rw [show lets 8 k n s k n s = Lib.hasPrefix s.data.toList s.data.toList by simp [lets], Lib.hasPrefix, List.isPrefixOf_iff_prefix]; exact List.prefix_refl _
  · rw [show lets 9 k n s k n s = Lib.hasSuffix s.data.toList s.data.toList by simp [lets], Lib.hasSuffix, List.isSuffixOf_iff_suffix]; exact List.suffix_refl _
  · simp [lets, contains_iff]
theorem lets_text_irr (y k n : Int) (s : ByteArray) (k' n' : Int) {t t' : ByteArray} (h : t.toList = t'.toList) : lets y k n s k' n' t = lets y k n s k' n' t' := by
  have h' : t.data.toList = t'.data.toList := by rw [← toList_data, ← toList_data]; exact h
  unfold lets; rw [h, h']

/-- A want that lets something by lets one of the tried values by. -/
theorem some_let {y k n : Int} {s : ByteArray} (n' : Int) (s' : ByteArray) (hw : wayOk y k n s = true) (hy : y ≠ 1) (hlo : minI ≤ n) (hhi : n ≤ maxI) (hno : nothingB y n = false) :
    ∃ v ∈ triedL n s n' s', v.1 = k ∧ lets y k n s v.1 v.2.1 v.2.2 = true := by
  have hv := way_val hw hy
  have hc := way_cases hw
  rcases val_kind hv with rfl | rfl | rfl
  · have he := val_int hv
    obtain ⟨a1, a2⟩ := way_num hw hy
    have key : ∀ x, letsN y n x → lets y 1 n s 1 x noText = true := fun x hx => (lets_num a1 a2 he noText_list).2 hx
    by_cases h : y = 2 ∨ y = 5 ∨ y = 7
    · exact ⟨_, m_an n s n' s', rfl, key n (by unfold letsN; omega)⟩
    · by_cases h3 : y = 3
      · by_cases hn : n = minI
        · exact ⟨_, m_max n s n' s', rfl, key maxI (by unfold letsN minI maxI at *; omega)⟩
        · exact ⟨_, m_min n s n' s', rfl, key minI (by unfold letsN; omega)⟩
      · simp [nothingB] at hno
        by_cases h4 : y = 4
        · have : n ≠ minI := fun e => by simp [h4, e] at hno
          exact ⟨_, m_min n s n' s', rfl, key minI (by unfold letsN; omega)⟩
        · have h6 : y = 6 := by omega
          have : n ≠ maxI := fun e => by simp [h6, e] at hno
          exact ⟨_, m_max n s n' s', rfl, key maxI (by unfold letsN; omega)⟩
  · obtain rfl := val_text hv
    by_cases h3 : y = 3
    · subst h3
      by_cases hs : s.toList = []
      · refine ⟨_, m_ea 0 s n' s', rfl, (lets_text (way_texts hw)).2 ?_⟩
        have : (noText ++ aT).data.toList = [97] := rfl
        simp only [this, empty_data hs]; simp [letsT]
      · refine ⟨_, m_e 0 s n' s', rfl, (lets_text (way_texts hw)).2 ?_⟩
        exact Or.inr (Or.inl ⟨rfl, fun e => hs (data_empty e.symm)⟩)
    · have := way_texts hw
      exact ⟨_, m_as 0 s n' s', rfl, lets_self (by omega)⟩
  · obtain ⟨hn, hs⟩ := val_flag hv
    have hy23 : y = 2 ∨ y = 3 := by
      by_cases h3 : y ≤ 3
      · omega
      · by_cases h7 : y ≤ 7
        · have := way_mid hw (by omega) h7; omega
        · have := way_hi hw (by omega) (by omega); omega
    rcases hy23 with rfl | rfl <;> rcases hn with rfl | rfl
    · exact ⟨_, m_f0 0 s n' s', rfl, by simp [lets, hs, noText_list]⟩
    · exact ⟨_, m_f1 1 s n' s', rfl, by simp [lets, hs, noText_list]⟩
    · exact ⟨_, m_f1 0 s n' s', rfl, by simp [lets]⟩
    · exact ⟨_, m_f0 1 s n' s', rfl, by simp [lets]⟩

theorem within_wit {y k n : Int} {s : ByteArray} {y' k' n' : Int} {s' : ByteArray} (hw : wayOk y k n s = true) (hw' : wayOk y' k' n' s' = true) (hlo : minI ≤ n) (hhi : n ≤ maxI)
    (h : withinB y k n s y' k' n' s' = false) : Wit y k n s y' k' n' s' := by
  by_cases hy' : y' = 1
  · subst hy'; simp [withinB] at h
  have hy1' : (y' == 1) = false := by simpa using hy'
  cases hno : nothingB y n
  · unfold withinB at h
    simp only [hy1', hno, Bool.or_self, Bool.false_eq_true, if_false] at h
    by_cases hy : y = 1
    · subst hy
      by_cases hk : k' = 3
      · exact wit_mk 1 0 noText (m_0 n s n' s') (lets_any ..) (lets_off hy' (by omega))
      · exact wit_mk 3 0 noText (m_f0 n s n' s') (lets_any ..) (lets_off hy' (by omega))
    by_cases hk : k = k'
    · subst hk
      have e1 : (y == 1 || k != k) = false := by simpa using hy
      simp only [e1, Bool.false_eq_true, if_false] at h
      by_cases hy3 : y' = 3
      · subst hy3
        simp only [beq_self_eq_true, if_true] at h
        have hl : lets y k n s k n' s' = true := by simpa using h
        have hv' := way_val hw' hy'
        have hoff : ∀ t : ByteArray, t.toList = s'.toList → lets 3 k n' s' k n' t = false := fun t ht => by simp [lets, ht]
        rcases val_kind hv' with rfl | rfl | rfl
        · have he := val_int hv'
          refine wit_mk 1 n' noText (m_bn n s n' s') ?_ (hoff _ (by rw [he]; exact noText_list))
          rw [lets_text_irr y 1 n s 1 n' (show noText.toList = s'.toList by rw [he]; exact noText_list)]; exact hl
        · obtain rfl := val_text hv'
          exact wit_mk 2 0 s' (m_bs n s 0 s') hl (hoff _ rfl)
        · obtain ⟨hn, he⟩ := val_flag hv'
          have ht : noText.toList = s'.toList := by rw [he]; exact noText_list
          rcases hn with rfl | rfl
          · refine wit_mk 3 0 noText (m_f0 n s 0 s') ?_ (hoff _ ht)
            rw [lets_text_irr y 3 n s 3 0 ht]; exact hl
          · refine wit_mk 3 1 noText (m_f1 n s 1 s') ?_ (hoff _ ht)
            rw [lets_text_irr y 3 n s 3 1 ht]; exact hl
      have e3 : (y' == 3) = false := by simpa using hy3
      simp only [e3, Bool.false_eq_true, if_false] at h
      have hv := way_val hw hy
      rcases val_kind hv with rfl | rfl | rfl
      · simp only [beq_self_eq_true, if_true, numbersB, Bool.and_eq_false_iff] at h
        have he := num_empty hw hy
        obtain ⟨a1, a2⟩ := way_num hw hy
        obtain ⟨l1, l2, l3, l4⟩ := endLo_let a1 a2 hlo hhi hno
        obtain ⟨r1, r2, r3, r4⟩ := endHi_let a1 a2 hlo hhi hno
        rcases h with h | h
        · refine wit_mk 1 (endLo y n) noText ?_ ((lets_num a1 a2 he noText_list).2 l1) h
          rcases l4 with e | e | e
          · rw [e]; exact m_min n s n' s'
          · rw [e]; exact m_an n s n' s'
          · have : endLo y n = wrap64 (n + 1) := by rw [e, IntWalk.wrap64_in]; unfold minI maxI at *; omega
            rw [this]; exact m_anp n s n' s'
        · refine wit_mk 1 (endHi y n) noText ?_ ((lets_num a1 a2 he noText_list).2 r1) h
          rcases r4 with e | e | e
          · rw [e]; exact m_max n s n' s'
          · rw [e]; exact m_an n s n' s'
          · have : endHi y n = wrap64 (n - 1) := by rw [e, IntWalk.wrap64_in]; unfold minI maxI at *; omega
            rw [this]; exact m_anm n s n' s'
      · have e2 : ((2 : Int) == 1) = false := rfl
        simp only [e2, Bool.false_eq_true, if_false, beq_self_eq_true, if_true] at h
        obtain rfl := val_text hv
        obtain rfl := val_text (way_val hw' hy')
        exact texts_wit hw hw' hy3 h
      · have e2 : ((3 : Int) == 1) = false := rfl
        have e4 : ((3 : Int) == 2) = false := rfl
        simp only [e2, e4, Bool.false_eq_true, if_false, flagsB, Bool.and_eq_false_iff, Bool.not_eq_false', Bool.and_eq_true, Bool.not_eq_true'] at h
        rcases h with h | h
        · exact wit_mk 3 0 noText (m_f0 n s n' s') h.1 h.2
        · exact wit_mk 3 1 noText (m_f1 n s n' s') h.1 h.2
    · obtain ⟨v, hm, hk1, hl⟩ := some_let n' s' hw hy hlo hhi hno
      exact ⟨v, hm, hl, lets_off hy' (by rw [hk1]; omega)⟩
  · unfold withinB at h
    simp [hno] at h

end Go.Proofs.YtecnfgikbmcgoaaGreat
