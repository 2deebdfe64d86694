import Derived.Test.YtecnfgikbmcgoaaME
namespace Go.Proofs.Ytecnfgikbmcgoaa
open Go.RowKit

theorem Try.infoFil : (Try.prog.info? 46).map (fun i => (i.zero, i.size, i.bytes)) = some (some (.slice none 0 0), 1, 24) := by kernel_rfl
theorem ints_at {ws : List Nat} {p : Nat} (h : p < ws.length) : (ints ws)[p]? = some (.int .i64 ((ws.getD p 0 : Nat) : Int)) := by
  simp [ints, List.getD_eq_getElem?_getD, List.getElem?_eq_getElem h]
/-- The list of filters that is handed over. -/
structure InS (w : World) (base : Nat) (v : Value) (k : Nat) (Fs : List FE) (fs : List (List Wnt)) (xs : List Value) : Prop where
  own : w.ownsRow base 46 1 v k xs
  ok : ∀ i, i < k → ∃ ad cap, xs[i]? = some (.slice ad (fat fs i).length cap) ∧ OutF Fs ad (fat fs i)
theorem InS.kp {ts : List TypeId} {b2 : Nat} {w w' : World} {base : Nat} {v : Value} {k : Nat} {Fs Fs' : List FE} {fs : List (List Wnt)} {xs : List Value} (h : InS w base v k Fs fs xs) (q : Kp ts b2 w w') (h1 : ¬ 46 ∈ ts) (hm : ∀ e ∈ Fs, e ∈ Fs') : InS w' base v k Fs' fs xs :=
  ⟨q.owns h.own h1, fun i hi => by
    obtain ⟨ad, cap, e1, e2⟩ := h.ok i hi
    exact ⟨ad, cap, e1, e2.mono hm⟩⟩
theorem InS.gr {w w' : World} {base : Nat} {v : Value} {k : Nat} {Fs : List FE} {fs : List (List Wnt)} {xs : List Value} (h : InS w base v k Fs fs xs) (g : Gr w w') : InS w' base v k Fs fs xs := ⟨ownsGr h.own g, h.ok⟩
theorem InS.nil (w : World) (base : Nat) (Fs : List FE) (fs : List (List Wnt)) : InS w base (.slice none 0 0) 0 Fs fs [] := ⟨World.ownsRow_nil _ _ _ _, fun i hi => absurd hi (by omega)⟩
theorem InS.snoc {w w' : World} {base : Nat} {v v' : Value} {k : Nat} {Fs : List FE} {fs : List (List Wnt)} {xs : List Value} {ad : Option Addr} {cap : Nat} (h : InS w base v k Fs fs xs) (ho : w'.ownsRow base 46 1 v' (k + 1) (xs ++ [.slice ad (fat fs k).length cap])) (hf : OutF Fs ad (fat fs k)) : InS w' base v' (k + 1) Fs fs (xs ++ [.slice ad (fat fs k).length cap]) := by
  refine ⟨ho, fun i hi => ?_⟩
  have hl : xs.length = k := by have := h.own.1; omega
  by_cases hik : i < k
  · rw [List.getElem?_append_left (by omega)]; exact h.ok i hik
  · have : i = k := by omega
    subst this
    exact ⟨ad, cap, by rw [List.getElem?_append_right (by omega), hl]; simp, hf⟩
theorem InS.fis {w : World} {base B LB : Nat} {Es : List EE} {Fs : List FE} {fs : List (List Wnt)} {a : Option Addr} {c : Nat} {xs : List Value} (h : InS w base (.slice a fs.length c) fs.length Fs fs xs) (hL : Lb w B LB Es Fs) : fs = [] ∨ ∃ b off, a = some ⟨b, off, none⟩ ∧ b < w.heap.size ∧ FisAt w b off fs := by
  by_cases hne : fs = []
  · exact Or.inl hne
  · obtain ⟨a', c', he, hs⟩ := owns_shape h.own
    obtain ⟨b, hb⟩ := hs (by cases fs <;> simp_all)
    injection he with e1 _ _
    rw [hb] at e1; subst e1
    refine Or.inr ⟨b, 0, rfl, owns_lt h.own, fun i hi => ?_⟩
    obtain ⟨ad, cap, h1, h2⟩ := h.ok i hi
    exact ⟨ad, cap, by rw [Nat.zero_add, World.ownsRow.cellAt h.own i (by omega)]; exact h1, h2.fi hL⟩
theorem WM.inn {w0 w w' : World} {Es : List EE} {Fs : List FE} {lad : Option Addr} {lc : Nat} {ls : List Value} {wv : Value} {ws : List Nat} {v : Value} {n : Nat} {xs : List Value} (h : WM w0 w Es Fs lad lc ls wv ws) (ho : w.ownsRow w0.heap.size 46 1 v n xs) (hg : w.grownBy w' v.ownBlock) : WM w0 w' Es Fs lad lc ls wv ws := by
  have k : Kp [46] w0.heap.size w w' := Kp.grown (Kp.refl _ _ _) ho (by simp) hg h.le
  exact h.kp k (h.lb.kp k (by decide) (by decide) (by decide)) (by decide) (by decide) (by decide)
theorem own_fresh {w : World} {base : Nat} {T T' : TypeId} {sz sz' : Nat} {u v : Value} {n k : Nat} {xs ys : List Value} {w' : World} (hu : w.ownsRow base T sz u n xs) (hv : w'.ownsRow w.heap.size T' sz' v k ys) : ∀ q, u.ownBlock = some q → v.ownBlock ≠ some q := by
  intro q hq he
  have h1 := own_low hv q he
  rcases hu.2 with ⟨hx, _⟩ | ⟨g, cap, cur, hx, _, hh, _⟩
  · rw [hx] at hq; simp [Value.ownBlock] at hq
  · rw [hx] at hq
    have : g = q := by simpa [Value.ownBlock] using hq
    have := blk_lt hh
    omega
/-- What came out is new: none of its memory is in the book, or in what was expected. -/
structure Fresh (v : Value) (ls : List Value) (wv : Value) : Prop where
  bk : ∀ i, i < ls.length → ∀ q, (lat ls i).ownBlock = some q → v.ownBlock ≠ some q
  wt : ∀ q, wv.ownBlock = some q → v.ownBlock ≠ some q
theorem WM.fresh {w0 w w' : World} {Es : List EE} {Fs : List FE} {lad : Option Addr} {lc : Nat} {ls : List Value} {wv : Value} {ws : List Nat} {v : Value} {n : Nat} {xs : List Value} (h : WM w0 w Es Fs lad lc ls wv ws) (hv : w'.ownsRow w.heap.size 3 1 v n xs) : Fresh v ls wv := by
  refine ⟨fun i hi => ?_, own_fresh h.wt hv⟩
  obtain ⟨ad, k, cap, e1, _, e3⟩ := h.bk.ok i hi
  rw [e1]
  exact own_fresh e3 hv
theorem lat_left {ls us : List Value} {i : Nat} (h : i < ls.length) : lat (ls ++ us) i = lat ls i := by simp [lat, List.getD_eq_getElem?_getD, List.getElem?_append_left h]
theorem lat_right {ls us : List Value} {r : Nat} : lat (ls ++ us) (ls.length + r) = lat us r := by simp [lat, List.getD_eq_getElem?_getD, List.getElem?_append_right]
theorem WM.keep {w0 w w' : World} {Es : List EE} {Fs : List FE} {lad : Option Addr} {lc : Nat} {ls : List Value} {wv : Value} {ws : List Nat} {ad : Option Addr} {n cap j : Nat} {xs : List Value} {vi' : Value} {us : List Value} (h : WM w0 w Es Fs lad lc ls wv ws) (hls : ls.length = 4 * j) (hn : n ≤ 1099511627776)
    (hv : w.ownsRow w0.heap.size 3 1 (.slice ad n cap) n xs) (F : Fresh (.slice ad n cap) ls wv) (K : Kept 3 37 (Value.ownBlock (.slice ad n cap)) w0.heap.size w w' [.int .i64 (-1 - ls.length)] n (.slice ad n cap) vi' ls us)
    (hb : w'.heap[w0.heap.size + 1]? = some (.cells #[vi', .slice none 0 0, .slice none 0 0, .slice none 0 0, .slice none 0 0, .slice none 0 0] 36 (0, 0))) :
    ∃ lad' lc', us.length = 4 * (j + 1) ∧ WM w0 w' Es Fs lad' lc' us wv ws := by
  obtain ⟨v1, v2, v3, hus, m0, m1, m2, m3⟩ := K.ex
  have hul : us.length = ls.length + 4 := by rw [hus]; simp
  have kp : Kp [37, 36, 3] w0.heap.size w w' := ⟨K.fr.be, fun k cs t fr hk ht => by
    simp only [List.mem_cons, List.not_mem_nil, or_false, not_or] at ht
    exact K.fr.kp k cs t fr hk (by simp [ht.1, ht.2.1]) (own_ne hv hk ht.2.2)⟩
  obtain ⟨la, lc', rfl, _⟩ := owns_shape K.vi
  have mm : mkI (ls.length / 4) = [.int .i64 (-1 - (ls.length : Int))] := by
    rw [hls, Nat.mul_div_cancel_left _ (by omega)]
    simp only [mkI]; congr 2; omega
  refine ⟨la, lc', by omega, ⟨Below.trans h.gr K.fr.be, h.lb.kp kp (by decide) (by decide) (by decide), hb, ⟨K.vi, fun i hi => ?_⟩, K.fr.owns h.wt (by decide) F.wt⟩⟩
  have sh : ∀ {u : Value} {k : Nat}, k ≤ 1099511627779 → w'.ownsRow w0.heap.size 3 1 u k (rep k [.int .i64 (-1 - (ls.length : Int))]) → i / 4 = ls.length / 4 → lat us i = u → ∃ ad n cap, lat us i = .slice ad n cap ∧ n ≤ 1099511627779 ∧ w'.ownsRow w0.heap.size 3 1 (.slice ad n cap) n (rep n (mkI (i / 4))) := by
    intro u k hk hu hi4 hl
    obtain ⟨a, c, rfl, _⟩ := owns_shape hu
    exact ⟨a, k, c, hl, hk, by rw [hi4, mm]; exact hu⟩
  by_cases hil : i < ls.length
  · obtain ⟨a, k, c, e1, e2, e3⟩ := h.bk.ok i hil
    refine ⟨a, k, c, by rw [hus, lat_left hil]; exact e1, e2, K.fr.owns e3 (by decide) (fun q hq => F.bk i hil q (by rw [e1]; exact hq))⟩
  · obtain ⟨r, rfl⟩ := Nat.exists_eq_add_of_le (Nat.not_lt.mp hil)
    have hr : r < 4 := by omega
    have h4 : (ls.length + r) / 4 = ls.length / 4 := by omega
    match r, hr with
    | 0, _ => exact sh (by omega) m0 h4 (by rw [hus, lat_right]; rfl)
    | 1, _ => exact sh (by omega) m1 h4 (by rw [hus, lat_right]; rfl)
    | 2, _ => exact sh (by omega) m2 h4 (by rw [hus, lat_right]; rfl)
    | 3, _ => exact sh (by omega) m3 h4 (by rw [hus, lat_right]; rfl)
end Go.Proofs.Ytecnfgikbmcgoaa
