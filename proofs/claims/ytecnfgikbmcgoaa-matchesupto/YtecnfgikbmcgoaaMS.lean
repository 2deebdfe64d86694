import Derived.Test.YtecnfgikbmcgoaaLW
import Derived.Test.YtecnfgikbmcgoaaUh
import Derived.Test.YtecnfgikbmcgoaaMA
import Derived.Test.YtecnfgikbmcgoaaXE
import Derived.Test.YtecnfgikbmcgoaaMt
namespace Go.Proofs.Ytecnfgikbmcgoaa
open Go.RowKit

set_option maxHeartbeats 1000000 in
theorem nine_any (w : World) : Calls Try.prog 9 #[] w fun e w' => ∃ B, e = .returned (.slice (some ⟨B, 0, none⟩) 1 1) ∧ Gr w w' ∧ w.heap.size ≤ B ∧ w'.heap[B]? = some (.cells #[.string ⟨#[115, 105, 122, 101]⟩, .int .i64 1, .int .i64 9, .string ⟨#[]⟩] 84 (0, 0)) := by
  go_enter Try.func9, Try.ntmps9
  go_wp2_with fail
  go_ret
  exact ⟨_, rfl, (Gr.refl _).alloc _, Nat.le_refl _, by
    show (w.heap.push _)[w.heap.size]? = _
    simp⟩


theorem BkL.gr {T TS : TypeId} {sz base : Nat} {mkf : Nat → List Value} {w w' : World} {v : Value} {ls : List Value} (h : BkL T TS sz base mkf w v ls) (g : Gr w w') : BkL T TS sz base mkf w' v ls :=
  ⟨ownsGr h.own g, fun i hi => by
    obtain ⟨ad, n, cap, h1, h2, h3⟩ := h.ok i hi
    exact ⟨ad, n, cap, h1, h2, ownsGr h3 g⟩⟩
theorem BkL.kp {ts : List TypeId} {b2 : Nat} {T TS : TypeId} {sz base : Nat} {mkf : Nat → List Value} {w w' : World} {v : Value} {ls : List Value} (h : BkL T TS sz base mkf w v ls) (k : Kp ts b2 w w') (h1 : ¬ TS ∈ ts) (h2 : ¬ T ∈ ts) : BkL T TS sz base mkf w' v ls :=
  ⟨k.owns h.own h1, fun i hi => by
    obtain ⟨ad, n, cap, e1, e2, e3⟩ := h.ok i hi
    exact ⟨ad, n, cap, e1, e2, k.owns e3 h2⟩⟩
theorem BkL.nil (T TS : TypeId) (sz base : Nat) (mkf : Nat → List Value) (w : World) : BkL T TS sz base mkf w (.slice none 0 0) [] := ⟨World.ownsRow_nil _ _ _ _, fun i hi => absurd hi (by simp)⟩

/-- The walk's state. -/
structure WM (w0 w : World) (Es : List EE) (Fs : List FE) (lad : Option Addr) (lc : Nat) (ls : List Value) (wv : Value) (ws : List Nat) : Prop where
  gr : Gr w0 w
  lb : Lb w w0.heap.size w0.heap.size Es Fs
  bb : w.heap[w0.heap.size + 1]? = some (.cells #[.slice lad ls.length lc, .slice none 0 0, .slice none 0 0, .slice none 0 0, .slice none 0 0, .slice none 0 0] 36 (0, 0))
  bk : BkL 3 37 1 w0.heap.size mkI w (.slice lad ls.length lc) ls
  wt : w.ownsRow w0.heap.size 3 1 wv ws.length (ints ws)
theorem WM.le {w0 w : World} {Es : List EE} {Fs : List FE} {lad : Option Addr} {lc : Nat} {ls : List Value} {wv : Value} {ws : List Nat} (h : WM w0 w Es Fs lad lc ls wv ws) : w0.heap.size ≤ w.heap.size := h.gr.size
theorem WM.step {w0 w w' : World} {Es : List EE} {Fs : List FE} {lad : Option Addr} {lc : Nat} {ls : List Value} {wv : Value} {ws : List Nat} (h : WM w0 w Es Fs lad lc ls wv ws) (g : Gr w w') : WM w0 w' Es Fs lad lc ls wv ws :=
  ⟨Gr.call h.gr g, h.lb.gr g, blk_gr g h.bb, h.bk.gr g, ownsGr h.wt g⟩
theorem WM.kp {ts : List TypeId} {w0 w w' : World} {Es Es' : List EE} {Fs Fs' : List FE} {lad : Option Addr} {lc : Nat} {ls : List Value} {wv : Value} {ws : List Nat} (h : WM w0 w Es Fs lad lc ls wv ws) (k : Kp ts w0.heap.size w w') (hl : Lb w' w0.heap.size w0.heap.size Es' Fs')
    (h1 : ¬ 36 ∈ ts) (h2 : ¬ 37 ∈ ts) (h3 : ¬ 3 ∈ ts) : WM w0 w' Es' Fs' lad lc ls wv ws :=
  ⟨Below.trans h.gr k.be, hl, k.kp _ _ _ _ h.bb h1, h.bk.kp k h2 h3, k.owns h.wt h3⟩
theorem WM.want {w0 w w' : World} {Es : List EE} {Fs : List FE} {lc : Nat} {lad : Option Addr} {wv wv' : Value} {ws ws' : List Nat} (h : WM w0 w Es Fs lad lc [] wv ws) (hg : w.grownBy w' wv.ownBlock) (ho : w'.ownsRow w0.heap.size 3 1 wv' ws'.length (ints ws')) : WM w0 w' Es Fs lad lc [] wv' ws' := by
  have k : Kp [3] w0.heap.size w w' := Kp.grown (Kp.refl _ _ _) h.wt (by simp) hg h.le
  exact ⟨Below.trans h.gr k.be, h.lb.kp k (by decide) (by decide) (by decide), k.kp _ _ _ _ h.bb (by decide), ⟨k.owns h.bk.own (by decide), fun i hi => absurd hi (by simp)⟩, ho⟩
theorem ev_lend {w0 w : World} {ad : Option Addr} {l : List Atr} (h : EvAt w0 ad l) (g : Gr w0 w) : l = [] ∨ EvK w0.heap.size w ad l := by
  rcases h.gr g with h' | ⟨b, off, h1, h2, h3⟩
  · exact Or.inl h'
  · rcases h with h' | ⟨b', off', h1', h2', _⟩
    · exact Or.inl h'
    · rw [h1] at h1'
      obtain ⟨rfl, rfl⟩ : b = b' ∧ off = off' := by simpa using h1'
      exact Or.inr ⟨b, off, h1, h2, Or.inl h2', h3⟩
theorem fi_lend {w0 w : World} {ad : Option Addr} {l : List Wnt} (h : FiAt w0 ad l) (g : Gr w0 w) : l = [] ∨ FiK w0.heap.size w ad l := by
  rcases h.gr g with h' | ⟨b, off, h1, h2, h3⟩
  · exact Or.inl h'
  · rcases h with h' | ⟨b', off', h1', h2', _⟩
    · exact Or.inl h'
    · rw [h1] at h1'
      obtain ⟨rfl, rfl⟩ : b = b' ∧ off = off' := by simpa using h1'
      exact Or.inr ⟨b, off, h1, h2, Or.inl h2', h3⟩

def aboveW (n : Int) : Wnt := ⟨⟨#[115, 105, 122, 101]⟩, 6, 1, n, ⟨#[]⟩⟩
theorem nineA_wf : ∀ x ∈ [nineA], Atr.Wf x := by
  intro x hx
  simp only [List.mem_singleton] at hx; subst hx
  constructor <;> decide
theorem aboveW_wf (n : Int) (h1 : -9223372036854775808 ≤ n) (h2 : n ≤ 9223372036854775807) : ∀ x ∈ [aboveW n], Wnt.Wf x := by
  intro x hx
  simp only [List.mem_singleton] at hx; subst hx
  exact ⟨by simp [aboveW, maxLen, ByteArray.size], by simp [aboveW, maxLen, ByteArray.size], h1, h2⟩
theorem nine_ev {base B : Nat} {w : World} (h : w.heap[B]? = some (.cells #[.string ⟨#[115, 105, 122, 101]⟩, .int .i64 1, .int .i64 9, .string ⟨#[]⟩] 84 (0, 0))) : EvK base w (some ⟨B, 0, none⟩) [nineA] := by
  refine ⟨B, 0, rfl, blk_lt h, Or.inr ⟨_, _, h⟩, fun i hi => ?_⟩
  have : i = 0 := by simpa using hi
  subst this
  refine ⟨?_, ?_, ?_, ?_⟩ <;> rw [cell_of_row _ _ _ _ _ _ h] <;> rfl
theorem above_fi {base B : Nat} {n : Int} {w : World} (h : w.heap[B]? = some (.cells #[.string ⟨#[115, 105, 122, 101]⟩, .int .i64 6, .int .i64 1, .int .i64 n, .string ⟨#[]⟩] 51 (0, 0))) : FiK base w (some ⟨B, 0, none⟩) [aboveW n] := by
  refine ⟨B, 0, rfl, blk_lt h, Or.inr ⟨_, _, h⟩, fun i hi => ?_⟩
  have : i = 0 := by simpa using hi
  subst this
  refine ⟨?_, ?_, ?_, ?_, ?_⟩ <;> rw [cell_of_row _ _ _ _ _ _ h] <;> rfl
theorem two_err : mErr [nineA] [[aboveW 9], [aboveW 3]] = 0 := by kernel_rfl
theorem two_res : mRes [nineA] [[aboveW 9], [aboveW 3]] = [1] := by kernel_rfl
theorem fis_two {w' : World} {B : Nat} {a b : Option Addr} {c d : Nat} {t : TypeId} {f g : List Wnt} (hb : w'.heap[B]? = some (.cells #[.slice a f.length c, .slice b g.length d] t (0, 0))) (hf : FiAt w' a f) (hg : FiAt w' b g) : FisAt w' B 0 [f, g] := by
  intro i hi
  match i, hi with
  | 0, _ => exact ⟨a, c, by rw [cell_of_row _ _ _ _ _ _ hb]; rfl, hf⟩
  | 1, _ => exact ⟨b, d, by rw [cell_of_row _ _ _ _ _ _ hb]; rfl, hg⟩
theorem own_one {w : World} {base : Nat} {e : TypeId} {v x : Value} (h : w.ownsRow base e 1 v 1 [x]) : ∃ g cap, v = .slice (some ⟨g, 0, none⟩) 1 cap ∧ w.cell? ⟨g, 0, none⟩ = some x := by
  obtain ⟨a, c, rfl, hs⟩ := owns_shape h
  obtain ⟨b, rfl⟩ := hs (by omega)
  exact ⟨b, c, rfl, by rw [World.ownsRow.cellAt h 0 (by omega)]; rfl⟩
end Go.Proofs.Ytecnfgikbmcgoaa
