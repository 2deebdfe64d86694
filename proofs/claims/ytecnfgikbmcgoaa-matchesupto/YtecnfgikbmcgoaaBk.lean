import Derived.Test.YtecnfgikbmcgoaaAp
namespace Go.Proofs.Ytecnfgikbmcgoaa
open Go.RowKit

/-- Nothing below base has turned, and no block of another type than these but one. -/
structure Kv (ts : List TypeId) (own : Option Nat) (base : Nat) (w w' : World) : Prop where
  be : Below base w w'
  kp : ∀ (k : Nat) (cs : Array Value) (t : TypeId) (fr : Nat × Nat), w.heap[k]? = some (.cells cs t fr) → ¬ t ∈ ts → own ≠ some k → w'.heap[k]? = some (.cells cs t fr)
theorem Kv.refl (ts : List TypeId) (own : Option Nat) (base : Nat) (w : World) : Kv ts own base w w := ⟨Below.refl _ _, fun _ _ _ _ h _ _ => h⟩
theorem Kv.trans {ts : List TypeId} {own : Option Nat} {base : Nat} {a b c : World} (h : Kv ts own base a b) (k : Kv ts own base b c) : Kv ts own base a c :=
  ⟨Below.trans h.be k.be, fun i cs t fr hi ht ho => k.kp i cs t fr (h.kp i cs t fr hi ht ho) ht ho⟩
theorem Kv.gr {ts : List TypeId} {own : Option Nat} {base : Nat} {a b : World} (g : Gr a b) (hb : base ≤ a.heap.size) : Kv ts own base a b :=
  ⟨Below.mono g hb, fun _ _ _ _ hi _ _ => blk_gr g hi⟩
theorem Kv.wide {ts us : List TypeId} {own : Option Nat} {base : Nat} {a b : World} (h : Kv ts own base a b) (hs : ∀ t ∈ ts, t ∈ us) : Kv us own base a b :=
  ⟨h.be, fun i cs t fr hi ht ho => h.kp i cs t fr hi (fun hm => ht (hs t hm)) ho⟩
theorem Kv.size {ts : List TypeId} {own : Option Nat} {base : Nat} {a b : World} (h : Kv ts own base a b) : a.heap.size ≤ b.heap.size := h.be.size
theorem Kv.owns {ts : List TypeId} {own : Option Nat} {base b2 : Nat} {w w' : World} {e : TypeId} {size : Nat} {v : Value} {n : Nat} {xs : List Value} (k : Kv ts own base w w') (h : w.ownsRow b2 e size v n xs) (he : ¬ e ∈ ts) (ho : ∀ q, v.ownBlock = some q → own ≠ some q) : w'.ownsRow b2 e size v n xs := by
  obtain ⟨h1, h2⟩ := h
  refine ⟨h1, ?_⟩
  rcases h2 with h2 | ⟨b, cap, cur, hv, hb, hh, r⟩
  · exact Or.inl h2
  · exact Or.inr ⟨b, cap, cur, hv, hb, k.kp _ _ _ _ hh he (ho b (by rw [hv]; rfl)), r⟩

/-- The state of 'keep': l is written full, and so are its longer ones. -/
structure KI (T TS : TypeId) (own : Option Nat) (base : Nat) (w wr : World) (mk : List Value) (n : Nat) (v vi : Value) (ls : List Value) (us : List (Value × Nat)) : Prop where
  fr : Kv [TS] own base w wr
  le : base ≤ wr.heap.size
  v0 : wr.ownsRow base T mk.length v n (rep n mk)
  vi : wr.ownsRow base TS 1 vi ls.length ls
  us : ∀ p ∈ us, wr.ownsRow base T mk.length p.1 p.2 (rep p.2 mk)
theorem KI.gr {T TS : TypeId} {own : Option Nat} {base : Nat} {w wr wn : World} {mk : List Value} {n : Nat} {v vi : Value} {ls : List Value} {us : List (Value × Nat)} (h : KI T TS own base w wr mk n v vi ls us) (g : Gr wr wn) : KI T TS own base w wn mk n v vi ls us :=
  ⟨h.fr.trans (Kv.gr g h.le), Nat.le_trans h.le g.size, ownsGr h.v0 g, ownsGr h.vi g, fun p hp => ownsGr (h.us p hp) g⟩
theorem KI.alloc {T TS : TypeId} {own : Option Nat} {base : Nat} {w wr : World} {mk : List Value} {n : Nat} {v vi : Value} {ls : List Value} {us : List (Value × Nat)} (h : KI T TS own base w wr mk n v vi ls us) (o : Obj) : KI T TS own base w (wr.alloc o) mk n v vi ls us := h.gr ((Gr.refl _).alloc o)
theorem KI.drew {T TS : TypeId} {own : Option Nat} {base : Nat} {w wr : World} {mk : List Value} {n : Nat} {v vi : Value} {ls : List Value} {us : List (Value × Nat)} (h : KI T TS own base w wr mk n v vi ls us) : KI T TS own base w wr.drew mk n v vi ls us := h.gr (Gr.refl _).drew
theorem KI.app {T TS : TypeId} {own : Option Nat} {base : Nat} {w wr wn : World} {mk : List Value} {n m : Nat} {v vi v' : Value} {ls : List Value} {us : List (Value × Nat)} (h : KI T TS own base w wr mk n v vi ls us) (hts : TS ≠ T) (hv : v.ownBlock = own)
    (h2 : wn.ownsRow base T mk.length v' (n + m) (rep (n + m) mk)) (h3 : wr.grownBy wn v.ownBlock) (h4 : ∀ u k, k ≤ n + m → wr.ownsRow base T mk.length u k (rep k mk) → wn.ownsRow base T mk.length u k (rep k mk)) (hus : ∀ p ∈ us, p.2 ≤ n + m) :
    KI T TS own base w wn mk n v vi ls (us ++ [(v', n + m)]) := by
  have hk : Kv [TS] own base wr wn := ⟨Below.grown (Below.refl _ _) h3 h.le (own_low h.v0), fun k cs t fr hk _ ho => grown_block h3 hk (by rw [hv]; exact ho)⟩
  refine ⟨h.fr.trans hk, Nat.le_trans h.le h3.size, h4 _ _ (by omega) h.v0, owns_kept h.vi h3 (own_apart h.v0 h.vi hts), fun p hp => ?_⟩
  rcases List.mem_append.mp hp with hp | hp
  · exact h4 _ _ (hus p hp) (h.us p hp)
  · simp only [List.mem_singleton] at hp; subst hp; exact h2
theorem grown_pers {wr wn : World} {v : Value} (h3 : wr.grownBy wn v.ownBlock) {k : Nat} {o : Obj} (hk : wr.heap[k]? = some o) (hlt : ∀ q, v.ownBlock = some q → q < k) : wn.heap[k]? = some o := by
  refine grown_block h3 hk (fun he => ?_)
  have := hlt k he
  omega
theorem blk_ne' {w : World} {i k : Nat} {cs cs' : Array Value} {t t' : TypeId} {fr fr' : Nat × Nat} (h : w.heap[i]? = some (.cells cs t fr)) (h' : w.heap[k]? = some (.cells cs' t' fr')) (hn : t ≠ t') : i ≠ k := by
  intro he; subst he; rw [h] at h'; injection h' with h'; injection h' with _ h'; exact hn h'
theorem alloc_new' {W : World} {o : Obj} {B : Nat} (h : W.heap.size = B) : (W.alloc o).heap[B]? = some o := by subst h; exact heap_alloc_new W o
theorem alloc_keep {W : World} {o o' : Obj} {B : Nat} (h : W.heap[B]? = some o) : (W.alloc o').heap[B]? = some o := by rw [heap_alloc_old _ _ (blk_lt h)]; exact h
theorem drew_keep {W : World} {o : Obj} {B : Nat} (h : W.heap[B]? = some o) : W.drew.heap[B]? = some o := h

theorem news1 {w : World} {B : Nat} {M : Value} {t : TypeId} {fr : Nat × Nat} (hb : w.heap[B]? = some (.cells #[M] t fr)) : ∀ j u, (rep 1 [M])[j]? = some u → w.cell? ((⟨B, 0, none⟩ : Addr).add j) = some u := World.news_of_block hb
theorem news2 {w : World} {B : Nat} {M : Value} {t : TypeId} {fr : Nat × Nat} (hb : w.heap[B]? = some (.cells #[M, M] t fr)) : ∀ j u, (rep 2 [M])[j]? = some u → w.cell? ((⟨B, 0, none⟩ : Addr).add j) = some u := World.news_of_block hb
theorem news3 {w : World} {B : Nat} {M : Value} {t : TypeId} {fr : Nat × Nat} (hb : w.heap[B]? = some (.cells #[M, M, M] t fr)) : ∀ j u, (rep 3 [M])[j]? = some u → w.cell? ((⟨B, 0, none⟩ : Addr).add j) = some u := World.news_of_block hb

/-- What 'keep' leaves behind. -/
structure Kept (T TS : TypeId) (own : Option Nat) (base : Nat) (w w' : World) (mk : List Value) (n : Nat) (v vi' : Value) (ls us : List Value) : Prop where
  fr : Kv [TS, 36] own base w w'
  vi : w'.ownsRow base TS 1 vi' us.length us
  ex : ∃ v1 v2 v3, us = ls ++ [v, v1, v2, v3] ∧ w'.ownsRow base T mk.length v n (rep n mk) ∧ w'.ownsRow base T mk.length v1 (n + 1) (rep (n + 1) mk) ∧ w'.ownsRow base T mk.length v2 (n + 2) (rep (n + 2) mk) ∧ w'.ownsRow base T mk.length v3 (n + 3) (rep (n + 3) mk)
theorem KI.box {T TS : TypeId} {own : Option Nat} {base : Nat} {w wr : World} {mk : List Value} {n : Nat} {v vi : Value} {ls : List Value} {us : List (Value × Nat)} {BB : Nat} {bx : Array Value} (h : KI T TS own base w wr mk n v vi ls us) (hbx : w.heap[BB]? = some (.cells bx 36 (0, 0))) (h1 : TS ≠ 36) (h2 : own ≠ some BB) : wr.heap[BB]? = some (.cells bx 36 (0, 0)) :=
  h.fr.kp _ _ _ _ hbx (by simp; exact fun e => h1 e.symm) h2
end Go.Proofs.Ytecnfgikbmcgoaa
