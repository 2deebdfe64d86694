import Derived.Test.YtecnfgikbmcgoaaYC
namespace Go.Proofs.Ytecnfgikbmcgoaa
open Go.RowKit

theorem owns_lt {w : World} {base : Nat} {e : TypeId} {size b n m c : Nat} {xs : List Value} (h : w.ownsRow base e size (.slice (some ⟨b, 0, none⟩) m c) n xs) : b < w.heap.size := by
  rcases h.2 with ⟨hv, _⟩ | ⟨q, cap, cur, hv, _, hh, _⟩
  · cases hv
  · simp only [Value.slice.injEq, Option.some.injEq, Addr.mk.injEq, and_true] at hv
    rw [hv.1]; exact blk_lt hh
theorem heap_alloc_new (w : World) (o : Obj) : (w.alloc o).heap[w.heap.size]? = some o := by
  show (w.heap.push o)[w.heap.size]? = some o
  simp
def box5 (w : World) (g : Nat) (a b c d e : Value) : World := ((((w.setCell ⟨g, 0, none⟩ a).setCell ⟨g, 1, none⟩ b).setCell ⟨g, 2, none⟩ c).setCell ⟨g, 3, none⟩ d).setCell ⟨g, 4, none⟩ e
theorem box5_blk {w : World} {g : Nat} {t : TypeId} {x0 x1 x2 x3 x4 : Value} (h : w.heap[g]? = some (.cells #[x0, x1, x2, x3, x4] t (0, 0))) (a b c d e : Value) : (box5 w g a b c d e).heap[g]? = some (.cells #[a, b, c, d, e] t (0, 0)) :=
  blk_set_same (j := 4) (blk_set_same (j := 3) (blk_set_same (j := 2) (blk_set_same (j := 1) (blk_set_same (j := 0) h a) b) c) d) e
def ov5 (wr : World) (g j : Nat) (a b c d e : Value) : World := (((((wr.setCell ⟨g, j, none⟩ a).setCell ⟨g, j + 1, none⟩ b).setCell ⟨g, j + 2, none⟩ c).setCell ⟨g, j + 3, none⟩ d).setCell ⟨g, j + 4, none⟩ e).drew
theorem ov5_eq (wr : World) (g j : Nat) (a b c d e : Value) : ov5 wr g j a b c d e = (over5 wr g j a b c d e).drew := rfl
theorem Hid.mk' {p : Prop} (h : p) : Hid p := h
set_option maxRecDepth 100000 in
set_option maxHeartbeats 4000000 in
theorem still_any (base LB : Nat) (vf vw : Value) (Fs : List FE) (w : World) (hn : Fs.length ≤ 1099511627776) (hlen : ∀ e ∈ Fs, e.f.length ≤ 2513169434845) (hL : LentF w base LB (.slice none 0 0) (.slice none 0 0) vf vw Fs) :
    Calls Try.prog 18 #[.pointer (some ⟨LB, 0, none⟩)] w fun e w' => e = .returned (.bool true) ∧ Below base w w' ∧
      w'.heap[LB]? = some (.cells #[.slice none 0 0, .slice none 0 0, .slice none 0 0, .slice none 0 0] 29 (0, 0)) := by
  obtain ⟨fa, fk, rfl, hfa⟩ := owns_shape hL.ownf
  obtain ⟨wa, wk, rfl, hwa⟩ := owns_shape hL.ownw
  have S0 : Hid (StF w w base LB (.slice none 0 0) (.slice none 0 0) (.slice fa Fs.length fk) (.slice wa Fs.length wk) Fs 0) := ⟨Below.refl _ _, hL.le, hL.lb, hL.box, hL.ownf, hL.ownw, fun j _ hj => (hL.outs _ (fe_mem hj)).2.2, fun j hj => (hL.outs _ (fe_mem hj)).1, hL.nodup⟩
  have HA : Hid (∀ e ∈ Fs, FiB base w e.ad e.f) := fun e he => (hL.args e he).2.1
  have HN : Hid (∀ e ∈ Fs, e.f.length ≤ 2513169434845) := hlen
  have x0 : w.cell? ⟨LB, 0, none⟩ = some (.slice none 0 0) := by rw [cell_of_row _ _ _ _ _ _ hL.box]; rfl
  have x2 : w.cell? ⟨LB, 2, none⟩ = some (.slice fa Fs.length fk) := by rw [cell_of_row _ _ _ _ _ _ hL.box]; rfl
  clear hL hlen
  go_enter Try.func18, Try.ntmps18
  go_wp2_with fail
  go_loopw [3, 4] (fun ok i wr => ok = .bool true ∧ i = .int .i64 0 ∧ wr = w) (fun _ _ _ => 0)
  case atStart => exact ⟨rfl, rfl, rfl⟩
  case round =>
    obtain ⟨rfl, rfl, hw⟩ := hrel
    subst wr
    go_wp2_with fail
    go_loopw [3, 8] (fun ok i w1 => ∃ k : Nat, k ≤ Fs.length ∧ ok = .bool true ∧ i = .int .i64 k ∧ Hid (StF w w1 base LB (.slice none 0 0) (.slice none 0 0) (.slice fa Fs.length fk) (.slice wa Fs.length wk) Fs k)) (fun _ i _ => Fs.length - (intOf i).toNat)
    case atStart => exact ⟨0, Nat.zero_le _, rfl, rfl, S0⟩
    case round =>
      obtain ⟨k, hk, rfl, rfl, S⟩ := hrel
      have y2 : wr.cell? ⟨LB, 2, none⟩ = some (.slice fa Fs.length fk) := by rw [cell_of_row _ _ _ _ _ _ S.out.box]; rfl
      have y3 : wr.cell? ⟨LB, 3, none⟩ = some (.slice wa Fs.length wk) := by rw [cell_of_row _ _ _ _ _ _ S.out.box]; rfl
      by_cases hlt : k < Fs.length
      · obtain ⟨fb, rfl⟩ := hfa (by omega)
        obtain ⟨wb, rfl⟩ := hwa (by omega)
        have z2 : wr.cell? ⟨fb, k, none⟩ = some (fe Fs k).fc := by rw [World.ownsRow.cellAt S.out.ownf k (by omega), List.getElem?_map, fe_get hlt]; rfl
        unfold FE.fc at z2
        have z3 : wr.cell? ⟨wb, k, none⟩ = some (fe Fs k).wc := by rw [World.ownsRow.cellAt S.out.ownw k (by omega), List.getElem?_map, fe_get hlt]; rfl
        unfold FE.wc at z3
        have R0 : Hid (RowF wr (fe Fs k) 0) := S.out.row hlt
        have S1 : Hid (StF w wr base LB (.slice none 0 0) (.slice none 0 0) (.slice (some ⟨fb, 0, none⟩) Fs.length fk) (.slice (some ⟨wb, 0, none⟩) Fs.length wk) Fs (k + 1)) := S.out.weak
        have hfl := HN.out _ (fe_mem hlt)
        go_wp2_with fail
        go_loopw [3, 10] (fun ok i w2 => ∃ q : Nat, q ≤ (fe Fs k).f.length + 8 ∧ ok = .bool true ∧ i = .int .i64 q ∧ Hid (StF w w2 base LB (.slice none 0 0) (.slice none 0 0) (.slice (some ⟨fb, 0, none⟩) Fs.length fk) (.slice (some ⟨wb, 0, none⟩) Fs.length wk) Fs (k + 1)) ∧ Hid (RowF w2 (fe Fs k) q)) (fun _ i _ => (fe Fs k).f.length + 8 - (intOf i).toNat)
        case atStart => exact ⟨0, Nat.zero_le _, rfl, rfl, S1, R0⟩
        case round =>
          obtain ⟨q, hq, rfl, rfl, S2, R2⟩ := hrel
          clear y2 y3 z2 z3
          have y3 : wr.cell? ⟨LB, 3, none⟩ = some (.slice (some ⟨wb, 0, none⟩) Fs.length wk) := by rw [cell_of_row _ _ _ _ _ _ S2.out.box]; rfl
          have z3 : wr.cell? ⟨wb, k, none⟩ = some (fe Fs k).wc := by rw [World.ownsRow.cellAt S2.out.ownw k (by omega), List.getElem?_map, fe_get hlt]; rfl
          unfold FE.wc at z3
          by_cases hql : q < (fe Fs k).f.length + 8
          · obtain ⟨bb, off, hbb, hlo, hat⟩ := (HA.out _ (fe_mem hlt)).gr S2.out.be
            rw [hbb] at z3
            obtain ⟨c1, c2, c3, c4, c5⟩ := R2.out.cells hql
            have f0 := R2.out.frozen (q * 5)
            have f1 := R2.out.frozen (q * 5 + 1)
            have f2 := R2.out.frozen (q * 5 + 1 + 1)
            have f3 := R2.out.frozen (q * 5 + 1 + 1 + 1)
            have f4 := R2.out.frozen (q * 5 + 1 + 1 + 1 + 1)
            have hsz : base ≤ wr.heap.size := Nat.le_trans S2.out.le S2.out.be.size
            have h1 : LB < wr.heap.size := blk_lt S2.out.box
            have h2 : wb < wr.heap.size := owns_lt S2.out.ownw
            have h3 : (fe Fs k).g < wr.heap.size := by
              obtain ⟨cs, hc, _⟩ := R2.out
              exact blk_lt hc
            have h4 : bb < wr.heap.size := by omega
            have hne : (fe Fs k).g ≠ wr.heap.size := by omega
            have hne' : wr.heap.size ≠ (fe Fs k).g := by omega
            by_cases hqf : q < (fe Fs k).f.length
            · obtain ⟨d1, d2, d3, d4, d5⟩ := hat q hqf
              rw [outW_in hqf] at c1 c2 c3 c4 c5
              clear hat
              go_wp2_with fail
              refine (lawWant_any _ _ _ _ _ _).mono ?_
              rintro e w2 ⟨rfl, hb2⟩
              have g2 : Gr wr w2 := Gr.call ((Gr.refl wr).alloc _) hb2
              have N2 : Hid (w2.heap[wr.heap.size]? = some (.cells #[.string ⟨#[115, 112, 97, 114, 101]⟩, .int .i64 0, .int .i64 0, .int .i64 0, .string ⟨#[]⟩] 67 (0, 0))) := blk_gr hb2 (heap_alloc_new _ _)
              have gz : Gr wr (box5 w2 wr.heap.size (.string (wat (fe Fs k).f q).a) (.int .i64 (wat (fe Fs k).f q).y) (.int .i64 (wat (fe Fs k).f q).k) (.int .i64 (wat (fe Fs k).f q).n) (.string (wat (fe Fs k).f q).s)) := gr_set5 (k := 0) (Nat.le_refl _) g2 _ _ _ _ _
              have NZ : Hid ((box5 w2 wr.heap.size (.string (wat (fe Fs k).f q).a) (.int .i64 (wat (fe Fs k).f q).y) (.int .i64 (wat (fe Fs k).f q).k) (.int .i64 (wat (fe Fs k).f q).n) (.string (wat (fe Fs k).f q).s)).heap[wr.heap.size]? = some (.cells #[.string (wat (fe Fs k).f q).a, .int .i64 (wat (fe Fs k).f q).y, .int .i64 (wat (fe Fs k).f q).k, .int .i64 (wat (fe Fs k).f q).n, .string (wat (fe Fs k).f q).s] 67 (0, 0))) := box5_blk N2.out _ _ _ _ _
              have n0 : w2.cell? ⟨wr.heap.size, 0, none⟩ = some (.string ⟨#[115, 112, 97, 114, 101]⟩) := by rw [cell_of_row _ _ _ _ _ _ N2.out]; rfl
              have n1 : w2.cell? ⟨wr.heap.size, 1, none⟩ = some (.int .i64 0) := by rw [cell_of_row _ _ _ _ _ _ N2.out]; rfl
              have n2 : w2.cell? ⟨wr.heap.size, 2, none⟩ = some (.int .i64 0) := by rw [cell_of_row _ _ _ _ _ _ N2.out]; rfl
              have n3 : w2.cell? ⟨wr.heap.size, 3, none⟩ = some (.int .i64 0) := by rw [cell_of_row _ _ _ _ _ _ N2.out]; rfl
              have n4 : w2.cell? ⟨wr.heap.size, 4, none⟩ = some (.string ⟨#[]⟩) := by rw [cell_of_row _ _ _ _ _ _ N2.out]; rfl
              have m0 : w2.frozen? ⟨wr.heap.size, 0, none⟩ = false := frozen_of_row _ _ _ _ _ N2.out
              have m1 : w2.frozen? ⟨wr.heap.size, 1, none⟩ = false := frozen_of_row _ _ _ _ _ N2.out
              have m2 : w2.frozen? ⟨wr.heap.size, 2, none⟩ = false := frozen_of_row _ _ _ _ _ N2.out
              have m3 : w2.frozen? ⟨wr.heap.size, 3, none⟩ = false := frozen_of_row _ _ _ _ _ N2.out
              have m4 : w2.frozen? ⟨wr.heap.size, 4, none⟩ = false := frozen_of_row _ _ _ _ _ N2.out
              clear c1 c2 c3 c4 c5 f0 f1 f2 f3 f4 d1 d2 d3 d4 d5 hsz hb2 g2 y3 z3 h1 h2 h3 h4
              go_wp2_with fail
              obtain ⟨wz, hz⟩ : ∃ wz, wz = box5 w2 wr.heap.size (.string (wat (fe Fs k).f q).a) (.int .i64 (wat (fe Fs k).f q).y) (.int .i64 (wat (fe Fs k).f q).k) (.int .i64 (wat (fe Fs k).f q).n) (.string (wat (fe Fs k).f q).s) := ⟨_, rfl⟩
              rw [← hz] at gz NZ
              unfold box5 at hz
              rw [← hz]
              clear n0 n1 n2 n3 n4 m0 m1 m2 m3 m4 N2 hz
              have SZ := Hid.mk' (S2.out.gr gz)
              have RZ := Hid.mk' (R2.out.gr gz)
              clear S2 R2 gz
              have S4 : Hid (StF w (ov5 wz (fe Fs k).g (q * 5) (.string ⟨#[97]⟩) (.int .i64 1) (.int .i64 0) (.int .i64 0) (.string ⟨#[]⟩)) base LB (.slice none 0 0) (.slice none 0 0) (.slice (some ⟨fb, 0, none⟩) Fs.length fk) (.slice (some ⟨wb, 0, none⟩) Fs.length wk) Fs (k + 1)) := by rw [ov5_eq]; exact (SZ.out.set5 hlt RZ.out _ _ _ _ _).gr (Gr.refl _).drew
              have R4 : Hid (RowF (ov5 wz (fe Fs k).g (q * 5) (.string ⟨#[97]⟩) (.int .i64 1) (.int .i64 0) (.int .i64 0) (.string ⟨#[]⟩)) (fe Fs k) (q + 1)) := by rw [ov5_eq]; exact (RZ.out.set5 _ _ _ _ _).gr (Gr.refl _).drew
              obtain ⟨c1, c2, c3, c4, c5⟩ := RZ.out.cells hql
              rw [outW_in hqf] at c1 c2 c3 c4 c5
              have n0 : wz.cell? ⟨wr.heap.size, 0, none⟩ = some (.string (wat (fe Fs k).f q).a) := by rw [cell_of_row _ _ _ _ _ _ NZ.out]; rfl
              have n1 : wz.cell? ⟨wr.heap.size, 1, none⟩ = some (.int .i64 (wat (fe Fs k).f q).y) := by rw [cell_of_row _ _ _ _ _ _ NZ.out]; rfl
              have n2 : wz.cell? ⟨wr.heap.size, 2, none⟩ = some (.int .i64 (wat (fe Fs k).f q).k) := by rw [cell_of_row _ _ _ _ _ _ NZ.out]; rfl
              have n3 : wz.cell? ⟨wr.heap.size, 3, none⟩ = some (.int .i64 (wat (fe Fs k).f q).n) := by rw [cell_of_row _ _ _ _ _ _ NZ.out]; rfl
              have n4 : wz.cell? ⟨wr.heap.size, 4, none⟩ = some (.string (wat (fe Fs k).f q).s) := by rw [cell_of_row _ _ _ _ _ _ NZ.out]; rfl
              go_region_held3 (fun w' => w'.cell? ⟨(fe Fs k).g, q * 5, none⟩ = some (.string (wat (fe Fs k).f q).a) ∧ w'.cell? ⟨(fe Fs k).g, q * 5 + 1, none⟩ = some (.int .i64 (wat (fe Fs k).f q).y) ∧ w'.cell? ⟨(fe Fs k).g, q * 5 + 1 + 1, none⟩ = some (.int .i64 (wat (fe Fs k).f q).k) ∧ w'.cell? ⟨(fe Fs k).g, q * 5 + 1 + 1 + 1, none⟩ = some (.int .i64 (wat (fe Fs k).f q).n) ∧ w'.cell? ⟨(fe Fs k).g, q * 5 + 1 + 1 + 1 + 1, none⟩ = some (.string (wat (fe Fs k).f q).s) ∧ w'.cell? ⟨wr.heap.size, 0, none⟩ = some (.string (wat (fe Fs k).f q).a) ∧ w'.cell? ⟨wr.heap.size, 1, none⟩ = some (.int .i64 (wat (fe Fs k).f q).y) ∧ w'.cell? ⟨wr.heap.size, 2, none⟩ = some (.int .i64 (wat (fe Fs k).f q).k) ∧ w'.cell? ⟨wr.heap.size, 3, none⟩ = some (.int .i64 (wat (fe Fs k).f q).n) ∧ w'.cell? ⟨wr.heap.size, 4, none⟩ = some (.string (wat (fe Fs k).f q).s))
                (simp [go_sem, *]) (fail)
              clear n0 n1 n2 n3 n4
              have f0 := RZ.out.frozen (q * 5)
              have f1 := RZ.out.frozen (q * 5 + 1)
              have f2 := RZ.out.frozen (q * 5 + 1 + 1)
              have f3 := RZ.out.frozen (q * 5 + 1 + 1 + 1)
              have f4 := RZ.out.frozen (q * 5 + 1 + 1 + 1 + 1)
              go_wp2_with fail
              unfold ov5 at S4 R4
              refine ⟨⟨q + 1, by omega, rfl, by go_num, S4, R4⟩, ?_⟩
              simp [intOf]; omega
            · clear hat
              go_wp2_with fail
              obtain ⟨wz, hz⟩ : ∃ wz, wz = wr.alloc (.cells #[.string ⟨#[115, 112, 97, 114, 101]⟩, .int .i64 0, .int .i64 0, .int .i64 0, .string ⟨#[]⟩] 67) := ⟨_, rfl⟩
              have gz : Gr wr wz := by rw [hz]; exact (Gr.refl wr).alloc _
              have NZ : Hid (wz.heap[wr.heap.size]? = some (.cells #[.string ⟨#[115, 112, 97, 114, 101]⟩, .int .i64 0, .int .i64 0, .int .i64 0, .string ⟨#[]⟩] 67 (0, 0))) := by
                show _ = _
                rw [hz]; exact heap_alloc_new _ _
              rw [← hz]
              clear hz c1 c2 c3 c4 c5 f0 f1 f2 f3 f4 hsz y3 z3 h1 h2 h3 h4
              have SZ := Hid.mk' (S2.out.gr gz)
              have RZ := Hid.mk' (R2.out.gr gz)
              clear S2 R2 gz
              have S4 : Hid (StF w (ov5 wz (fe Fs k).g (q * 5) (.string ⟨#[97]⟩) (.int .i64 1) (.int .i64 0) (.int .i64 0) (.string ⟨#[]⟩)) base LB (.slice none 0 0) (.slice none 0 0) (.slice (some ⟨fb, 0, none⟩) Fs.length fk) (.slice (some ⟨wb, 0, none⟩) Fs.length wk) Fs (k + 1)) := by rw [ov5_eq]; exact (SZ.out.set5 hlt RZ.out _ _ _ _ _).gr (Gr.refl _).drew
              have R4 : Hid (RowF (ov5 wz (fe Fs k).g (q * 5) (.string ⟨#[97]⟩) (.int .i64 1) (.int .i64 0) (.int .i64 0) (.string ⟨#[]⟩)) (fe Fs k) (q + 1)) := by rw [ov5_eq]; exact (RZ.out.set5 _ _ _ _ _).gr (Gr.refl _).drew
              obtain ⟨c1, c2, c3, c4, c5⟩ := RZ.out.cells hql
              rw [outW_past hqf hql] at c1 c2 c3 c4 c5; unfold spareW at c1 c2 c3 c4 c5
              have n0 : wz.cell? ⟨wr.heap.size, 0, none⟩ = some (.string ⟨#[115, 112, 97, 114, 101]⟩) := by rw [cell_of_row _ _ _ _ _ _ NZ.out]; rfl
              have n1 : wz.cell? ⟨wr.heap.size, 1, none⟩ = some (.int .i64 0) := by rw [cell_of_row _ _ _ _ _ _ NZ.out]; rfl
              have n2 : wz.cell? ⟨wr.heap.size, 2, none⟩ = some (.int .i64 0) := by rw [cell_of_row _ _ _ _ _ _ NZ.out]; rfl
              have n3 : wz.cell? ⟨wr.heap.size, 3, none⟩ = some (.int .i64 0) := by rw [cell_of_row _ _ _ _ _ _ NZ.out]; rfl
              have n4 : wz.cell? ⟨wr.heap.size, 4, none⟩ = some (.string ⟨#[]⟩) := by rw [cell_of_row _ _ _ _ _ _ NZ.out]; rfl
              go_region_held3 (fun w' => w'.cell? ⟨(fe Fs k).g, q * 5, none⟩ = some (.string ⟨#[115, 112, 97, 114, 101]⟩) ∧ w'.cell? ⟨(fe Fs k).g, q * 5 + 1, none⟩ = some (.int .i64 0) ∧ w'.cell? ⟨(fe Fs k).g, q * 5 + 1 + 1, none⟩ = some (.int .i64 0) ∧ w'.cell? ⟨(fe Fs k).g, q * 5 + 1 + 1 + 1, none⟩ = some (.int .i64 0) ∧ w'.cell? ⟨(fe Fs k).g, q * 5 + 1 + 1 + 1 + 1, none⟩ = some (.string ⟨#[]⟩) ∧ w'.cell? ⟨wr.heap.size, 0, none⟩ = some (.string ⟨#[115, 112, 97, 114, 101]⟩) ∧ w'.cell? ⟨wr.heap.size, 1, none⟩ = some (.int .i64 0) ∧ w'.cell? ⟨wr.heap.size, 2, none⟩ = some (.int .i64 0) ∧ w'.cell? ⟨wr.heap.size, 3, none⟩ = some (.int .i64 0) ∧ w'.cell? ⟨wr.heap.size, 4, none⟩ = some (.string ⟨#[]⟩))
                (simp [go_sem, *]) (fail)
              clear n0 n1 n2 n3 n4
              have f0 := RZ.out.frozen (q * 5)
              have f1 := RZ.out.frozen (q * 5 + 1)
              have f2 := RZ.out.frozen (q * 5 + 1 + 1)
              have f3 := RZ.out.frozen (q * 5 + 1 + 1 + 1)
              have f4 := RZ.out.frozen (q * 5 + 1 + 1 + 1 + 1)
              go_wp2_with fail
              unfold ov5 at S4 R4
              refine ⟨⟨q + 1, by omega, rfl, by go_num, S4, R4⟩, ?_⟩
              simp [intOf]; omega
          · go_wp2_with fail
            go_roundw
            case rel => exact ⟨k + 1, by omega, rfl, by go_num, S2⟩
            case measure => simp [intOf]; omega
      · have y0 : wr.cell? ⟨LB, 0, none⟩ = some (.slice none 0 0) := by rw [cell_of_row _ _ _ _ _ _ S.out.box]; rfl
        have y1 : wr.cell? ⟨LB, 1, none⟩ = some (.slice none 0 0) := by rw [cell_of_row _ _ _ _ _ _ S.out.box]; rfl
        have f0 : wr.frozen? ⟨LB, 0, none⟩ = false := frozen_of_row _ _ _ _ _ S.out.box
        have f1 : wr.frozen? ⟨LB, 1, none⟩ = false := frozen_of_row _ _ _ _ _ S.out.box
        have f2 : wr.frozen? ⟨LB, 2, none⟩ = false := frozen_of_row _ _ _ _ _ S.out.box
        have f3 : wr.frozen? ⟨LB, 3, none⟩ = false := frozen_of_row _ _ _ _ _ S.out.box
        have GG : Hid (Below base w ((((wr.setCell ⟨LB, 0, none⟩ (.slice none 0 0)).setCell ⟨LB, 1, none⟩ (.slice none 0 0)).setCell ⟨LB, 2, none⟩ (.slice none 0 0)).setCell ⟨LB, 3, none⟩ (.slice none 0 0))) :=
          Below.setCell (Below.setCell (Below.setCell (Below.setCell S.out.be (p := ⟨LB, 0, none⟩) S.out.lb _) (p := ⟨LB, 1, none⟩) S.out.lb _) (p := ⟨LB, 2, none⟩) S.out.lb _) (p := ⟨LB, 3, none⟩) S.out.lb _
        have BB : Hid (((((wr.setCell ⟨LB, 0, none⟩ (.slice none 0 0)).setCell ⟨LB, 1, none⟩ (.slice none 0 0)).setCell ⟨LB, 2, none⟩ (.slice none 0 0)).setCell ⟨LB, 3, none⟩ (.slice none 0 0)).heap[LB]? = some (.cells #[.slice none 0 0, .slice none 0 0, .slice none 0 0, .slice none 0 0] 29 (0, 0))) :=
          blk_set_same (j := 3) (blk_set_same (j := 2) (blk_set_same (j := 1) (blk_set_same (j := 0) S.out.box (.slice none 0 0)) (.slice none 0 0)) (.slice none 0 0)) (.slice none 0 0)
        go_wp2_with fail
        go_ret
        exact ⟨rfl, GG.out, BB.out⟩
end Go.Proofs.Ytecnfgikbmcgoaa
