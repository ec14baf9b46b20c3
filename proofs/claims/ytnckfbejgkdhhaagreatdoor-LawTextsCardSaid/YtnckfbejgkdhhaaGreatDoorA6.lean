/- crossings -/
import Derived.Test.YtnckfbejgkdhhaaGreatDoorA5
import Derived.Deep.RegionWith
namespace Go.Proofs.YtnckfbejgkdhhaaGreatDoor
open Go.RowKit RayM
set_option linter.unusedSimpArgs false
set_option linter.unusedVariables false

theorem bcell {W w1 : World} (hb : Below W.heap.size W w1) : (∀ b o, b < W.heap.size → w1.cell? ⟨b, o, none⟩ = W.cell? ⟨b, o, none⟩) ∧ (∀ b o, b < W.heap.size → w1.frozen? ⟨b, o, none⟩ = W.frozen? ⟨b, o, none⟩) :=
  ⟨fun b o h => hb.cell (p := ⟨b, o, none⟩) h, fun b o h => hb.frozen (p := ⟨b, o, none⟩) h⟩

theorem frozen_later {W w1 : World} {a : Addr} (hb : Below W.heap.size W w1) (h : a.block < W.heap.size) (hf : W.frozen? a = false) : w1.frozen? a = false := (hb.frozen h).trans hf
theorem frozen_after {W w1 : World} {a : Addr} {v : Value} (hb : Below W.heap.size W w1) (h : W.cell? a = some v) (hf : W.frozen? a = false) : w1.frozen? a = false := (hb.frozen (World.block_lt_of_cell? _ _ h)).trans hf
theorem below_after {B : Nat} {W w0 w1 : World} (h0 : Below B W w0) (hb : Below w0.heap.size w0 w1) : B ≤ w0.heap.size → Below B W w1 := fun h => h0.trans (hb.mono h)
theorem reader (a : Addr) : ∃ rd : World → Value, ∀ w', (∃ v, w'.cell? a = some v) → w'.cell? a = some (rd w') :=
  ⟨fun w => (w.cell? a).getD undef, fun w' ⟨v, h⟩ => by simp [h]⟩
theorem below_then {W w0 w1 : World} (h0 : Below W.heap.size W w0) (hb : Below w0.heap.size w0 w1) : Below W.heap.size W w1 := h0.trans (hb.mono h0.size)

set_option maxRecDepth 100000 in
set_option maxHeartbeats 1000000 in
/-- c.reach() -/
theorem reach_any (c : Cr) (w : World) :
    Calls Tryz.prog 114 #[.agg #[.int .i64 c.x1, .int .i64 c.h1, .int .i64 c.x2, .int .i64 c.h2, .int .i64 c.v1, .int .i64 c.v2]] w fun e w' => e = .returned (.tuple #[.int .i64 c.lo, .int .i64 c.hi]) ∧ Below w.heap.size w w' := by
  obtain ⟨x1, h1, v1, x2, h2, v2⟩ := c
  dsimp only [Cr.lo, Cr.hi]
  go_enter Tryz.func114, Tryz.ntmps114
  go_wp2
  go_quiet (fail)
  go_wp2
  go_ret2
  exact ⟨rfl, (by repeat (first | exact Below.refl _ _ | refine Below.drew ?_ | refine below_drewN ?_ _ | refine Below.setCell ?_ (by first | omega | (simp; done) | (simp; omega)) _ | refine Below.alloc ?_ (by first | omega | (simp; done) | (simp; omega)) _))⟩

set_option maxRecDepth 100000 in
set_option maxHeartbeats 1000000 in
/-- crossingOf -/
theorem crossingOf_any (c : Cr) (w : World) :
    Calls Tryz.prog 89 #[.agg #[.int .i64 c.x1, .int .i64 c.h1, .int .i64 c.v1, .int .i64 c.x2, .int .i64 c.h2, .int .i64 c.v2]] w fun e w' => e = .returned (.agg #[.int .i64 c.x1, .int .i64 c.h1, .int .i64 c.x2, .int .i64 c.h2, .int .i64 c.v1, .int .i64 c.v2]) ∧ Below w.heap.size w w' := by
  obtain ⟨x1, h1, v1, x2, h2, v2⟩ := c
  dsimp only
  go_enter Tryz.func89, Tryz.ntmps89
  go_wp2
  exact bodyPost_ret (v := .agg #[.int .i64 x1, .int .i64 h1, .int .i64 x2, .int .i64 h2, .int .i64 v1, .int .i64 v2]) (by simp [results, Tryz.results89, go_sem]) rfl ⟨rfl, (by repeat (first | exact Below.refl _ _ | refine Below.drew ?_ | refine below_drewN ?_ _ | refine Below.setCell ?_ (by first | omega | (simp; done) | (simp; omega)) _ | refine Below.alloc ?_ (by first | omega | (simp; done) | (simp; omega)) _))⟩

set_option maxRecDepth 100000 in
set_option maxHeartbeats 1000000 in
/-- c.bound() -/
theorem bound_any (c : Cr) (o : c.ok) (w : World) :
    Calls Tryz.prog 115 #[.agg #[.int .i64 c.x1, .int .i64 c.h1, .int .i64 c.x2, .int .i64 c.h2, .int .i64 c.v1, .int .i64 c.v2]] w fun e w' => e = .returned (.int .i64 c.bd) ∧ Below w.heap.size w w' := by
  have hb : c.bd = cdiv 10000000 (c.v1 * c.h1) + cdiv 10000000 (c.v2 * c.h2) := rfl
  obtain ⟨x1, h1, v1, x2, h2, v2⟩ := c
  obtain ⟨p1, p2, p3, p4, p5, p6, p7, p8, p9, p10, p11, p12⟩ := o
  dsimp only at *
  have k1 := Int.mul_pos (show 0 < v1 by omega) (show 0 < h1 by omega)
  have k2 := Int.mul_pos (show 0 < v2 by omega) (show 0 < h2 by omega)
  have k3 := mul_le v1 h1 10000 100000 (by omega) (by omega) p10 p6
  have k4 := mul_le v2 h2 10000 100000 (by omega) (by omega) p12 p8
  have a := cdiv_le_self 10000000 (v1 * h1) (by omega) (by omega)
  have b := cdiv_le_self 10000000 (v2 * h2) (by omega) (by omega)
  have r1 : 1 ≤ v1 * h1 := by omega
  have r2 : v1 * h1 < 4611686018427387904 := by omega
  have r3 : 1 ≤ v2 * h2 := by omega
  have r4 : v2 * h2 < 4611686018427387904 := by omega
  have e1 : IntKind.i64.wrap (v1 * h1) = v1 * h1 := IntWalk.i64_in _ (by omega)
  have e2 : IntKind.i64.wrap (v2 * h2) = v2 * h2 := IntWalk.i64_in _ (by omega)
  have e3 : IntKind.i64.wrap (cdiv 10000000 (v1 * h1) + cdiv 10000000 (v2 * h2)) = cdiv 10000000 (v1 * h1) + cdiv 10000000 (v2 * h2) := IntWalk.i64_in _ (by omega)
  generalize Cr.bd _ = bb at *
  have HB := Lib.hid hb; clear hb
  go_enter Tryz.func115, Tryz.ntmps115
  go_wp2
  go_region_held3 (fun w' => w'.cell? ⟨w.heap.size, 1, none⟩ = some (.int .i64 h1) ∧ w'.cell? ⟨w.heap.size, 3, none⟩ = some (.int .i64 h2) ∧ w'.cell? ⟨w.heap.size, 4, none⟩ = some (.int .i64 v1) ∧ w'.cell? ⟨w.heap.size, 5, none⟩ = some (.int .i64 v2)) (simp [go_sem])
    ((go_at_call 54; refine (up_any 10000000 _ _ (by decide) (by decide) (by assumption) (by assumption)).mono ?_; rintro e w' ⟨rfl, rfl⟩))
  clear e1 e2 e3
  go_wp2
  go_ret
  exact ⟨by rw [HB.out]; rfl, (by repeat (first | exact Below.refl _ _ | refine Below.drew ?_ | refine below_drewN ?_ _ | refine Below.setCell ?_ (by first | omega | (simp; done) | (simp; omega)) _ | refine Below.alloc ?_ (by first | omega | (simp; done) | (simp; omega)) _))⟩

set_option maxRecDepth 100000 in
set_option maxHeartbeats 4000000 in
/-- c.timeAt(at) -/
theorem timeAt_any (c : Cr) (o : c.ok) (t : Int) (w : World) (t0 : -100000 ≤ t) (t1 : t ≤ 100000) :
    Calls Tryz.prog 113 #[.agg #[.int .i64 c.x1, .int .i64 c.h1, .int .i64 c.x2, .int .i64 c.h2, .int .i64 c.v1, .int .i64 c.v2], .int .i64 t] w fun e w' => e = .returned (.agg #[.int .i64 (c.tLo t), .int .i64 (c.tHi t)]) ∧ Below w.heap.size w w' := by
  have hlo : c.tLo t = rt (sqL (t - c.x1) (0 - c.h1)) * 10000 / c.v1 + rt (sqL (c.x2 - t) (c.h2 - 0)) * 10000 / c.v2 := by rw [sqL_neg, Int.sub_zero]; rfl
  have hhi : c.tHi t = cdiv (rtU (sqL (t - c.x1) (0 - c.h1)) * 10000) c.v1 + cdiv (rtU (sqL (c.x2 - t) (c.h2 - 0)) * 10000) c.v2 := by rw [sqL_neg, Int.sub_zero]; rfl
  obtain ⟨x1, h1, v1, x2, h2, v2⟩ := c
  obtain ⟨p1, p2, p3, p4, p5, p6, p7, p8, p9, p10, p11, p12⟩ := o
  dsimp only at *
  have s1 := sqL_bounds (t - x1) (0 - h1) (by omega) (by omega) (by omega) (by omega)
  have s2 := sqL_bounds (x2 - t) (h2 - 0) (by omega) (by omega) (by omega) (by omega)
  obtain ⟨b1, b2, b3, b4⟩ := rt_le _ s1.1 s1.2
  obtain ⟨d1, d2, d3, d4⟩ := rt_le _ s2.1 s2.2
  have hl := fun w => lengthBetween_any x1 h1 t 0 w (by omega) (by omega) (by omega) (by omega) (by omega) (by omega) (by omega) (by omega)
  have hr := fun w => lengthBetween_any t 0 x2 h2 w (by omega) (by omega) (by omega) (by omega) (by omega) (by omega) (by omega) (by omega)
  generalize rt (sqL (t - x1) (0 - h1)) = l1 at *
  generalize rtU (sqL (t - x1) (0 - h1)) = u1 at *
  generalize rt (sqL (x2 - t) (h2 - 0)) = l2 at *
  generalize rtU (sqL (x2 - t) (h2 - 0)) = u2 at *
  generalize Cr.tLo _ t = tl at *
  generalize Cr.tHi _ t = th at *
  have g1 := div_le_self' (l1 * 10000) v1 (by omega) (by omega)
  have g2 := div_le_self' (l2 * 10000) v2 (by omega) (by omega)
  have g3 := cdiv_le_self (u1 * 10000) v1 (by omega) (by omega)
  have g4 := cdiv_le_self (u2 * 10000) v2 (by omega) (by omega)
  have HL := Lib.hid hl; have HR := Lib.hid hr; have HLO := Lib.hid hlo; have HHI := Lib.hid hhi
  clear hl hr hlo hhi
  have ta := Lib.hid (fun w => timeOfLength_any l1 u1 v1 w b1 b2 b3 b4 p9 p10)
  have tb := Lib.hid (fun w => timeOfLength_any l2 u2 v2 w d1 d2 d3 d4 p11 p12)
  have su := Lib.hid (fun w => sumOf_any (l1 * 10000 / v1) (cdiv (u1 * 10000) v1) (l2 * 10000 / v2) (cdiv (u2 * 10000) v2) w g1.1 g3.1 g2.1 g4.1 (by omega) (by omega) (by omega) (by omega))
  clear g1 g2 g3 g4 b1 b2 b3 b4 d1 d2 d3 d4 s1 s2
  go_enter Tryz.func113, Tryz.ntmps113
  go_wp2_with fail
  refine (HL.out _).mono ?_
  rintro e w1 ⟨rfl, hb1⟩
  have qw10 : w1.cell? ⟨w.heap.size, 0, none⟩ = some (.int .i64 x1) := cell_later hb1 (by simp [go_sem])
  have qw11 : w1.cell? ⟨w.heap.size, 1, none⟩ = some (.int .i64 h1) := cell_later hb1 (by simp [go_sem])
  have qw12 : w1.cell? ⟨w.heap.size, 2, none⟩ = some (.int .i64 x2) := cell_later hb1 (by simp [go_sem])
  have qw13 : w1.cell? ⟨w.heap.size, 3, none⟩ = some (.int .i64 h2) := cell_later hb1 (by simp [go_sem])
  have qw14 : w1.cell? ⟨w.heap.size, 4, none⟩ = some (.int .i64 v1) := cell_later hb1 (by simp [go_sem])
  have qw15 : w1.cell? ⟨w.heap.size, 5, none⟩ = some (.int .i64 v2) := cell_later hb1 (by simp [go_sem])
  have qw16 : w1.cell? ⟨w.heap.size + 1, 0, none⟩ = some (.int .i64 0) := cell_later hb1 (by simp [go_sem])
  have qw17 : w1.cell? ⟨w.heap.size + 1, 1, none⟩ = some (.int .i64 0) := cell_later hb1 (by simp [go_sem])
  have qw18 : w1.cell? ⟨w.heap.size + 1 + 1, 0, none⟩ = some (.int .i64 t) := cell_later hb1 (by simp [go_sem])
  have qw19 : w1.cell? ⟨w.heap.size + 1 + 1, 1, none⟩ = some (.int .i64 0) := cell_later hb1 (by simp [go_sem])
  have qw1f0 : w1.frozen? ⟨w.heap.size + 1, 0, none⟩ = false := frozen_later hb1 (by first | omega | (simp; done) | (simp; omega)) (by simp [go_sem])
  have qw1f1 : w1.frozen? ⟨w.heap.size + 1, 1, none⟩ = false := frozen_later hb1 (by first | omega | (simp; done) | (simp; omega)) (by simp [go_sem])
  have zw1 := hb1.size
  simp at zw1
  have zw10 : w.heap.size < w1.heap.size := by omega
  have zw11 : w.heap.size + 1 < w1.heap.size := by omega
  have zw12 : w.heap.size + 1 + 1 < w1.heap.size := by omega
  have HB1 : Hid (Below w.heap.size w w1) := below_after (by repeat (first | exact Below.refl _ _ | refine Below.drew ?_ | refine below_drewN ?_ _ | refine Below.setCell ?_ (by first | omega | (simp; done) | (simp; omega)) _ | refine Below.alloc ?_ (by first | omega | (simp; done) | (simp; omega)) _)) hb1 (by simp; omega)
  clear hb1
  go_wp2_with fail
  refine (HR.out _).mono ?_
  rintro e w2 ⟨rfl, hb2⟩
  have qw20 : w2.cell? ⟨w.heap.size, 4, none⟩ = some (.int .i64 v1) := cell_later hb2 (by simp [go_sem, *])
  have qw21 : w2.cell? ⟨w.heap.size, 5, none⟩ = some (.int .i64 v2) := cell_later hb2 (by simp [go_sem, *])
  have qw22 : w2.cell? ⟨w.heap.size + 1, 0, none⟩ = some (.int .i64 0) := cell_later hb2 (by simp [go_sem, *])
  have qw23 : w2.cell? ⟨w.heap.size + 1, 1, none⟩ = some (.int .i64 0) := cell_later hb2 (by simp [go_sem, *])
  have qw24 : w2.cell? ⟨w1.heap.size, 0, none⟩ = some (.int .i64 l1) := cell_later hb2 (by simp [go_sem, *])
  have qw25 : w2.cell? ⟨w1.heap.size, 1, none⟩ = some (.int .i64 u1) := cell_later hb2 (by simp [go_sem, *])
  have qw2f0 : w2.frozen? ⟨w.heap.size + 1, 0, none⟩ = false := frozen_later hb2 (by first | omega | (simp; done) | (simp; omega)) (by simp [go_sem, *])
  have qw2f1 : w2.frozen? ⟨w.heap.size + 1, 1, none⟩ = false := frozen_later hb2 (by first | omega | (simp; done) | (simp; omega)) (by simp [go_sem, *])
  have zw2 := hb2.size
  simp at zw2
  have zw20 : w.heap.size < w2.heap.size := by omega
  have zw21 : w.heap.size + 1 < w2.heap.size := by omega
  have zw22 : w.heap.size + 1 + 1 < w2.heap.size := by omega
  have zw23 : w1.heap.size < w2.heap.size := by omega
  have HB2 : Hid (Below w.heap.size w w2) := below_after ((HB1.out).alloc (by omega) _) hb2 (by simp; omega)
  clear hb2
  obtain ⟨rd0, r0⟩ := reader ⟨w.heap.size + 1, 0, none⟩
  obtain ⟨rd1, r1⟩ := reader ⟨w.heap.size + 1, 1, none⟩
  have RD0 := Lib.hid r0; have RD1 := Lib.hid r1; clear r0 r1
  have hS := HB2.out.alloc (by omega) (.cells #[.int .i64 l2, .int .i64 u2] 47)
  go_wp2_with fail
  go_region_held3 (fun w' => w'.cell? ⟨w.heap.size, 4, none⟩ = some (.int .i64 v1) ∧ w'.cell? ⟨w.heap.size, 5, none⟩ = some (.int .i64 v2) ∧ w'.cell? ⟨w.heap.size + 1, 0, none⟩ = some (rd0 w') ∧ w'.cell? ⟨w.heap.size + 1, 1, none⟩ = some (rd1 w') ∧ w'.cell? ⟨w1.heap.size, 0, none⟩ = some (.int .i64 l1) ∧ w'.cell? ⟨w1.heap.size, 1, none⟩ = some (.int .i64 u1) ∧ w'.cell? ⟨w2.heap.size, 0, none⟩ = some (.int .i64 l2) ∧ w'.cell? ⟨w2.heap.size, 1, none⟩ = some (.int .i64 u2) ∧ w'.frozen? ⟨w.heap.size + 1, 0, none⟩ = false ∧ w'.frozen? ⟨w.heap.size + 1, 1, none⟩ = false ∧ Below w.heap.size w w') ((go_split_ands; (repeat' apply And.intro) <;> first | assumption | exact cell_later (by assumption) (by assumption) | exact frozen_after (by assumption) (by assumption) (by assumption) | exact below_then (by assumption) (by assumption) | exact Below.setCell (Below.setCell (by assumption) (by simp) _) (by simp) _ | exact RD0.out _ ⟨_, cell_later (by assumption) (by assumption)⟩ | exact RD1.out _ ⟨_, cell_later (by assumption) (by assumption)⟩ | exact RD0.out _ (by simp [go_sem, World.cell?_alloc_past, *]; done) | exact RD1.out _ (by simp [go_sem, World.cell?_alloc_past, *]; done) | exact Below.drew (by assumption) | (simp [go_sem, World.cell?_alloc_past, *]; done)))
    (first
      | (go_at_call 129; (with_reducible refine (ta.out _).mono ?_); rintro e w' ⟨rfl, hb⟩)
      | (go_at_call 129; (with_reducible refine (tb.out _).mono ?_); rintro e w' ⟨rfl, hb⟩)
      | (go_at_call 128; (with_reducible refine (su.out _).mono ?_); rintro e w' ⟨rfl, hb⟩))
  go_wp2
  have e0 : w'.cell? ⟨w.heap.size + 1, 0, none⟩ = some (.int .i64 0) := cell_later (by assumption) (cell_later (by assumption) (cell_later (by assumption) (by simp [go_sem, World.cell?_alloc_past, qw22, zw21])))
  have e1 : w'.cell? ⟨w.heap.size + 1, 1, none⟩ = some (.int .i64 0) := cell_later (by assumption) (cell_later (by assumption) (cell_later (by assumption) (by simp [go_sem, World.cell?_alloc_past, qw23, zw21])))
  exact bodyPost_ret (v := .agg #[.int .i64 (l1 * 10000 / v1 + l2 * 10000 / v2), .int .i64 (cdiv (u1 * 10000) v1 + cdiv (u2 * 10000) v2)]) (by simp [results, Tryz.results113, go_sem, e0, e1]) rfl ⟨by rw [HLO.out, HHI.out], by go_split_ands; assumption⟩
end Go.Proofs.YtnckfbejgkdhhaaGreatDoor
