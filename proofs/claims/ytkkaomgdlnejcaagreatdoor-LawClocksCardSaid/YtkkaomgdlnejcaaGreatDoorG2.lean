/- the reference: ways -/
import Derived.Test.YtkkaomgdlnejcaaGreatDoorG1
namespace Go.Proofs.YtkkaomgdlnejcaaGreatDoor
open Go.RowKit RayM
set_option linter.unusedSimpArgs false
set_option linter.unusedVariables false
set_option maxRecDepth 100000 in
set_option maxHeartbeats 1000000 in
/-- Unfolded of the reference, with its world -/
theorem refUnfolded_at (m : Mo) (o : m.ok) (z : Int) (w : World) (h0 : 0 < z) (h1 : z < m.th) :
    Calls Tryz.prog 142 #[.agg #[.int .i64 m.wd, .int .i64 m.mt, .int .i64 m.sk, .int .i64 m.th], .int .i64 z] w fun e w' => e = .returned (.int .i64 (m.unf z)) ∧ w.alloc (.cells #[.int .i64 m.wd, .int .i64 m.mt, .int .i64 m.sk, .int .i64 m.th] 24) = w' := by
  obtain ⟨u1, u2, u3, u4⟩ := unf_bounds m o z h0 h1
  have hu : m.unf z = if m.sk % 2 = 0 then m.sk * m.th + z else m.sk * m.th + (m.th - z) := rfl
  have HU := Lib.hid hu
  obtain ⟨a1, a2, b1, b2, c1, c2, d1, d2⟩ := o
  clear hu u1 u2 a1 a2 b1 b2
  by_cases hp : m.sk % 2 = 0
  · have n0 : (m.sk % 2 == 0) = true := by simp [hp]
    have HP := Lib.hid hp; clear hp
    go_enter Tryz.func142, Tryz.ntmps142
    go_wp2
    go_ret
    exact ⟨by rw [HU.out, if_pos HP.out]; rfl, rfl⟩
  · have n0 : (m.sk % 2 == 0) = false := by simp [hp]
    have HP := Lib.hid hp; clear hp
    go_enter Tryz.func142, Tryz.ntmps142
    go_wp2
    go_ret
    exact ⟨by rw [HU.out, if_neg HP.out, ← Int.add_sub_assoc]; rfl, rfl⟩
set_option maxRecDepth 100000 in
set_option maxHeartbeats 1000000 in
/-- CrossOf of the reference -/
theorem refCrossOf_any (x : Wy) (o : x.ok) (w : World) :
    Calls Tryz.prog 125 #[.agg #[.int .i64 x.m.wd, .int .i64 x.m.mt, .int .i64 x.m.sk, .int .i64 x.m.th], .agg #[.int .i64 x.fx, .int .i64 x.fz], .agg #[.int .i64 x.tx, .int .i64 x.tz]] w fun e w' => e = .returned (.agg #[.int .i64 x.fx, .int .i64 (-x.fz), .int .i64 x.m.wd, .int .i64 x.tx, .int .i64 (x.m.unf x.tz), .int .i64 x.m.mt]) ∧ Below w.heap.size w w' := by
  have HU := Lib.hid (fun w => refUnfolded_at x.m o.m x.tz w o.d1 o.d2)
  have e1 : IntKind.i64.wrap (-x.fz) = -x.fz := IntWalk.i64_in _ (by have := o.b1; have := o.b2; omega)
  generalize x.m.unf x.tz = uz at *
  go_enter Tryz.func125, Tryz.ntmps125
  go_wp2
  go_region_held3 (fun w' => w'.cell? ⟨w.heap.size, 0, none⟩ = some (.int .i64 x.m.wd) ∧ w'.cell? ⟨w.heap.size, 1, none⟩ = some (.int .i64 x.m.mt) ∧ w'.cell? ⟨w.heap.size, 2, none⟩ = some (.int .i64 x.m.sk) ∧ w'.cell? ⟨w.heap.size, 3, none⟩ = some (.int .i64 x.m.th) ∧ w'.cell? ⟨w.heap.size + 1, 0, none⟩ = some (.int .i64 x.fx) ∧ w'.cell? ⟨w.heap.size + 1, 1, none⟩ = some (.int .i64 x.fz) ∧ w'.cell? ⟨w.heap.size + 1 + 1, 0, none⟩ = some (.int .i64 x.tx) ∧ w'.cell? ⟨w.heap.size + 1 + 1, 1, none⟩ = some (.int .i64 x.tz)) (simp [go_sem, World.cell?_alloc_past])
    (first
      | (go_at_call 142; refine (HU.out _).mono ?_; rintro e w' ⟨rfl, rfl⟩))
  clear e1
  all_goals
    go_wp2
    exact bodyPost_ret (v := .agg #[.int .i64 x.fx, .int .i64 (-x.fz), .int .i64 x.m.wd, .int .i64 x.tx, .int .i64 uz, .int .i64 x.m.mt]) (by simp [results, Tryz.results125, go_sem]) rfl ⟨rfl, (by repeat (first | exact Below.refl _ _ | refine Below.drew ?_ | refine below_drewN ?_ _ | refine Below.setCell ?_ (by first | omega | (simp; done) | (simp; omega)) _ | refine Below.alloc ?_ (by first | omega | (simp; done) | (simp; omega)) _))⟩
set_option maxRecDepth 100000 in
set_option maxHeartbeats 1000000 in
/-- LeastTime of the reference -/
theorem refLeastTime_any (x : Wy) (o : x.ok) (w : World) :
    Calls Tryz.prog 110 #[.agg #[.int .i64 x.m.wd, .int .i64 x.m.mt, .int .i64 x.m.sk, .int .i64 x.m.th], .agg #[.int .i64 x.fx, .int .i64 x.fz], .agg #[.int .i64 x.tx, .int .i64 x.tz]] w fun e w' => e = .returned (.agg #[.int .i64 x.cr.lLo, .int .i64 x.cr.lHi]) ∧ Below w.heap.size w w' := by
  have HC := Lib.hid (fun w => refCrossOf_any x o w)
  have HL : Hid (∀ w, Calls Tryz.prog 124 #[.agg #[.int .i64 x.fx, .int .i64 (-x.fz), .int .i64 x.m.wd, .int .i64 x.tx, .int .i64 (x.m.unf x.tz), .int .i64 x.m.mt]] w fun e w' => e = .returned (.agg #[.int .i64 x.cr.lLo, .int .i64 x.cr.lHi]) ∧ Below w.heap.size w w') := Lib.hid (fun w => refLeast_any x.cr (cr_ok x o) w)
  generalize x.cr.lLo = lo at *
  generalize x.cr.lHi = hi at *
  go_enter Tryz.func110, Tryz.ntmps110
  go_wp2_with fail
  refine (HC.out _).mono ?_
  rintro e w1 ⟨rfl, hb1⟩
  have qw10 : w1.cell? ⟨w.heap.size + 1 + 1 + 1, 0, none⟩ = some (.int .i64 0) := cell_later hb1 (by simp [go_sem])
  have qw11 : w1.cell? ⟨w.heap.size + 1 + 1 + 1, 1, none⟩ = some (.int .i64 0) := cell_later hb1 (by simp [go_sem])
  have qw1f0 : w1.frozen? ⟨w.heap.size + 1 + 1 + 1, 0, none⟩ = false := frozen_after hb1 (v := .int .i64 0) (by simp [go_sem]) (by simp [go_sem])
  have qw1f1 : w1.frozen? ⟨w.heap.size + 1 + 1 + 1, 1, none⟩ = false := frozen_after hb1 (v := .int .i64 0) (by simp [go_sem]) (by simp [go_sem])
  have zqw1_0 := World.block_lt_of_cell? _ _ qw10
  dsimp only at zqw1_0
  have H1 := Lib.hid (below_after (by repeat (first | exact Below.refl _ _ | refine Below.drew ?_ | refine below_drewN ?_ _ | refine Below.setCell ?_ (by first | omega | (simp; done) | (simp; omega)) _ | refine Below.alloc ?_ (by first | omega | (simp; done) | (simp; omega)) _)) hb1 (by first | omega | (simp; done) | (simp; omega)) : Below w.heap.size w w1); clear hb1
  go_wp2_with fail
  refine (HL.out _).mono ?_
  rintro e w2 ⟨rfl, hb2⟩
  have qw20 : w2.cell? ⟨w.heap.size + 1 + 1 + 1, 0, none⟩ = some (.int .i64 0) := cell_later hb2 (by simp [go_sem, World.cell?_alloc_past, World.frozen?_alloc_past, *])
  have qw21 : w2.cell? ⟨w.heap.size + 1 + 1 + 1, 1, none⟩ = some (.int .i64 0) := cell_later hb2 (by simp [go_sem, World.cell?_alloc_past, World.frozen?_alloc_past, *])
  have qw2f0 : w2.frozen? ⟨w.heap.size + 1 + 1 + 1, 0, none⟩ = false := frozen_after hb2 (v := .int .i64 0) (by simp [go_sem, World.cell?_alloc_past, World.frozen?_alloc_past, *]) (by simp [go_sem, World.cell?_alloc_past, World.frozen?_alloc_past, *])
  have qw2f1 : w2.frozen? ⟨w.heap.size + 1 + 1 + 1, 1, none⟩ = false := frozen_after hb2 (v := .int .i64 0) (by simp [go_sem, World.cell?_alloc_past, World.frozen?_alloc_past, *]) (by simp [go_sem, World.cell?_alloc_past, World.frozen?_alloc_past, *])
  have zqw2_0 := World.block_lt_of_cell? _ _ qw20
  dsimp only at zqw2_0
  have H2 : Hid (Below w.heap.size w w2) := Lib.hid (below_then (by (repeat (first | (with_reducible exact H1.out) | (with_reducible refine Below.setCell ?_ ?_ _) | (with_reducible refine below_alloc_top ?_ _) | (with_reducible refine Below.drew ?_))); all_goals (first | omega | (simp; done) | (simp; omega))) hb2); clear hb2
  go_wp2
  exact bodyPost_ret (v := .agg #[.int .i64 lo, .int .i64 hi]) (by simp [results, Tryz.results110, go_sem, *]) rfl ⟨rfl, (by (repeat (first | (with_reducible exact H2.out) | (with_reducible refine Below.setCell ?_ ?_ _) | (with_reducible refine below_alloc_top ?_ _) | (with_reducible refine Below.drew ?_))); all_goals (first | omega | (simp; done) | (simp; omega)))⟩
end Go.Proofs.YtkkaomgdlnejcaaGreatDoor
