/- the reference: the time at a place -/
import Derived.Test.YtkkaomgdlnejcaaGreatDoorC5
namespace Go.Proofs.YtkkaomgdlnejcaaGreatDoor
open Go.RowKit RayM
set_option linter.unusedSimpArgs false
set_option linter.unusedVariables false
set_option maxRecDepth 100000 in
set_option maxHeartbeats 1000000 in
theorem lengthOf_at (x z : Int) (w : World) (a : -400000 ≤ x) (b : x ≤ 400000) (c : -400000 ≤ z) (d : z ≤ 400000) :
    Calls Tryz.prog 163 #[.int .i64 x, .int .i64 z] w fun e w' => e = .returned (.agg #[.int .i64 (rt (sqL x z)), .int .i64 (rtU (sqL x z))]) ∧ w.alloc (.cells #[.int .i64 (rt (sqL x z)), .int .i64 (rtU (sqL x z))] 74) = w' := by
  have k := sqL_bounds x z a b c d
  have k1 := sq_nonneg x
  have k2 := sq_nonneg z
  have hq : sqL x z = 1000000 * (x * x + z * z) := rfl
  have k3 : 1000000 * (x * x + z * z) ≤ 320000000000000000 := by omega
  rw [hq]
  clear hq a b c d k
  go_enter Tryz.func163, Tryz.ntmps163
  go_wp2_with (first | (go_at_call 178; refine (baseRoot_any _ _ (by omega) (by omega)).mono ?_; rintro e w' ⟨rfl, rfl⟩) | (go_at_call 179; refine (baseRootUp_any _ _ (by omega) (by omega)).mono ?_; rintro e w' ⟨rfl, rfl⟩))
  exact bodyPost_ret (v := .agg #[.int .i64 (rt (1000000 * (x * x + z * z))), .int .i64 (rtU (1000000 * (x * x + z * z)))]) (by simp [results, Tryz.results163, go_sem]) rfl ⟨rfl, rfl⟩
set_option maxRecDepth 100000 in
set_option maxHeartbeats 1000000 in
theorem lasting_at (l h v : Int) (w : World) (a : 0 ≤ l) (b : l ≤ 565685425) (c : 0 ≤ h) (d : h ≤ 565685425) (v0 : 500 ≤ v) (v1 : v ≤ 10000) :
    Calls Tryz.prog 162 #[.agg #[.int .i64 l, .int .i64 h], .int .i64 v] w fun e w' => e = .returned (.agg #[.int .i64 (l * 10000 / v), .int .i64 (cdiv (h * 10000) v)]) ∧ ((w.alloc (.cells #[.int .i64 l, .int .i64 h] 74)).alloc (.cells #[.int .i64 (l * 10000 / v), .int .i64 (cdiv (h * 10000) v)] 74)).drew = w' := by
  have c94 := Lib.hid (fun w => floor_any (l * 10000) v w (by omega) (by omega) (by omega) (by omega))
  have c95 := Lib.hid (fun w => ceil_any (h * 10000) v w (by omega) (by omega) (by omega) (by omega))
  have e1 : IntKind.i64.wrap (l * 10000) = l * 10000 := IntWalk.i64_in _ (by omega)
  have e2 : IntKind.i64.wrap (h * 10000) = h * 10000 := IntWalk.i64_in _ (by omega)
  go_enter Tryz.func162, Tryz.ntmps162
  go_wp2
  go_region_held3 (fun w' => w'.cell? ⟨w.heap.size, 0, none⟩ = some (.int .i64 l) ∧ w'.cell? ⟨w.heap.size, 1, none⟩ = some (.int .i64 h)) (simp [go_sem, World.cell?_alloc_past])
    (first
      | (go_at_call 83; refine (c94.out _).mono ?_; rintro e w' ⟨rfl, rfl⟩)
      | (go_at_call 141; refine (c95.out _).mono ?_; rintro e w' ⟨rfl, rfl⟩))
  clear e1 e2
  go_wp2
  exact bodyPost_ret (v := .agg #[.int .i64 (l * 10000 / v), .int .i64 (cdiv (h * 10000) v)]) (by simp [results, Tryz.results162, go_sem]) rfl ⟨rfl, rfl⟩
set_option maxRecDepth 100000 in
set_option maxHeartbeats 4000000 in
theorem refTimeAt_any (c : Cr) (t : Int) (p : In c t) (w : World) :
    Calls Tryz.prog 139 #[.agg #[.int .i64 c.x1, .int .i64 c.h1, .int .i64 c.v1, .int .i64 c.x2, .int .i64 c.h2, .int .i64 c.v2], .int .i64 t] w fun e w' => e = .returned (.agg #[.int .i64 (c.tLo t), .int .i64 (c.tHi t)]) ∧ Below w.heap.size w w' := by
  have o := p.o
  have x1b := o.a1; have x1c := o.a2; have x2b := o.b1; have x2c := o.b2
  have y1b := o.c1; have y1c := o.c2; have y2b := o.d1; have y2c := o.d2
  obtain ⟨bb0, bb1⟩ := p.bounds
  have lb1 := leg_bounds (t - c.x1) c.h1 c.v1 (by omega) (by omega) (by omega) (by omega) o.e1
  have lb2 := leg_bounds (c.x2 - t) c.h2 c.v2 (by omega) (by omega) (by omega) (by omega) o.f1
  have s1 := sqL_bounds (t - c.x1) c.h1 (by omega) (by omega) (by omega) (by omega)
  have s2 := sqL_bounds (c.x2 - t) c.h2 (by omega) (by omega) (by omega) (by omega)
  obtain ⟨b1, b2, b3, b4⟩ := rt_le _ s1.1 s1.2
  obtain ⟨d1, d2, d3, d4⟩ := rt_le _ s2.1 s2.2
  have LA := Lib.hid (fun w => lengthOf_at (t - c.x1) c.h1 w (by omega) (by omega) (by omega) (by omega))
  have LB := Lib.hid (fun w => lengthOf_at (c.x2 - t) c.h2 w (by omega) (by omega) (by omega) (by omega))
  have ta := fun w => lasting_at _ _ c.v1 w b1 b2 b3 b4 o.e1 o.e2
  have tb := fun w => lasting_at _ _ c.v2 w d1 d2 d3 d4 o.f1 o.f2
  have hlo : c.tLo t = legLo (t - c.x1) c.h1 c.v1 + legLo (c.x2 - t) c.h2 c.v2 := rfl
  have hhi : c.tHi t = legHi (t - c.x1) c.h1 c.v1 + legHi (c.x2 - t) c.h2 c.v2 := rfl
  have e1 : rt (sqL (t - c.x1) c.h1) * 10000 / c.v1 = legLo (t - c.x1) c.h1 c.v1 := rfl
  have e2 : cdiv (rtU (sqL (t - c.x1) c.h1) * 10000) c.v1 = legHi (t - c.x1) c.h1 c.v1 := rfl
  have e3 : rt (sqL (c.x2 - t) c.h2) * 10000 / c.v2 = legLo (c.x2 - t) c.h2 c.v2 := rfl
  have e4 : cdiv (rtU (sqL (c.x2 - t) c.h2) * 10000) c.v2 = legHi (c.x2 - t) c.h2 c.v2 := rfl
  rw [e1, e2] at ta
  rw [e3, e4] at tb
  clear e1 e2 e3 e4 s1 s2 b1 b2 b3 b4 d1 d2 d3 d4
  generalize rt (sqL (t - c.x1) c.h1) = l1 at *
  generalize rtU (sqL (t - c.x1) c.h1) = u1 at *
  generalize rt (sqL (c.x2 - t) c.h2) = l2 at *
  generalize rtU (sqL (c.x2 - t) c.h2) = u2 at *
  generalize legLo (t - c.x1) c.h1 c.v1 = a1 at *
  generalize legHi (t - c.x1) c.h1 c.v1 = a2 at *
  generalize legLo (c.x2 - t) c.h2 c.v2 = a3 at *
  generalize legHi (c.x2 - t) c.h2 c.v2 = a4 at *
  generalize c.tLo t = tl at *
  generalize c.tHi t = th at *
  have TA := Lib.hid ta; have TB := Lib.hid tb; have HLO := Lib.hid hlo; have HHI := Lib.hid hhi
  clear ta tb hlo hhi
  obtain ⟨z1, z2, z3, z4, z5⟩ := lb1
  obtain ⟨z6, z7, z8, z9, z10⟩ := lb2
  have E1 := Lib.hid (show IntKind.i64.wrap (t - c.x1) = t - c.x1 from IntWalk.i64_in _ (by omega))
  have E2 := Lib.hid (show IntKind.i64.wrap (c.x2 - t) = c.x2 - t from IntWalk.i64_in _ (by omega))
  go_enter Tryz.func139, Tryz.ntmps139
  go_wp2
  have k1 := E1.out; have k2 := E2.out
  go_region_held3 (fun w' => w'.cell? ⟨w.heap.size, 0, none⟩ = some (.int .i64 c.x1) ∧ w'.cell? ⟨w.heap.size, 1, none⟩ = some (.int .i64 c.h1) ∧ w'.cell? ⟨w.heap.size, 2, none⟩ = some (.int .i64 c.v1) ∧ w'.cell? ⟨w.heap.size, 3, none⟩ = some (.int .i64 c.x2) ∧ w'.cell? ⟨w.heap.size, 4, none⟩ = some (.int .i64 c.h2) ∧ w'.cell? ⟨w.heap.size, 5, none⟩ = some (.int .i64 c.v2)) (simp [go_sem, World.cell?_alloc_past])
    (first
      | (go_at_call 163; (with_reducible refine (LA.out _).mono ?_); rintro e w' ⟨rfl, rfl⟩)
      | (go_at_call 163; (with_reducible refine (LB.out _).mono ?_); rintro e w' ⟨rfl, rfl⟩)
      | (go_at_call 162; (with_reducible refine (TA.out _).mono ?_); rintro e w' ⟨rfl, rfl⟩)
      | (go_at_call 162; (with_reducible refine (TB.out _).mono ?_); rintro e w' ⟨rfl, rfl⟩))
  clear k1 k2
  all_goals
    go_split_ands
    go_wp2
    exact bodyPost_ret (v := .agg #[.int .i64 (a1 + a3), .int .i64 (a2 + a4)]) (by simp [results, Tryz.results139, go_sem]) rfl ⟨by rw [HLO.out, HHI.out], (by repeat (first | exact Below.refl _ _ | refine Below.drew ?_ | refine below_drewN ?_ _ | refine Below.setCell ?_ (by first | omega | (simp; done) | (simp; omega)) _ | refine Below.alloc ?_ (by first | omega | (simp; done) | (simp; omega)) _))⟩
end Go.Proofs.YtkkaomgdlnejcaaGreatDoor
