/- the reference: the least time -/
import Derived.Test.YtkkaomgdlnejcaaGreatDoorC7
import Derived.Test.YtkkaomgdlnejcaaGreatDoorC6
import Derived.StillTailTactics
namespace Go.Proofs.YtkkaomgdlnejcaaGreatDoor
open Go.RowKit RayM
set_option linter.unusedSimpArgs false
set_option linter.unusedVariables false
theorem ceil_q (a b : Int) (w : World) (ha : -2305843009213693952 ≤ a) (ha' : a < 2305843009213693952) (hb : 1 ≤ b) (hb' : b < 4611686018427387904) :
    Calls Tryz.prog 141 #[.int .i64 a, .int .i64 b] w fun e w' => e = .returned (.int .i64 (cdiv a b)) ∧ w' = w :=
  (ceil_any a b w ha ha' hb hb').mono fun _ _ h => ⟨h.1, h.2.symm⟩
set_option maxRecDepth 100000 in
set_option maxHeartbeats 1000000 in
theorem refLeast_end (c : Cr) (o : c.ok) (w : World) (h : ¬ c.k < c.hi) :
    Calls Tryz.prog 124 #[.agg #[.int .i64 c.x1, .int .i64 c.h1, .int .i64 c.v1, .int .i64 c.x2, .int .i64 c.h2, .int .i64 c.v2]] w fun e w' => e = .returned (.agg #[.int .i64 c.lLo, .int .i64 c.lHi]) ∧ Below w.heap.size w w' := by
  have kb := k_bounds c o
  have HK := Lib.hid (fun w => refCrossing_any c o w)
  have p1 : In c c.k := ⟨o, kb.1, kb.2.1⟩
  have HT := Lib.hid (fun w => refTimeAt_any c c.k p1 w)
  have HI := Lib.hid (fun w => refIs_any c (c.k + 1) w)
  obtain ⟨b1, b2, b3, b4, b5⟩ := t_bounds c o c.k (by omega) (by omega)
  have m1 := mul_le c.v1 c.h1 10000 100000 (by have := o.e1; omega) (by have := o.c1; omega) o.e2 o.c2
  have m2 := mul_le c.v2 c.h2 10000 100000 (by have := o.f1; omega) (by have := o.d1; omega) o.f2 o.d2
  have m3 := Int.mul_pos (show 0 < c.v1 by have := o.e1; omega) (show 0 < c.h1 by have := o.c1; omega)
  have m4 := Int.mul_pos (show 0 < c.v2 by have := o.f1; omega) (show 0 < c.h2 by have := o.d1; omega)
  have d1 := cdiv_le_self 10000000 (c.v1 * c.h1) (by omega) (by omega)
  have d2 := cdiv_le_self 10000000 (c.v2 * c.h2) (by omega) (by omega)
  have CA := Lib.hid (fun w => ceil_q 10000000 (c.v1 * c.h1) w (by omega) (by omega) (by omega) (by omega))
  have CB := Lib.hid (fun w => ceil_q 10000000 (c.v2 * c.h2) w (by omega) (by omega) (by omega) (by omega))
  have hbd : c.bd = cdiv 10000000 (c.v1 * c.h1) + cdiv 10000000 (c.v2 * c.h2) := rfl
  have hin : inB (c.k + 1) c.lo c.hi = false := by
    rw [Bool.eq_false_iff]; intro k; have := (inB_iff _ _ _).1 k; omega
  rw [hin] at HI
  have hl : max 0 (c.tLo c.k - cdiv 10000000 (c.v1 * c.h1) - cdiv 10000000 (c.v2 * c.h2)) = c.lLo := by
    unfold Cr.lLo; rw [if_neg h, hbd]; omega
  have hh : c.tHi c.k = c.lHi := by unfold Cr.lHi; rw [if_neg h]
  generalize c.lLo = ll at *
  generalize c.lHi = lh at *
  generalize cdiv 10000000 (c.v1 * c.h1) = q1 at *
  generalize cdiv 10000000 (c.v2 * c.h2) = q2 at *
  generalize c.tLo c.k = t1 at *
  generalize c.tHi c.k = t2 at *
  generalize c.k = k at *
  have HL := Lib.hid hl; have HH := Lib.hid hh
  clear hl hh hbd hin p1 h
  obtain ⟨kb1, kb2, kb3, kb4, kb5, kb6⟩ := kb
  go_enter Tryz.func124, Tryz.ntmps124
  go_wp2_with fail
  refine (HK.out _).mono ?_
  rintro e w1 ⟨rfl, hb1⟩
  have qw10 : w1.cell? ⟨w.heap.size, 0, none⟩ = some (.int .i64 c.x1) := cell_later hb1 (by simp [go_sem])
  have qw11 : w1.cell? ⟨w.heap.size, 1, none⟩ = some (.int .i64 c.h1) := cell_later hb1 (by simp [go_sem])
  have qw12 : w1.cell? ⟨w.heap.size, 2, none⟩ = some (.int .i64 c.v1) := cell_later hb1 (by simp [go_sem])
  have qw13 : w1.cell? ⟨w.heap.size, 3, none⟩ = some (.int .i64 c.x2) := cell_later hb1 (by simp [go_sem])
  have qw14 : w1.cell? ⟨w.heap.size, 4, none⟩ = some (.int .i64 c.h2) := cell_later hb1 (by simp [go_sem])
  have qw15 : w1.cell? ⟨w.heap.size, 5, none⟩ = some (.int .i64 c.v2) := cell_later hb1 (by simp [go_sem])
  have qw16 : w1.cell? ⟨w.heap.size + 1, 0, none⟩ = some (.int .i64 0) := cell_later hb1 (by simp [go_sem])
  have qw17 : w1.cell? ⟨w.heap.size + 1, 1, none⟩ = some (.int .i64 0) := cell_later hb1 (by simp [go_sem])
  have qw1f0 : w1.frozen? ⟨w.heap.size + 1, 0, none⟩ = false := frozen_after hb1 (v := .int .i64 0) (by simp [go_sem]) (by simp [go_sem])
  have qw1f1 : w1.frozen? ⟨w.heap.size + 1, 1, none⟩ = false := frozen_after hb1 (v := .int .i64 0) (by simp [go_sem]) (by simp [go_sem])
  have zqw1_0 := World.block_lt_of_cell? _ _ qw10
  dsimp only at zqw1_0
  have zqw1_6 := World.block_lt_of_cell? _ _ qw16
  dsimp only at zqw1_6
  have H1 := Lib.hid (below_after (by repeat (first | exact Below.refl _ _ | refine Below.drew ?_ | refine below_drewN ?_ _ | refine Below.setCell ?_ (by first | omega | (simp; done) | (simp; omega)) _ | refine Below.alloc ?_ (by first | omega | (simp; done) | (simp; omega)) _)) hb1 (by first | omega | (simp; done) | (simp; omega)) : Below w.heap.size w w1); clear hb1
  go_wp2_with fail
  refine (HT.out _).mono ?_
  rintro e w2 ⟨rfl, hb2⟩
  have qw20 : w2.cell? ⟨w.heap.size, 0, none⟩ = some (.int .i64 c.x1) := cell_later hb2 (by simp [go_sem, World.cell?_alloc_past, World.frozen?_alloc_past, *])
  have qw21 : w2.cell? ⟨w.heap.size, 1, none⟩ = some (.int .i64 c.h1) := cell_later hb2 (by simp [go_sem, World.cell?_alloc_past, World.frozen?_alloc_past, *])
  have qw22 : w2.cell? ⟨w.heap.size, 2, none⟩ = some (.int .i64 c.v1) := cell_later hb2 (by simp [go_sem, World.cell?_alloc_past, World.frozen?_alloc_past, *])
  have qw23 : w2.cell? ⟨w.heap.size, 3, none⟩ = some (.int .i64 c.x2) := cell_later hb2 (by simp [go_sem, World.cell?_alloc_past, World.frozen?_alloc_past, *])
  have qw24 : w2.cell? ⟨w.heap.size, 4, none⟩ = some (.int .i64 c.h2) := cell_later hb2 (by simp [go_sem, World.cell?_alloc_past, World.frozen?_alloc_past, *])
  have qw25 : w2.cell? ⟨w.heap.size, 5, none⟩ = some (.int .i64 c.v2) := cell_later hb2 (by simp [go_sem, World.cell?_alloc_past, World.frozen?_alloc_past, *])
  have qw26 : w2.cell? ⟨w.heap.size + 1, 0, none⟩ = some (.int .i64 0) := cell_later hb2 (by simp [go_sem, World.cell?_alloc_past, World.frozen?_alloc_past, *])
  have qw27 : w2.cell? ⟨w.heap.size + 1, 1, none⟩ = some (.int .i64 0) := cell_later hb2 (by simp [go_sem, World.cell?_alloc_past, World.frozen?_alloc_past, *])
  have qw2f0 : w2.frozen? ⟨w.heap.size + 1, 0, none⟩ = false := frozen_after hb2 (v := .int .i64 0) (by simp [go_sem, World.cell?_alloc_past, World.frozen?_alloc_past, *]) (by simp [go_sem, World.cell?_alloc_past, World.frozen?_alloc_past, *])
  have qw2f1 : w2.frozen? ⟨w.heap.size + 1, 1, none⟩ = false := frozen_after hb2 (v := .int .i64 0) (by simp [go_sem, World.cell?_alloc_past, World.frozen?_alloc_past, *]) (by simp [go_sem, World.cell?_alloc_past, World.frozen?_alloc_past, *])
  have zqw2_0 := World.block_lt_of_cell? _ _ qw20
  dsimp only at zqw2_0
  have zqw2_6 := World.block_lt_of_cell? _ _ qw26
  dsimp only at zqw2_6
  have H2 : Hid (Below w.heap.size w w2) := Lib.hid (below_then (by (repeat (first | (with_reducible exact H1.out) | (with_reducible refine Below.setCell ?_ ?_ _) | (with_reducible refine below_alloc_top ?_ _) | (with_reducible refine Below.drew ?_))); all_goals (first | omega | (simp; done) | (simp; omega))) hb2); clear hb2
  go_wp2_with fail
  refine (HI.out _).mono ?_
  rintro e w3 ⟨rfl, hb3⟩
  have qw30 : w3.cell? ⟨w.heap.size, 0, none⟩ = some (.int .i64 c.x1) := cell_later hb3 (by simp [go_sem, World.cell?_alloc_past, World.frozen?_alloc_past, *])
  have qw31 : w3.cell? ⟨w.heap.size, 1, none⟩ = some (.int .i64 c.h1) := cell_later hb3 (by simp [go_sem, World.cell?_alloc_past, World.frozen?_alloc_past, *])
  have qw32 : w3.cell? ⟨w.heap.size, 2, none⟩ = some (.int .i64 c.v1) := cell_later hb3 (by simp [go_sem, World.cell?_alloc_past, World.frozen?_alloc_past, *])
  have qw33 : w3.cell? ⟨w.heap.size, 3, none⟩ = some (.int .i64 c.x2) := cell_later hb3 (by simp [go_sem, World.cell?_alloc_past, World.frozen?_alloc_past, *])
  have qw34 : w3.cell? ⟨w.heap.size, 4, none⟩ = some (.int .i64 c.h2) := cell_later hb3 (by simp [go_sem, World.cell?_alloc_past, World.frozen?_alloc_past, *])
  have qw35 : w3.cell? ⟨w.heap.size, 5, none⟩ = some (.int .i64 c.v2) := cell_later hb3 (by simp [go_sem, World.cell?_alloc_past, World.frozen?_alloc_past, *])
  have qw36 : w3.cell? ⟨w.heap.size + 1, 0, none⟩ = some (.int .i64 0) := cell_later hb3 (by simp [go_sem, World.cell?_alloc_past, World.frozen?_alloc_past, *])
  have qw37 : w3.cell? ⟨w.heap.size + 1, 1, none⟩ = some (.int .i64 0) := cell_later hb3 (by simp [go_sem, World.cell?_alloc_past, World.frozen?_alloc_past, *])
  have qw38 : w3.cell? ⟨w2.heap.size, 0, none⟩ = some (.int .i64 t1) := cell_later hb3 (by simp [go_sem, World.cell?_alloc_past, World.frozen?_alloc_past, *])
  have qw39 : w3.cell? ⟨w2.heap.size, 1, none⟩ = some (.int .i64 t2) := cell_later hb3 (by simp [go_sem, World.cell?_alloc_past, World.frozen?_alloc_past, *])
  have qw3f0 : w3.frozen? ⟨w.heap.size + 1, 0, none⟩ = false := frozen_after hb3 (v := .int .i64 0) (by simp [go_sem, World.cell?_alloc_past, World.frozen?_alloc_past, *]) (by simp [go_sem, World.cell?_alloc_past, World.frozen?_alloc_past, *])
  have qw3f1 : w3.frozen? ⟨w.heap.size + 1, 1, none⟩ = false := frozen_after hb3 (v := .int .i64 0) (by simp [go_sem, World.cell?_alloc_past, World.frozen?_alloc_past, *]) (by simp [go_sem, World.cell?_alloc_past, World.frozen?_alloc_past, *])
  have qw3f2 : w3.frozen? ⟨w2.heap.size, 0, none⟩ = false := frozen_after hb3 (v := .int .i64 t1) (by simp [go_sem, World.cell?_alloc_past, World.frozen?_alloc_past, *]) (by simp [go_sem, World.cell?_alloc_past, World.frozen?_alloc_past, *])
  have qw3f3 : w3.frozen? ⟨w2.heap.size, 1, none⟩ = false := frozen_after hb3 (v := .int .i64 t2) (by simp [go_sem, World.cell?_alloc_past, World.frozen?_alloc_past, *]) (by simp [go_sem, World.cell?_alloc_past, World.frozen?_alloc_past, *])
  have zqw3_0 := World.block_lt_of_cell? _ _ qw30
  dsimp only at zqw3_0
  have zqw3_6 := World.block_lt_of_cell? _ _ qw36
  dsimp only at zqw3_6
  have zqw3_8 := World.block_lt_of_cell? _ _ qw38
  dsimp only at zqw3_8
  have H3 : Hid (Below w.heap.size w w3) := Lib.hid (below_then (by (repeat (first | (with_reducible exact H2.out) | (with_reducible refine Below.setCell ?_ ?_ _) | (with_reducible refine below_alloc_top ?_ _) | (with_reducible refine Below.drew ?_))); all_goals (first | omega | (simp; done) | (simp; omega))) hb3); clear hb3
  go_wp2
  have E1 : IntKind.i64.wrap (c.v1 * c.h1) = c.v1 * c.h1 := IntWalk.i64_in _ (by omega)
  have E2 : IntKind.i64.wrap (c.v2 * c.h2) = c.v2 * c.h2 := IntWalk.i64_in _ (by omega)
  have E3 : IntKind.i64.wrap (t1 - q1) = t1 - q1 := IntWalk.i64_in _ (by omega)
  have E4 : IntKind.i64.wrap (t1 - q1 - q2) = t1 - q1 - q2 := IntWalk.i64_in _ (by omega)
  refine wp_region_still_tail 18 (by kernel_rfl) (by kernel_rfl) ?_
  simp only [List.take_succ_cons, List.take_zero, List.drop_succ_cons, List.drop_zero]
  repeat still_step
  try simp only [E1, E2, E3, E4]
  still_call (CA.out _)
  repeat still_step
  try simp only [E1, E2, E3, E4]
  still_call (CB.out _)
  repeat still_step
  try simp only [E1, E2, E3, E4]
  refine wpStill_nil ?_
  go_wp2
  exact bodyPost_ret (v := .agg #[.int .i64 (max 0 (t1 - q1 - q2)), .int .i64 t2]) (by simp [results, Tryz.results124, go_sem, World.cell?_alloc_past, *]) rfl ⟨by rw [HL.out, HH.out], (by (repeat (first | (with_reducible exact H3.out) | (with_reducible refine Below.setCell ?_ ?_ _) | (with_reducible refine below_alloc_top ?_ _) | (with_reducible refine Below.drew ?_))); all_goals (first | omega | (simp; done) | (simp; omega)))⟩
set_option maxRecDepth 100000 in
set_option maxHeartbeats 1000000 in
theorem refLeast_in (c : Cr) (o : c.ok) (w : World) (h : c.k < c.hi) :
    Calls Tryz.prog 124 #[.agg #[.int .i64 c.x1, .int .i64 c.h1, .int .i64 c.v1, .int .i64 c.x2, .int .i64 c.h2, .int .i64 c.v2]] w fun e w' => e = .returned (.agg #[.int .i64 c.lLo, .int .i64 c.lHi]) ∧ Below w.heap.size w w' := by
  have kb := k_bounds c o
  have HK := Lib.hid (fun w => refCrossing_any c o w)
  have p1 : In c c.k := ⟨o, kb.1, kb.2.1⟩
  have HT := Lib.hid (fun w => refTimeAt_any c c.k p1 w)
  have HI := Lib.hid (fun w => refIs_any c (c.k + 1) w)
  obtain ⟨b1, b2, b3, b4, b5⟩ := t_bounds c o c.k (by omega) (by omega)
  have m1 := mul_le c.v1 c.h1 10000 100000 (by have := o.e1; omega) (by have := o.c1; omega) o.e2 o.c2
  have m2 := mul_le c.v2 c.h2 10000 100000 (by have := o.f1; omega) (by have := o.d1; omega) o.f2 o.d2
  have m3 := Int.mul_pos (show 0 < c.v1 by have := o.e1; omega) (show 0 < c.h1 by have := o.c1; omega)
  have m4 := Int.mul_pos (show 0 < c.v2 by have := o.f1; omega) (show 0 < c.h2 by have := o.d1; omega)
  have d1 := cdiv_le_self 10000000 (c.v1 * c.h1) (by omega) (by omega)
  have d2 := cdiv_le_self 10000000 (c.v2 * c.h2) (by omega) (by omega)
  have CA := Lib.hid (fun w => ceil_q 10000000 (c.v1 * c.h1) w (by omega) (by omega) (by omega) (by omega))
  have CB := Lib.hid (fun w => ceil_q 10000000 (c.v2 * c.h2) w (by omega) (by omega) (by omega) (by omega))
  have hbd : c.bd = cdiv 10000000 (c.v1 * c.h1) + cdiv 10000000 (c.v2 * c.h2) := rfl
  have hin : inB (c.k + 1) c.lo c.hi = true := (inB_iff _ _ _).2 ⟨by omega, by omega⟩
  rw [hin] at HI
  have p2 : In c (c.k + 1) := ⟨o, by omega, by omega⟩
  have HU := Lib.hid (fun w => refTimeAt_any c (c.k + 1) p2 w)
  obtain ⟨g1, g2, g3, g4, g5⟩ := t_bounds c o (c.k + 1) (by omega) (by omega)
  have hl : max 0 (min (c.tLo c.k) (c.tLo (c.k + 1)) - cdiv 10000000 (c.v1 * c.h1) - cdiv 10000000 (c.v2 * c.h2)) = c.lLo := by
    unfold Cr.lLo; rw [if_pos h, hbd]; omega
  have hh : min (c.tHi c.k) (c.tHi (c.k + 1)) = c.lHi := by unfold Cr.lHi; rw [if_pos h]
  generalize c.lLo = ll at *
  generalize c.lHi = lh at *
  generalize c.tLo (c.k + 1) = u1 at *
  generalize c.tHi (c.k + 1) = u2 at *
  generalize cdiv 10000000 (c.v1 * c.h1) = q1 at *
  generalize cdiv 10000000 (c.v2 * c.h2) = q2 at *
  generalize c.tLo c.k = t1 at *
  generalize c.tHi c.k = t2 at *
  generalize c.k = k at *
  have HL := Lib.hid hl; have HH := Lib.hid hh
  clear hl hh hbd hin p1 p2 h
  obtain ⟨kb1, kb2, kb3, kb4, kb5, kb6⟩ := kb
  go_enter Tryz.func124, Tryz.ntmps124
  go_wp2_with fail
  refine (HK.out _).mono ?_
  rintro e w1 ⟨rfl, hb1⟩
  have qw10 : w1.cell? ⟨w.heap.size, 0, none⟩ = some (.int .i64 c.x1) := cell_later hb1 (by simp [go_sem])
  have qw11 : w1.cell? ⟨w.heap.size, 1, none⟩ = some (.int .i64 c.h1) := cell_later hb1 (by simp [go_sem])
  have qw12 : w1.cell? ⟨w.heap.size, 2, none⟩ = some (.int .i64 c.v1) := cell_later hb1 (by simp [go_sem])
  have qw13 : w1.cell? ⟨w.heap.size, 3, none⟩ = some (.int .i64 c.x2) := cell_later hb1 (by simp [go_sem])
  have qw14 : w1.cell? ⟨w.heap.size, 4, none⟩ = some (.int .i64 c.h2) := cell_later hb1 (by simp [go_sem])
  have qw15 : w1.cell? ⟨w.heap.size, 5, none⟩ = some (.int .i64 c.v2) := cell_later hb1 (by simp [go_sem])
  have qw16 : w1.cell? ⟨w.heap.size + 1, 0, none⟩ = some (.int .i64 0) := cell_later hb1 (by simp [go_sem])
  have qw17 : w1.cell? ⟨w.heap.size + 1, 1, none⟩ = some (.int .i64 0) := cell_later hb1 (by simp [go_sem])
  have qw1f0 : w1.frozen? ⟨w.heap.size + 1, 0, none⟩ = false := frozen_after hb1 (v := .int .i64 0) (by simp [go_sem]) (by simp [go_sem])
  have qw1f1 : w1.frozen? ⟨w.heap.size + 1, 1, none⟩ = false := frozen_after hb1 (v := .int .i64 0) (by simp [go_sem]) (by simp [go_sem])
  have zqw1_0 := World.block_lt_of_cell? _ _ qw10
  dsimp only at zqw1_0
  have zqw1_6 := World.block_lt_of_cell? _ _ qw16
  dsimp only at zqw1_6
  have H1 := Lib.hid (below_after (by repeat (first | exact Below.refl _ _ | refine Below.drew ?_ | refine below_drewN ?_ _ | refine Below.setCell ?_ (by first | omega | (simp; done) | (simp; omega)) _ | refine Below.alloc ?_ (by first | omega | (simp; done) | (simp; omega)) _)) hb1 (by first | omega | (simp; done) | (simp; omega)) : Below w.heap.size w w1); clear hb1
  go_wp2_with fail
  refine (HT.out _).mono ?_
  rintro e w2 ⟨rfl, hb2⟩
  have qw20 : w2.cell? ⟨w.heap.size, 0, none⟩ = some (.int .i64 c.x1) := cell_later hb2 (by simp [go_sem, World.cell?_alloc_past, World.frozen?_alloc_past, *])
  have qw21 : w2.cell? ⟨w.heap.size, 1, none⟩ = some (.int .i64 c.h1) := cell_later hb2 (by simp [go_sem, World.cell?_alloc_past, World.frozen?_alloc_past, *])
  have qw22 : w2.cell? ⟨w.heap.size, 2, none⟩ = some (.int .i64 c.v1) := cell_later hb2 (by simp [go_sem, World.cell?_alloc_past, World.frozen?_alloc_past, *])
  have qw23 : w2.cell? ⟨w.heap.size, 3, none⟩ = some (.int .i64 c.x2) := cell_later hb2 (by simp [go_sem, World.cell?_alloc_past, World.frozen?_alloc_past, *])
  have qw24 : w2.cell? ⟨w.heap.size, 4, none⟩ = some (.int .i64 c.h2) := cell_later hb2 (by simp [go_sem, World.cell?_alloc_past, World.frozen?_alloc_past, *])
  have qw25 : w2.cell? ⟨w.heap.size, 5, none⟩ = some (.int .i64 c.v2) := cell_later hb2 (by simp [go_sem, World.cell?_alloc_past, World.frozen?_alloc_past, *])
  have qw26 : w2.cell? ⟨w.heap.size + 1, 0, none⟩ = some (.int .i64 0) := cell_later hb2 (by simp [go_sem, World.cell?_alloc_past, World.frozen?_alloc_past, *])
  have qw27 : w2.cell? ⟨w.heap.size + 1, 1, none⟩ = some (.int .i64 0) := cell_later hb2 (by simp [go_sem, World.cell?_alloc_past, World.frozen?_alloc_past, *])
  have qw2f0 : w2.frozen? ⟨w.heap.size + 1, 0, none⟩ = false := frozen_after hb2 (v := .int .i64 0) (by simp [go_sem, World.cell?_alloc_past, World.frozen?_alloc_past, *]) (by simp [go_sem, World.cell?_alloc_past, World.frozen?_alloc_past, *])
  have qw2f1 : w2.frozen? ⟨w.heap.size + 1, 1, none⟩ = false := frozen_after hb2 (v := .int .i64 0) (by simp [go_sem, World.cell?_alloc_past, World.frozen?_alloc_past, *]) (by simp [go_sem, World.cell?_alloc_past, World.frozen?_alloc_past, *])
  have zqw2_0 := World.block_lt_of_cell? _ _ qw20
  dsimp only at zqw2_0
  have zqw2_6 := World.block_lt_of_cell? _ _ qw26
  dsimp only at zqw2_6
  have H2 : Hid (Below w.heap.size w w2) := Lib.hid (below_then (by (repeat (first | (with_reducible exact H1.out) | (with_reducible refine Below.setCell ?_ ?_ _) | (with_reducible refine below_alloc_top ?_ _) | (with_reducible refine Below.drew ?_))); all_goals (first | omega | (simp; done) | (simp; omega))) hb2); clear hb2
  go_wp2_with fail
  refine (HI.out _).mono ?_
  rintro e w3 ⟨rfl, hb3⟩
  have qw30 : w3.cell? ⟨w.heap.size, 0, none⟩ = some (.int .i64 c.x1) := cell_later hb3 (by simp [go_sem, World.cell?_alloc_past, World.frozen?_alloc_past, *])
  have qw31 : w3.cell? ⟨w.heap.size, 1, none⟩ = some (.int .i64 c.h1) := cell_later hb3 (by simp [go_sem, World.cell?_alloc_past, World.frozen?_alloc_past, *])
  have qw32 : w3.cell? ⟨w.heap.size, 2, none⟩ = some (.int .i64 c.v1) := cell_later hb3 (by simp [go_sem, World.cell?_alloc_past, World.frozen?_alloc_past, *])
  have qw33 : w3.cell? ⟨w.heap.size, 3, none⟩ = some (.int .i64 c.x2) := cell_later hb3 (by simp [go_sem, World.cell?_alloc_past, World.frozen?_alloc_past, *])
  have qw34 : w3.cell? ⟨w.heap.size, 4, none⟩ = some (.int .i64 c.h2) := cell_later hb3 (by simp [go_sem, World.cell?_alloc_past, World.frozen?_alloc_past, *])
  have qw35 : w3.cell? ⟨w.heap.size, 5, none⟩ = some (.int .i64 c.v2) := cell_later hb3 (by simp [go_sem, World.cell?_alloc_past, World.frozen?_alloc_past, *])
  have qw36 : w3.cell? ⟨w.heap.size + 1, 0, none⟩ = some (.int .i64 0) := cell_later hb3 (by simp [go_sem, World.cell?_alloc_past, World.frozen?_alloc_past, *])
  have qw37 : w3.cell? ⟨w.heap.size + 1, 1, none⟩ = some (.int .i64 0) := cell_later hb3 (by simp [go_sem, World.cell?_alloc_past, World.frozen?_alloc_past, *])
  have qw38 : w3.cell? ⟨w2.heap.size, 0, none⟩ = some (.int .i64 t1) := cell_later hb3 (by simp [go_sem, World.cell?_alloc_past, World.frozen?_alloc_past, *])
  have qw39 : w3.cell? ⟨w2.heap.size, 1, none⟩ = some (.int .i64 t2) := cell_later hb3 (by simp [go_sem, World.cell?_alloc_past, World.frozen?_alloc_past, *])
  have qw3f0 : w3.frozen? ⟨w.heap.size + 1, 0, none⟩ = false := frozen_after hb3 (v := .int .i64 0) (by simp [go_sem, World.cell?_alloc_past, World.frozen?_alloc_past, *]) (by simp [go_sem, World.cell?_alloc_past, World.frozen?_alloc_past, *])
  have qw3f1 : w3.frozen? ⟨w.heap.size + 1, 1, none⟩ = false := frozen_after hb3 (v := .int .i64 0) (by simp [go_sem, World.cell?_alloc_past, World.frozen?_alloc_past, *]) (by simp [go_sem, World.cell?_alloc_past, World.frozen?_alloc_past, *])
  have qw3f2 : w3.frozen? ⟨w2.heap.size, 0, none⟩ = false := frozen_after hb3 (v := .int .i64 t1) (by simp [go_sem, World.cell?_alloc_past, World.frozen?_alloc_past, *]) (by simp [go_sem, World.cell?_alloc_past, World.frozen?_alloc_past, *])
  have qw3f3 : w3.frozen? ⟨w2.heap.size, 1, none⟩ = false := frozen_after hb3 (v := .int .i64 t2) (by simp [go_sem, World.cell?_alloc_past, World.frozen?_alloc_past, *]) (by simp [go_sem, World.cell?_alloc_past, World.frozen?_alloc_past, *])
  have zqw3_0 := World.block_lt_of_cell? _ _ qw30
  dsimp only at zqw3_0
  have zqw3_6 := World.block_lt_of_cell? _ _ qw36
  dsimp only at zqw3_6
  have zqw3_8 := World.block_lt_of_cell? _ _ qw38
  dsimp only at zqw3_8
  have H3 : Hid (Below w.heap.size w w3) := Lib.hid (below_then (by (repeat (first | (with_reducible exact H2.out) | (with_reducible refine Below.setCell ?_ ?_ _) | (with_reducible refine below_alloc_top ?_ _) | (with_reducible refine Below.drew ?_))); all_goals (first | omega | (simp; done) | (simp; omega))) hb3); clear hb3
  go_wp2_with fail
  refine (HU.out _).mono ?_
  rintro e w4 ⟨rfl, hb4⟩
  have qw40 : w4.cell? ⟨w.heap.size, 0, none⟩ = some (.int .i64 c.x1) := cell_later hb4 (by simp [go_sem, World.cell?_alloc_past, World.frozen?_alloc_past, *])
  have qw41 : w4.cell? ⟨w.heap.size, 1, none⟩ = some (.int .i64 c.h1) := cell_later hb4 (by simp [go_sem, World.cell?_alloc_past, World.frozen?_alloc_past, *])
  have qw42 : w4.cell? ⟨w.heap.size, 2, none⟩ = some (.int .i64 c.v1) := cell_later hb4 (by simp [go_sem, World.cell?_alloc_past, World.frozen?_alloc_past, *])
  have qw43 : w4.cell? ⟨w.heap.size, 3, none⟩ = some (.int .i64 c.x2) := cell_later hb4 (by simp [go_sem, World.cell?_alloc_past, World.frozen?_alloc_past, *])
  have qw44 : w4.cell? ⟨w.heap.size, 4, none⟩ = some (.int .i64 c.h2) := cell_later hb4 (by simp [go_sem, World.cell?_alloc_past, World.frozen?_alloc_past, *])
  have qw45 : w4.cell? ⟨w.heap.size, 5, none⟩ = some (.int .i64 c.v2) := cell_later hb4 (by simp [go_sem, World.cell?_alloc_past, World.frozen?_alloc_past, *])
  have qw46 : w4.cell? ⟨w.heap.size + 1, 0, none⟩ = some (.int .i64 0) := cell_later hb4 (by simp [go_sem, World.cell?_alloc_past, World.frozen?_alloc_past, *])
  have qw47 : w4.cell? ⟨w.heap.size + 1, 1, none⟩ = some (.int .i64 0) := cell_later hb4 (by simp [go_sem, World.cell?_alloc_past, World.frozen?_alloc_past, *])
  have qw48 : w4.cell? ⟨w2.heap.size, 0, none⟩ = some (.int .i64 t1) := cell_later hb4 (by simp [go_sem, World.cell?_alloc_past, World.frozen?_alloc_past, *])
  have qw49 : w4.cell? ⟨w2.heap.size, 1, none⟩ = some (.int .i64 t2) := cell_later hb4 (by simp [go_sem, World.cell?_alloc_past, World.frozen?_alloc_past, *])
  have qw4f0 : w4.frozen? ⟨w.heap.size + 1, 0, none⟩ = false := frozen_after hb4 (v := .int .i64 0) (by simp [go_sem, World.cell?_alloc_past, World.frozen?_alloc_past, *]) (by simp [go_sem, World.cell?_alloc_past, World.frozen?_alloc_past, *])
  have qw4f1 : w4.frozen? ⟨w.heap.size + 1, 1, none⟩ = false := frozen_after hb4 (v := .int .i64 0) (by simp [go_sem, World.cell?_alloc_past, World.frozen?_alloc_past, *]) (by simp [go_sem, World.cell?_alloc_past, World.frozen?_alloc_past, *])
  have qw4f2 : w4.frozen? ⟨w2.heap.size, 0, none⟩ = false := frozen_after hb4 (v := .int .i64 t1) (by simp [go_sem, World.cell?_alloc_past, World.frozen?_alloc_past, *]) (by simp [go_sem, World.cell?_alloc_past, World.frozen?_alloc_past, *])
  have qw4f3 : w4.frozen? ⟨w2.heap.size, 1, none⟩ = false := frozen_after hb4 (v := .int .i64 t2) (by simp [go_sem, World.cell?_alloc_past, World.frozen?_alloc_past, *]) (by simp [go_sem, World.cell?_alloc_past, World.frozen?_alloc_past, *])
  have zqw4_0 := World.block_lt_of_cell? _ _ qw40
  dsimp only at zqw4_0
  have zqw4_6 := World.block_lt_of_cell? _ _ qw46
  dsimp only at zqw4_6
  have zqw4_8 := World.block_lt_of_cell? _ _ qw48
  dsimp only at zqw4_8
  have H4 : Hid (Below w.heap.size w w4) := Lib.hid (below_then (by (repeat (first | (with_reducible exact H3.out) | (with_reducible refine Below.setCell ?_ ?_ _) | (with_reducible refine below_alloc_top ?_ _) | (with_reducible refine Below.drew ?_))); all_goals (first | omega | (simp; done) | (simp; omega))) hb4); clear hb4
  have ne1 : ¬ (w.heap.size = w2.heap.size) := by omega
  have ne2 : ¬ (w.heap.size + 1 = w2.heap.size) := by omega
  have ne3 : ¬ (w2.heap.size = w.heap.size) := by omega
  have ne4 : ¬ (w2.heap.size = w.heap.size + 1) := by omega
  go_wp2
  obtain ⟨W5, hW⟩ : ∃ W, W = ((w4.setCell ⟨w2.heap.size, 0, none⟩ (.int .i64 (min t1 u1))).setCell ⟨w2.heap.size, 1, none⟩ (.int .i64 (min t2 u2))).alloc (.cells #[.int .i64 u1, .int .i64 u2] 74) := ⟨_, rfl⟩
  have s0 : (((w4.setCell ⟨w2.heap.size, 0, none⟩ (.int .i64 (min t1 u1))).setCell ⟨w2.heap.size, 1, none⟩ (.int .i64 (min t2 u2))).alloc (.cells #[.int .i64 u1, .int .i64 u2] 74)).cell? ⟨w.heap.size, 0, none⟩ = some (.int .i64 c.x1) := by simp [go_sem, World.cell?_alloc_past, World.frozen?_alloc_past, *]
  have s1 : (((w4.setCell ⟨w2.heap.size, 0, none⟩ (.int .i64 (min t1 u1))).setCell ⟨w2.heap.size, 1, none⟩ (.int .i64 (min t2 u2))).alloc (.cells #[.int .i64 u1, .int .i64 u2] 74)).cell? ⟨w.heap.size, 1, none⟩ = some (.int .i64 c.h1) := by simp [go_sem, World.cell?_alloc_past, World.frozen?_alloc_past, *]
  have s2 : (((w4.setCell ⟨w2.heap.size, 0, none⟩ (.int .i64 (min t1 u1))).setCell ⟨w2.heap.size, 1, none⟩ (.int .i64 (min t2 u2))).alloc (.cells #[.int .i64 u1, .int .i64 u2] 74)).cell? ⟨w.heap.size, 2, none⟩ = some (.int .i64 c.v1) := by simp [go_sem, World.cell?_alloc_past, World.frozen?_alloc_past, *]
  have s3 : (((w4.setCell ⟨w2.heap.size, 0, none⟩ (.int .i64 (min t1 u1))).setCell ⟨w2.heap.size, 1, none⟩ (.int .i64 (min t2 u2))).alloc (.cells #[.int .i64 u1, .int .i64 u2] 74)).cell? ⟨w.heap.size, 3, none⟩ = some (.int .i64 c.x2) := by simp [go_sem, World.cell?_alloc_past, World.frozen?_alloc_past, *]
  have s4 : (((w4.setCell ⟨w2.heap.size, 0, none⟩ (.int .i64 (min t1 u1))).setCell ⟨w2.heap.size, 1, none⟩ (.int .i64 (min t2 u2))).alloc (.cells #[.int .i64 u1, .int .i64 u2] 74)).cell? ⟨w.heap.size, 4, none⟩ = some (.int .i64 c.h2) := by simp [go_sem, World.cell?_alloc_past, World.frozen?_alloc_past, *]
  have s5 : (((w4.setCell ⟨w2.heap.size, 0, none⟩ (.int .i64 (min t1 u1))).setCell ⟨w2.heap.size, 1, none⟩ (.int .i64 (min t2 u2))).alloc (.cells #[.int .i64 u1, .int .i64 u2] 74)).cell? ⟨w.heap.size, 5, none⟩ = some (.int .i64 c.v2) := by simp [go_sem, World.cell?_alloc_past, World.frozen?_alloc_past, *]
  have s6 : (((w4.setCell ⟨w2.heap.size, 0, none⟩ (.int .i64 (min t1 u1))).setCell ⟨w2.heap.size, 1, none⟩ (.int .i64 (min t2 u2))).alloc (.cells #[.int .i64 u1, .int .i64 u2] 74)).cell? ⟨w.heap.size + 1, 0, none⟩ = some (.int .i64 0) := by simp [go_sem, World.cell?_alloc_past, World.frozen?_alloc_past, *]
  have s7 : (((w4.setCell ⟨w2.heap.size, 0, none⟩ (.int .i64 (min t1 u1))).setCell ⟨w2.heap.size, 1, none⟩ (.int .i64 (min t2 u2))).alloc (.cells #[.int .i64 u1, .int .i64 u2] 74)).cell? ⟨w.heap.size + 1, 1, none⟩ = some (.int .i64 0) := by simp [go_sem, World.cell?_alloc_past, World.frozen?_alloc_past, *]
  have s8 : (((w4.setCell ⟨w2.heap.size, 0, none⟩ (.int .i64 (min t1 u1))).setCell ⟨w2.heap.size, 1, none⟩ (.int .i64 (min t2 u2))).alloc (.cells #[.int .i64 u1, .int .i64 u2] 74)).cell? ⟨w2.heap.size, 0, none⟩ = some (.int .i64 (min t1 u1)) := by simp [go_sem, World.cell?_alloc_past, World.frozen?_alloc_past, *]
  have s9 : (((w4.setCell ⟨w2.heap.size, 0, none⟩ (.int .i64 (min t1 u1))).setCell ⟨w2.heap.size, 1, none⟩ (.int .i64 (min t2 u2))).alloc (.cells #[.int .i64 u1, .int .i64 u2] 74)).cell? ⟨w2.heap.size, 1, none⟩ = some (.int .i64 (min t2 u2)) := by simp [go_sem, World.cell?_alloc_past, World.frozen?_alloc_past, *]
  have sf0 : (((w4.setCell ⟨w2.heap.size, 0, none⟩ (.int .i64 (min t1 u1))).setCell ⟨w2.heap.size, 1, none⟩ (.int .i64 (min t2 u2))).alloc (.cells #[.int .i64 u1, .int .i64 u2] 74)).frozen? ⟨w.heap.size + 1, 0, none⟩ = false := by simp [go_sem, World.cell?_alloc_past, World.frozen?_alloc_past, *]
  have sf1 : (((w4.setCell ⟨w2.heap.size, 0, none⟩ (.int .i64 (min t1 u1))).setCell ⟨w2.heap.size, 1, none⟩ (.int .i64 (min t2 u2))).alloc (.cells #[.int .i64 u1, .int .i64 u2] 74)).frozen? ⟨w.heap.size + 1, 1, none⟩ = false := by simp [go_sem, World.cell?_alloc_past, World.frozen?_alloc_past, *]
  have sf2 : (((w4.setCell ⟨w2.heap.size, 0, none⟩ (.int .i64 (min t1 u1))).setCell ⟨w2.heap.size, 1, none⟩ (.int .i64 (min t2 u2))).alloc (.cells #[.int .i64 u1, .int .i64 u2] 74)).frozen? ⟨w2.heap.size, 0, none⟩ = false := by simp [go_sem, World.cell?_alloc_past, World.frozen?_alloc_past, *]
  have sf3 : (((w4.setCell ⟨w2.heap.size, 0, none⟩ (.int .i64 (min t1 u1))).setCell ⟨w2.heap.size, 1, none⟩ (.int .i64 (min t2 u2))).alloc (.cells #[.int .i64 u1, .int .i64 u2] 74)).frozen? ⟨w2.heap.size, 1, none⟩ = false := by simp [go_sem, World.cell?_alloc_past, World.frozen?_alloc_past, *]
  have H5 : Hid (Below w.heap.size w (((w4.setCell ⟨w2.heap.size, 0, none⟩ (.int .i64 (min t1 u1))).setCell ⟨w2.heap.size, 1, none⟩ (.int .i64 (min t2 u2))).alloc (.cells #[.int .i64 u1, .int .i64 u2] 74))) := Lib.hid (by (repeat (first | (with_reducible exact H4.out) | (with_reducible refine Below.setCell ?_ ?_ _) | (with_reducible refine below_alloc_top ?_ _) | (with_reducible refine Below.drew ?_))); all_goals (first | omega | (simp; done) | (simp; omega)))
  rw [← hW] at *
  clear hW
  have zy1 := World.block_lt_of_cell? _ _ s0
  have zy2 := World.block_lt_of_cell? _ _ s6
  have zy3 := World.block_lt_of_cell? _ _ s8
  dsimp only at zy1 zy2 zy3
  have E1 : IntKind.i64.wrap (c.v1 * c.h1) = c.v1 * c.h1 := IntWalk.i64_in _ (by omega)
  have E2 : IntKind.i64.wrap (c.v2 * c.h2) = c.v2 * c.h2 := IntWalk.i64_in _ (by omega)
  have E3 : IntKind.i64.wrap (min t1 u1 - q1) = min t1 u1 - q1 := IntWalk.i64_in _ (by omega)
  have E4 : IntKind.i64.wrap (min t1 u1 - q1 - q2) = min t1 u1 - q1 - q2 := IntWalk.i64_in _ (by omega)
  refine wp_region_still_tail 18 (by kernel_rfl) (by kernel_rfl) ?_
  simp only [List.take_succ_cons, List.take_zero, List.drop_succ_cons, List.drop_zero]
  repeat still_step
  try simp only [E1, E2, E3, E4]
  still_call (CA.out _)
  repeat still_step
  try simp only [E1, E2, E3, E4]
  still_call (CB.out _)
  repeat still_step
  try simp only [E1, E2, E3, E4]
  refine wpStill_nil ?_
  go_wp2
  exact bodyPost_ret (v := .agg #[.int .i64 (max 0 (min t1 u1 - q1 - q2)), .int .i64 (min t2 u2)]) (by simp [results, Tryz.results124, go_sem, World.cell?_alloc_past, *]) rfl ⟨by rw [HL.out, HH.out], (by (repeat (first | (with_reducible exact H5.out) | (with_reducible refine Below.setCell ?_ ?_ _) | (with_reducible refine below_alloc_top ?_ _) | (with_reducible refine Below.drew ?_))); all_goals (first | omega | (simp; done) | (simp; omega)))⟩
theorem refLeast_any (c : Cr) (o : c.ok) (w : World) :
    Calls Tryz.prog 124 #[.agg #[.int .i64 c.x1, .int .i64 c.h1, .int .i64 c.v1, .int .i64 c.x2, .int .i64 c.h2, .int .i64 c.v2]] w fun e w' => e = .returned (.agg #[.int .i64 c.lLo, .int .i64 c.lHi]) ∧ Below w.heap.size w w' := by
  by_cases h : c.k < c.hi
  · exact refLeast_in c o w h
  · exact refLeast_end c o w h
end Go.Proofs.YtkkaomgdlnejcaaGreatDoor
