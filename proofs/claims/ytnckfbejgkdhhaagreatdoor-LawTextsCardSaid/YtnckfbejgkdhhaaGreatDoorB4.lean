/- the least time of a way -/
import Derived.Test.YtnckfbejgkdhhaaGreatDoorB3
import Derived.Test.YtnckfbejgkdhhaaGreatDoorB2
namespace Go.Proofs.YtnckfbejgkdhhaaGreatDoor
open Go.RowKit RayM
set_option linter.unusedSimpArgs false
set_option linter.unusedVariables false
theorem leastTime_any (c : Cr) (o : c.ok) (w : World) :
    Calls Tryz.prog 90 #[.agg #[.int .i64 c.x1, .int .i64 c.h1, .int .i64 c.x2, .int .i64 c.h2, .int .i64 c.v1, .int .i64 c.v2]] w fun e w' => e = .returned (.agg #[.int .i64 c.lLo, .int .i64 c.lHi]) ∧ Below w.heap.size w w' := by
  by_cases hk : c.k < c.hi
  · exact leastTime_in c o w hk
  · exact leastTime_end c o w hk
set_option maxRecDepth 100000 in
set_option maxHeartbeats 1000000 in
theorem leastOf_ok (x : Wy) (o : x.ok) (w : World) :
    Calls Tryz.prog 69 #[.agg #[.int .i64 x.m.wd, .int .i64 x.m.mt, .int .i64 x.m.sk, .int .i64 x.m.th], .agg #[.int .i64 x.fx, .int .i64 x.fz], .agg #[.int .i64 x.tx, .int .i64 x.tz]] w fun e w' => e = .returned (.tuple #[.agg #[.int .i64 x.cr.lLo, .int .i64 x.cr.lHi], .int .i64 0]) ∧ Below w.heap.size w w' := by
  have HC := Lib.hid (fun w => crossingOf_any x.cr w)
  have HL := Lib.hid (fun w => leastTime_any x.cr (cr_ok x o) w)
  generalize x.cr.lLo = lo at *
  generalize x.cr.lHi = hi at *
  go_enter Tryz.func69, Tryz.ntmps69
  go_wp2_with fail
  refine (crossOf_ok x o _).mono ?_
  rintro e w1 ⟨rfl, hb1⟩
  have qw10 : w1.cell? ⟨w.heap.size + 1 + 1 + 1, 0, none⟩ = some (.int .i64 0) := cell_later hb1 (by simp [go_sem])
  have qw11 : w1.cell? ⟨w.heap.size + 1 + 1 + 1, 1, none⟩ = some (.int .i64 0) := cell_later hb1 (by simp [go_sem])
  have qw1f0 : w1.frozen? ⟨w.heap.size + 1 + 1 + 1, 0, none⟩ = false := frozen_after hb1 (v := .int .i64 0) (by simp [go_sem]) (by simp [go_sem])
  have qw1f1 : w1.frozen? ⟨w.heap.size + 1 + 1 + 1, 1, none⟩ = false := frozen_after hb1 (v := .int .i64 0) (by simp [go_sem]) (by simp [go_sem])
  have HB1 : Hid (Below w.heap.size w w1) := below_after (by repeat (first | exact Below.refl _ _ | refine Below.drew ?_ | refine below_drewN ?_ _ | refine Below.setCell ?_ (by first | omega | (simp; done) | (simp; omega)) _ | refine Below.alloc ?_ (by first | omega | (simp; done) | (simp; omega)) _)) hb1 (by simp; omega)
  have zz := World.block_lt_of_cell? _ _ qw10
  dsimp only at zz
  clear hb1
  go_wp2_with fail
  refine (HC.out _).mono ?_
  rintro e w2 ⟨rfl, hb2⟩
  have qw20 : w2.cell? ⟨w.heap.size + 1 + 1 + 1, 0, none⟩ = some (.int .i64 0) := cell_later hb2 (by simp [go_sem, World.cell?_alloc_past, World.frozen?_alloc_past, *])
  have qw21 : w2.cell? ⟨w.heap.size + 1 + 1 + 1, 1, none⟩ = some (.int .i64 0) := cell_later hb2 (by simp [go_sem, World.cell?_alloc_past, World.frozen?_alloc_past, *])
  have qw2f0 : w2.frozen? ⟨w.heap.size + 1 + 1 + 1, 0, none⟩ = false := frozen_after hb2 (v := .int .i64 0) (by simp [go_sem, World.cell?_alloc_past, World.frozen?_alloc_past, *]) (by simp [go_sem, World.cell?_alloc_past, World.frozen?_alloc_past, *])
  have qw2f1 : w2.frozen? ⟨w.heap.size + 1 + 1 + 1, 1, none⟩ = false := frozen_after hb2 (v := .int .i64 0) (by simp [go_sem, World.cell?_alloc_past, World.frozen?_alloc_past, *]) (by simp [go_sem, World.cell?_alloc_past, World.frozen?_alloc_past, *])
  have HB2 : Hid (Below w.heap.size w w2) := below_then (below_alloc_top HB1.out _) hb2
  clear hb2
  go_wp2_with fail
  refine (HL.out _).mono ?_
  rintro e w3 ⟨rfl, hb3⟩
  have qw30 : w3.cell? ⟨w.heap.size + 1 + 1 + 1, 0, none⟩ = some (.int .i64 0) := cell_later hb3 (by simp [go_sem, *])
  have qw31 : w3.cell? ⟨w.heap.size + 1 + 1 + 1, 1, none⟩ = some (.int .i64 0) := cell_later hb3 (by simp [go_sem, *])
  have qw3f0 : w3.frozen? ⟨w.heap.size + 1 + 1 + 1, 0, none⟩ = false := frozen_after hb3 (v := .int .i64 0) (by simp [go_sem, *]) (by simp [go_sem, *])
  have qw3f1 : w3.frozen? ⟨w.heap.size + 1 + 1 + 1, 1, none⟩ = false := frozen_after hb3 (v := .int .i64 0) (by simp [go_sem, *]) (by simp [go_sem, *])
  have HB3 : Hid (Below w.heap.size w w3) := below_then HB2.out hb3
  clear hb3
  go_wp2
  exact bodyPost_ret (v := .tuple #[.agg #[.int .i64 lo, .int .i64 hi], .int .i64 0]) (by simp [results, Tryz.results69, go_sem, qw30, qw31]) rfl ⟨rfl, (by (repeat (first | (with_reducible exact HB3.out) | (with_reducible refine Below.setCell ?_ ?_ _) | (with_reducible refine below_alloc_top ?_ _) | (with_reducible refine Below.drew ?_))); all_goals (first | omega | (simp; done) | (simp; omega)))⟩
set_option maxRecDepth 100000 in
set_option maxHeartbeats 1000000 in
theorem leastOf_bad (x : Wy) (h : wyE x ≠ 0) (w : World) :
    Calls Tryz.prog 69 #[.agg #[.int .i64 x.m.wd, .int .i64 x.m.mt, .int .i64 x.m.sk, .int .i64 x.m.th], .agg #[.int .i64 x.fx, .int .i64 x.fz], .agg #[.int .i64 x.tx, .int .i64 x.tz]] w fun e w' => e = .returned (.tuple #[.agg #[.int .i64 0, .int .i64 0], .int .i64 (wyE x)]) ∧ Below w.heap.size w w' := by
  have h2 : (wyE x != 0) = true := by simpa using h
  have HC := Lib.hid (fun w => crossOf_bad x h w); clear h
  go_enter Tryz.func69, Tryz.ntmps69
  go_wp2_with fail
  refine (HC.out _).mono ?_
  rintro e w1 ⟨rfl, hb1⟩
  have qw10 : w1.cell? ⟨w.heap.size + 1 + 1 + 1, 0, none⟩ = some (.int .i64 0) := cell_later hb1 (by simp [go_sem])
  have qw11 : w1.cell? ⟨w.heap.size + 1 + 1 + 1, 1, none⟩ = some (.int .i64 0) := cell_later hb1 (by simp [go_sem])
  have qw1f0 : w1.frozen? ⟨w.heap.size + 1 + 1 + 1, 0, none⟩ = false := frozen_after hb1 (v := .int .i64 0) (by simp [go_sem]) (by simp [go_sem])
  have qw1f1 : w1.frozen? ⟨w.heap.size + 1 + 1 + 1, 1, none⟩ = false := frozen_after hb1 (v := .int .i64 0) (by simp [go_sem]) (by simp [go_sem])
  have HB1 : Hid (Below w.heap.size w w1) := below_after (by repeat (first | exact Below.refl _ _ | refine Below.drew ?_ | refine below_drewN ?_ _ | refine Below.setCell ?_ (by first | omega | (simp; done) | (simp; omega)) _ | refine Below.alloc ?_ (by first | omega | (simp; done) | (simp; omega)) _)) hb1 (by simp; omega)
  have zz := World.block_lt_of_cell? _ _ qw10
  dsimp only at zz
  clear hb1
  go_wp2
  exact bodyPost_ret (v := .tuple #[.agg #[.int .i64 0, .int .i64 0], .int .i64 (wyE x)]) (by simp [results, Tryz.results69, go_sem, World.cell?_alloc_past, zz, qw10, qw11]) rfl ⟨rfl, (by (repeat (first | (with_reducible exact HB1.out) | (with_reducible refine Below.setCell ?_ ?_ _) | (with_reducible refine below_alloc_top ?_ _) | (with_reducible refine Below.drew ?_))); all_goals (first | omega | (simp; done) | (simp; omega)))⟩

theorem l_bounds (c : Cr) (o : c.ok) : 0 ≤ c.lLo ∧ c.lLo ≤ 11313708500000 ∧ 0 ≤ c.lHi ∧ c.lHi ≤ 11313708500000 := by
  obtain ⟨k1, k2, k3, k4, k5, k6⟩ := k_bounds c o
  obtain ⟨b1, b2⟩ := bd_bounds c o
  obtain ⟨t1, t2, t3, t4, t5⟩ := t_bounds c o c.k (by omega) (by omega)
  obtain ⟨s1, s2, s3, s4, s5⟩ := t_bounds c o (c.k + 1) (by omega) (by omega)
  unfold Cr.lLo Cr.lHi
  split <;> omega
set_option maxRecDepth 100000 in
set_option maxHeartbeats 1000000 in
/-- RoundedTime -/
theorem rounded_ok (x : Wy) (o : x.ok) (w : World) :
    Calls Tryz.prog 49 #[.agg #[.int .i64 x.m.wd, .int .i64 x.m.mt, .int .i64 x.m.sk, .int .i64 x.m.th], .agg #[.int .i64 x.fx, .int .i64 x.fz], .agg #[.int .i64 x.tx, .int .i64 x.tz]] w fun e w' => e = .returned (.tuple #[.int .i64 ((x.cr.lLo + x.cr.lHi) / 2), .int .i64 0]) ∧ Below w.heap.size w w' := by
  have lb := l_bounds x.cr (cr_ok x o)
  have HL := Lib.hid (fun w => leastOf_ok x o w)
  generalize x.cr.lLo = lo at *
  generalize x.cr.lHi = hi at *
  obtain ⟨b1, b2, b3, b4⟩ := lb
  go_enter Tryz.func49, Tryz.ntmps49
  go_wp2_with fail
  refine (HL.out _).mono ?_
  rintro e w1 ⟨rfl, hb1⟩
  have HB1 : Hid (Below w.heap.size w w1) := below_after (by repeat (first | exact Below.refl _ _ | refine Below.drew ?_ | refine below_drewN ?_ _ | refine Below.setCell ?_ (by first | omega | (simp; done) | (simp; omega)) _ | refine Below.alloc ?_ (by first | omega | (simp; done) | (simp; omega)) _)) hb1 (by simp; omega)
  clear hb1
  go_wp2_with (go_at_call 53; refine (down_any _ _ _ (by omega) (by omega) (by omega) (by omega)).mono ?_; rintro e w' ⟨rfl, rfl⟩)
  go_ret2
  exact ⟨rfl, (by (repeat (first | (with_reducible exact HB1.out) | (with_reducible refine Below.setCell ?_ ?_ _) | (with_reducible refine below_alloc_top ?_ _) | (with_reducible refine Below.drew ?_))); all_goals (first | omega | (simp; done) | (simp; omega)))⟩
set_option maxRecDepth 100000 in
set_option maxHeartbeats 1000000 in
theorem rounded_bad (x : Wy) (h : wyE x ≠ 0) (w : World) :
    Calls Tryz.prog 49 #[.agg #[.int .i64 x.m.wd, .int .i64 x.m.mt, .int .i64 x.m.sk, .int .i64 x.m.th], .agg #[.int .i64 x.fx, .int .i64 x.fz], .agg #[.int .i64 x.tx, .int .i64 x.tz]] w fun e w' => e = .returned (.tuple #[.int .i64 0, .int .i64 (wyE x)]) ∧ Below w.heap.size w w' := by
  have HL := Lib.hid (fun w => leastOf_bad x h w); clear h
  go_enter Tryz.func49, Tryz.ntmps49
  go_wp2_with fail
  refine (HL.out _).mono ?_
  rintro e w1 ⟨rfl, hb1⟩
  have HB1 : Hid (Below w.heap.size w w1) := below_after (by repeat (first | exact Below.refl _ _ | refine Below.drew ?_ | refine below_drewN ?_ _ | refine Below.setCell ?_ (by first | omega | (simp; done) | (simp; omega)) _ | refine Below.alloc ?_ (by first | omega | (simp; done) | (simp; omega)) _)) hb1 (by simp; omega)
  clear hb1
  go_wp2_with (go_at_call 53; refine (down_any _ _ _ (by omega) (by omega) (by omega) (by omega)).mono ?_; rintro e w' ⟨rfl, rfl⟩)
  go_ret2
  exact ⟨rfl, (by (repeat (first | (with_reducible exact HB1.out) | (with_reducible refine Below.setCell ?_ ?_ _) | (with_reducible refine below_alloc_top ?_ _) | (with_reducible refine Below.drew ?_))); all_goals (first | omega | (simp; done) | (simp; omega)))⟩
def midC : Cr := ⟨0, 300, 2500, 800, 300, 2500⟩
def plW : Wy := ⟨⟨2500, 5000, 1, 1000⟩, 0, -300, 0, 400⟩
theorem mid_k : midC.k = 400 ∧ midC.lLo = 3999972 ∧ midC.lHi = 4000000 := by decide +kernel
theorem pl_n : (plW.cr.lLo + plW.cr.lHi) / 2 = 4399992 := by decide +kernel
theorem cs_n : lowN (2500 * 2500) (5000 * 5000) = 1 ∧ lowD (2500 * 2500) (5000 * 5000) = 4 := by decide +kernel
theorem mid_ok : midC.ok := ⟨by decide, by decide, by decide, by decide, by decide, by decide, by decide, by decide, by decide, by decide, by decide, by decide⟩
theorem plW_ok : plW.ok := ⟨⟨by decide, by decide, by decide, by decide, by decide, by decide, by decide, by decide⟩, by decide, by decide, by decide, by decide, by decide, by decide, by decide, by decide⟩
theorem awk3 (w : World) : Calls Tryz.prog 49 #[.agg #[.int .i64 2500, .int .i64 5000, .int .i64 1, .int .i64 1000], .agg #[.int .i64 0, .int .i64 (-300)], .agg #[.int .i64 0, .int .i64 400]] w fun e w' => e = .returned (.tuple #[.int .i64 4399992, .int .i64 0]) ∧ Below w.heap.size w w' := by
  have := rounded_ok plW plW_ok w; rwa [pl_n] at this
end Go.Proofs.YtnckfbejgkdhhaaGreatDoor
