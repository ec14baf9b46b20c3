/- RayTurns: the walk -/
import Derived.Test.YtdicndakelgoeaaT2
import Derived.Test.YtdicndakelgoeaaM3
import Derived.Test.YtdicndakelgoeaaD3
import Derived.Test.YtdicndakelgoeaaB5
import Derived.Test.YtdicndakelgoeaaC2
namespace Go.Proofs.Ytdicndakelgoeaa
open Go.RowKit RayM
set_option linter.unusedSimpArgs false
set_option linter.unusedVariables false
set_option maxRecDepth 100000 in
set_option maxHeartbeats 1000000 in
theorem turns_bad (x : Tu) (h : tuE x ≠ 0) (w : World) :
    Calls Try.prog 11 #[.agg #[.int .i64 x.fx, .int .i64 x.fz, .int .i64 x.tx, .int .i64 x.tz, .int .i64 x.th, .int .i64 x.v1, .int .i64 x.v2]] w fun e w' => e = .returned (.bool true) ∧ Below w.heap.size w w' := by
  have HP := Lib.hid (fun w => turned_bad x h w)
  have HR := Lib.hid (fun w => refTurnErr_any x w)
  have n1 : (tuE x != 0) = true := by simpa using h
  have n2 : (tuE x == 0) = false := by simpa using h
  have n3 : (tuE x == tuE x) = true := by simp
  generalize tuE x = r at *
  clear h
  go_enter Try.func11, Try.ntmps11
  go_wp2_with fail
  refine (awake_any _).mono ?_
  rintro e w1 ⟨rfl, hb1⟩
  have qw10 : w1.cell? ⟨w.heap.size, 0, none⟩ = some (.int .i64 x.fx) := cell_later hb1 (by simp [go_sem])
  have qw11 : w1.cell? ⟨w.heap.size, 1, none⟩ = some (.int .i64 x.fz) := cell_later hb1 (by simp [go_sem])
  have qw12 : w1.cell? ⟨w.heap.size, 2, none⟩ = some (.int .i64 x.tx) := cell_later hb1 (by simp [go_sem])
  have qw13 : w1.cell? ⟨w.heap.size, 3, none⟩ = some (.int .i64 x.tz) := cell_later hb1 (by simp [go_sem])
  have qw14 : w1.cell? ⟨w.heap.size, 4, none⟩ = some (.int .i64 x.th) := cell_later hb1 (by simp [go_sem])
  have qw15 : w1.cell? ⟨w.heap.size, 5, none⟩ = some (.int .i64 x.v1) := cell_later hb1 (by simp [go_sem])
  have qw16 : w1.cell? ⟨w.heap.size, 6, none⟩ = some (.int .i64 x.v2) := cell_later hb1 (by simp [go_sem])
  have zqw1_0 := World.block_lt_of_cell? _ _ qw10
  dsimp only at zqw1_0
  have H1 : Hid (Below w.heap.size w w1) := Lib.hid (below_after (by repeat (first | exact Below.refl _ _ | refine Below.drew ?_ | refine below_drewN ?_ _ | refine Below.setCell ?_ (by first | omega | (simp; done) | (simp; omega)) _ | refine Below.alloc ?_ (by first | omega | (simp; done) | (simp; omega)) _)) hb1 (by first | omega | (simp; done) | (simp; omega))); clear hb1
  go_wp2_with fail
  refine (HP.out _).mono ?_
  rintro e w2 ⟨rfl, hb2⟩
  have qw20 : w2.cell? ⟨w.heap.size, 0, none⟩ = some (.int .i64 x.fx) := cell_later hb2 (by simp [go_sem, World.cell?_alloc_past, World.frozen?_alloc_past, *])
  have qw21 : w2.cell? ⟨w.heap.size, 1, none⟩ = some (.int .i64 x.fz) := cell_later hb2 (by simp [go_sem, World.cell?_alloc_past, World.frozen?_alloc_past, *])
  have qw22 : w2.cell? ⟨w.heap.size, 2, none⟩ = some (.int .i64 x.tx) := cell_later hb2 (by simp [go_sem, World.cell?_alloc_past, World.frozen?_alloc_past, *])
  have qw23 : w2.cell? ⟨w.heap.size, 3, none⟩ = some (.int .i64 x.tz) := cell_later hb2 (by simp [go_sem, World.cell?_alloc_past, World.frozen?_alloc_past, *])
  have qw24 : w2.cell? ⟨w.heap.size, 4, none⟩ = some (.int .i64 x.th) := cell_later hb2 (by simp [go_sem, World.cell?_alloc_past, World.frozen?_alloc_past, *])
  have qw25 : w2.cell? ⟨w.heap.size, 5, none⟩ = some (.int .i64 x.v1) := cell_later hb2 (by simp [go_sem, World.cell?_alloc_past, World.frozen?_alloc_past, *])
  have qw26 : w2.cell? ⟨w.heap.size, 6, none⟩ = some (.int .i64 x.v2) := cell_later hb2 (by simp [go_sem, World.cell?_alloc_past, World.frozen?_alloc_past, *])
  have zqw2_0 := World.block_lt_of_cell? _ _ qw20
  dsimp only at zqw2_0
  have H2 : Hid (Below w.heap.size w w2) := Lib.hid (below_then (by (repeat (first | (with_reducible exact H1.out) | (with_reducible refine Below.setCell ?_ ?_ _) | (with_reducible refine below_alloc_top ?_ _) | (with_reducible refine Below.drew ?_))); all_goals (first | omega | (simp; done) | (simp; omega))) hb2); clear hb2
  go_wp2_with fail
  refine (HR.out _).mono ?_
  rintro e w3 ⟨rfl, hb3⟩
  have qw30 : w3.cell? ⟨w.heap.size, 0, none⟩ = some (.int .i64 x.fx) := cell_later hb3 (by simp [go_sem, World.cell?_alloc_past, World.frozen?_alloc_past, *])
  have qw31 : w3.cell? ⟨w.heap.size, 1, none⟩ = some (.int .i64 x.fz) := cell_later hb3 (by simp [go_sem, World.cell?_alloc_past, World.frozen?_alloc_past, *])
  have qw32 : w3.cell? ⟨w.heap.size, 2, none⟩ = some (.int .i64 x.tx) := cell_later hb3 (by simp [go_sem, World.cell?_alloc_past, World.frozen?_alloc_past, *])
  have qw33 : w3.cell? ⟨w.heap.size, 3, none⟩ = some (.int .i64 x.tz) := cell_later hb3 (by simp [go_sem, World.cell?_alloc_past, World.frozen?_alloc_past, *])
  have qw34 : w3.cell? ⟨w.heap.size, 4, none⟩ = some (.int .i64 x.th) := cell_later hb3 (by simp [go_sem, World.cell?_alloc_past, World.frozen?_alloc_past, *])
  have qw35 : w3.cell? ⟨w.heap.size, 5, none⟩ = some (.int .i64 x.v1) := cell_later hb3 (by simp [go_sem, World.cell?_alloc_past, World.frozen?_alloc_past, *])
  have qw36 : w3.cell? ⟨w.heap.size, 6, none⟩ = some (.int .i64 x.v2) := cell_later hb3 (by simp [go_sem, World.cell?_alloc_past, World.frozen?_alloc_past, *])
  have qw37 : w3.cell? ⟨w2.heap.size, 0, none⟩ = some (.int .i64 0) := cell_later hb3 (by simp [go_sem, World.cell?_alloc_past, World.frozen?_alloc_past, *])
  have qw38 : w3.cell? ⟨w2.heap.size, 1, none⟩ = some (.int .i64 0) := cell_later hb3 (by simp [go_sem, World.cell?_alloc_past, World.frozen?_alloc_past, *])
  have zqw3_0 := World.block_lt_of_cell? _ _ qw30
  dsimp only at zqw3_0
  have zqw3_7 := World.block_lt_of_cell? _ _ qw37
  dsimp only at zqw3_7
  have H3 : Hid (Below w.heap.size w w3) := Lib.hid (below_then (by (repeat (first | (with_reducible exact H2.out) | (with_reducible refine Below.setCell ?_ ?_ _) | (with_reducible refine below_alloc_top ?_ _) | (with_reducible refine Below.drew ?_))); all_goals (first | omega | (simp; done) | (simp; omega))) hb3); clear hb3
  go_wp2
  go_ret
  exact ⟨rfl, (by (repeat (first | (with_reducible exact H3.out) | (with_reducible refine Below.setCell ?_ ?_ _) | (with_reducible refine below_alloc_top ?_ _) | (with_reducible refine Below.drew ?_))); all_goals (first | omega | (simp; done) | (simp; omega)))⟩
set_option maxRecDepth 100000 in
set_option maxHeartbeats 1000000 in
theorem turns_two (x : Tu) (o : x.ok) (hv : x.v1 ≠ x.v2) (w : World) :
    Calls Try.prog 11 #[.agg #[.int .i64 x.fx, .int .i64 x.fz, .int .i64 x.tx, .int .i64 x.tz, .int .i64 x.th, .int .i64 x.v1, .int .i64 x.v2]] w fun e w' => e = .returned (.bool true) ∧ Below w.heap.size w w' := by
  have HP := Lib.hid (fun w => turned_ok x o w)
  have HR := Lib.hid (fun w => refTurnErr_any x w)
  rw [(tuE_ok x).2 o] at HR
  have HT := Lib.hid (fun w => refTurned_any x o w)
  have n1 : (x.v1 != x.v2) = true := by simpa using hv
  generalize x.cr.lLo = lo at *
  generalize x.cr.lHi = hi at *
  clear hv o
  go_enter Try.func11, Try.ntmps11
  go_wp2_with fail
  refine (awake_any _).mono ?_
  rintro e w1 ⟨rfl, hb1⟩
  have qw10 : w1.cell? ⟨w.heap.size, 0, none⟩ = some (.int .i64 x.fx) := cell_later hb1 (by simp [go_sem])
  have qw11 : w1.cell? ⟨w.heap.size, 1, none⟩ = some (.int .i64 x.fz) := cell_later hb1 (by simp [go_sem])
  have qw12 : w1.cell? ⟨w.heap.size, 2, none⟩ = some (.int .i64 x.tx) := cell_later hb1 (by simp [go_sem])
  have qw13 : w1.cell? ⟨w.heap.size, 3, none⟩ = some (.int .i64 x.tz) := cell_later hb1 (by simp [go_sem])
  have qw14 : w1.cell? ⟨w.heap.size, 4, none⟩ = some (.int .i64 x.th) := cell_later hb1 (by simp [go_sem])
  have qw15 : w1.cell? ⟨w.heap.size, 5, none⟩ = some (.int .i64 x.v1) := cell_later hb1 (by simp [go_sem])
  have qw16 : w1.cell? ⟨w.heap.size, 6, none⟩ = some (.int .i64 x.v2) := cell_later hb1 (by simp [go_sem])
  have zqw1_0 := World.block_lt_of_cell? _ _ qw10
  dsimp only at zqw1_0
  have H1 : Hid (Below w.heap.size w w1) := Lib.hid (below_after (by repeat (first | exact Below.refl _ _ | refine Below.drew ?_ | refine below_drewN ?_ _ | refine Below.setCell ?_ (by first | omega | (simp; done) | (simp; omega)) _ | refine Below.alloc ?_ (by first | omega | (simp; done) | (simp; omega)) _)) hb1 (by first | omega | (simp; done) | (simp; omega))); clear hb1
  go_wp2_with fail
  refine (HP.out _).mono ?_
  rintro e w2 ⟨rfl, hb2⟩
  have qw20 : w2.cell? ⟨w.heap.size, 0, none⟩ = some (.int .i64 x.fx) := cell_later hb2 (by simp [go_sem, World.cell?_alloc_past, World.frozen?_alloc_past, *])
  have qw21 : w2.cell? ⟨w.heap.size, 1, none⟩ = some (.int .i64 x.fz) := cell_later hb2 (by simp [go_sem, World.cell?_alloc_past, World.frozen?_alloc_past, *])
  have qw22 : w2.cell? ⟨w.heap.size, 2, none⟩ = some (.int .i64 x.tx) := cell_later hb2 (by simp [go_sem, World.cell?_alloc_past, World.frozen?_alloc_past, *])
  have qw23 : w2.cell? ⟨w.heap.size, 3, none⟩ = some (.int .i64 x.tz) := cell_later hb2 (by simp [go_sem, World.cell?_alloc_past, World.frozen?_alloc_past, *])
  have qw24 : w2.cell? ⟨w.heap.size, 4, none⟩ = some (.int .i64 x.th) := cell_later hb2 (by simp [go_sem, World.cell?_alloc_past, World.frozen?_alloc_past, *])
  have qw25 : w2.cell? ⟨w.heap.size, 5, none⟩ = some (.int .i64 x.v1) := cell_later hb2 (by simp [go_sem, World.cell?_alloc_past, World.frozen?_alloc_past, *])
  have qw26 : w2.cell? ⟨w.heap.size, 6, none⟩ = some (.int .i64 x.v2) := cell_later hb2 (by simp [go_sem, World.cell?_alloc_past, World.frozen?_alloc_past, *])
  have zqw2_0 := World.block_lt_of_cell? _ _ qw20
  dsimp only at zqw2_0
  have H2 : Hid (Below w.heap.size w w2) := Lib.hid (below_then (by (repeat (first | (with_reducible exact H1.out) | (with_reducible refine Below.setCell ?_ ?_ _) | (with_reducible refine below_alloc_top ?_ _) | (with_reducible refine Below.drew ?_))); all_goals (first | omega | (simp; done) | (simp; omega))) hb2); clear hb2
  go_wp2_with fail
  refine (HR.out _).mono ?_
  rintro e w3 ⟨rfl, hb3⟩
  have qw30 : w3.cell? ⟨w.heap.size, 0, none⟩ = some (.int .i64 x.fx) := cell_later hb3 (by simp [go_sem, World.cell?_alloc_past, World.frozen?_alloc_past, *])
  have qw31 : w3.cell? ⟨w.heap.size, 1, none⟩ = some (.int .i64 x.fz) := cell_later hb3 (by simp [go_sem, World.cell?_alloc_past, World.frozen?_alloc_past, *])
  have qw32 : w3.cell? ⟨w.heap.size, 2, none⟩ = some (.int .i64 x.tx) := cell_later hb3 (by simp [go_sem, World.cell?_alloc_past, World.frozen?_alloc_past, *])
  have qw33 : w3.cell? ⟨w.heap.size, 3, none⟩ = some (.int .i64 x.tz) := cell_later hb3 (by simp [go_sem, World.cell?_alloc_past, World.frozen?_alloc_past, *])
  have qw34 : w3.cell? ⟨w.heap.size, 4, none⟩ = some (.int .i64 x.th) := cell_later hb3 (by simp [go_sem, World.cell?_alloc_past, World.frozen?_alloc_past, *])
  have qw35 : w3.cell? ⟨w.heap.size, 5, none⟩ = some (.int .i64 x.v1) := cell_later hb3 (by simp [go_sem, World.cell?_alloc_past, World.frozen?_alloc_past, *])
  have qw36 : w3.cell? ⟨w.heap.size, 6, none⟩ = some (.int .i64 x.v2) := cell_later hb3 (by simp [go_sem, World.cell?_alloc_past, World.frozen?_alloc_past, *])
  have qw37 : w3.cell? ⟨w2.heap.size, 0, none⟩ = some (.int .i64 lo) := cell_later hb3 (by simp [go_sem, World.cell?_alloc_past, World.frozen?_alloc_past, *])
  have qw38 : w3.cell? ⟨w2.heap.size, 1, none⟩ = some (.int .i64 hi) := cell_later hb3 (by simp [go_sem, World.cell?_alloc_past, World.frozen?_alloc_past, *])
  have zqw3_0 := World.block_lt_of_cell? _ _ qw30
  dsimp only at zqw3_0
  have zqw3_7 := World.block_lt_of_cell? _ _ qw37
  dsimp only at zqw3_7
  have H3 : Hid (Below w.heap.size w w3) := Lib.hid (below_then (by (repeat (first | (with_reducible exact H2.out) | (with_reducible refine Below.setCell ?_ ?_ _) | (with_reducible refine below_alloc_top ?_ _) | (with_reducible refine Below.drew ?_))); all_goals (first | omega | (simp; done) | (simp; omega))) hb3); clear hb3
  go_wp2_with fail
  have hBel := H3.out
  go_region_held3 (fun w' => w'.cell? ⟨w.heap.size, 0, none⟩ = some (.int .i64 x.fx) ∧ w'.cell? ⟨w.heap.size, 1, none⟩ = some (.int .i64 x.fz) ∧ w'.cell? ⟨w.heap.size, 2, none⟩ = some (.int .i64 x.tx) ∧ w'.cell? ⟨w.heap.size, 3, none⟩ = some (.int .i64 x.tz) ∧ w'.cell? ⟨w.heap.size, 4, none⟩ = some (.int .i64 x.th) ∧ w'.cell? ⟨w.heap.size, 5, none⟩ = some (.int .i64 x.v1) ∧ w'.cell? ⟨w.heap.size, 6, none⟩ = some (.int .i64 x.v2) ∧ w'.cell? ⟨w2.heap.size, 0, none⟩ = some (.int .i64 lo) ∧ w'.cell? ⟨w2.heap.size, 1, none⟩ = some (.int .i64 hi) ∧ Below w.heap.size w w') (((go_split_ands; (repeat' apply And.intro) <;> first | (with_reducible assumption) | exact cell_later (by assumption) (by assumption) | exact frozen_after (by assumption) (by assumption) (by assumption) | exact below_then (by assumption) (by assumption) | exact below_alloc_top (by assumption) _ | exact cell_alloc_later (by assumption) _ | exact frozen_alloc_later (by assumption) (by assumption) _ | exact Below.drew (by assumption) | (simp [go_sem, World.cell?_alloc_past, *]; done))))
    (first
      | (go_at_call 60; refine (HT.out _).mono ?_; rintro e w' ⟨rfl, hb⟩))
  go_split_ands
  have y0 : w'.cell? ⟨w.heap.size, 0, none⟩ = some (.int .i64 x.fx)   := by with_reducible assumption
  have y1 : w'.cell? ⟨w.heap.size, 1, none⟩ = some (.int .i64 x.fz)   := by with_reducible assumption
  have y2 : w'.cell? ⟨w.heap.size, 2, none⟩ = some (.int .i64 x.tx)   := by with_reducible assumption
  have y3 : w'.cell? ⟨w.heap.size, 3, none⟩ = some (.int .i64 x.tz)   := by with_reducible assumption
  have y4 : w'.cell? ⟨w.heap.size, 4, none⟩ = some (.int .i64 x.th)   := by with_reducible assumption
  have y5 : w'.cell? ⟨w.heap.size, 5, none⟩ = some (.int .i64 x.v1)   := by with_reducible assumption
  have y6 : w'.cell? ⟨w.heap.size, 6, none⟩ = some (.int .i64 x.v2)   := by with_reducible assumption
  have y7 : w'.cell? ⟨w2.heap.size, 0, none⟩ = some (.int .i64 lo)   := by with_reducible assumption
  have y8 : w'.cell? ⟨w2.heap.size, 1, none⟩ = some (.int .i64 hi)   := by with_reducible assumption
  have yB0 : Below w.heap.size w w' := by with_reducible assumption
  have yB := Lib.hid yB0; clear yB0
  have yz0 := World.block_lt_of_cell? _ _ y0
  dsimp only at yz0
  have yz1 := World.block_lt_of_cell? _ _ y7
  dsimp only at yz1
  clear hBel
  go_wp2
  go_ret
  exact ⟨rfl, (by (repeat (first | (with_reducible exact yB.out) | (with_reducible refine Below.setCell ?_ ?_ _) | (with_reducible refine below_alloc_top ?_ _) | (with_reducible refine Below.drew ?_))); all_goals (first | omega | (simp; done) | (simp; omega)))⟩
set_option maxRecDepth 100000 in
set_option maxHeartbeats 1000000 in
theorem turns_one (x : Tu) (o : x.ok) (hv : x.v1 = x.v2) (w : World) :
    Calls Try.prog 11 #[.agg #[.int .i64 x.fx, .int .i64 x.fz, .int .i64 x.tx, .int .i64 x.tz, .int .i64 x.th, .int .i64 x.v1, .int .i64 x.v2]] w fun e w' => e = .returned (.bool true) ∧ Below w.heap.size w w' := by
  have HP := Lib.hid (fun w => turned_ok x o w)
  have HR := Lib.hid (fun w => refTurnErr_any x w)
  rw [(tuE_ok x).2 o] at HR
  have HT := Lib.hid (fun w => refTurned_any x o w)
  have s := straight x.cr (tu_cr_ok x o) hv
  have l := lLo_lHi x.cr (tu_cr_ok x o)
  have d : (2 * x.th - x.tz) - x.fz = x.cr.h1 + x.cr.h2 := by show _ = (x.th - x.fz) + (x.th - x.tz); omega
  have tl : toLo x.fx x.fz x.tx (2 * x.th - x.tz) x.v1 = legLo (x.cr.x2 - x.cr.x1) (x.cr.h1 + x.cr.h2) x.cr.v1 := by rw [← d]; rfl
  have th : toHi x.fx x.fz x.tx (2 * x.th - x.tz) x.v1 = legHi (x.cr.x2 - x.cr.x1) (x.cr.h1 + x.cr.h2) x.cr.v1 := by rw [← d]; rfl
  obtain ⟨a1, a2, b1, b2, c1, c2, d1, d2, e1, e2, f1, f2, g1, g2⟩ := o
  have HO := Lib.hid (fun w => timeOf_ok x.fx x.fz x.tx (2 * x.th - x.tz) x.v1 w ⟨a1, a2, by omega, by omega, c1, c2, by omega, by omega⟩ f1 f2)
  rw [← tl, ← th] at s
  have lb := leg_bounds (x.cr.x2 - x.cr.x1) (x.cr.h1 + x.cr.h2) x.cr.v1 (by show -400000 ≤ x.tx - x.fx; omega) (by show x.tx - x.fx ≤ 400000; omega) (by show -400000 ≤ x.th - x.fz + (x.th - x.tz); omega) (by show x.th - x.fz + (x.th - x.tz) ≤ 400000; omega) f1
  rw [← tl, ← th] at lb
  have HM := Lib.hid (fun w => meets_true (toLo x.fx x.fz x.tx (2 * x.th - x.tz) x.v1) (toHi x.fx x.fz x.tx (2 * x.th - x.tz) x.v1) x.cr.lLo x.cr.lHi w (by omega))
  have n1 : (x.v1 != x.v2) = false := by simpa using hv
  clear s l d tl th lb hv a1 a2 b1 b2 f1 f2 g1 g2 c1 c2
  generalize toLo x.fx x.fz x.tx (2 * x.th - x.tz) x.v1 = sl at *
  generalize toHi x.fx x.fz x.tx (2 * x.th - x.tz) x.v1 = sh at *
  generalize x.cr.lLo = lo at *
  generalize x.cr.lHi = hi at *
  go_enter Try.func11, Try.ntmps11
  go_wp2_with fail
  refine (awake_any _).mono ?_
  rintro e w1 ⟨rfl, hb1⟩
  have qw10 : w1.cell? ⟨w.heap.size, 0, none⟩ = some (.int .i64 x.fx) := cell_later hb1 (by simp [go_sem])
  have qw11 : w1.cell? ⟨w.heap.size, 1, none⟩ = some (.int .i64 x.fz) := cell_later hb1 (by simp [go_sem])
  have qw12 : w1.cell? ⟨w.heap.size, 2, none⟩ = some (.int .i64 x.tx) := cell_later hb1 (by simp [go_sem])
  have qw13 : w1.cell? ⟨w.heap.size, 3, none⟩ = some (.int .i64 x.tz) := cell_later hb1 (by simp [go_sem])
  have qw14 : w1.cell? ⟨w.heap.size, 4, none⟩ = some (.int .i64 x.th) := cell_later hb1 (by simp [go_sem])
  have qw15 : w1.cell? ⟨w.heap.size, 5, none⟩ = some (.int .i64 x.v1) := cell_later hb1 (by simp [go_sem])
  have qw16 : w1.cell? ⟨w.heap.size, 6, none⟩ = some (.int .i64 x.v2) := cell_later hb1 (by simp [go_sem])
  have zqw1_0 := World.block_lt_of_cell? _ _ qw10
  dsimp only at zqw1_0
  have H1 : Hid (Below w.heap.size w w1) := Lib.hid (below_after (by repeat (first | exact Below.refl _ _ | refine Below.drew ?_ | refine below_drewN ?_ _ | refine Below.setCell ?_ (by first | omega | (simp; done) | (simp; omega)) _ | refine Below.alloc ?_ (by first | omega | (simp; done) | (simp; omega)) _)) hb1 (by first | omega | (simp; done) | (simp; omega))); clear hb1
  go_wp2_with fail
  refine (HP.out _).mono ?_
  rintro e w2 ⟨rfl, hb2⟩
  have qw20 : w2.cell? ⟨w.heap.size, 0, none⟩ = some (.int .i64 x.fx) := cell_later hb2 (by simp [go_sem, World.cell?_alloc_past, World.frozen?_alloc_past, *])
  have qw21 : w2.cell? ⟨w.heap.size, 1, none⟩ = some (.int .i64 x.fz) := cell_later hb2 (by simp [go_sem, World.cell?_alloc_past, World.frozen?_alloc_past, *])
  have qw22 : w2.cell? ⟨w.heap.size, 2, none⟩ = some (.int .i64 x.tx) := cell_later hb2 (by simp [go_sem, World.cell?_alloc_past, World.frozen?_alloc_past, *])
  have qw23 : w2.cell? ⟨w.heap.size, 3, none⟩ = some (.int .i64 x.tz) := cell_later hb2 (by simp [go_sem, World.cell?_alloc_past, World.frozen?_alloc_past, *])
  have qw24 : w2.cell? ⟨w.heap.size, 4, none⟩ = some (.int .i64 x.th) := cell_later hb2 (by simp [go_sem, World.cell?_alloc_past, World.frozen?_alloc_past, *])
  have qw25 : w2.cell? ⟨w.heap.size, 5, none⟩ = some (.int .i64 x.v1) := cell_later hb2 (by simp [go_sem, World.cell?_alloc_past, World.frozen?_alloc_past, *])
  have qw26 : w2.cell? ⟨w.heap.size, 6, none⟩ = some (.int .i64 x.v2) := cell_later hb2 (by simp [go_sem, World.cell?_alloc_past, World.frozen?_alloc_past, *])
  have zqw2_0 := World.block_lt_of_cell? _ _ qw20
  dsimp only at zqw2_0
  have H2 : Hid (Below w.heap.size w w2) := Lib.hid (below_then (by (repeat (first | (with_reducible exact H1.out) | (with_reducible refine Below.setCell ?_ ?_ _) | (with_reducible refine below_alloc_top ?_ _) | (with_reducible refine Below.drew ?_))); all_goals (first | omega | (simp; done) | (simp; omega))) hb2); clear hb2
  go_wp2_with fail
  refine (HR.out _).mono ?_
  rintro e w3 ⟨rfl, hb3⟩
  have qw30 : w3.cell? ⟨w.heap.size, 0, none⟩ = some (.int .i64 x.fx) := cell_later hb3 (by simp [go_sem, World.cell?_alloc_past, World.frozen?_alloc_past, *])
  have qw31 : w3.cell? ⟨w.heap.size, 1, none⟩ = some (.int .i64 x.fz) := cell_later hb3 (by simp [go_sem, World.cell?_alloc_past, World.frozen?_alloc_past, *])
  have qw32 : w3.cell? ⟨w.heap.size, 2, none⟩ = some (.int .i64 x.tx) := cell_later hb3 (by simp [go_sem, World.cell?_alloc_past, World.frozen?_alloc_past, *])
  have qw33 : w3.cell? ⟨w.heap.size, 3, none⟩ = some (.int .i64 x.tz) := cell_later hb3 (by simp [go_sem, World.cell?_alloc_past, World.frozen?_alloc_past, *])
  have qw34 : w3.cell? ⟨w.heap.size, 4, none⟩ = some (.int .i64 x.th) := cell_later hb3 (by simp [go_sem, World.cell?_alloc_past, World.frozen?_alloc_past, *])
  have qw35 : w3.cell? ⟨w.heap.size, 5, none⟩ = some (.int .i64 x.v1) := cell_later hb3 (by simp [go_sem, World.cell?_alloc_past, World.frozen?_alloc_past, *])
  have qw36 : w3.cell? ⟨w.heap.size, 6, none⟩ = some (.int .i64 x.v2) := cell_later hb3 (by simp [go_sem, World.cell?_alloc_past, World.frozen?_alloc_past, *])
  have qw37 : w3.cell? ⟨w2.heap.size, 0, none⟩ = some (.int .i64 lo) := cell_later hb3 (by simp [go_sem, World.cell?_alloc_past, World.frozen?_alloc_past, *])
  have qw38 : w3.cell? ⟨w2.heap.size, 1, none⟩ = some (.int .i64 hi) := cell_later hb3 (by simp [go_sem, World.cell?_alloc_past, World.frozen?_alloc_past, *])
  have zqw3_0 := World.block_lt_of_cell? _ _ qw30
  dsimp only at zqw3_0
  have zqw3_7 := World.block_lt_of_cell? _ _ qw37
  dsimp only at zqw3_7
  have H3 : Hid (Below w.heap.size w w3) := Lib.hid (below_then (by (repeat (first | (with_reducible exact H2.out) | (with_reducible refine Below.setCell ?_ ?_ _) | (with_reducible refine below_alloc_top ?_ _) | (with_reducible refine Below.drew ?_))); all_goals (first | omega | (simp; done) | (simp; omega))) hb3); clear hb3
  go_wp2_with fail
  have hBel := H3.out
  go_region_held3 (fun w' => w'.cell? ⟨w.heap.size, 0, none⟩ = some (.int .i64 x.fx) ∧ w'.cell? ⟨w.heap.size, 1, none⟩ = some (.int .i64 x.fz) ∧ w'.cell? ⟨w.heap.size, 2, none⟩ = some (.int .i64 x.tx) ∧ w'.cell? ⟨w.heap.size, 3, none⟩ = some (.int .i64 x.tz) ∧ w'.cell? ⟨w.heap.size, 4, none⟩ = some (.int .i64 x.th) ∧ w'.cell? ⟨w.heap.size, 5, none⟩ = some (.int .i64 x.v1) ∧ w'.cell? ⟨w.heap.size, 6, none⟩ = some (.int .i64 x.v2) ∧ w'.cell? ⟨w2.heap.size, 0, none⟩ = some (.int .i64 lo) ∧ w'.cell? ⟨w2.heap.size, 1, none⟩ = some (.int .i64 hi) ∧ Below w.heap.size w w') (((go_split_ands; (repeat' apply And.intro) <;> first | (with_reducible assumption) | exact cell_later (by assumption) (by assumption) | exact frozen_after (by assumption) (by assumption) (by assumption) | exact below_then (by assumption) (by assumption) | exact below_alloc_top (by assumption) _ | exact cell_alloc_later (by assumption) _ | exact frozen_alloc_later (by assumption) (by assumption) _ | exact Below.drew (by assumption) | (simp [go_sem, World.cell?_alloc_past, *]; done))))
    (first
      | (go_at_call 60; refine (HT.out _).mono ?_; rintro e w' ⟨rfl, hb⟩))
  go_split_ands
  have y0 : w'.cell? ⟨w.heap.size, 0, none⟩ = some (.int .i64 x.fx)   := by with_reducible assumption
  have y1 : w'.cell? ⟨w.heap.size, 1, none⟩ = some (.int .i64 x.fz)   := by with_reducible assumption
  have y2 : w'.cell? ⟨w.heap.size, 2, none⟩ = some (.int .i64 x.tx)   := by with_reducible assumption
  have y3 : w'.cell? ⟨w.heap.size, 3, none⟩ = some (.int .i64 x.tz)   := by with_reducible assumption
  have y4 : w'.cell? ⟨w.heap.size, 4, none⟩ = some (.int .i64 x.th)   := by with_reducible assumption
  have y5 : w'.cell? ⟨w.heap.size, 5, none⟩ = some (.int .i64 x.v1)   := by with_reducible assumption
  have y6 : w'.cell? ⟨w.heap.size, 6, none⟩ = some (.int .i64 x.v2)   := by with_reducible assumption
  have y7 : w'.cell? ⟨w2.heap.size, 0, none⟩ = some (.int .i64 lo)   := by with_reducible assumption
  have y8 : w'.cell? ⟨w2.heap.size, 1, none⟩ = some (.int .i64 hi)   := by with_reducible assumption
  have yB0 : Below w.heap.size w w' := by with_reducible assumption
  have yB := Lib.hid yB0; clear yB0
  have yz0 := World.block_lt_of_cell? _ _ y0
  dsimp only at yz0
  have yz1 := World.block_lt_of_cell? _ _ y7
  dsimp only at yz1
  clear hBel
  go_wp2_with fail
  refine (HO.out _).mono ?_
  rintro e w5 ⟨rfl, hb5⟩
  have qw50 : w5.cell? ⟨w2.heap.size, 0, none⟩ = some (.int .i64 lo) := cell_later hb5 (by simp [go_sem, World.cell?_alloc_past, World.frozen?_alloc_past, *])
  have qw51 : w5.cell? ⟨w2.heap.size, 1, none⟩ = some (.int .i64 hi) := cell_later hb5 (by simp [go_sem, World.cell?_alloc_past, World.frozen?_alloc_past, *])
  have zqw5_0 := World.block_lt_of_cell? _ _ qw50
  dsimp only at zqw5_0
  have H5 : Hid (Below w.heap.size w w5) := Lib.hid (below_then (by (repeat (first | (with_reducible exact yB.out) | (with_reducible refine Below.setCell ?_ ?_ _) | (with_reducible refine below_alloc_top ?_ _) | (with_reducible refine Below.drew ?_))); all_goals (first | omega | (simp; done) | (simp; omega))) hb5); clear hb5
  go_wp2_with fail
  refine (HM.out _).mono ?_
  rintro e w6 ⟨rfl, hb6⟩

  have H6 : Hid (Below w.heap.size w w6) := Lib.hid (below_then (by (repeat (first | (with_reducible exact H5.out) | (with_reducible refine Below.setCell ?_ ?_ _) | (with_reducible refine below_alloc_top ?_ _) | (with_reducible refine Below.drew ?_))); all_goals (first | omega | (simp; done) | (simp; omega))) hb6); clear hb6
  go_wp2
  go_ret
  exact ⟨rfl, (by (repeat (first | (with_reducible exact H6.out) | (with_reducible refine Below.setCell ?_ ?_ _) | (with_reducible refine below_alloc_top ?_ _) | (with_reducible refine Below.drew ?_))); all_goals (first | omega | (simp; done) | (simp; omega)))⟩
theorem turns_any (x : Tu) (w : World) :
    Calls Try.prog 11 #[.agg #[.int .i64 x.fx, .int .i64 x.fz, .int .i64 x.tx, .int .i64 x.tz, .int .i64 x.th, .int .i64 x.v1, .int .i64 x.v2]] w fun e w' => e = .returned (.bool true) ∧ Below w.heap.size w w' := by
  by_cases h : tuE x = 0
  · by_cases hv : x.v1 = x.v2
    · exact turns_one x ((tuE_ok x).1 h) hv w
    · exact turns_two x ((tuE_ok x).1 h) hv w
  · exact turns_bad x h w
end Go.Proofs.Ytdicndakelgoeaa
