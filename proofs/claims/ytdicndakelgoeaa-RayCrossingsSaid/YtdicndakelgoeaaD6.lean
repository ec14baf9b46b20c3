/- RayCrossings: the walk -/
import Derived.Test.YtdicndakelgoeaaG1
namespace Go.Proofs.Ytdicndakelgoeaa
open Go.RowKit RayM
set_option linter.unusedSimpArgs false
set_option linter.unusedVariables false
set_option maxRecDepth 100000 in
set_option maxHeartbeats 1000000 in
theorem crossings_bad (c : Cr) (w : World) (o : ¬ c.ok) :
    Calls Try.prog 5 #[.agg #[.int .i64 c.x1, .int .i64 c.h1, .int .i64 c.v1, .int .i64 c.x2, .int .i64 c.h2, .int .i64 c.v2]] w fun e w' => e = .returned (.bool true) ∧ Below w.heap.size w w' := by
  have HC := Lib.hid (fun w => crossing_bad c o w)
  have HL := Lib.hid (fun w => least_bad c o w)
  have HR := Lib.hid (fun w => refCheckCross_any c w)
  rw [ccE_bad c o] at HR
  clear o
  go_enter Try.func5, Try.ntmps5
  go_wp2_with fail
  refine (awake_any _).mono ?_
  rintro e w1 ⟨rfl, hb1⟩
  have qw10 : w1.cell? ⟨w.heap.size, 0, none⟩ = some (.int .i64 c.x1) := cell_later hb1 (by simp [go_sem])
  have qw11 : w1.cell? ⟨w.heap.size, 1, none⟩ = some (.int .i64 c.h1) := cell_later hb1 (by simp [go_sem])
  have qw12 : w1.cell? ⟨w.heap.size, 2, none⟩ = some (.int .i64 c.v1) := cell_later hb1 (by simp [go_sem])
  have qw13 : w1.cell? ⟨w.heap.size, 3, none⟩ = some (.int .i64 c.x2) := cell_later hb1 (by simp [go_sem])
  have qw14 : w1.cell? ⟨w.heap.size, 4, none⟩ = some (.int .i64 c.h2) := cell_later hb1 (by simp [go_sem])
  have qw15 : w1.cell? ⟨w.heap.size, 5, none⟩ = some (.int .i64 c.v2) := cell_later hb1 (by simp [go_sem])
  have zqw1_0 := World.block_lt_of_cell? _ _ qw10
  dsimp only at zqw1_0
  have H1 := Lib.hid (below_after (by repeat (first | exact Below.refl _ _ | refine Below.drew ?_ | refine below_drewN ?_ _ | refine Below.setCell ?_ (by first | omega | (simp; done) | (simp; omega)) _ | refine Below.alloc ?_ (by first | omega | (simp; done) | (simp; omega)) _)) hb1 (by first | omega | (simp; done) | (simp; omega)) : Below w.heap.size w w1); clear hb1
  go_wp2_with fail
  refine (HC.out _).mono ?_
  rintro e w2 ⟨rfl, hb2⟩
  have qw20 : w2.cell? ⟨w.heap.size, 0, none⟩ = some (.int .i64 c.x1) := cell_later hb2 (by simp [go_sem, *])
  have qw21 : w2.cell? ⟨w.heap.size, 1, none⟩ = some (.int .i64 c.h1) := cell_later hb2 (by simp [go_sem, *])
  have qw22 : w2.cell? ⟨w.heap.size, 2, none⟩ = some (.int .i64 c.v1) := cell_later hb2 (by simp [go_sem, *])
  have qw23 : w2.cell? ⟨w.heap.size, 3, none⟩ = some (.int .i64 c.x2) := cell_later hb2 (by simp [go_sem, *])
  have qw24 : w2.cell? ⟨w.heap.size, 4, none⟩ = some (.int .i64 c.h2) := cell_later hb2 (by simp [go_sem, *])
  have qw25 : w2.cell? ⟨w.heap.size, 5, none⟩ = some (.int .i64 c.v2) := cell_later hb2 (by simp [go_sem, *])
  have zqw2_0 := World.block_lt_of_cell? _ _ qw20
  dsimp only at zqw2_0
  have H2 := Lib.hid (below_then H1.out hb2); clear hb2
  go_wp2_with fail
  refine (HL.out _).mono ?_
  rintro e w3 ⟨rfl, hb3⟩
  have qw30 : w3.cell? ⟨w.heap.size, 0, none⟩ = some (.int .i64 c.x1) := cell_later hb3 (by simp [go_sem, *])
  have qw31 : w3.cell? ⟨w.heap.size, 1, none⟩ = some (.int .i64 c.h1) := cell_later hb3 (by simp [go_sem, *])
  have qw32 : w3.cell? ⟨w.heap.size, 2, none⟩ = some (.int .i64 c.v1) := cell_later hb3 (by simp [go_sem, *])
  have qw33 : w3.cell? ⟨w.heap.size, 3, none⟩ = some (.int .i64 c.x2) := cell_later hb3 (by simp [go_sem, *])
  have qw34 : w3.cell? ⟨w.heap.size, 4, none⟩ = some (.int .i64 c.h2) := cell_later hb3 (by simp [go_sem, *])
  have qw35 : w3.cell? ⟨w.heap.size, 5, none⟩ = some (.int .i64 c.v2) := cell_later hb3 (by simp [go_sem, *])
  have zqw3_0 := World.block_lt_of_cell? _ _ qw30
  dsimp only at zqw3_0
  have H3 := Lib.hid (below_then H2.out hb3); clear hb3
  go_wp2_with fail
  refine (HR.out _).mono ?_
  rintro e w4 ⟨rfl, hb4⟩
  have qw40 : w4.cell? ⟨w.heap.size, 0, none⟩ = some (.int .i64 c.x1) := cell_later hb4 (by simp [go_sem, *])
  have qw41 : w4.cell? ⟨w.heap.size, 1, none⟩ = some (.int .i64 c.h1) := cell_later hb4 (by simp [go_sem, *])
  have qw42 : w4.cell? ⟨w.heap.size, 2, none⟩ = some (.int .i64 c.v1) := cell_later hb4 (by simp [go_sem, *])
  have qw43 : w4.cell? ⟨w.heap.size, 3, none⟩ = some (.int .i64 c.x2) := cell_later hb4 (by simp [go_sem, *])
  have qw44 : w4.cell? ⟨w.heap.size, 4, none⟩ = some (.int .i64 c.h2) := cell_later hb4 (by simp [go_sem, *])
  have qw45 : w4.cell? ⟨w.heap.size, 5, none⟩ = some (.int .i64 c.v2) := cell_later hb4 (by simp [go_sem, *])
  have qw46 : w4.cell? ⟨w3.heap.size, 0, none⟩ = some (.int .i64 0) := cell_later hb4 (by simp [go_sem, *])
  have qw47 : w4.cell? ⟨w3.heap.size, 1, none⟩ = some (.int .i64 0) := cell_later hb4 (by simp [go_sem, *])
  have zqw4_0 := World.block_lt_of_cell? _ _ qw40
  dsimp only at zqw4_0
  have zqw4_6 := World.block_lt_of_cell? _ _ qw46
  dsimp only at zqw4_6
  have H4 := Lib.hid (below_then (below_alloc_top H3.out _) hb4); clear hb4
  go_wp2
  go_ret
  exact ⟨rfl, H4.out⟩
set_option maxRecDepth 100000 in
set_option maxHeartbeats 1000000 in
theorem crossings_ok (c : Cr) (w : World) (o : c.ok) :
    Calls Try.prog 5 #[.agg #[.int .i64 c.x1, .int .i64 c.h1, .int .i64 c.v1, .int .i64 c.x2, .int .i64 c.h2, .int .i64 c.v2]] w fun e w' => e = .returned (.bool true) ∧ Below w.heap.size w w' := by
  have HC := Lib.hid (fun w => crossing_ok c o w)
  have HL := Lib.hid (fun w => least_ok c o w)
  have HR := Lib.hid (fun w => refCheckCross_any c w)
  rw [ccE_ok c o] at HR
  have RK := Lib.hid (fun w => refCrossing_any c o w)
  have RL := Lib.hid (fun w => refLeast_any c o w)
  generalize c.k = k at *
  generalize c.lLo = ll at *
  generalize c.lHi = lh at *
  clear o
  go_enter Try.func5, Try.ntmps5
  go_wp2_with fail
  refine (awake_any _).mono ?_
  rintro e w1 ⟨rfl, hb1⟩
  have qw10 : w1.cell? ⟨w.heap.size, 0, none⟩ = some (.int .i64 c.x1) := cell_later hb1 (by simp [go_sem])
  have qw11 : w1.cell? ⟨w.heap.size, 1, none⟩ = some (.int .i64 c.h1) := cell_later hb1 (by simp [go_sem])
  have qw12 : w1.cell? ⟨w.heap.size, 2, none⟩ = some (.int .i64 c.v1) := cell_later hb1 (by simp [go_sem])
  have qw13 : w1.cell? ⟨w.heap.size, 3, none⟩ = some (.int .i64 c.x2) := cell_later hb1 (by simp [go_sem])
  have qw14 : w1.cell? ⟨w.heap.size, 4, none⟩ = some (.int .i64 c.h2) := cell_later hb1 (by simp [go_sem])
  have qw15 : w1.cell? ⟨w.heap.size, 5, none⟩ = some (.int .i64 c.v2) := cell_later hb1 (by simp [go_sem])
  have zqw1_0 := World.block_lt_of_cell? _ _ qw10
  dsimp only at zqw1_0
  have H1 := Lib.hid (below_after (by repeat (first | exact Below.refl _ _ | refine Below.drew ?_ | refine below_drewN ?_ _ | refine Below.setCell ?_ (by first | omega | (simp; done) | (simp; omega)) _ | refine Below.alloc ?_ (by first | omega | (simp; done) | (simp; omega)) _)) hb1 (by first | omega | (simp; done) | (simp; omega)) : Below w.heap.size w w1); clear hb1
  go_wp2_with fail
  refine (HC.out _).mono ?_
  rintro e w2 ⟨rfl, hb2⟩
  have qw20 : w2.cell? ⟨w.heap.size, 0, none⟩ = some (.int .i64 c.x1) := cell_later hb2 (by simp [go_sem, *])
  have qw21 : w2.cell? ⟨w.heap.size, 1, none⟩ = some (.int .i64 c.h1) := cell_later hb2 (by simp [go_sem, *])
  have qw22 : w2.cell? ⟨w.heap.size, 2, none⟩ = some (.int .i64 c.v1) := cell_later hb2 (by simp [go_sem, *])
  have qw23 : w2.cell? ⟨w.heap.size, 3, none⟩ = some (.int .i64 c.x2) := cell_later hb2 (by simp [go_sem, *])
  have qw24 : w2.cell? ⟨w.heap.size, 4, none⟩ = some (.int .i64 c.h2) := cell_later hb2 (by simp [go_sem, *])
  have qw25 : w2.cell? ⟨w.heap.size, 5, none⟩ = some (.int .i64 c.v2) := cell_later hb2 (by simp [go_sem, *])
  have zqw2_0 := World.block_lt_of_cell? _ _ qw20
  dsimp only at zqw2_0
  have H2 := Lib.hid (below_then H1.out hb2); clear hb2
  go_wp2_with fail
  refine (HL.out _).mono ?_
  rintro e w3 ⟨rfl, hb3⟩
  have qw30 : w3.cell? ⟨w.heap.size, 0, none⟩ = some (.int .i64 c.x1) := cell_later hb3 (by simp [go_sem, *])
  have qw31 : w3.cell? ⟨w.heap.size, 1, none⟩ = some (.int .i64 c.h1) := cell_later hb3 (by simp [go_sem, *])
  have qw32 : w3.cell? ⟨w.heap.size, 2, none⟩ = some (.int .i64 c.v1) := cell_later hb3 (by simp [go_sem, *])
  have qw33 : w3.cell? ⟨w.heap.size, 3, none⟩ = some (.int .i64 c.x2) := cell_later hb3 (by simp [go_sem, *])
  have qw34 : w3.cell? ⟨w.heap.size, 4, none⟩ = some (.int .i64 c.h2) := cell_later hb3 (by simp [go_sem, *])
  have qw35 : w3.cell? ⟨w.heap.size, 5, none⟩ = some (.int .i64 c.v2) := cell_later hb3 (by simp [go_sem, *])
  have zqw3_0 := World.block_lt_of_cell? _ _ qw30
  dsimp only at zqw3_0
  have H3 := Lib.hid (below_then H2.out hb3); clear hb3
  go_wp2_with fail
  refine (HR.out _).mono ?_
  rintro e w4 ⟨rfl, hb4⟩
  have qw40 : w4.cell? ⟨w.heap.size, 0, none⟩ = some (.int .i64 c.x1) := cell_later hb4 (by simp [go_sem, *])
  have qw41 : w4.cell? ⟨w.heap.size, 1, none⟩ = some (.int .i64 c.h1) := cell_later hb4 (by simp [go_sem, *])
  have qw42 : w4.cell? ⟨w.heap.size, 2, none⟩ = some (.int .i64 c.v1) := cell_later hb4 (by simp [go_sem, *])
  have qw43 : w4.cell? ⟨w.heap.size, 3, none⟩ = some (.int .i64 c.x2) := cell_later hb4 (by simp [go_sem, *])
  have qw44 : w4.cell? ⟨w.heap.size, 4, none⟩ = some (.int .i64 c.h2) := cell_later hb4 (by simp [go_sem, *])
  have qw45 : w4.cell? ⟨w.heap.size, 5, none⟩ = some (.int .i64 c.v2) := cell_later hb4 (by simp [go_sem, *])
  have qw46 : w4.cell? ⟨w3.heap.size, 0, none⟩ = some (.int .i64 ll) := cell_later hb4 (by simp [go_sem, *])
  have qw47 : w4.cell? ⟨w3.heap.size, 1, none⟩ = some (.int .i64 lh) := cell_later hb4 (by simp [go_sem, *])
  have zqw4_0 := World.block_lt_of_cell? _ _ qw40
  dsimp only at zqw4_0
  have zqw4_6 := World.block_lt_of_cell? _ _ qw46
  dsimp only at zqw4_6
  have H4 := Lib.hid (below_then (below_alloc_top H3.out _) hb4); clear hb4
  go_wp2_with fail
  have hBel := H4.out
  go_region_held3 (fun w' => w'.cell? ⟨w.heap.size, 0, none⟩ = some (.int .i64 c.x1) ∧ w'.cell? ⟨w.heap.size, 1, none⟩ = some (.int .i64 c.h1) ∧ w'.cell? ⟨w.heap.size, 2, none⟩ = some (.int .i64 c.v1) ∧ w'.cell? ⟨w.heap.size, 3, none⟩ = some (.int .i64 c.x2) ∧ w'.cell? ⟨w.heap.size, 4, none⟩ = some (.int .i64 c.h2) ∧ w'.cell? ⟨w.heap.size, 5, none⟩ = some (.int .i64 c.v2) ∧ w'.cell? ⟨w3.heap.size, 0, none⟩ = some (.int .i64 ll) ∧ w'.cell? ⟨w3.heap.size, 1, none⟩ = some (.int .i64 lh) ∧ Below w.heap.size w w') ((go_split_ands; (repeat' apply And.intro) <;> first | (with_reducible assumption) | exact cell_later (by assumption) (by assumption) | exact frozen_after (by assumption) (by assumption) (by assumption) | exact below_then (by assumption) (by assumption) | exact below_alloc_top (by assumption) _ | exact cell_alloc_later (by assumption) _ | exact frozen_alloc_later (by assumption) (by assumption) _ | exact Below.drew (by assumption) | (simp [go_sem, World.cell?_alloc_past, *]; done)))
    (first
      | (go_at_call 40; refine (RK.out _).mono ?_; rintro e w' ⟨rfl, hb⟩)
      | (go_at_call 41; refine (RL.out _).mono ?_; rintro e w' ⟨rfl, hb⟩))
  go_split_ands
  go_wp2
  go_ret
  exact ⟨rfl, by with_reducible assumption⟩
theorem crossings_any (c : Cr) (w : World) :
    Calls Try.prog 5 #[.agg #[.int .i64 c.x1, .int .i64 c.h1, .int .i64 c.v1, .int .i64 c.x2, .int .i64 c.h2, .int .i64 c.v2]] w fun e w' => e = .returned (.bool true) ∧ Below w.heap.size w w' := by
  by_cases o : c.ok
  · exact crossings_ok c w o
  · exact crossings_bad c w o
end Go.Proofs.Ytdicndakelgoeaa
