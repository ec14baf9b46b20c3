/- RayCrosses: the walk -/
import Derived.Test.YtdicndakelgoeaaC6
import Derived.Test.YtdicndakelgoeaaC7
namespace Go.Proofs.Ytdicndakelgoeaa
open Go.RowKit RayM
set_option linter.unusedSimpArgs false
set_option linter.unusedVariables false
set_option maxRecDepth 100000 in
set_option maxHeartbeats 1000000 in
theorem crosses_a (c : Cr) (t : Int) (w : World) (p : ¬ In c t) (o : ¬ c.ok) :
    Calls Try.prog 4 #[.agg #[.int .i64 c.x1, .int .i64 c.h1, .int .i64 c.v1, .int .i64 c.x2, .int .i64 c.h2, .int .i64 c.v2], .int .i64 t] w fun e w' => e = .returned (.bool true) ∧ Below w.heap.size w w' := by
  have HS := Lib.hid (fun w => slopeAt_bad c t p w)
  have HT := Lib.hid (fun w => timeAtE_bad c t p w)
  have HG := Lib.hid (fun w => checkCrossing_bad c t p w)
  have HR := Lib.hid (fun w => refCheckCross_any c w)
  have HC := Lib.hid (fun w => checkCross_any c w)
  rw [ccE_bad c o] at HR HC
  clear p o
  go_enter Try.func4, Try.ntmps4
  go_wp2_with fail
  refine (awake_any _).mono ?_
  rintro e w1 ⟨rfl, hb1⟩
  have qw10 : w1.cell? ⟨w.heap.size, 0, none⟩ = some (.int .i64 c.x1) := cell_later hb1 (by simp [go_sem])
  have qw11 : w1.cell? ⟨w.heap.size, 1, none⟩ = some (.int .i64 c.h1) := cell_later hb1 (by simp [go_sem])
  have qw12 : w1.cell? ⟨w.heap.size, 2, none⟩ = some (.int .i64 c.v1) := cell_later hb1 (by simp [go_sem])
  have qw13 : w1.cell? ⟨w.heap.size, 3, none⟩ = some (.int .i64 c.x2) := cell_later hb1 (by simp [go_sem])
  have qw14 : w1.cell? ⟨w.heap.size, 4, none⟩ = some (.int .i64 c.h2) := cell_later hb1 (by simp [go_sem])
  have qw15 : w1.cell? ⟨w.heap.size, 5, none⟩ = some (.int .i64 c.v2) := cell_later hb1 (by simp [go_sem])
  have zqw1_0 := World.block_lt_of_cell? _ _ qw10
  dsimp only at zqw1_0
  have H1 := Lib.hid (below_after (by repeat (first | exact Below.refl _ _ | refine Below.drew ?_ | refine below_drewN ?_ _ | refine Below.setCell ?_ (by first | omega | (simp; done) | (simp; omega)) _ | refine Below.alloc ?_ (by first | omega | (simp; done) | (simp; omega)) _)) hb1 (by first | omega | (simp; done) | (simp; omega)) : Below w.heap.size w w1); clear hb1
  go_wp2_with fail
  refine (HS.out _).mono ?_
  rintro e w2 ⟨rfl, hb2⟩
  have qw20 : w2.cell? ⟨w.heap.size, 0, none⟩ = some (.int .i64 c.x1) := cell_later hb2 (by simp [go_sem, *])
  have qw21 : w2.cell? ⟨w.heap.size, 1, none⟩ = some (.int .i64 c.h1) := cell_later hb2 (by simp [go_sem, *])
  have qw22 : w2.cell? ⟨w.heap.size, 2, none⟩ = some (.int .i64 c.v1) := cell_later hb2 (by simp [go_sem, *])
  have qw23 : w2.cell? ⟨w.heap.size, 3, none⟩ = some (.int .i64 c.x2) := cell_later hb2 (by simp [go_sem, *])
  have qw24 : w2.cell? ⟨w.heap.size, 4, none⟩ = some (.int .i64 c.h2) := cell_later hb2 (by simp [go_sem, *])
  have qw25 : w2.cell? ⟨w.heap.size, 5, none⟩ = some (.int .i64 c.v2) := cell_later hb2 (by simp [go_sem, *])
  have zqw2_0 := World.block_lt_of_cell? _ _ qw20
  dsimp only at zqw2_0
  have H2 := Lib.hid (below_then H1.out hb2); clear hb2
  go_wp2_with fail
  refine (HT.out _).mono ?_
  rintro e w3 ⟨rfl, hb3⟩
  have qw30 : w3.cell? ⟨w.heap.size, 0, none⟩ = some (.int .i64 c.x1) := cell_later hb3 (by simp [go_sem, *])
  have qw31 : w3.cell? ⟨w.heap.size, 1, none⟩ = some (.int .i64 c.h1) := cell_later hb3 (by simp [go_sem, *])
  have qw32 : w3.cell? ⟨w.heap.size, 2, none⟩ = some (.int .i64 c.v1) := cell_later hb3 (by simp [go_sem, *])
  have qw33 : w3.cell? ⟨w.heap.size, 3, none⟩ = some (.int .i64 c.x2) := cell_later hb3 (by simp [go_sem, *])
  have qw34 : w3.cell? ⟨w.heap.size, 4, none⟩ = some (.int .i64 c.h2) := cell_later hb3 (by simp [go_sem, *])
  have qw35 : w3.cell? ⟨w.heap.size, 5, none⟩ = some (.int .i64 c.v2) := cell_later hb3 (by simp [go_sem, *])
  have zqw3_0 := World.block_lt_of_cell? _ _ qw30
  dsimp only at zqw3_0
  have H3 := Lib.hid (below_then H2.out hb3); clear hb3
  go_wp2_with fail
  refine (HG.out _).mono ?_
  rintro e w4 ⟨rfl, hb4⟩
  have qw40 : w4.cell? ⟨w.heap.size, 0, none⟩ = some (.int .i64 c.x1) := cell_later hb4 (by simp [go_sem, *])
  have qw41 : w4.cell? ⟨w.heap.size, 1, none⟩ = some (.int .i64 c.h1) := cell_later hb4 (by simp [go_sem, *])
  have qw42 : w4.cell? ⟨w.heap.size, 2, none⟩ = some (.int .i64 c.v1) := cell_later hb4 (by simp [go_sem, *])
  have qw43 : w4.cell? ⟨w.heap.size, 3, none⟩ = some (.int .i64 c.x2) := cell_later hb4 (by simp [go_sem, *])
  have qw44 : w4.cell? ⟨w.heap.size, 4, none⟩ = some (.int .i64 c.h2) := cell_later hb4 (by simp [go_sem, *])
  have qw45 : w4.cell? ⟨w.heap.size, 5, none⟩ = some (.int .i64 c.v2) := cell_later hb4 (by simp [go_sem, *])
  have qw46 : w4.cell? ⟨w3.heap.size, 0, none⟩ = some (.int .i64 0) := cell_later hb4 (by simp [go_sem, *])
  have qw47 : w4.cell? ⟨w3.heap.size, 1, none⟩ = some (.int .i64 0) := cell_later hb4 (by simp [go_sem, *])
  have zqw4_0 := World.block_lt_of_cell? _ _ qw40
  dsimp only at zqw4_0
  have zqw4_6 := World.block_lt_of_cell? _ _ qw46
  dsimp only at zqw4_6
  have H4 := Lib.hid (below_then (below_alloc_top H3.out _) hb4); clear hb4
  go_wp2_with fail
  refine (HR.out _).mono ?_
  rintro e w5 ⟨rfl, hb5⟩
  have qw50 : w5.cell? ⟨w.heap.size, 0, none⟩ = some (.int .i64 c.x1) := cell_later hb5 (by simp [go_sem, *])
  have qw51 : w5.cell? ⟨w.heap.size, 1, none⟩ = some (.int .i64 c.h1) := cell_later hb5 (by simp [go_sem, *])
  have qw52 : w5.cell? ⟨w.heap.size, 2, none⟩ = some (.int .i64 c.v1) := cell_later hb5 (by simp [go_sem, *])
  have qw53 : w5.cell? ⟨w.heap.size, 3, none⟩ = some (.int .i64 c.x2) := cell_later hb5 (by simp [go_sem, *])
  have qw54 : w5.cell? ⟨w.heap.size, 4, none⟩ = some (.int .i64 c.h2) := cell_later hb5 (by simp [go_sem, *])
  have qw55 : w5.cell? ⟨w.heap.size, 5, none⟩ = some (.int .i64 c.v2) := cell_later hb5 (by simp [go_sem, *])
  have qw56 : w5.cell? ⟨w3.heap.size, 0, none⟩ = some (.int .i64 0) := cell_later hb5 (by simp [go_sem, *])
  have qw57 : w5.cell? ⟨w3.heap.size, 1, none⟩ = some (.int .i64 0) := cell_later hb5 (by simp [go_sem, *])
  have zqw5_0 := World.block_lt_of_cell? _ _ qw50
  dsimp only at zqw5_0
  have zqw5_6 := World.block_lt_of_cell? _ _ qw56
  dsimp only at zqw5_6
  have H5 := Lib.hid (below_then H4.out hb5); clear hb5
  go_wp2_with fail
  refine (HC.out _).mono ?_
  rintro e w6 ⟨rfl, hb6⟩
  have qw60 : w6.cell? ⟨w.heap.size, 0, none⟩ = some (.int .i64 c.x1) := cell_later hb6 (by simp [go_sem, *])
  have qw61 : w6.cell? ⟨w.heap.size, 1, none⟩ = some (.int .i64 c.h1) := cell_later hb6 (by simp [go_sem, *])
  have qw62 : w6.cell? ⟨w.heap.size, 2, none⟩ = some (.int .i64 c.v1) := cell_later hb6 (by simp [go_sem, *])
  have qw63 : w6.cell? ⟨w.heap.size, 3, none⟩ = some (.int .i64 c.x2) := cell_later hb6 (by simp [go_sem, *])
  have qw64 : w6.cell? ⟨w.heap.size, 4, none⟩ = some (.int .i64 c.h2) := cell_later hb6 (by simp [go_sem, *])
  have qw65 : w6.cell? ⟨w.heap.size, 5, none⟩ = some (.int .i64 c.v2) := cell_later hb6 (by simp [go_sem, *])
  have qw66 : w6.cell? ⟨w3.heap.size, 0, none⟩ = some (.int .i64 0) := cell_later hb6 (by simp [go_sem, *])
  have qw67 : w6.cell? ⟨w3.heap.size, 1, none⟩ = some (.int .i64 0) := cell_later hb6 (by simp [go_sem, *])
  have zqw6_0 := World.block_lt_of_cell? _ _ qw60
  dsimp only at zqw6_0
  have zqw6_6 := World.block_lt_of_cell? _ _ qw66
  dsimp only at zqw6_6
  have H6 := Lib.hid (below_then H5.out hb6); clear hb6
  go_wp2
  go_ret
  exact ⟨rfl, H6.out⟩
set_option maxRecDepth 100000 in
set_option maxHeartbeats 1000000 in
theorem crosses_b (c : Cr) (t : Int) (w : World) (p : ¬ In c t) (o : c.ok) :
    Calls Try.prog 4 #[.agg #[.int .i64 c.x1, .int .i64 c.h1, .int .i64 c.v1, .int .i64 c.x2, .int .i64 c.h2, .int .i64 c.v2], .int .i64 t] w fun e w' => e = .returned (.bool true) ∧ Below w.heap.size w w' := by
  have HS := Lib.hid (fun w => slopeAt_bad c t p w)
  have HT := Lib.hid (fun w => timeAtE_bad c t p w)
  have HG := Lib.hid (fun w => checkCrossing_bad c t p w)
  have HR := Lib.hid (fun w => refCheckCross_any c w)
  have HC := Lib.hid (fun w => checkCross_any c w)
  rw [ccE_ok c o] at HR HC
  have hi : inB t c.lo c.hi = false := by
    cases h : inB t c.lo c.hi
    · rfl
    · have k := (inB_iff _ _ _).1 h
      exact absurd ⟨o, k.1, k.2⟩ p
  have HI := Lib.hid (fun w => refIs_any c t w)
  rw [hi] at HI
  clear p o hi
  go_enter Try.func4, Try.ntmps4
  go_wp2_with fail
  refine (awake_any _).mono ?_
  rintro e w1 ⟨rfl, hb1⟩
  have qw10 : w1.cell? ⟨w.heap.size, 0, none⟩ = some (.int .i64 c.x1) := cell_later hb1 (by simp [go_sem])
  have qw11 : w1.cell? ⟨w.heap.size, 1, none⟩ = some (.int .i64 c.h1) := cell_later hb1 (by simp [go_sem])
  have qw12 : w1.cell? ⟨w.heap.size, 2, none⟩ = some (.int .i64 c.v1) := cell_later hb1 (by simp [go_sem])
  have qw13 : w1.cell? ⟨w.heap.size, 3, none⟩ = some (.int .i64 c.x2) := cell_later hb1 (by simp [go_sem])
  have qw14 : w1.cell? ⟨w.heap.size, 4, none⟩ = some (.int .i64 c.h2) := cell_later hb1 (by simp [go_sem])
  have qw15 : w1.cell? ⟨w.heap.size, 5, none⟩ = some (.int .i64 c.v2) := cell_later hb1 (by simp [go_sem])
  have zqw1_0 := World.block_lt_of_cell? _ _ qw10
  dsimp only at zqw1_0
  have H1 := Lib.hid (below_after (by repeat (first | exact Below.refl _ _ | refine Below.drew ?_ | refine below_drewN ?_ _ | refine Below.setCell ?_ (by first | omega | (simp; done) | (simp; omega)) _ | refine Below.alloc ?_ (by first | omega | (simp; done) | (simp; omega)) _)) hb1 (by first | omega | (simp; done) | (simp; omega)) : Below w.heap.size w w1); clear hb1
  go_wp2_with fail
  refine (HS.out _).mono ?_
  rintro e w2 ⟨rfl, hb2⟩
  have qw20 : w2.cell? ⟨w.heap.size, 0, none⟩ = some (.int .i64 c.x1) := cell_later hb2 (by simp [go_sem, *])
  have qw21 : w2.cell? ⟨w.heap.size, 1, none⟩ = some (.int .i64 c.h1) := cell_later hb2 (by simp [go_sem, *])
  have qw22 : w2.cell? ⟨w.heap.size, 2, none⟩ = some (.int .i64 c.v1) := cell_later hb2 (by simp [go_sem, *])
  have qw23 : w2.cell? ⟨w.heap.size, 3, none⟩ = some (.int .i64 c.x2) := cell_later hb2 (by simp [go_sem, *])
  have qw24 : w2.cell? ⟨w.heap.size, 4, none⟩ = some (.int .i64 c.h2) := cell_later hb2 (by simp [go_sem, *])
  have qw25 : w2.cell? ⟨w.heap.size, 5, none⟩ = some (.int .i64 c.v2) := cell_later hb2 (by simp [go_sem, *])
  have zqw2_0 := World.block_lt_of_cell? _ _ qw20
  dsimp only at zqw2_0
  have H2 := Lib.hid (below_then H1.out hb2); clear hb2
  go_wp2_with fail
  refine (HT.out _).mono ?_
  rintro e w3 ⟨rfl, hb3⟩
  have qw30 : w3.cell? ⟨w.heap.size, 0, none⟩ = some (.int .i64 c.x1) := cell_later hb3 (by simp [go_sem, *])
  have qw31 : w3.cell? ⟨w.heap.size, 1, none⟩ = some (.int .i64 c.h1) := cell_later hb3 (by simp [go_sem, *])
  have qw32 : w3.cell? ⟨w.heap.size, 2, none⟩ = some (.int .i64 c.v1) := cell_later hb3 (by simp [go_sem, *])
  have qw33 : w3.cell? ⟨w.heap.size, 3, none⟩ = some (.int .i64 c.x2) := cell_later hb3 (by simp [go_sem, *])
  have qw34 : w3.cell? ⟨w.heap.size, 4, none⟩ = some (.int .i64 c.h2) := cell_later hb3 (by simp [go_sem, *])
  have qw35 : w3.cell? ⟨w.heap.size, 5, none⟩ = some (.int .i64 c.v2) := cell_later hb3 (by simp [go_sem, *])
  have zqw3_0 := World.block_lt_of_cell? _ _ qw30
  dsimp only at zqw3_0
  have H3 := Lib.hid (below_then H2.out hb3); clear hb3
  go_wp2_with fail
  refine (HG.out _).mono ?_
  rintro e w4 ⟨rfl, hb4⟩
  have qw40 : w4.cell? ⟨w.heap.size, 0, none⟩ = some (.int .i64 c.x1) := cell_later hb4 (by simp [go_sem, *])
  have qw41 : w4.cell? ⟨w.heap.size, 1, none⟩ = some (.int .i64 c.h1) := cell_later hb4 (by simp [go_sem, *])
  have qw42 : w4.cell? ⟨w.heap.size, 2, none⟩ = some (.int .i64 c.v1) := cell_later hb4 (by simp [go_sem, *])
  have qw43 : w4.cell? ⟨w.heap.size, 3, none⟩ = some (.int .i64 c.x2) := cell_later hb4 (by simp [go_sem, *])
  have qw44 : w4.cell? ⟨w.heap.size, 4, none⟩ = some (.int .i64 c.h2) := cell_later hb4 (by simp [go_sem, *])
  have qw45 : w4.cell? ⟨w.heap.size, 5, none⟩ = some (.int .i64 c.v2) := cell_later hb4 (by simp [go_sem, *])
  have qw46 : w4.cell? ⟨w3.heap.size, 0, none⟩ = some (.int .i64 0) := cell_later hb4 (by simp [go_sem, *])
  have qw47 : w4.cell? ⟨w3.heap.size, 1, none⟩ = some (.int .i64 0) := cell_later hb4 (by simp [go_sem, *])
  have zqw4_0 := World.block_lt_of_cell? _ _ qw40
  dsimp only at zqw4_0
  have zqw4_6 := World.block_lt_of_cell? _ _ qw46
  dsimp only at zqw4_6
  have H4 := Lib.hid (below_then (below_alloc_top H3.out _) hb4); clear hb4
  go_wp2_with fail
  refine (HR.out _).mono ?_
  rintro e w5 ⟨rfl, hb5⟩
  have qw50 : w5.cell? ⟨w.heap.size, 0, none⟩ = some (.int .i64 c.x1) := cell_later hb5 (by simp [go_sem, *])
  have qw51 : w5.cell? ⟨w.heap.size, 1, none⟩ = some (.int .i64 c.h1) := cell_later hb5 (by simp [go_sem, *])
  have qw52 : w5.cell? ⟨w.heap.size, 2, none⟩ = some (.int .i64 c.v1) := cell_later hb5 (by simp [go_sem, *])
  have qw53 : w5.cell? ⟨w.heap.size, 3, none⟩ = some (.int .i64 c.x2) := cell_later hb5 (by simp [go_sem, *])
  have qw54 : w5.cell? ⟨w.heap.size, 4, none⟩ = some (.int .i64 c.h2) := cell_later hb5 (by simp [go_sem, *])
  have qw55 : w5.cell? ⟨w.heap.size, 5, none⟩ = some (.int .i64 c.v2) := cell_later hb5 (by simp [go_sem, *])
  have qw56 : w5.cell? ⟨w3.heap.size, 0, none⟩ = some (.int .i64 0) := cell_later hb5 (by simp [go_sem, *])
  have qw57 : w5.cell? ⟨w3.heap.size, 1, none⟩ = some (.int .i64 0) := cell_later hb5 (by simp [go_sem, *])
  have zqw5_0 := World.block_lt_of_cell? _ _ qw50
  dsimp only at zqw5_0
  have zqw5_6 := World.block_lt_of_cell? _ _ qw56
  dsimp only at zqw5_6
  have H5 := Lib.hid (below_then H4.out hb5); clear hb5
  go_wp2_with fail
  refine (HC.out _).mono ?_
  rintro e w6 ⟨rfl, hb6⟩
  have qw60 : w6.cell? ⟨w.heap.size, 0, none⟩ = some (.int .i64 c.x1) := cell_later hb6 (by simp [go_sem, *])
  have qw61 : w6.cell? ⟨w.heap.size, 1, none⟩ = some (.int .i64 c.h1) := cell_later hb6 (by simp [go_sem, *])
  have qw62 : w6.cell? ⟨w.heap.size, 2, none⟩ = some (.int .i64 c.v1) := cell_later hb6 (by simp [go_sem, *])
  have qw63 : w6.cell? ⟨w.heap.size, 3, none⟩ = some (.int .i64 c.x2) := cell_later hb6 (by simp [go_sem, *])
  have qw64 : w6.cell? ⟨w.heap.size, 4, none⟩ = some (.int .i64 c.h2) := cell_later hb6 (by simp [go_sem, *])
  have qw65 : w6.cell? ⟨w.heap.size, 5, none⟩ = some (.int .i64 c.v2) := cell_later hb6 (by simp [go_sem, *])
  have qw66 : w6.cell? ⟨w3.heap.size, 0, none⟩ = some (.int .i64 0) := cell_later hb6 (by simp [go_sem, *])
  have qw67 : w6.cell? ⟨w3.heap.size, 1, none⟩ = some (.int .i64 0) := cell_later hb6 (by simp [go_sem, *])
  have zqw6_0 := World.block_lt_of_cell? _ _ qw60
  dsimp only at zqw6_0
  have zqw6_6 := World.block_lt_of_cell? _ _ qw66
  dsimp only at zqw6_6
  have H6 := Lib.hid (below_then H5.out hb6); clear hb6
  go_wp2_with fail
  refine (HI.out _).mono ?_
  rintro e w7 ⟨rfl, hb7⟩
  have qw70 : w7.cell? ⟨w.heap.size, 0, none⟩ = some (.int .i64 c.x1) := cell_later hb7 (by simp [go_sem, *])
  have qw71 : w7.cell? ⟨w.heap.size, 1, none⟩ = some (.int .i64 c.h1) := cell_later hb7 (by simp [go_sem, *])
  have qw72 : w7.cell? ⟨w.heap.size, 2, none⟩ = some (.int .i64 c.v1) := cell_later hb7 (by simp [go_sem, *])
  have qw73 : w7.cell? ⟨w.heap.size, 3, none⟩ = some (.int .i64 c.x2) := cell_later hb7 (by simp [go_sem, *])
  have qw74 : w7.cell? ⟨w.heap.size, 4, none⟩ = some (.int .i64 c.h2) := cell_later hb7 (by simp [go_sem, *])
  have qw75 : w7.cell? ⟨w.heap.size, 5, none⟩ = some (.int .i64 c.v2) := cell_later hb7 (by simp [go_sem, *])
  have qw76 : w7.cell? ⟨w3.heap.size, 0, none⟩ = some (.int .i64 0) := cell_later hb7 (by simp [go_sem, *])
  have qw77 : w7.cell? ⟨w3.heap.size, 1, none⟩ = some (.int .i64 0) := cell_later hb7 (by simp [go_sem, *])
  have zqw7_0 := World.block_lt_of_cell? _ _ qw70
  dsimp only at zqw7_0
  have zqw7_6 := World.block_lt_of_cell? _ _ qw76
  dsimp only at zqw7_6
  have H7 := Lib.hid (below_then H6.out hb7); clear hb7
  go_wp2
  go_ret
  exact ⟨rfl, H7.out⟩
set_option maxRecDepth 100000 in
set_option maxHeartbeats 1000000 in
theorem crosses_c (c : Cr) (t : Int) (w : World) (p : In c t) :
    Calls Try.prog 4 #[.agg #[.int .i64 c.x1, .int .i64 c.h1, .int .i64 c.v1, .int .i64 c.x2, .int .i64 c.h2, .int .i64 c.v2], .int .i64 t] w fun e w' => e = .returned (.bool true) ∧ Below w.heap.size w w' := by
  have HS := Lib.hid (fun w => slopeAt_ok c t p w)
  have HT := Lib.hid (fun w => timeAtE_ok c t p w)
  have HG := Lib.hid (fun w => checkCrossing_ok c t p w)
  have HR := Lib.hid (fun w => refCheckCross_any c w)
  have HC := Lib.hid (fun w => checkCross_any c w)
  rw [ccE_ok c p.o] at HR HC
  have HI := Lib.hid (fun w => refIs_any c t w)
  rw [(inB_iff _ _ _).2 ⟨p.l, p.h⟩] at HI
  have RS := Lib.hid (fun w => refSlope_any c t p w)
  have RT := Lib.hid (fun w => refTimeAt_any c t p w)
  have RG := Lib.hid (fun w => refCheckCrossing_any c t p w)
  generalize c.slope t = sl at *
  generalize c.tLo t = tl at *
  generalize c.tHi t = th at *
  generalize ckV c t = cv at *
  clear p
  go_enter Try.func4, Try.ntmps4
  go_wp2_with fail
  refine (awake_any _).mono ?_
  rintro e w1 ⟨rfl, hb1⟩
  have qw10 : w1.cell? ⟨w.heap.size, 0, none⟩ = some (.int .i64 c.x1) := cell_later hb1 (by simp [go_sem])
  have qw11 : w1.cell? ⟨w.heap.size, 1, none⟩ = some (.int .i64 c.h1) := cell_later hb1 (by simp [go_sem])
  have qw12 : w1.cell? ⟨w.heap.size, 2, none⟩ = some (.int .i64 c.v1) := cell_later hb1 (by simp [go_sem])
  have qw13 : w1.cell? ⟨w.heap.size, 3, none⟩ = some (.int .i64 c.x2) := cell_later hb1 (by simp [go_sem])
  have qw14 : w1.cell? ⟨w.heap.size, 4, none⟩ = some (.int .i64 c.h2) := cell_later hb1 (by simp [go_sem])
  have qw15 : w1.cell? ⟨w.heap.size, 5, none⟩ = some (.int .i64 c.v2) := cell_later hb1 (by simp [go_sem])
  have zqw1_0 := World.block_lt_of_cell? _ _ qw10
  dsimp only at zqw1_0
  have H1 := Lib.hid (below_after (by repeat (first | exact Below.refl _ _ | refine Below.drew ?_ | refine below_drewN ?_ _ | refine Below.setCell ?_ (by first | omega | (simp; done) | (simp; omega)) _ | refine Below.alloc ?_ (by first | omega | (simp; done) | (simp; omega)) _)) hb1 (by first | omega | (simp; done) | (simp; omega)) : Below w.heap.size w w1); clear hb1
  go_wp2_with fail
  refine (HS.out _).mono ?_
  rintro e w2 ⟨rfl, hb2⟩
  have qw20 : w2.cell? ⟨w.heap.size, 0, none⟩ = some (.int .i64 c.x1) := cell_later hb2 (by simp [go_sem, *])
  have qw21 : w2.cell? ⟨w.heap.size, 1, none⟩ = some (.int .i64 c.h1) := cell_later hb2 (by simp [go_sem, *])
  have qw22 : w2.cell? ⟨w.heap.size, 2, none⟩ = some (.int .i64 c.v1) := cell_later hb2 (by simp [go_sem, *])
  have qw23 : w2.cell? ⟨w.heap.size, 3, none⟩ = some (.int .i64 c.x2) := cell_later hb2 (by simp [go_sem, *])
  have qw24 : w2.cell? ⟨w.heap.size, 4, none⟩ = some (.int .i64 c.h2) := cell_later hb2 (by simp [go_sem, *])
  have qw25 : w2.cell? ⟨w.heap.size, 5, none⟩ = some (.int .i64 c.v2) := cell_later hb2 (by simp [go_sem, *])
  have zqw2_0 := World.block_lt_of_cell? _ _ qw20
  dsimp only at zqw2_0
  have H2 := Lib.hid (below_then H1.out hb2); clear hb2
  go_wp2_with fail
  refine (HT.out _).mono ?_
  rintro e w3 ⟨rfl, hb3⟩
  have qw30 : w3.cell? ⟨w.heap.size, 0, none⟩ = some (.int .i64 c.x1) := cell_later hb3 (by simp [go_sem, *])
  have qw31 : w3.cell? ⟨w.heap.size, 1, none⟩ = some (.int .i64 c.h1) := cell_later hb3 (by simp [go_sem, *])
  have qw32 : w3.cell? ⟨w.heap.size, 2, none⟩ = some (.int .i64 c.v1) := cell_later hb3 (by simp [go_sem, *])
  have qw33 : w3.cell? ⟨w.heap.size, 3, none⟩ = some (.int .i64 c.x2) := cell_later hb3 (by simp [go_sem, *])
  have qw34 : w3.cell? ⟨w.heap.size, 4, none⟩ = some (.int .i64 c.h2) := cell_later hb3 (by simp [go_sem, *])
  have qw35 : w3.cell? ⟨w.heap.size, 5, none⟩ = some (.int .i64 c.v2) := cell_later hb3 (by simp [go_sem, *])
  have zqw3_0 := World.block_lt_of_cell? _ _ qw30
  dsimp only at zqw3_0
  have H3 := Lib.hid (below_then H2.out hb3); clear hb3
  go_wp2_with fail
  refine (HG.out _).mono ?_
  rintro e w4 ⟨rfl, hb4⟩
  have qw40 : w4.cell? ⟨w.heap.size, 0, none⟩ = some (.int .i64 c.x1) := cell_later hb4 (by simp [go_sem, *])
  have qw41 : w4.cell? ⟨w.heap.size, 1, none⟩ = some (.int .i64 c.h1) := cell_later hb4 (by simp [go_sem, *])
  have qw42 : w4.cell? ⟨w.heap.size, 2, none⟩ = some (.int .i64 c.v1) := cell_later hb4 (by simp [go_sem, *])
  have qw43 : w4.cell? ⟨w.heap.size, 3, none⟩ = some (.int .i64 c.x2) := cell_later hb4 (by simp [go_sem, *])
  have qw44 : w4.cell? ⟨w.heap.size, 4, none⟩ = some (.int .i64 c.h2) := cell_later hb4 (by simp [go_sem, *])
  have qw45 : w4.cell? ⟨w.heap.size, 5, none⟩ = some (.int .i64 c.v2) := cell_later hb4 (by simp [go_sem, *])
  have qw46 : w4.cell? ⟨w3.heap.size, 0, none⟩ = some (.int .i64 tl) := cell_later hb4 (by simp [go_sem, *])
  have qw47 : w4.cell? ⟨w3.heap.size, 1, none⟩ = some (.int .i64 th) := cell_later hb4 (by simp [go_sem, *])
  have zqw4_0 := World.block_lt_of_cell? _ _ qw40
  dsimp only at zqw4_0
  have zqw4_6 := World.block_lt_of_cell? _ _ qw46
  dsimp only at zqw4_6
  have H4 := Lib.hid (below_then (below_alloc_top H3.out _) hb4); clear hb4
  go_wp2_with fail
  refine (HR.out _).mono ?_
  rintro e w5 ⟨rfl, hb5⟩
  have qw50 : w5.cell? ⟨w.heap.size, 0, none⟩ = some (.int .i64 c.x1) := cell_later hb5 (by simp [go_sem, *])
  have qw51 : w5.cell? ⟨w.heap.size, 1, none⟩ = some (.int .i64 c.h1) := cell_later hb5 (by simp [go_sem, *])
  have qw52 : w5.cell? ⟨w.heap.size, 2, none⟩ = some (.int .i64 c.v1) := cell_later hb5 (by simp [go_sem, *])
  have qw53 : w5.cell? ⟨w.heap.size, 3, none⟩ = some (.int .i64 c.x2) := cell_later hb5 (by simp [go_sem, *])
  have qw54 : w5.cell? ⟨w.heap.size, 4, none⟩ = some (.int .i64 c.h2) := cell_later hb5 (by simp [go_sem, *])
  have qw55 : w5.cell? ⟨w.heap.size, 5, none⟩ = some (.int .i64 c.v2) := cell_later hb5 (by simp [go_sem, *])
  have qw56 : w5.cell? ⟨w3.heap.size, 0, none⟩ = some (.int .i64 tl) := cell_later hb5 (by simp [go_sem, *])
  have qw57 : w5.cell? ⟨w3.heap.size, 1, none⟩ = some (.int .i64 th) := cell_later hb5 (by simp [go_sem, *])
  have zqw5_0 := World.block_lt_of_cell? _ _ qw50
  dsimp only at zqw5_0
  have zqw5_6 := World.block_lt_of_cell? _ _ qw56
  dsimp only at zqw5_6
  have H5 := Lib.hid (below_then H4.out hb5); clear hb5
  go_wp2_with fail
  refine (HC.out _).mono ?_
  rintro e w6 ⟨rfl, hb6⟩
  have qw60 : w6.cell? ⟨w.heap.size, 0, none⟩ = some (.int .i64 c.x1) := cell_later hb6 (by simp [go_sem, *])
  have qw61 : w6.cell? ⟨w.heap.size, 1, none⟩ = some (.int .i64 c.h1) := cell_later hb6 (by simp [go_sem, *])
  have qw62 : w6.cell? ⟨w.heap.size, 2, none⟩ = some (.int .i64 c.v1) := cell_later hb6 (by simp [go_sem, *])
  have qw63 : w6.cell? ⟨w.heap.size, 3, none⟩ = some (.int .i64 c.x2) := cell_later hb6 (by simp [go_sem, *])
  have qw64 : w6.cell? ⟨w.heap.size, 4, none⟩ = some (.int .i64 c.h2) := cell_later hb6 (by simp [go_sem, *])
  have qw65 : w6.cell? ⟨w.heap.size, 5, none⟩ = some (.int .i64 c.v2) := cell_later hb6 (by simp [go_sem, *])
  have qw66 : w6.cell? ⟨w3.heap.size, 0, none⟩ = some (.int .i64 tl) := cell_later hb6 (by simp [go_sem, *])
  have qw67 : w6.cell? ⟨w3.heap.size, 1, none⟩ = some (.int .i64 th) := cell_later hb6 (by simp [go_sem, *])
  have zqw6_0 := World.block_lt_of_cell? _ _ qw60
  dsimp only at zqw6_0
  have zqw6_6 := World.block_lt_of_cell? _ _ qw66
  dsimp only at zqw6_6
  have H6 := Lib.hid (below_then H5.out hb6); clear hb6
  go_wp2_with fail
  refine (HI.out _).mono ?_
  rintro e w7 ⟨rfl, hb7⟩
  have qw70 : w7.cell? ⟨w.heap.size, 0, none⟩ = some (.int .i64 c.x1) := cell_later hb7 (by simp [go_sem, *])
  have qw71 : w7.cell? ⟨w.heap.size, 1, none⟩ = some (.int .i64 c.h1) := cell_later hb7 (by simp [go_sem, *])
  have qw72 : w7.cell? ⟨w.heap.size, 2, none⟩ = some (.int .i64 c.v1) := cell_later hb7 (by simp [go_sem, *])
  have qw73 : w7.cell? ⟨w.heap.size, 3, none⟩ = some (.int .i64 c.x2) := cell_later hb7 (by simp [go_sem, *])
  have qw74 : w7.cell? ⟨w.heap.size, 4, none⟩ = some (.int .i64 c.h2) := cell_later hb7 (by simp [go_sem, *])
  have qw75 : w7.cell? ⟨w.heap.size, 5, none⟩ = some (.int .i64 c.v2) := cell_later hb7 (by simp [go_sem, *])
  have qw76 : w7.cell? ⟨w3.heap.size, 0, none⟩ = some (.int .i64 tl) := cell_later hb7 (by simp [go_sem, *])
  have qw77 : w7.cell? ⟨w3.heap.size, 1, none⟩ = some (.int .i64 th) := cell_later hb7 (by simp [go_sem, *])
  have zqw7_0 := World.block_lt_of_cell? _ _ qw70
  dsimp only at zqw7_0
  have zqw7_6 := World.block_lt_of_cell? _ _ qw76
  dsimp only at zqw7_6
  have H7 := Lib.hid (below_then H6.out hb7); clear hb7
  go_wp2_with fail
  have hBel := H7.out
  go_region_held3 (fun w' => w'.cell? ⟨w.heap.size, 0, none⟩ = some (.int .i64 c.x1) ∧ w'.cell? ⟨w.heap.size, 1, none⟩ = some (.int .i64 c.h1) ∧ w'.cell? ⟨w.heap.size, 2, none⟩ = some (.int .i64 c.v1) ∧ w'.cell? ⟨w.heap.size, 3, none⟩ = some (.int .i64 c.x2) ∧ w'.cell? ⟨w.heap.size, 4, none⟩ = some (.int .i64 c.h2) ∧ w'.cell? ⟨w.heap.size, 5, none⟩ = some (.int .i64 c.v2) ∧ w'.cell? ⟨w3.heap.size, 0, none⟩ = some (.int .i64 tl) ∧ w'.cell? ⟨w3.heap.size, 1, none⟩ = some (.int .i64 th) ∧ Below w.heap.size w w') ((go_split_ands; (repeat' apply And.intro) <;> first | (with_reducible assumption) | exact cell_later (by assumption) (by assumption) | exact frozen_after (by assumption) (by assumption) (by assumption) | exact below_then (by assumption) (by assumption) | exact below_alloc_top (by assumption) _ | exact cell_alloc_later (by assumption) _ | exact frozen_alloc_later (by assumption) (by assumption) _ | exact Below.drew (by assumption) | (simp [go_sem, World.cell?_alloc_past, *]; done)))
    (first
      | (go_at_call 35; refine (RS.out _).mono ?_; rintro e w' ⟨rfl, hb⟩)
      | (go_at_call 36; refine (RT.out _).mono ?_; rintro e w' ⟨rfl, hb⟩)
      | (go_at_call 37; refine (RG.out _).mono ?_; rintro e w' ⟨rfl, hb⟩))
  go_split_ands
  go_wp2
  go_ret
  exact ⟨rfl, by with_reducible assumption⟩
theorem crosses_any (c : Cr) (t : Int) (w : World) :
    Calls Try.prog 4 #[.agg #[.int .i64 c.x1, .int .i64 c.h1, .int .i64 c.v1, .int .i64 c.x2, .int .i64 c.h2, .int .i64 c.v2], .int .i64 t] w fun e w' => e = .returned (.bool true) ∧ Below w.heap.size w w' := by
  by_cases p : In c t
  · exact crosses_c c t w p
  · by_cases o : c.ok
    · exact crosses_b c t w p o
    · exact crosses_a c t w p o
end Go.Proofs.Ytdicndakelgoeaa
