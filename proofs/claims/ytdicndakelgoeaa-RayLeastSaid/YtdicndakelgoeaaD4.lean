/- RayLeast: the walk -/
import Derived.Test.YtdicndakelgoeaaC3
import Derived.Test.YtdicndakelgoeaaD3
namespace Go.Proofs.Ytdicndakelgoeaa
open Go.RowKit RayM
set_option linter.unusedSimpArgs false
set_option linter.unusedVariables false
theorem k_in (c : Cr) (o : c.ok) : In c c.k := by have h := k_is c o; exact ⟨o, h.a, h.b⟩
theorem ckV_k (c : Cr) (o : c.ok) : ckV c c.k = 0 := by
  have h := k_is c o
  have h1 := h.p c.k h.a (Int.le_refl _)
  unfold ckV
  rw [if_neg (by omega), if_neg]
  rintro ⟨a, b⟩
  have := h.b
  have := h.q (c.k + 1) (by omega) (by omega)
  omega
theorem ckV_other (c : Cr) (t : Int) (p : In c t) (h : t ≠ c.k) : ckV c t = 18 := by
  have k := k_is c p.o
  unfold ckV
  by_cases hlt : t < c.k
  · have a := k.p t p.l (by omega)
    have b := k.p (t + 1) (by have := p.l; omega) (by omega)
    have := k.b
    rw [if_neg (by omega), if_pos ⟨by omega, b⟩]
  · have a := k.q t (by omega) p.h
    rw [if_pos a]
theorem lHi_k (c : Cr) : c.lHi ≤ c.tHi c.k := by unfold Cr.lHi; split <;> omega
set_option maxRecDepth 100000 in
set_option maxHeartbeats 1000000 in
theorem least_law_bad (c : Cr) (o : ¬ c.ok) (t : Int) (w : World) :
    Calls Try.prog 6 #[.agg #[.int .i64 c.x1, .int .i64 c.h1, .int .i64 c.v1, .int .i64 c.x2, .int .i64 c.h2, .int .i64 c.v2], .int .i64 t] w fun e w' => e = .returned (.bool true) ∧ Below w.heap.size w w' := by
  have HC := Lib.hid (fun w => crossing_bad c o w)
  have HL := Lib.hid (fun w => least_bad c o w)
  go_enter Try.func6, Try.ntmps6
  go_wp2_with fail
  refine (awake_any _).mono ?_
  rintro e w1 ⟨rfl, hb1⟩
  have qw10 : w1.cell? ⟨w.heap.size, 0, none⟩ = some (.int .i64 c.x1) := cell_later hb1 (by simp [go_sem])
  have qw11 : w1.cell? ⟨w.heap.size, 1, none⟩ = some (.int .i64 c.h1) := cell_later hb1 (by simp [go_sem])
  have qw12 : w1.cell? ⟨w.heap.size, 2, none⟩ = some (.int .i64 c.v1) := cell_later hb1 (by simp [go_sem])
  have qw13 : w1.cell? ⟨w.heap.size, 3, none⟩ = some (.int .i64 c.x2) := cell_later hb1 (by simp [go_sem])
  have qw14 : w1.cell? ⟨w.heap.size, 4, none⟩ = some (.int .i64 c.h2) := cell_later hb1 (by simp [go_sem])
  have qw15 : w1.cell? ⟨w.heap.size, 5, none⟩ = some (.int .i64 c.v2) := cell_later hb1 (by simp [go_sem])
  have zqw1_0 := World.block_lt_of_cell? _ _ qw10
  dsimp only at zqw1_0
  have H1 := Lib.hid (below_after (by repeat (first | exact Below.refl _ _ | refine Below.drew ?_ | refine below_drewN ?_ _ | refine Below.setCell ?_ (by first | omega | (simp; done) | (simp; omega)) _ | refine Below.alloc ?_ (by first | omega | (simp; done) | (simp; omega)) _)) hb1 (by first | omega | (simp; done) | (simp; omega)) : Below w.heap.size w w1); clear hb1
  go_wp2_with fail
  refine (HC.out _).mono ?_
  rintro e w2 ⟨rfl, hb2⟩
  have qw20 : w2.cell? ⟨w.heap.size, 0, none⟩ = some (.int .i64 c.x1) := cell_later hb2 (by simp [go_sem, *])
  have qw21 : w2.cell? ⟨w.heap.size, 1, none⟩ = some (.int .i64 c.h1) := cell_later hb2 (by simp [go_sem, *])
  have qw22 : w2.cell? ⟨w.heap.size, 2, none⟩ = some (.int .i64 c.v1) := cell_later hb2 (by simp [go_sem, *])
  have qw23 : w2.cell? ⟨w.heap.size, 3, none⟩ = some (.int .i64 c.x2) := cell_later hb2 (by simp [go_sem, *])
  have qw24 : w2.cell? ⟨w.heap.size, 4, none⟩ = some (.int .i64 c.h2) := cell_later hb2 (by simp [go_sem, *])
  have qw25 : w2.cell? ⟨w.heap.size, 5, none⟩ = some (.int .i64 c.v2) := cell_later hb2 (by simp [go_sem, *])
  have zqw2_0 := World.block_lt_of_cell? _ _ qw20
  dsimp only at zqw2_0
  have H2 := Lib.hid (below_then H1.out hb2); clear hb2
  go_wp2_with fail
  refine (HL.out _).mono ?_
  rintro e w3 ⟨rfl, hb3⟩
  have qw30 : w3.cell? ⟨w.heap.size, 0, none⟩ = some (.int .i64 c.x1) := cell_later hb3 (by simp [go_sem, *])
  have qw31 : w3.cell? ⟨w.heap.size, 1, none⟩ = some (.int .i64 c.h1) := cell_later hb3 (by simp [go_sem, *])
  have qw32 : w3.cell? ⟨w.heap.size, 2, none⟩ = some (.int .i64 c.v1) := cell_later hb3 (by simp [go_sem, *])
  have qw33 : w3.cell? ⟨w.heap.size, 3, none⟩ = some (.int .i64 c.x2) := cell_later hb3 (by simp [go_sem, *])
  have qw34 : w3.cell? ⟨w.heap.size, 4, none⟩ = some (.int .i64 c.h2) := cell_later hb3 (by simp [go_sem, *])
  have qw35 : w3.cell? ⟨w.heap.size, 5, none⟩ = some (.int .i64 c.v2) := cell_later hb3 (by simp [go_sem, *])
  have zqw3_0 := World.block_lt_of_cell? _ _ qw30
  dsimp only at zqw3_0
  have H3 := Lib.hid (below_then H2.out hb3); clear hb3
  go_wp2
  go_ret
  exact ⟨rfl, (by (repeat (first | (with_reducible exact H3.out) | (with_reducible refine Below.setCell ?_ ?_ _) | (with_reducible refine below_alloc_top ?_ _) | (with_reducible refine Below.drew ?_))); all_goals (first | omega | (simp; done) | (simp; omega)))⟩
set_option maxRecDepth 100000 in
set_option maxHeartbeats 1000000 in
theorem least_law_out (c : Cr) (o : c.ok) (t : Int) (w : World) (p : ¬ In c t) :
    Calls Try.prog 6 #[.agg #[.int .i64 c.x1, .int .i64 c.h1, .int .i64 c.v1, .int .i64 c.x2, .int .i64 c.h2, .int .i64 c.v2], .int .i64 t] w fun e w' => e = .returned (.bool true) ∧ Below w.heap.size w w' := by
  have HC := Lib.hid (fun w => crossing_ok c o w)
  have HL := Lib.hid (fun w => least_ok c o w)
  have HT := Lib.hid (fun w => timeAtE_ok c c.k (k_in c o) w)
  have hk := fun w => checkCrossing_ok c c.k (k_in c o) w
  rw [ckV_k c o] at hk
  have HK := Lib.hid hk; clear hk
  have HS := Lib.hid (fun w => slopeAt_ok c c.k (k_in c o) w)
  have s0 := (k_is c o).p c.k (k_is c o).a (Int.le_refl _)
  have b0 := lLo_lHi c o
  have b1 := (l_bounds c o).1
  have b2 := lHi_k c
  have b3 := least_is c o c.k (k_is c o).a (k_is c o).b
  have HV := Lib.hid (fun w => timeAtE_bad c t p w)
  clear p
  generalize c.tLo c.k = ul at *
  generalize c.tHi c.k = uh at *
  generalize c.lLo = lo at *
  generalize c.lHi = hi at *
  generalize c.slope c.k = sk at *
  generalize c.k = k at *
  go_enter Try.func6, Try.ntmps6
  go_wp2_with fail
  refine (awake_any _).mono ?_
  rintro e w1 ⟨rfl, hb1⟩
  have qw10 : w1.cell? ⟨w.heap.size, 0, none⟩ = some (.int .i64 c.x1) := cell_later hb1 (by simp [go_sem])
  have qw11 : w1.cell? ⟨w.heap.size, 1, none⟩ = some (.int .i64 c.h1) := cell_later hb1 (by simp [go_sem])
  have qw12 : w1.cell? ⟨w.heap.size, 2, none⟩ = some (.int .i64 c.v1) := cell_later hb1 (by simp [go_sem])
  have qw13 : w1.cell? ⟨w.heap.size, 3, none⟩ = some (.int .i64 c.x2) := cell_later hb1 (by simp [go_sem])
  have qw14 : w1.cell? ⟨w.heap.size, 4, none⟩ = some (.int .i64 c.h2) := cell_later hb1 (by simp [go_sem])
  have qw15 : w1.cell? ⟨w.heap.size, 5, none⟩ = some (.int .i64 c.v2) := cell_later hb1 (by simp [go_sem])
  have zqw1_0 := World.block_lt_of_cell? _ _ qw10
  dsimp only at zqw1_0
  have H1 := Lib.hid (below_after (by repeat (first | exact Below.refl _ _ | refine Below.drew ?_ | refine below_drewN ?_ _ | refine Below.setCell ?_ (by first | omega | (simp; done) | (simp; omega)) _ | refine Below.alloc ?_ (by first | omega | (simp; done) | (simp; omega)) _)) hb1 (by first | omega | (simp; done) | (simp; omega)) : Below w.heap.size w w1); clear hb1
  go_wp2_with fail
  refine (HC.out _).mono ?_
  rintro e w2 ⟨rfl, hb2⟩
  have qw20 : w2.cell? ⟨w.heap.size, 0, none⟩ = some (.int .i64 c.x1) := cell_later hb2 (by simp [go_sem, *])
  have qw21 : w2.cell? ⟨w.heap.size, 1, none⟩ = some (.int .i64 c.h1) := cell_later hb2 (by simp [go_sem, *])
  have qw22 : w2.cell? ⟨w.heap.size, 2, none⟩ = some (.int .i64 c.v1) := cell_later hb2 (by simp [go_sem, *])
  have qw23 : w2.cell? ⟨w.heap.size, 3, none⟩ = some (.int .i64 c.x2) := cell_later hb2 (by simp [go_sem, *])
  have qw24 : w2.cell? ⟨w.heap.size, 4, none⟩ = some (.int .i64 c.h2) := cell_later hb2 (by simp [go_sem, *])
  have qw25 : w2.cell? ⟨w.heap.size, 5, none⟩ = some (.int .i64 c.v2) := cell_later hb2 (by simp [go_sem, *])
  have zqw2_0 := World.block_lt_of_cell? _ _ qw20
  dsimp only at zqw2_0
  have H2 := Lib.hid (below_then H1.out hb2); clear hb2
  go_wp2_with fail
  refine (HL.out _).mono ?_
  rintro e w3 ⟨rfl, hb3⟩
  have qw30 : w3.cell? ⟨w.heap.size, 0, none⟩ = some (.int .i64 c.x1) := cell_later hb3 (by simp [go_sem, *])
  have qw31 : w3.cell? ⟨w.heap.size, 1, none⟩ = some (.int .i64 c.h1) := cell_later hb3 (by simp [go_sem, *])
  have qw32 : w3.cell? ⟨w.heap.size, 2, none⟩ = some (.int .i64 c.v1) := cell_later hb3 (by simp [go_sem, *])
  have qw33 : w3.cell? ⟨w.heap.size, 3, none⟩ = some (.int .i64 c.x2) := cell_later hb3 (by simp [go_sem, *])
  have qw34 : w3.cell? ⟨w.heap.size, 4, none⟩ = some (.int .i64 c.h2) := cell_later hb3 (by simp [go_sem, *])
  have qw35 : w3.cell? ⟨w.heap.size, 5, none⟩ = some (.int .i64 c.v2) := cell_later hb3 (by simp [go_sem, *])
  have zqw3_0 := World.block_lt_of_cell? _ _ qw30
  dsimp only at zqw3_0
  have H3 := Lib.hid (below_then H2.out hb3); clear hb3
  go_wp2_with fail
  refine (HT.out _).mono ?_
  rintro e w4 ⟨rfl, hb4⟩
  have qw40 : w4.cell? ⟨w.heap.size, 0, none⟩ = some (.int .i64 c.x1) := cell_later hb4 (by simp [go_sem, *])
  have qw41 : w4.cell? ⟨w.heap.size, 1, none⟩ = some (.int .i64 c.h1) := cell_later hb4 (by simp [go_sem, *])
  have qw42 : w4.cell? ⟨w.heap.size, 2, none⟩ = some (.int .i64 c.v1) := cell_later hb4 (by simp [go_sem, *])
  have qw43 : w4.cell? ⟨w.heap.size, 3, none⟩ = some (.int .i64 c.x2) := cell_later hb4 (by simp [go_sem, *])
  have qw44 : w4.cell? ⟨w.heap.size, 4, none⟩ = some (.int .i64 c.h2) := cell_later hb4 (by simp [go_sem, *])
  have qw45 : w4.cell? ⟨w.heap.size, 5, none⟩ = some (.int .i64 c.v2) := cell_later hb4 (by simp [go_sem, *])
  have qw46 : w4.cell? ⟨w3.heap.size, 0, none⟩ = some (.int .i64 lo) := cell_later hb4 (by simp [go_sem, *])
  have qw47 : w4.cell? ⟨w3.heap.size, 1, none⟩ = some (.int .i64 hi) := cell_later hb4 (by simp [go_sem, *])
  have zqw4_0 := World.block_lt_of_cell? _ _ qw40
  dsimp only at zqw4_0
  have zqw4_6 := World.block_lt_of_cell? _ _ qw46
  dsimp only at zqw4_6
  have H4 := Lib.hid (below_then (below_alloc_top H3.out _) hb4); clear hb4
  go_wp2_with fail
  refine (HK.out _).mono ?_
  rintro e w5 ⟨rfl, hb5⟩
  have qw50 : w5.cell? ⟨w.heap.size, 0, none⟩ = some (.int .i64 c.x1) := cell_later hb5 (by simp [go_sem, *])
  have qw51 : w5.cell? ⟨w.heap.size, 1, none⟩ = some (.int .i64 c.h1) := cell_later hb5 (by simp [go_sem, *])
  have qw52 : w5.cell? ⟨w.heap.size, 2, none⟩ = some (.int .i64 c.v1) := cell_later hb5 (by simp [go_sem, *])
  have qw53 : w5.cell? ⟨w.heap.size, 3, none⟩ = some (.int .i64 c.x2) := cell_later hb5 (by simp [go_sem, *])
  have qw54 : w5.cell? ⟨w.heap.size, 4, none⟩ = some (.int .i64 c.h2) := cell_later hb5 (by simp [go_sem, *])
  have qw55 : w5.cell? ⟨w.heap.size, 5, none⟩ = some (.int .i64 c.v2) := cell_later hb5 (by simp [go_sem, *])
  have qw56 : w5.cell? ⟨w3.heap.size, 0, none⟩ = some (.int .i64 lo) := cell_later hb5 (by simp [go_sem, *])
  have qw57 : w5.cell? ⟨w3.heap.size, 1, none⟩ = some (.int .i64 hi) := cell_later hb5 (by simp [go_sem, *])
  have qw58 : w5.cell? ⟨w4.heap.size, 0, none⟩ = some (.int .i64 ul) := cell_later hb5 (by simp [go_sem, *])
  have qw59 : w5.cell? ⟨w4.heap.size, 1, none⟩ = some (.int .i64 uh) := cell_later hb5 (by simp [go_sem, *])
  have zqw5_0 := World.block_lt_of_cell? _ _ qw50
  dsimp only at zqw5_0
  have zqw5_6 := World.block_lt_of_cell? _ _ qw56
  dsimp only at zqw5_6
  have zqw5_8 := World.block_lt_of_cell? _ _ qw58
  dsimp only at zqw5_8
  have H5 := Lib.hid (below_then (below_alloc_top H4.out _) hb5); clear hb5
  go_wp2_with fail
  refine (HS.out _).mono ?_
  rintro e w6 ⟨rfl, hb6⟩
  have qw60 : w6.cell? ⟨w.heap.size, 0, none⟩ = some (.int .i64 c.x1) := cell_later hb6 (by simp [go_sem, *])
  have qw61 : w6.cell? ⟨w.heap.size, 1, none⟩ = some (.int .i64 c.h1) := cell_later hb6 (by simp [go_sem, *])
  have qw62 : w6.cell? ⟨w.heap.size, 2, none⟩ = some (.int .i64 c.v1) := cell_later hb6 (by simp [go_sem, *])
  have qw63 : w6.cell? ⟨w.heap.size, 3, none⟩ = some (.int .i64 c.x2) := cell_later hb6 (by simp [go_sem, *])
  have qw64 : w6.cell? ⟨w.heap.size, 4, none⟩ = some (.int .i64 c.h2) := cell_later hb6 (by simp [go_sem, *])
  have qw65 : w6.cell? ⟨w.heap.size, 5, none⟩ = some (.int .i64 c.v2) := cell_later hb6 (by simp [go_sem, *])
  have qw66 : w6.cell? ⟨w3.heap.size, 0, none⟩ = some (.int .i64 lo) := cell_later hb6 (by simp [go_sem, *])
  have qw67 : w6.cell? ⟨w3.heap.size, 1, none⟩ = some (.int .i64 hi) := cell_later hb6 (by simp [go_sem, *])
  have zqw6_0 := World.block_lt_of_cell? _ _ qw60
  dsimp only at zqw6_0
  have zqw6_6 := World.block_lt_of_cell? _ _ qw66
  dsimp only at zqw6_6
  have H6 := Lib.hid (below_then H5.out hb6); clear hb6
  go_wp2_with fail
  refine (HV.out _).mono ?_
  rintro e w7 ⟨rfl, hb7⟩
  have qw70 : w7.cell? ⟨w.heap.size, 0, none⟩ = some (.int .i64 c.x1) := cell_later hb7 (by simp [go_sem, *])
  have qw71 : w7.cell? ⟨w.heap.size, 1, none⟩ = some (.int .i64 c.h1) := cell_later hb7 (by simp [go_sem, *])
  have qw72 : w7.cell? ⟨w.heap.size, 2, none⟩ = some (.int .i64 c.v1) := cell_later hb7 (by simp [go_sem, *])
  have qw73 : w7.cell? ⟨w.heap.size, 3, none⟩ = some (.int .i64 c.x2) := cell_later hb7 (by simp [go_sem, *])
  have qw74 : w7.cell? ⟨w.heap.size, 4, none⟩ = some (.int .i64 c.h2) := cell_later hb7 (by simp [go_sem, *])
  have qw75 : w7.cell? ⟨w.heap.size, 5, none⟩ = some (.int .i64 c.v2) := cell_later hb7 (by simp [go_sem, *])
  have qw76 : w7.cell? ⟨w3.heap.size, 0, none⟩ = some (.int .i64 lo) := cell_later hb7 (by simp [go_sem, *])
  have qw77 : w7.cell? ⟨w3.heap.size, 1, none⟩ = some (.int .i64 hi) := cell_later hb7 (by simp [go_sem, *])
  have zqw7_0 := World.block_lt_of_cell? _ _ qw70
  dsimp only at zqw7_0
  have zqw7_6 := World.block_lt_of_cell? _ _ qw76
  dsimp only at zqw7_6
  have H7 := Lib.hid (below_then H6.out hb7); clear hb7
  go_wp2
  go_ret
  exact ⟨rfl, (by (repeat (first | (with_reducible exact H7.out) | (with_reducible refine Below.setCell ?_ ?_ _) | (with_reducible refine below_alloc_top ?_ _) | (with_reducible refine Below.drew ?_))); all_goals (first | omega | (simp; done) | (simp; omega)))⟩
set_option maxRecDepth 100000 in
set_option maxHeartbeats 1000000 in
theorem least_law_at (c : Cr) (o : c.ok) (w : World)  :
    Calls Try.prog 6 #[.agg #[.int .i64 c.x1, .int .i64 c.h1, .int .i64 c.v1, .int .i64 c.x2, .int .i64 c.h2, .int .i64 c.v2], .int .i64 c.k] w fun e w' => e = .returned (.bool true) ∧ Below w.heap.size w w' := by
  have HC := Lib.hid (fun w => crossing_ok c o w)
  have HL := Lib.hid (fun w => least_ok c o w)
  have HT := Lib.hid (fun w => timeAtE_ok c c.k (k_in c o) w)
  have hk := fun w => checkCrossing_ok c c.k (k_in c o) w
  rw [ckV_k c o] at hk
  have HK := Lib.hid hk; clear hk
  have HS := Lib.hid (fun w => slopeAt_ok c c.k (k_in c o) w)
  have s0 := (k_is c o).p c.k (k_is c o).a (Int.le_refl _)
  have b0 := lLo_lHi c o
  have b1 := (l_bounds c o).1
  have b2 := lHi_k c
  have b3 := least_is c o c.k (k_is c o).a (k_is c o).b
  have p := k_in c o
  have HV := Lib.hid (fun w => timeAtE_ok c c.k p w)
  have HW := Lib.hid (fun w => slopeAt_ok c c.k p w)
  have b4 := least_is c o c.k p.l p.h
  clear p
  generalize c.tLo c.k = ul at *
  generalize c.tHi c.k = uh at *
  generalize c.lLo = lo at *
  generalize c.lHi = hi at *
  generalize c.slope c.k = sk at *
  generalize c.k = k at *
  go_enter Try.func6, Try.ntmps6
  go_wp2_with fail
  refine (awake_any _).mono ?_
  rintro e w1 ⟨rfl, hb1⟩
  have qw10 : w1.cell? ⟨w.heap.size, 0, none⟩ = some (.int .i64 c.x1) := cell_later hb1 (by simp [go_sem])
  have qw11 : w1.cell? ⟨w.heap.size, 1, none⟩ = some (.int .i64 c.h1) := cell_later hb1 (by simp [go_sem])
  have qw12 : w1.cell? ⟨w.heap.size, 2, none⟩ = some (.int .i64 c.v1) := cell_later hb1 (by simp [go_sem])
  have qw13 : w1.cell? ⟨w.heap.size, 3, none⟩ = some (.int .i64 c.x2) := cell_later hb1 (by simp [go_sem])
  have qw14 : w1.cell? ⟨w.heap.size, 4, none⟩ = some (.int .i64 c.h2) := cell_later hb1 (by simp [go_sem])
  have qw15 : w1.cell? ⟨w.heap.size, 5, none⟩ = some (.int .i64 c.v2) := cell_later hb1 (by simp [go_sem])
  have zqw1_0 := World.block_lt_of_cell? _ _ qw10
  dsimp only at zqw1_0
  have H1 := Lib.hid (below_after (by repeat (first | exact Below.refl _ _ | refine Below.drew ?_ | refine below_drewN ?_ _ | refine Below.setCell ?_ (by first | omega | (simp; done) | (simp; omega)) _ | refine Below.alloc ?_ (by first | omega | (simp; done) | (simp; omega)) _)) hb1 (by first | omega | (simp; done) | (simp; omega)) : Below w.heap.size w w1); clear hb1
  go_wp2_with fail
  refine (HC.out _).mono ?_
  rintro e w2 ⟨rfl, hb2⟩
  have qw20 : w2.cell? ⟨w.heap.size, 0, none⟩ = some (.int .i64 c.x1) := cell_later hb2 (by simp [go_sem, *])
  have qw21 : w2.cell? ⟨w.heap.size, 1, none⟩ = some (.int .i64 c.h1) := cell_later hb2 (by simp [go_sem, *])
  have qw22 : w2.cell? ⟨w.heap.size, 2, none⟩ = some (.int .i64 c.v1) := cell_later hb2 (by simp [go_sem, *])
  have qw23 : w2.cell? ⟨w.heap.size, 3, none⟩ = some (.int .i64 c.x2) := cell_later hb2 (by simp [go_sem, *])
  have qw24 : w2.cell? ⟨w.heap.size, 4, none⟩ = some (.int .i64 c.h2) := cell_later hb2 (by simp [go_sem, *])
  have qw25 : w2.cell? ⟨w.heap.size, 5, none⟩ = some (.int .i64 c.v2) := cell_later hb2 (by simp [go_sem, *])
  have zqw2_0 := World.block_lt_of_cell? _ _ qw20
  dsimp only at zqw2_0
  have H2 := Lib.hid (below_then H1.out hb2); clear hb2
  go_wp2_with fail
  refine (HL.out _).mono ?_
  rintro e w3 ⟨rfl, hb3⟩
  have qw30 : w3.cell? ⟨w.heap.size, 0, none⟩ = some (.int .i64 c.x1) := cell_later hb3 (by simp [go_sem, *])
  have qw31 : w3.cell? ⟨w.heap.size, 1, none⟩ = some (.int .i64 c.h1) := cell_later hb3 (by simp [go_sem, *])
  have qw32 : w3.cell? ⟨w.heap.size, 2, none⟩ = some (.int .i64 c.v1) := cell_later hb3 (by simp [go_sem, *])
  have qw33 : w3.cell? ⟨w.heap.size, 3, none⟩ = some (.int .i64 c.x2) := cell_later hb3 (by simp [go_sem, *])
  have qw34 : w3.cell? ⟨w.heap.size, 4, none⟩ = some (.int .i64 c.h2) := cell_later hb3 (by simp [go_sem, *])
  have qw35 : w3.cell? ⟨w.heap.size, 5, none⟩ = some (.int .i64 c.v2) := cell_later hb3 (by simp [go_sem, *])
  have zqw3_0 := World.block_lt_of_cell? _ _ qw30
  dsimp only at zqw3_0
  have H3 := Lib.hid (below_then H2.out hb3); clear hb3
  go_wp2_with fail
  refine (HT.out _).mono ?_
  rintro e w4 ⟨rfl, hb4⟩
  have qw40 : w4.cell? ⟨w.heap.size, 0, none⟩ = some (.int .i64 c.x1) := cell_later hb4 (by simp [go_sem, *])
  have qw41 : w4.cell? ⟨w.heap.size, 1, none⟩ = some (.int .i64 c.h1) := cell_later hb4 (by simp [go_sem, *])
  have qw42 : w4.cell? ⟨w.heap.size, 2, none⟩ = some (.int .i64 c.v1) := cell_later hb4 (by simp [go_sem, *])
  have qw43 : w4.cell? ⟨w.heap.size, 3, none⟩ = some (.int .i64 c.x2) := cell_later hb4 (by simp [go_sem, *])
  have qw44 : w4.cell? ⟨w.heap.size, 4, none⟩ = some (.int .i64 c.h2) := cell_later hb4 (by simp [go_sem, *])
  have qw45 : w4.cell? ⟨w.heap.size, 5, none⟩ = some (.int .i64 c.v2) := cell_later hb4 (by simp [go_sem, *])
  have qw46 : w4.cell? ⟨w3.heap.size, 0, none⟩ = some (.int .i64 lo) := cell_later hb4 (by simp [go_sem, *])
  have qw47 : w4.cell? ⟨w3.heap.size, 1, none⟩ = some (.int .i64 hi) := cell_later hb4 (by simp [go_sem, *])
  have zqw4_0 := World.block_lt_of_cell? _ _ qw40
  dsimp only at zqw4_0
  have zqw4_6 := World.block_lt_of_cell? _ _ qw46
  dsimp only at zqw4_6
  have H4 := Lib.hid (below_then (below_alloc_top H3.out _) hb4); clear hb4
  go_wp2_with fail
  refine (HK.out _).mono ?_
  rintro e w5 ⟨rfl, hb5⟩
  have qw50 : w5.cell? ⟨w.heap.size, 0, none⟩ = some (.int .i64 c.x1) := cell_later hb5 (by simp [go_sem, *])
  have qw51 : w5.cell? ⟨w.heap.size, 1, none⟩ = some (.int .i64 c.h1) := cell_later hb5 (by simp [go_sem, *])
  have qw52 : w5.cell? ⟨w.heap.size, 2, none⟩ = some (.int .i64 c.v1) := cell_later hb5 (by simp [go_sem, *])
  have qw53 : w5.cell? ⟨w.heap.size, 3, none⟩ = some (.int .i64 c.x2) := cell_later hb5 (by simp [go_sem, *])
  have qw54 : w5.cell? ⟨w.heap.size, 4, none⟩ = some (.int .i64 c.h2) := cell_later hb5 (by simp [go_sem, *])
  have qw55 : w5.cell? ⟨w.heap.size, 5, none⟩ = some (.int .i64 c.v2) := cell_later hb5 (by simp [go_sem, *])
  have qw56 : w5.cell? ⟨w3.heap.size, 0, none⟩ = some (.int .i64 lo) := cell_later hb5 (by simp [go_sem, *])
  have qw57 : w5.cell? ⟨w3.heap.size, 1, none⟩ = some (.int .i64 hi) := cell_later hb5 (by simp [go_sem, *])
  have qw58 : w5.cell? ⟨w4.heap.size, 0, none⟩ = some (.int .i64 ul) := cell_later hb5 (by simp [go_sem, *])
  have qw59 : w5.cell? ⟨w4.heap.size, 1, none⟩ = some (.int .i64 uh) := cell_later hb5 (by simp [go_sem, *])
  have zqw5_0 := World.block_lt_of_cell? _ _ qw50
  dsimp only at zqw5_0
  have zqw5_6 := World.block_lt_of_cell? _ _ qw56
  dsimp only at zqw5_6
  have zqw5_8 := World.block_lt_of_cell? _ _ qw58
  dsimp only at zqw5_8
  have H5 := Lib.hid (below_then (below_alloc_top H4.out _) hb5); clear hb5
  go_wp2_with fail
  refine (HS.out _).mono ?_
  rintro e w6 ⟨rfl, hb6⟩
  have qw60 : w6.cell? ⟨w.heap.size, 0, none⟩ = some (.int .i64 c.x1) := cell_later hb6 (by simp [go_sem, *])
  have qw61 : w6.cell? ⟨w.heap.size, 1, none⟩ = some (.int .i64 c.h1) := cell_later hb6 (by simp [go_sem, *])
  have qw62 : w6.cell? ⟨w.heap.size, 2, none⟩ = some (.int .i64 c.v1) := cell_later hb6 (by simp [go_sem, *])
  have qw63 : w6.cell? ⟨w.heap.size, 3, none⟩ = some (.int .i64 c.x2) := cell_later hb6 (by simp [go_sem, *])
  have qw64 : w6.cell? ⟨w.heap.size, 4, none⟩ = some (.int .i64 c.h2) := cell_later hb6 (by simp [go_sem, *])
  have qw65 : w6.cell? ⟨w.heap.size, 5, none⟩ = some (.int .i64 c.v2) := cell_later hb6 (by simp [go_sem, *])
  have qw66 : w6.cell? ⟨w3.heap.size, 0, none⟩ = some (.int .i64 lo) := cell_later hb6 (by simp [go_sem, *])
  have qw67 : w6.cell? ⟨w3.heap.size, 1, none⟩ = some (.int .i64 hi) := cell_later hb6 (by simp [go_sem, *])
  have zqw6_0 := World.block_lt_of_cell? _ _ qw60
  dsimp only at zqw6_0
  have zqw6_6 := World.block_lt_of_cell? _ _ qw66
  dsimp only at zqw6_6
  have H6 := Lib.hid (below_then H5.out hb6); clear hb6
  go_wp2_with fail
  refine (HV.out _).mono ?_
  rintro e w7 ⟨rfl, hb7⟩
  have qw70 : w7.cell? ⟨w.heap.size, 0, none⟩ = some (.int .i64 c.x1) := cell_later hb7 (by simp [go_sem, *])
  have qw71 : w7.cell? ⟨w.heap.size, 1, none⟩ = some (.int .i64 c.h1) := cell_later hb7 (by simp [go_sem, *])
  have qw72 : w7.cell? ⟨w.heap.size, 2, none⟩ = some (.int .i64 c.v1) := cell_later hb7 (by simp [go_sem, *])
  have qw73 : w7.cell? ⟨w.heap.size, 3, none⟩ = some (.int .i64 c.x2) := cell_later hb7 (by simp [go_sem, *])
  have qw74 : w7.cell? ⟨w.heap.size, 4, none⟩ = some (.int .i64 c.h2) := cell_later hb7 (by simp [go_sem, *])
  have qw75 : w7.cell? ⟨w.heap.size, 5, none⟩ = some (.int .i64 c.v2) := cell_later hb7 (by simp [go_sem, *])
  have qw76 : w7.cell? ⟨w3.heap.size, 0, none⟩ = some (.int .i64 lo) := cell_later hb7 (by simp [go_sem, *])
  have qw77 : w7.cell? ⟨w3.heap.size, 1, none⟩ = some (.int .i64 hi) := cell_later hb7 (by simp [go_sem, *])
  have zqw7_0 := World.block_lt_of_cell? _ _ qw70
  dsimp only at zqw7_0
  have zqw7_6 := World.block_lt_of_cell? _ _ qw76
  dsimp only at zqw7_6
  have H7 := Lib.hid (below_then H6.out hb7); clear hb7
  go_wp2_with fail
  refine (HW.out _).mono ?_
  rintro e w8 ⟨rfl, hb8⟩
  have qw80 : w8.cell? ⟨w.heap.size, 0, none⟩ = some (.int .i64 c.x1) := cell_later hb8 (by simp [go_sem, *])
  have qw81 : w8.cell? ⟨w.heap.size, 1, none⟩ = some (.int .i64 c.h1) := cell_later hb8 (by simp [go_sem, *])
  have qw82 : w8.cell? ⟨w.heap.size, 2, none⟩ = some (.int .i64 c.v1) := cell_later hb8 (by simp [go_sem, *])
  have qw83 : w8.cell? ⟨w.heap.size, 3, none⟩ = some (.int .i64 c.x2) := cell_later hb8 (by simp [go_sem, *])
  have qw84 : w8.cell? ⟨w.heap.size, 4, none⟩ = some (.int .i64 c.h2) := cell_later hb8 (by simp [go_sem, *])
  have qw85 : w8.cell? ⟨w.heap.size, 5, none⟩ = some (.int .i64 c.v2) := cell_later hb8 (by simp [go_sem, *])
  have zqw8_0 := World.block_lt_of_cell? _ _ qw80
  dsimp only at zqw8_0
  have H8 := Lib.hid (below_then (below_alloc_top H7.out _) hb8); clear hb8
  go_wp2
  go_ret
  exact ⟨rfl, (by (repeat (first | (with_reducible exact H8.out) | (with_reducible refine Below.setCell ?_ ?_ _) | (with_reducible refine below_alloc_top ?_ _) | (with_reducible refine Below.drew ?_))); all_goals (first | omega | (simp; done) | (simp; omega)))⟩
set_option maxRecDepth 100000 in
set_option maxHeartbeats 1000000 in
theorem least_law_left (c : Cr) (o : c.ok) (t : Int) (w : World) (p : In c t) (h : t < c.k) :
    Calls Try.prog 6 #[.agg #[.int .i64 c.x1, .int .i64 c.h1, .int .i64 c.v1, .int .i64 c.x2, .int .i64 c.h2, .int .i64 c.v2], .int .i64 t] w fun e w' => e = .returned (.bool true) ∧ Below w.heap.size w w' := by
  have HC := Lib.hid (fun w => crossing_ok c o w)
  have HL := Lib.hid (fun w => least_ok c o w)
  have HT := Lib.hid (fun w => timeAtE_ok c c.k (k_in c o) w)
  have hk := fun w => checkCrossing_ok c c.k (k_in c o) w
  rw [ckV_k c o] at hk
  have HK := Lib.hid hk; clear hk
  have HS := Lib.hid (fun w => slopeAt_ok c c.k (k_in c o) w)
  have s0 := (k_is c o).p c.k (k_is c o).a (Int.le_refl _)
  have b0 := lLo_lHi c o
  have b1 := (l_bounds c o).1
  have b2 := lHi_k c
  have b3 := least_is c o c.k (k_is c o).a (k_is c o).b
  have HV := Lib.hid (fun w => timeAtE_ok c t p w)
  have HW := Lib.hid (fun w => slopeAt_ok c t p w)
  have b4 := least_is c o t p.l p.h
  have hk2 := fun w => checkCrossing_ok c t p w
  rw [ckV_other c t p (by omega)] at hk2
  have HK2 := Lib.hid hk2; clear hk2
  have n1 : (t != c.k) = true := by simp; omega
  have s1 := (k_is c o).p t p.l (by omega)
  generalize c.slope t = st at *
  generalize c.tLo t = vl at *
  generalize c.tHi t = vh at *
  clear p
  generalize c.tLo c.k = ul at *
  generalize c.tHi c.k = uh at *
  generalize c.lLo = lo at *
  generalize c.lHi = hi at *
  generalize c.slope c.k = sk at *
  generalize c.k = k at *
  go_enter Try.func6, Try.ntmps6
  go_wp2_with fail
  refine (awake_any _).mono ?_
  rintro e w1 ⟨rfl, hb1⟩
  have qw10 : w1.cell? ⟨w.heap.size, 0, none⟩ = some (.int .i64 c.x1) := cell_later hb1 (by simp [go_sem])
  have qw11 : w1.cell? ⟨w.heap.size, 1, none⟩ = some (.int .i64 c.h1) := cell_later hb1 (by simp [go_sem])
  have qw12 : w1.cell? ⟨w.heap.size, 2, none⟩ = some (.int .i64 c.v1) := cell_later hb1 (by simp [go_sem])
  have qw13 : w1.cell? ⟨w.heap.size, 3, none⟩ = some (.int .i64 c.x2) := cell_later hb1 (by simp [go_sem])
  have qw14 : w1.cell? ⟨w.heap.size, 4, none⟩ = some (.int .i64 c.h2) := cell_later hb1 (by simp [go_sem])
  have qw15 : w1.cell? ⟨w.heap.size, 5, none⟩ = some (.int .i64 c.v2) := cell_later hb1 (by simp [go_sem])
  have zqw1_0 := World.block_lt_of_cell? _ _ qw10
  dsimp only at zqw1_0
  have H1 := Lib.hid (below_after (by repeat (first | exact Below.refl _ _ | refine Below.drew ?_ | refine below_drewN ?_ _ | refine Below.setCell ?_ (by first | omega | (simp; done) | (simp; omega)) _ | refine Below.alloc ?_ (by first | omega | (simp; done) | (simp; omega)) _)) hb1 (by first | omega | (simp; done) | (simp; omega)) : Below w.heap.size w w1); clear hb1
  go_wp2_with fail
  refine (HC.out _).mono ?_
  rintro e w2 ⟨rfl, hb2⟩
  have qw20 : w2.cell? ⟨w.heap.size, 0, none⟩ = some (.int .i64 c.x1) := cell_later hb2 (by simp [go_sem, *])
  have qw21 : w2.cell? ⟨w.heap.size, 1, none⟩ = some (.int .i64 c.h1) := cell_later hb2 (by simp [go_sem, *])
  have qw22 : w2.cell? ⟨w.heap.size, 2, none⟩ = some (.int .i64 c.v1) := cell_later hb2 (by simp [go_sem, *])
  have qw23 : w2.cell? ⟨w.heap.size, 3, none⟩ = some (.int .i64 c.x2) := cell_later hb2 (by simp [go_sem, *])
  have qw24 : w2.cell? ⟨w.heap.size, 4, none⟩ = some (.int .i64 c.h2) := cell_later hb2 (by simp [go_sem, *])
  have qw25 : w2.cell? ⟨w.heap.size, 5, none⟩ = some (.int .i64 c.v2) := cell_later hb2 (by simp [go_sem, *])
  have zqw2_0 := World.block_lt_of_cell? _ _ qw20
  dsimp only at zqw2_0
  have H2 := Lib.hid (below_then H1.out hb2); clear hb2
  go_wp2_with fail
  refine (HL.out _).mono ?_
  rintro e w3 ⟨rfl, hb3⟩
  have qw30 : w3.cell? ⟨w.heap.size, 0, none⟩ = some (.int .i64 c.x1) := cell_later hb3 (by simp [go_sem, *])
  have qw31 : w3.cell? ⟨w.heap.size, 1, none⟩ = some (.int .i64 c.h1) := cell_later hb3 (by simp [go_sem, *])
  have qw32 : w3.cell? ⟨w.heap.size, 2, none⟩ = some (.int .i64 c.v1) := cell_later hb3 (by simp [go_sem, *])
  have qw33 : w3.cell? ⟨w.heap.size, 3, none⟩ = some (.int .i64 c.x2) := cell_later hb3 (by simp [go_sem, *])
  have qw34 : w3.cell? ⟨w.heap.size, 4, none⟩ = some (.int .i64 c.h2) := cell_later hb3 (by simp [go_sem, *])
  have qw35 : w3.cell? ⟨w.heap.size, 5, none⟩ = some (.int .i64 c.v2) := cell_later hb3 (by simp [go_sem, *])
  have zqw3_0 := World.block_lt_of_cell? _ _ qw30
  dsimp only at zqw3_0
  have H3 := Lib.hid (below_then H2.out hb3); clear hb3
  go_wp2_with fail
  refine (HT.out _).mono ?_
  rintro e w4 ⟨rfl, hb4⟩
  have qw40 : w4.cell? ⟨w.heap.size, 0, none⟩ = some (.int .i64 c.x1) := cell_later hb4 (by simp [go_sem, *])
  have qw41 : w4.cell? ⟨w.heap.size, 1, none⟩ = some (.int .i64 c.h1) := cell_later hb4 (by simp [go_sem, *])
  have qw42 : w4.cell? ⟨w.heap.size, 2, none⟩ = some (.int .i64 c.v1) := cell_later hb4 (by simp [go_sem, *])
  have qw43 : w4.cell? ⟨w.heap.size, 3, none⟩ = some (.int .i64 c.x2) := cell_later hb4 (by simp [go_sem, *])
  have qw44 : w4.cell? ⟨w.heap.size, 4, none⟩ = some (.int .i64 c.h2) := cell_later hb4 (by simp [go_sem, *])
  have qw45 : w4.cell? ⟨w.heap.size, 5, none⟩ = some (.int .i64 c.v2) := cell_later hb4 (by simp [go_sem, *])
  have qw46 : w4.cell? ⟨w3.heap.size, 0, none⟩ = some (.int .i64 lo) := cell_later hb4 (by simp [go_sem, *])
  have qw47 : w4.cell? ⟨w3.heap.size, 1, none⟩ = some (.int .i64 hi) := cell_later hb4 (by simp [go_sem, *])
  have zqw4_0 := World.block_lt_of_cell? _ _ qw40
  dsimp only at zqw4_0
  have zqw4_6 := World.block_lt_of_cell? _ _ qw46
  dsimp only at zqw4_6
  have H4 := Lib.hid (below_then (below_alloc_top H3.out _) hb4); clear hb4
  go_wp2_with fail
  refine (HK.out _).mono ?_
  rintro e w5 ⟨rfl, hb5⟩
  have qw50 : w5.cell? ⟨w.heap.size, 0, none⟩ = some (.int .i64 c.x1) := cell_later hb5 (by simp [go_sem, *])
  have qw51 : w5.cell? ⟨w.heap.size, 1, none⟩ = some (.int .i64 c.h1) := cell_later hb5 (by simp [go_sem, *])
  have qw52 : w5.cell? ⟨w.heap.size, 2, none⟩ = some (.int .i64 c.v1) := cell_later hb5 (by simp [go_sem, *])
  have qw53 : w5.cell? ⟨w.heap.size, 3, none⟩ = some (.int .i64 c.x2) := cell_later hb5 (by simp [go_sem, *])
  have qw54 : w5.cell? ⟨w.heap.size, 4, none⟩ = some (.int .i64 c.h2) := cell_later hb5 (by simp [go_sem, *])
  have qw55 : w5.cell? ⟨w.heap.size, 5, none⟩ = some (.int .i64 c.v2) := cell_later hb5 (by simp [go_sem, *])
  have qw56 : w5.cell? ⟨w3.heap.size, 0, none⟩ = some (.int .i64 lo) := cell_later hb5 (by simp [go_sem, *])
  have qw57 : w5.cell? ⟨w3.heap.size, 1, none⟩ = some (.int .i64 hi) := cell_later hb5 (by simp [go_sem, *])
  have qw58 : w5.cell? ⟨w4.heap.size, 0, none⟩ = some (.int .i64 ul) := cell_later hb5 (by simp [go_sem, *])
  have qw59 : w5.cell? ⟨w4.heap.size, 1, none⟩ = some (.int .i64 uh) := cell_later hb5 (by simp [go_sem, *])
  have zqw5_0 := World.block_lt_of_cell? _ _ qw50
  dsimp only at zqw5_0
  have zqw5_6 := World.block_lt_of_cell? _ _ qw56
  dsimp only at zqw5_6
  have zqw5_8 := World.block_lt_of_cell? _ _ qw58
  dsimp only at zqw5_8
  have H5 := Lib.hid (below_then (below_alloc_top H4.out _) hb5); clear hb5
  go_wp2_with fail
  refine (HS.out _).mono ?_
  rintro e w6 ⟨rfl, hb6⟩
  have qw60 : w6.cell? ⟨w.heap.size, 0, none⟩ = some (.int .i64 c.x1) := cell_later hb6 (by simp [go_sem, *])
  have qw61 : w6.cell? ⟨w.heap.size, 1, none⟩ = some (.int .i64 c.h1) := cell_later hb6 (by simp [go_sem, *])
  have qw62 : w6.cell? ⟨w.heap.size, 2, none⟩ = some (.int .i64 c.v1) := cell_later hb6 (by simp [go_sem, *])
  have qw63 : w6.cell? ⟨w.heap.size, 3, none⟩ = some (.int .i64 c.x2) := cell_later hb6 (by simp [go_sem, *])
  have qw64 : w6.cell? ⟨w.heap.size, 4, none⟩ = some (.int .i64 c.h2) := cell_later hb6 (by simp [go_sem, *])
  have qw65 : w6.cell? ⟨w.heap.size, 5, none⟩ = some (.int .i64 c.v2) := cell_later hb6 (by simp [go_sem, *])
  have qw66 : w6.cell? ⟨w3.heap.size, 0, none⟩ = some (.int .i64 lo) := cell_later hb6 (by simp [go_sem, *])
  have qw67 : w6.cell? ⟨w3.heap.size, 1, none⟩ = some (.int .i64 hi) := cell_later hb6 (by simp [go_sem, *])
  have zqw6_0 := World.block_lt_of_cell? _ _ qw60
  dsimp only at zqw6_0
  have zqw6_6 := World.block_lt_of_cell? _ _ qw66
  dsimp only at zqw6_6
  have H6 := Lib.hid (below_then H5.out hb6); clear hb6
  go_wp2_with fail
  refine (HV.out _).mono ?_
  rintro e w7 ⟨rfl, hb7⟩
  have qw70 : w7.cell? ⟨w.heap.size, 0, none⟩ = some (.int .i64 c.x1) := cell_later hb7 (by simp [go_sem, *])
  have qw71 : w7.cell? ⟨w.heap.size, 1, none⟩ = some (.int .i64 c.h1) := cell_later hb7 (by simp [go_sem, *])
  have qw72 : w7.cell? ⟨w.heap.size, 2, none⟩ = some (.int .i64 c.v1) := cell_later hb7 (by simp [go_sem, *])
  have qw73 : w7.cell? ⟨w.heap.size, 3, none⟩ = some (.int .i64 c.x2) := cell_later hb7 (by simp [go_sem, *])
  have qw74 : w7.cell? ⟨w.heap.size, 4, none⟩ = some (.int .i64 c.h2) := cell_later hb7 (by simp [go_sem, *])
  have qw75 : w7.cell? ⟨w.heap.size, 5, none⟩ = some (.int .i64 c.v2) := cell_later hb7 (by simp [go_sem, *])
  have qw76 : w7.cell? ⟨w3.heap.size, 0, none⟩ = some (.int .i64 lo) := cell_later hb7 (by simp [go_sem, *])
  have qw77 : w7.cell? ⟨w3.heap.size, 1, none⟩ = some (.int .i64 hi) := cell_later hb7 (by simp [go_sem, *])
  have zqw7_0 := World.block_lt_of_cell? _ _ qw70
  dsimp only at zqw7_0
  have zqw7_6 := World.block_lt_of_cell? _ _ qw76
  dsimp only at zqw7_6
  have H7 := Lib.hid (below_then H6.out hb7); clear hb7
  go_wp2_with fail
  refine (HK2.out _).mono ?_
  rintro e w8 ⟨rfl, hb8⟩
  have qw80 : w8.cell? ⟨w.heap.size, 0, none⟩ = some (.int .i64 c.x1) := cell_later hb8 (by simp [go_sem, *])
  have qw81 : w8.cell? ⟨w.heap.size, 1, none⟩ = some (.int .i64 c.h1) := cell_later hb8 (by simp [go_sem, *])
  have qw82 : w8.cell? ⟨w.heap.size, 2, none⟩ = some (.int .i64 c.v1) := cell_later hb8 (by simp [go_sem, *])
  have qw83 : w8.cell? ⟨w.heap.size, 3, none⟩ = some (.int .i64 c.x2) := cell_later hb8 (by simp [go_sem, *])
  have qw84 : w8.cell? ⟨w.heap.size, 4, none⟩ = some (.int .i64 c.h2) := cell_later hb8 (by simp [go_sem, *])
  have qw85 : w8.cell? ⟨w.heap.size, 5, none⟩ = some (.int .i64 c.v2) := cell_later hb8 (by simp [go_sem, *])
  have qw86 : w8.cell? ⟨w3.heap.size, 0, none⟩ = some (.int .i64 lo) := cell_later hb8 (by simp [go_sem, *])
  have qw87 : w8.cell? ⟨w3.heap.size, 1, none⟩ = some (.int .i64 hi) := cell_later hb8 (by simp [go_sem, *])
  have qw88 : w8.cell? ⟨w7.heap.size, 0, none⟩ = some (.int .i64 vl) := cell_later hb8 (by simp [go_sem, *])
  have qw89 : w8.cell? ⟨w7.heap.size, 1, none⟩ = some (.int .i64 vh) := cell_later hb8 (by simp [go_sem, *])
  have zqw8_0 := World.block_lt_of_cell? _ _ qw80
  dsimp only at zqw8_0
  have zqw8_6 := World.block_lt_of_cell? _ _ qw86
  dsimp only at zqw8_6
  have zqw8_8 := World.block_lt_of_cell? _ _ qw88
  dsimp only at zqw8_8
  have H8 := Lib.hid (below_then (below_alloc_top H7.out _) hb8); clear hb8
  go_wp2_with fail
  refine (HW.out _).mono ?_
  rintro e w9 ⟨rfl, hb9⟩
  have qw90 : w9.cell? ⟨w.heap.size, 0, none⟩ = some (.int .i64 c.x1) := cell_later hb9 (by simp [go_sem, *])
  have qw91 : w9.cell? ⟨w.heap.size, 1, none⟩ = some (.int .i64 c.h1) := cell_later hb9 (by simp [go_sem, *])
  have qw92 : w9.cell? ⟨w.heap.size, 2, none⟩ = some (.int .i64 c.v1) := cell_later hb9 (by simp [go_sem, *])
  have qw93 : w9.cell? ⟨w.heap.size, 3, none⟩ = some (.int .i64 c.x2) := cell_later hb9 (by simp [go_sem, *])
  have qw94 : w9.cell? ⟨w.heap.size, 4, none⟩ = some (.int .i64 c.h2) := cell_later hb9 (by simp [go_sem, *])
  have qw95 : w9.cell? ⟨w.heap.size, 5, none⟩ = some (.int .i64 c.v2) := cell_later hb9 (by simp [go_sem, *])
  have zqw9_0 := World.block_lt_of_cell? _ _ qw90
  dsimp only at zqw9_0
  have H9 := Lib.hid (below_then H8.out hb9); clear hb9
  go_wp2
  go_ret
  exact ⟨rfl, (by (repeat (first | (with_reducible exact H9.out) | (with_reducible refine Below.setCell ?_ ?_ _) | (with_reducible refine below_alloc_top ?_ _) | (with_reducible refine Below.drew ?_))); all_goals (first | omega | (simp; done) | (simp; omega)))⟩
set_option maxRecDepth 100000 in
set_option maxHeartbeats 1000000 in
theorem least_law_right (c : Cr) (o : c.ok) (t : Int) (w : World) (p : In c t) (h : c.k < t) :
    Calls Try.prog 6 #[.agg #[.int .i64 c.x1, .int .i64 c.h1, .int .i64 c.v1, .int .i64 c.x2, .int .i64 c.h2, .int .i64 c.v2], .int .i64 t] w fun e w' => e = .returned (.bool true) ∧ Below w.heap.size w w' := by
  have HC := Lib.hid (fun w => crossing_ok c o w)
  have HL := Lib.hid (fun w => least_ok c o w)
  have HT := Lib.hid (fun w => timeAtE_ok c c.k (k_in c o) w)
  have hk := fun w => checkCrossing_ok c c.k (k_in c o) w
  rw [ckV_k c o] at hk
  have HK := Lib.hid hk; clear hk
  have HS := Lib.hid (fun w => slopeAt_ok c c.k (k_in c o) w)
  have s0 := (k_is c o).p c.k (k_is c o).a (Int.le_refl _)
  have b0 := lLo_lHi c o
  have b1 := (l_bounds c o).1
  have b2 := lHi_k c
  have b3 := least_is c o c.k (k_is c o).a (k_is c o).b
  have HV := Lib.hid (fun w => timeAtE_ok c t p w)
  have HW := Lib.hid (fun w => slopeAt_ok c t p w)
  have b4 := least_is c o t p.l p.h
  have hk2 := fun w => checkCrossing_ok c t p w
  rw [ckV_other c t p (by omega)] at hk2
  have HK2 := Lib.hid hk2; clear hk2
  have n1 : (t != c.k) = true := by simp; omega
  have s1 := (k_is c o).q t h p.h
  generalize c.slope t = st at *
  generalize c.tLo t = vl at *
  generalize c.tHi t = vh at *
  clear p
  generalize c.tLo c.k = ul at *
  generalize c.tHi c.k = uh at *
  generalize c.lLo = lo at *
  generalize c.lHi = hi at *
  generalize c.slope c.k = sk at *
  generalize c.k = k at *
  go_enter Try.func6, Try.ntmps6
  go_wp2_with fail
  refine (awake_any _).mono ?_
  rintro e w1 ⟨rfl, hb1⟩
  have qw10 : w1.cell? ⟨w.heap.size, 0, none⟩ = some (.int .i64 c.x1) := cell_later hb1 (by simp [go_sem])
  have qw11 : w1.cell? ⟨w.heap.size, 1, none⟩ = some (.int .i64 c.h1) := cell_later hb1 (by simp [go_sem])
  have qw12 : w1.cell? ⟨w.heap.size, 2, none⟩ = some (.int .i64 c.v1) := cell_later hb1 (by simp [go_sem])
  have qw13 : w1.cell? ⟨w.heap.size, 3, none⟩ = some (.int .i64 c.x2) := cell_later hb1 (by simp [go_sem])
  have qw14 : w1.cell? ⟨w.heap.size, 4, none⟩ = some (.int .i64 c.h2) := cell_later hb1 (by simp [go_sem])
  have qw15 : w1.cell? ⟨w.heap.size, 5, none⟩ = some (.int .i64 c.v2) := cell_later hb1 (by simp [go_sem])
  have zqw1_0 := World.block_lt_of_cell? _ _ qw10
  dsimp only at zqw1_0
  have H1 := Lib.hid (below_after (by repeat (first | exact Below.refl _ _ | refine Below.drew ?_ | refine below_drewN ?_ _ | refine Below.setCell ?_ (by first | omega | (simp; done) | (simp; omega)) _ | refine Below.alloc ?_ (by first | omega | (simp; done) | (simp; omega)) _)) hb1 (by first | omega | (simp; done) | (simp; omega)) : Below w.heap.size w w1); clear hb1
  go_wp2_with fail
  refine (HC.out _).mono ?_
  rintro e w2 ⟨rfl, hb2⟩
  have qw20 : w2.cell? ⟨w.heap.size, 0, none⟩ = some (.int .i64 c.x1) := cell_later hb2 (by simp [go_sem, *])
  have qw21 : w2.cell? ⟨w.heap.size, 1, none⟩ = some (.int .i64 c.h1) := cell_later hb2 (by simp [go_sem, *])
  have qw22 : w2.cell? ⟨w.heap.size, 2, none⟩ = some (.int .i64 c.v1) := cell_later hb2 (by simp [go_sem, *])
  have qw23 : w2.cell? ⟨w.heap.size, 3, none⟩ = some (.int .i64 c.x2) := cell_later hb2 (by simp [go_sem, *])
  have qw24 : w2.cell? ⟨w.heap.size, 4, none⟩ = some (.int .i64 c.h2) := cell_later hb2 (by simp [go_sem, *])
  have qw25 : w2.cell? ⟨w.heap.size, 5, none⟩ = some (.int .i64 c.v2) := cell_later hb2 (by simp [go_sem, *])
  have zqw2_0 := World.block_lt_of_cell? _ _ qw20
  dsimp only at zqw2_0
  have H2 := Lib.hid (below_then H1.out hb2); clear hb2
  go_wp2_with fail
  refine (HL.out _).mono ?_
  rintro e w3 ⟨rfl, hb3⟩
  have qw30 : w3.cell? ⟨w.heap.size, 0, none⟩ = some (.int .i64 c.x1) := cell_later hb3 (by simp [go_sem, *])
  have qw31 : w3.cell? ⟨w.heap.size, 1, none⟩ = some (.int .i64 c.h1) := cell_later hb3 (by simp [go_sem, *])
  have qw32 : w3.cell? ⟨w.heap.size, 2, none⟩ = some (.int .i64 c.v1) := cell_later hb3 (by simp [go_sem, *])
  have qw33 : w3.cell? ⟨w.heap.size, 3, none⟩ = some (.int .i64 c.x2) := cell_later hb3 (by simp [go_sem, *])
  have qw34 : w3.cell? ⟨w.heap.size, 4, none⟩ = some (.int .i64 c.h2) := cell_later hb3 (by simp [go_sem, *])
  have qw35 : w3.cell? ⟨w.heap.size, 5, none⟩ = some (.int .i64 c.v2) := cell_later hb3 (by simp [go_sem, *])
  have zqw3_0 := World.block_lt_of_cell? _ _ qw30
  dsimp only at zqw3_0
  have H3 := Lib.hid (below_then H2.out hb3); clear hb3
  go_wp2_with fail
  refine (HT.out _).mono ?_
  rintro e w4 ⟨rfl, hb4⟩
  have qw40 : w4.cell? ⟨w.heap.size, 0, none⟩ = some (.int .i64 c.x1) := cell_later hb4 (by simp [go_sem, *])
  have qw41 : w4.cell? ⟨w.heap.size, 1, none⟩ = some (.int .i64 c.h1) := cell_later hb4 (by simp [go_sem, *])
  have qw42 : w4.cell? ⟨w.heap.size, 2, none⟩ = some (.int .i64 c.v1) := cell_later hb4 (by simp [go_sem, *])
  have qw43 : w4.cell? ⟨w.heap.size, 3, none⟩ = some (.int .i64 c.x2) := cell_later hb4 (by simp [go_sem, *])
  have qw44 : w4.cell? ⟨w.heap.size, 4, none⟩ = some (.int .i64 c.h2) := cell_later hb4 (by simp [go_sem, *])
  have qw45 : w4.cell? ⟨w.heap.size, 5, none⟩ = some (.int .i64 c.v2) := cell_later hb4 (by simp [go_sem, *])
  have qw46 : w4.cell? ⟨w3.heap.size, 0, none⟩ = some (.int .i64 lo) := cell_later hb4 (by simp [go_sem, *])
  have qw47 : w4.cell? ⟨w3.heap.size, 1, none⟩ = some (.int .i64 hi) := cell_later hb4 (by simp [go_sem, *])
  have zqw4_0 := World.block_lt_of_cell? _ _ qw40
  dsimp only at zqw4_0
  have zqw4_6 := World.block_lt_of_cell? _ _ qw46
  dsimp only at zqw4_6
  have H4 := Lib.hid (below_then (below_alloc_top H3.out _) hb4); clear hb4
  go_wp2_with fail
  refine (HK.out _).mono ?_
  rintro e w5 ⟨rfl, hb5⟩
  have qw50 : w5.cell? ⟨w.heap.size, 0, none⟩ = some (.int .i64 c.x1) := cell_later hb5 (by simp [go_sem, *])
  have qw51 : w5.cell? ⟨w.heap.size, 1, none⟩ = some (.int .i64 c.h1) := cell_later hb5 (by simp [go_sem, *])
  have qw52 : w5.cell? ⟨w.heap.size, 2, none⟩ = some (.int .i64 c.v1) := cell_later hb5 (by simp [go_sem, *])
  have qw53 : w5.cell? ⟨w.heap.size, 3, none⟩ = some (.int .i64 c.x2) := cell_later hb5 (by simp [go_sem, *])
  have qw54 : w5.cell? ⟨w.heap.size, 4, none⟩ = some (.int .i64 c.h2) := cell_later hb5 (by simp [go_sem, *])
  have qw55 : w5.cell? ⟨w.heap.size, 5, none⟩ = some (.int .i64 c.v2) := cell_later hb5 (by simp [go_sem, *])
  have qw56 : w5.cell? ⟨w3.heap.size, 0, none⟩ = some (.int .i64 lo) := cell_later hb5 (by simp [go_sem, *])
  have qw57 : w5.cell? ⟨w3.heap.size, 1, none⟩ = some (.int .i64 hi) := cell_later hb5 (by simp [go_sem, *])
  have qw58 : w5.cell? ⟨w4.heap.size, 0, none⟩ = some (.int .i64 ul) := cell_later hb5 (by simp [go_sem, *])
  have qw59 : w5.cell? ⟨w4.heap.size, 1, none⟩ = some (.int .i64 uh) := cell_later hb5 (by simp [go_sem, *])
  have zqw5_0 := World.block_lt_of_cell? _ _ qw50
  dsimp only at zqw5_0
  have zqw5_6 := World.block_lt_of_cell? _ _ qw56
  dsimp only at zqw5_6
  have zqw5_8 := World.block_lt_of_cell? _ _ qw58
  dsimp only at zqw5_8
  have H5 := Lib.hid (below_then (below_alloc_top H4.out _) hb5); clear hb5
  go_wp2_with fail
  refine (HS.out _).mono ?_
  rintro e w6 ⟨rfl, hb6⟩
  have qw60 : w6.cell? ⟨w.heap.size, 0, none⟩ = some (.int .i64 c.x1) := cell_later hb6 (by simp [go_sem, *])
  have qw61 : w6.cell? ⟨w.heap.size, 1, none⟩ = some (.int .i64 c.h1) := cell_later hb6 (by simp [go_sem, *])
  have qw62 : w6.cell? ⟨w.heap.size, 2, none⟩ = some (.int .i64 c.v1) := cell_later hb6 (by simp [go_sem, *])
  have qw63 : w6.cell? ⟨w.heap.size, 3, none⟩ = some (.int .i64 c.x2) := cell_later hb6 (by simp [go_sem, *])
  have qw64 : w6.cell? ⟨w.heap.size, 4, none⟩ = some (.int .i64 c.h2) := cell_later hb6 (by simp [go_sem, *])
  have qw65 : w6.cell? ⟨w.heap.size, 5, none⟩ = some (.int .i64 c.v2) := cell_later hb6 (by simp [go_sem, *])
  have qw66 : w6.cell? ⟨w3.heap.size, 0, none⟩ = some (.int .i64 lo) := cell_later hb6 (by simp [go_sem, *])
  have qw67 : w6.cell? ⟨w3.heap.size, 1, none⟩ = some (.int .i64 hi) := cell_later hb6 (by simp [go_sem, *])
  have zqw6_0 := World.block_lt_of_cell? _ _ qw60
  dsimp only at zqw6_0
  have zqw6_6 := World.block_lt_of_cell? _ _ qw66
  dsimp only at zqw6_6
  have H6 := Lib.hid (below_then H5.out hb6); clear hb6
  go_wp2_with fail
  refine (HV.out _).mono ?_
  rintro e w7 ⟨rfl, hb7⟩
  have qw70 : w7.cell? ⟨w.heap.size, 0, none⟩ = some (.int .i64 c.x1) := cell_later hb7 (by simp [go_sem, *])
  have qw71 : w7.cell? ⟨w.heap.size, 1, none⟩ = some (.int .i64 c.h1) := cell_later hb7 (by simp [go_sem, *])
  have qw72 : w7.cell? ⟨w.heap.size, 2, none⟩ = some (.int .i64 c.v1) := cell_later hb7 (by simp [go_sem, *])
  have qw73 : w7.cell? ⟨w.heap.size, 3, none⟩ = some (.int .i64 c.x2) := cell_later hb7 (by simp [go_sem, *])
  have qw74 : w7.cell? ⟨w.heap.size, 4, none⟩ = some (.int .i64 c.h2) := cell_later hb7 (by simp [go_sem, *])
  have qw75 : w7.cell? ⟨w.heap.size, 5, none⟩ = some (.int .i64 c.v2) := cell_later hb7 (by simp [go_sem, *])
  have qw76 : w7.cell? ⟨w3.heap.size, 0, none⟩ = some (.int .i64 lo) := cell_later hb7 (by simp [go_sem, *])
  have qw77 : w7.cell? ⟨w3.heap.size, 1, none⟩ = some (.int .i64 hi) := cell_later hb7 (by simp [go_sem, *])
  have zqw7_0 := World.block_lt_of_cell? _ _ qw70
  dsimp only at zqw7_0
  have zqw7_6 := World.block_lt_of_cell? _ _ qw76
  dsimp only at zqw7_6
  have H7 := Lib.hid (below_then H6.out hb7); clear hb7
  go_wp2_with fail
  refine (HK2.out _).mono ?_
  rintro e w8 ⟨rfl, hb8⟩
  have qw80 : w8.cell? ⟨w.heap.size, 0, none⟩ = some (.int .i64 c.x1) := cell_later hb8 (by simp [go_sem, *])
  have qw81 : w8.cell? ⟨w.heap.size, 1, none⟩ = some (.int .i64 c.h1) := cell_later hb8 (by simp [go_sem, *])
  have qw82 : w8.cell? ⟨w.heap.size, 2, none⟩ = some (.int .i64 c.v1) := cell_later hb8 (by simp [go_sem, *])
  have qw83 : w8.cell? ⟨w.heap.size, 3, none⟩ = some (.int .i64 c.x2) := cell_later hb8 (by simp [go_sem, *])
  have qw84 : w8.cell? ⟨w.heap.size, 4, none⟩ = some (.int .i64 c.h2) := cell_later hb8 (by simp [go_sem, *])
  have qw85 : w8.cell? ⟨w.heap.size, 5, none⟩ = some (.int .i64 c.v2) := cell_later hb8 (by simp [go_sem, *])
  have qw86 : w8.cell? ⟨w3.heap.size, 0, none⟩ = some (.int .i64 lo) := cell_later hb8 (by simp [go_sem, *])
  have qw87 : w8.cell? ⟨w3.heap.size, 1, none⟩ = some (.int .i64 hi) := cell_later hb8 (by simp [go_sem, *])
  have qw88 : w8.cell? ⟨w7.heap.size, 0, none⟩ = some (.int .i64 vl) := cell_later hb8 (by simp [go_sem, *])
  have qw89 : w8.cell? ⟨w7.heap.size, 1, none⟩ = some (.int .i64 vh) := cell_later hb8 (by simp [go_sem, *])
  have zqw8_0 := World.block_lt_of_cell? _ _ qw80
  dsimp only at zqw8_0
  have zqw8_6 := World.block_lt_of_cell? _ _ qw86
  dsimp only at zqw8_6
  have zqw8_8 := World.block_lt_of_cell? _ _ qw88
  dsimp only at zqw8_8
  have H8 := Lib.hid (below_then (below_alloc_top H7.out _) hb8); clear hb8
  go_wp2_with fail
  refine (HW.out _).mono ?_
  rintro e w9 ⟨rfl, hb9⟩
  have qw90 : w9.cell? ⟨w.heap.size, 0, none⟩ = some (.int .i64 c.x1) := cell_later hb9 (by simp [go_sem, *])
  have qw91 : w9.cell? ⟨w.heap.size, 1, none⟩ = some (.int .i64 c.h1) := cell_later hb9 (by simp [go_sem, *])
  have qw92 : w9.cell? ⟨w.heap.size, 2, none⟩ = some (.int .i64 c.v1) := cell_later hb9 (by simp [go_sem, *])
  have qw93 : w9.cell? ⟨w.heap.size, 3, none⟩ = some (.int .i64 c.x2) := cell_later hb9 (by simp [go_sem, *])
  have qw94 : w9.cell? ⟨w.heap.size, 4, none⟩ = some (.int .i64 c.h2) := cell_later hb9 (by simp [go_sem, *])
  have qw95 : w9.cell? ⟨w.heap.size, 5, none⟩ = some (.int .i64 c.v2) := cell_later hb9 (by simp [go_sem, *])
  have zqw9_0 := World.block_lt_of_cell? _ _ qw90
  dsimp only at zqw9_0
  have H9 := Lib.hid (below_then H8.out hb9); clear hb9
  go_wp2
  go_ret
  exact ⟨rfl, (by (repeat (first | (with_reducible exact H9.out) | (with_reducible refine Below.setCell ?_ ?_ _) | (with_reducible refine below_alloc_top ?_ _) | (with_reducible refine Below.drew ?_))); all_goals (first | omega | (simp; done) | (simp; omega)))⟩
theorem least_law (c : Cr) (t : Int) (w : World) :
    Calls Try.prog 6 #[.agg #[.int .i64 c.x1, .int .i64 c.h1, .int .i64 c.v1, .int .i64 c.x2, .int .i64 c.h2, .int .i64 c.v2], .int .i64 t] w fun e w' => e = .returned (.bool true) ∧ Below w.heap.size w w' := by
  by_cases o : c.ok
  · by_cases p : In c t
    · rcases Int.lt_trichotomy t c.k with h | h | h
      · exact least_law_left c o t w p h
      · subst h; exact least_law_at c o w
      · exact least_law_right c o t w p h
    · exact least_law_out c o t w p
  · exact least_law_bad c o t w
end Go.Proofs.Ytdicndakelgoeaa
