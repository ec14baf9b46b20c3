/- RayLegs: the walk -/
import Derived.Test.YtdicndakelgoeaaC2
namespace Go.Proofs.Ytdicndakelgoeaa
open Go.RowKit RayM
set_option linter.unusedSimpArgs false
set_option linter.unusedVariables false
theorem legE_split (a b c d : Int) : (placeE a b = 2 ∧ legE a b c d = 2) ∨ (placeE a b = 0 ∧ placeE c d = 2 ∧ legE a b c d = 2) ∨ (placeE a b = 0 ∧ placeE c d = 0 ∧ legE a b c d = 0) := by
  have h1 := placeE_two a b
  have h2 := placeE_two c d
  unfold legE fst fst fst
  rcases h1 with h | h <;> rcases h2 with k | k <;> simp [h, k]
set_option maxRecDepth 100000 in
set_option maxHeartbeats 1000000 in
theorem legs_a (a b c d v : Int) (w : World) (ha : placeE a b = 2) (hl : legE a b c d = 2) :
    Calls Try.prog 3 #[.agg #[.int .i64 a, .int .i64 b], .agg #[.int .i64 c, .int .i64 d], .int .i64 v] w fun e w' => e = .returned (.bool true) ∧ Below w.heap.size w w' := by
  have HL := Lib.hid (fun w => length_bad a b c d w (by rw [hl]; decide))
  have HT := Lib.hid (fun w => timeOf_bad a b c d v w (by unfold timE; rw [fst_two_more _ _ _ (by show legE a b c d ≠ 0; rw [hl]; decide)]; show legE a b c d ≠ 0; rw [hl]; decide))
  have ht : timE a b c d v = 2 := by unfold timE; rw [fst_two_more _ _ _ (by show legE a b c d ≠ 0; rw [hl]; decide)]; exact hl
  rw [hl] at HL
  rw [ht] at HT
  have HP := Lib.hid (fun w => spotErr_any a b w)
  rw [ha] at HP
  clear ha hl ht
  go_enter Try.func3, Try.ntmps3
  go_wp2_with fail
  refine (awake_any _).mono ?_
  rintro e w1 ⟨rfl, hb1⟩
  have qw10 : w1.cell? ⟨w.heap.size, 0, none⟩ = some (.int .i64 a) := cell_later hb1 (by simp [go_sem])
  have qw11 : w1.cell? ⟨w.heap.size, 1, none⟩ = some (.int .i64 b) := cell_later hb1 (by simp [go_sem])
  have qw12 : w1.cell? ⟨w.heap.size + 1, 0, none⟩ = some (.int .i64 c) := cell_later hb1 (by simp [go_sem])
  have qw13 : w1.cell? ⟨w.heap.size + 1, 1, none⟩ = some (.int .i64 d) := cell_later hb1 (by simp [go_sem])
  have zqw1_0 := World.block_lt_of_cell? _ _ qw10
  dsimp only at zqw1_0
  have zqw1_2 := World.block_lt_of_cell? _ _ qw12
  dsimp only at zqw1_2
  have H1 := Lib.hid (below_after (by repeat (first | exact Below.refl _ _ | refine Below.drew ?_ | refine below_drewN ?_ _ | refine Below.setCell ?_ (by first | omega | (simp; done) | (simp; omega)) _ | refine Below.alloc ?_ (by first | omega | (simp; done) | (simp; omega)) _)) hb1 (by simp; omega) : Below w.heap.size w w1); clear hb1
  go_wp2_with fail
  refine (HL.out _).mono ?_
  rintro e w2 ⟨rfl, hb2⟩
  have qw20 : w2.cell? ⟨w.heap.size, 0, none⟩ = some (.int .i64 a) := cell_later hb2 (by simp [go_sem, *])
  have qw21 : w2.cell? ⟨w.heap.size, 1, none⟩ = some (.int .i64 b) := cell_later hb2 (by simp [go_sem, *])
  have qw22 : w2.cell? ⟨w.heap.size + 1, 0, none⟩ = some (.int .i64 c) := cell_later hb2 (by simp [go_sem, *])
  have qw23 : w2.cell? ⟨w.heap.size + 1, 1, none⟩ = some (.int .i64 d) := cell_later hb2 (by simp [go_sem, *])
  have zqw2_0 := World.block_lt_of_cell? _ _ qw20
  dsimp only at zqw2_0
  have zqw2_2 := World.block_lt_of_cell? _ _ qw22
  dsimp only at zqw2_2
  have H2 := Lib.hid (below_then H1.out hb2); clear hb2
  go_wp2_with fail
  refine (HT.out _).mono ?_
  rintro e w3 ⟨rfl, hb3⟩
  have qw30 : w3.cell? ⟨w.heap.size, 0, none⟩ = some (.int .i64 a) := cell_later hb3 (by simp [go_sem, *])
  have qw31 : w3.cell? ⟨w.heap.size, 1, none⟩ = some (.int .i64 b) := cell_later hb3 (by simp [go_sem, *])
  have qw32 : w3.cell? ⟨w.heap.size + 1, 0, none⟩ = some (.int .i64 c) := cell_later hb3 (by simp [go_sem, *])
  have qw33 : w3.cell? ⟨w.heap.size + 1, 1, none⟩ = some (.int .i64 d) := cell_later hb3 (by simp [go_sem, *])
  have qw34 : w3.cell? ⟨w2.heap.size, 0, none⟩ = some (.int .i64 0) := cell_later hb3 (by simp [go_sem, *])
  have qw35 : w3.cell? ⟨w2.heap.size, 1, none⟩ = some (.int .i64 0) := cell_later hb3 (by simp [go_sem, *])
  have zqw3_0 := World.block_lt_of_cell? _ _ qw30
  dsimp only at zqw3_0
  have zqw3_2 := World.block_lt_of_cell? _ _ qw32
  dsimp only at zqw3_2
  have zqw3_4 := World.block_lt_of_cell? _ _ qw34
  dsimp only at zqw3_4
  have H3 := Lib.hid (below_then (below_alloc_top H2.out _) hb3); clear hb3
  go_wp2_with fail
  refine (HP.out _).mono ?_
  rintro e w4 ⟨rfl, hb4⟩
  have qw40 : w4.cell? ⟨w.heap.size, 0, none⟩ = some (.int .i64 a) := cell_later hb4 (by simp [go_sem, *])
  have qw41 : w4.cell? ⟨w.heap.size, 1, none⟩ = some (.int .i64 b) := cell_later hb4 (by simp [go_sem, *])
  have qw42 : w4.cell? ⟨w.heap.size + 1, 0, none⟩ = some (.int .i64 c) := cell_later hb4 (by simp [go_sem, *])
  have qw43 : w4.cell? ⟨w.heap.size + 1, 1, none⟩ = some (.int .i64 d) := cell_later hb4 (by simp [go_sem, *])
  have qw44 : w4.cell? ⟨w2.heap.size, 0, none⟩ = some (.int .i64 0) := cell_later hb4 (by simp [go_sem, *])
  have qw45 : w4.cell? ⟨w2.heap.size, 1, none⟩ = some (.int .i64 0) := cell_later hb4 (by simp [go_sem, *])
  have qw46 : w4.cell? ⟨w3.heap.size, 0, none⟩ = some (.int .i64 0) := cell_later hb4 (by simp [go_sem, *])
  have qw47 : w4.cell? ⟨w3.heap.size, 1, none⟩ = some (.int .i64 0) := cell_later hb4 (by simp [go_sem, *])
  have zqw4_0 := World.block_lt_of_cell? _ _ qw40
  dsimp only at zqw4_0
  have zqw4_2 := World.block_lt_of_cell? _ _ qw42
  dsimp only at zqw4_2
  have zqw4_4 := World.block_lt_of_cell? _ _ qw44
  dsimp only at zqw4_4
  have zqw4_6 := World.block_lt_of_cell? _ _ qw46
  dsimp only at zqw4_6
  have H4 := Lib.hid (below_then (below_alloc_top H3.out _) hb4); clear hb4
  go_wp2
  go_ret
  exact ⟨rfl, H4.out⟩
set_option maxRecDepth 100000 in
set_option maxHeartbeats 1000000 in
theorem legs_b (a b c d v : Int) (w : World) (ha : placeE a b = 0) (hc : placeE c d = 2) (hl : legE a b c d = 2) :
    Calls Try.prog 3 #[.agg #[.int .i64 a, .int .i64 b], .agg #[.int .i64 c, .int .i64 d], .int .i64 v] w fun e w' => e = .returned (.bool true) ∧ Below w.heap.size w w' := by
  have HL := Lib.hid (fun w => length_bad a b c d w (by rw [hl]; decide))
  have HT := Lib.hid (fun w => timeOf_bad a b c d v w (by unfold timE; rw [fst_two_more _ _ _ (by show legE a b c d ≠ 0; rw [hl]; decide)]; show legE a b c d ≠ 0; rw [hl]; decide))
  have ht : timE a b c d v = 2 := by unfold timE; rw [fst_two_more _ _ _ (by show legE a b c d ≠ 0; rw [hl]; decide)]; exact hl
  rw [hl] at HL
  rw [ht] at HT
  have HP := Lib.hid (fun w => spotErr_any a b w)
  have HQ := Lib.hid (fun w => spotErr_any c d w)
  rw [ha] at HP
  rw [hc] at HQ
  clear ha hl ht hc
  go_enter Try.func3, Try.ntmps3
  go_wp2_with fail
  refine (awake_any _).mono ?_
  rintro e w1 ⟨rfl, hb1⟩
  have qw10 : w1.cell? ⟨w.heap.size, 0, none⟩ = some (.int .i64 a) := cell_later hb1 (by simp [go_sem])
  have qw11 : w1.cell? ⟨w.heap.size, 1, none⟩ = some (.int .i64 b) := cell_later hb1 (by simp [go_sem])
  have qw12 : w1.cell? ⟨w.heap.size + 1, 0, none⟩ = some (.int .i64 c) := cell_later hb1 (by simp [go_sem])
  have qw13 : w1.cell? ⟨w.heap.size + 1, 1, none⟩ = some (.int .i64 d) := cell_later hb1 (by simp [go_sem])
  have zqw1_0 := World.block_lt_of_cell? _ _ qw10
  dsimp only at zqw1_0
  have zqw1_2 := World.block_lt_of_cell? _ _ qw12
  dsimp only at zqw1_2
  have H1 := Lib.hid (below_after (by repeat (first | exact Below.refl _ _ | refine Below.drew ?_ | refine below_drewN ?_ _ | refine Below.setCell ?_ (by first | omega | (simp; done) | (simp; omega)) _ | refine Below.alloc ?_ (by first | omega | (simp; done) | (simp; omega)) _)) hb1 (by simp; omega) : Below w.heap.size w w1); clear hb1
  go_wp2_with fail
  refine (HL.out _).mono ?_
  rintro e w2 ⟨rfl, hb2⟩
  have qw20 : w2.cell? ⟨w.heap.size, 0, none⟩ = some (.int .i64 a) := cell_later hb2 (by simp [go_sem, *])
  have qw21 : w2.cell? ⟨w.heap.size, 1, none⟩ = some (.int .i64 b) := cell_later hb2 (by simp [go_sem, *])
  have qw22 : w2.cell? ⟨w.heap.size + 1, 0, none⟩ = some (.int .i64 c) := cell_later hb2 (by simp [go_sem, *])
  have qw23 : w2.cell? ⟨w.heap.size + 1, 1, none⟩ = some (.int .i64 d) := cell_later hb2 (by simp [go_sem, *])
  have zqw2_0 := World.block_lt_of_cell? _ _ qw20
  dsimp only at zqw2_0
  have zqw2_2 := World.block_lt_of_cell? _ _ qw22
  dsimp only at zqw2_2
  have H2 := Lib.hid (below_then H1.out hb2); clear hb2
  go_wp2_with fail
  refine (HT.out _).mono ?_
  rintro e w3 ⟨rfl, hb3⟩
  have qw30 : w3.cell? ⟨w.heap.size, 0, none⟩ = some (.int .i64 a) := cell_later hb3 (by simp [go_sem, *])
  have qw31 : w3.cell? ⟨w.heap.size, 1, none⟩ = some (.int .i64 b) := cell_later hb3 (by simp [go_sem, *])
  have qw32 : w3.cell? ⟨w.heap.size + 1, 0, none⟩ = some (.int .i64 c) := cell_later hb3 (by simp [go_sem, *])
  have qw33 : w3.cell? ⟨w.heap.size + 1, 1, none⟩ = some (.int .i64 d) := cell_later hb3 (by simp [go_sem, *])
  have qw34 : w3.cell? ⟨w2.heap.size, 0, none⟩ = some (.int .i64 0) := cell_later hb3 (by simp [go_sem, *])
  have qw35 : w3.cell? ⟨w2.heap.size, 1, none⟩ = some (.int .i64 0) := cell_later hb3 (by simp [go_sem, *])
  have zqw3_0 := World.block_lt_of_cell? _ _ qw30
  dsimp only at zqw3_0
  have zqw3_2 := World.block_lt_of_cell? _ _ qw32
  dsimp only at zqw3_2
  have zqw3_4 := World.block_lt_of_cell? _ _ qw34
  dsimp only at zqw3_4
  have H3 := Lib.hid (below_then (below_alloc_top H2.out _) hb3); clear hb3
  go_wp2_with fail
  refine (HP.out _).mono ?_
  rintro e w4 ⟨rfl, hb4⟩
  have qw40 : w4.cell? ⟨w.heap.size, 0, none⟩ = some (.int .i64 a) := cell_later hb4 (by simp [go_sem, *])
  have qw41 : w4.cell? ⟨w.heap.size, 1, none⟩ = some (.int .i64 b) := cell_later hb4 (by simp [go_sem, *])
  have qw42 : w4.cell? ⟨w.heap.size + 1, 0, none⟩ = some (.int .i64 c) := cell_later hb4 (by simp [go_sem, *])
  have qw43 : w4.cell? ⟨w.heap.size + 1, 1, none⟩ = some (.int .i64 d) := cell_later hb4 (by simp [go_sem, *])
  have qw44 : w4.cell? ⟨w2.heap.size, 0, none⟩ = some (.int .i64 0) := cell_later hb4 (by simp [go_sem, *])
  have qw45 : w4.cell? ⟨w2.heap.size, 1, none⟩ = some (.int .i64 0) := cell_later hb4 (by simp [go_sem, *])
  have qw46 : w4.cell? ⟨w3.heap.size, 0, none⟩ = some (.int .i64 0) := cell_later hb4 (by simp [go_sem, *])
  have qw47 : w4.cell? ⟨w3.heap.size, 1, none⟩ = some (.int .i64 0) := cell_later hb4 (by simp [go_sem, *])
  have zqw4_0 := World.block_lt_of_cell? _ _ qw40
  dsimp only at zqw4_0
  have zqw4_2 := World.block_lt_of_cell? _ _ qw42
  dsimp only at zqw4_2
  have zqw4_4 := World.block_lt_of_cell? _ _ qw44
  dsimp only at zqw4_4
  have zqw4_6 := World.block_lt_of_cell? _ _ qw46
  dsimp only at zqw4_6
  have H4 := Lib.hid (below_then (below_alloc_top H3.out _) hb4); clear hb4
  go_wp2_with fail
  refine (HQ.out _).mono ?_
  rintro e w5 ⟨rfl, hb5⟩
  have qw50 : w5.cell? ⟨w.heap.size, 0, none⟩ = some (.int .i64 a) := cell_later hb5 (by simp [go_sem, *])
  have qw51 : w5.cell? ⟨w.heap.size, 1, none⟩ = some (.int .i64 b) := cell_later hb5 (by simp [go_sem, *])
  have qw52 : w5.cell? ⟨w.heap.size + 1, 0, none⟩ = some (.int .i64 c) := cell_later hb5 (by simp [go_sem, *])
  have qw53 : w5.cell? ⟨w.heap.size + 1, 1, none⟩ = some (.int .i64 d) := cell_later hb5 (by simp [go_sem, *])
  have qw54 : w5.cell? ⟨w2.heap.size, 0, none⟩ = some (.int .i64 0) := cell_later hb5 (by simp [go_sem, *])
  have qw55 : w5.cell? ⟨w2.heap.size, 1, none⟩ = some (.int .i64 0) := cell_later hb5 (by simp [go_sem, *])
  have qw56 : w5.cell? ⟨w3.heap.size, 0, none⟩ = some (.int .i64 0) := cell_later hb5 (by simp [go_sem, *])
  have qw57 : w5.cell? ⟨w3.heap.size, 1, none⟩ = some (.int .i64 0) := cell_later hb5 (by simp [go_sem, *])
  have zqw5_0 := World.block_lt_of_cell? _ _ qw50
  dsimp only at zqw5_0
  have zqw5_2 := World.block_lt_of_cell? _ _ qw52
  dsimp only at zqw5_2
  have zqw5_4 := World.block_lt_of_cell? _ _ qw54
  dsimp only at zqw5_4
  have zqw5_6 := World.block_lt_of_cell? _ _ qw56
  dsimp only at zqw5_6
  have H5 := Lib.hid (below_then H4.out hb5); clear hb5
  go_wp2
  go_ret
  exact ⟨rfl, H5.out⟩
set_option maxRecDepth 100000 in
set_option maxHeartbeats 1000000 in
theorem legs_c (a b c d v : Int) (w : World) (ha : placeE a b = 0) (hc : placeE c d = 0) (hl : legE a b c d = 0) (hv : unl (inB v 500 10000) 2 = 2) :
    Calls Try.prog 3 #[.agg #[.int .i64 a, .int .i64 b], .agg #[.int .i64 c, .int .i64 d], .int .i64 v] w fun e w' => e = .returned (.bool true) ∧ Below w.heap.size w w' := by
  have p := (legE_zero a b c d).1 hl
  have HL := Lib.hid (fun w => length_ok a b c d w p)
  have HP := Lib.hid (fun w => spotErr_any a b w)
  have HQ := Lib.hid (fun w => spotErr_any c d w)
  have HR := Lib.hid (fun w => refLength_any a b c d w p)
  rw [ha] at HP
  rw [hc] at HQ
  generalize rt (sqL (c - a) (d - b)) = lo at *
  generalize rtU (sqL (c - a) (d - b)) = hi at *
  have ht : timE a b c d v = 2 := by unfold timE; rw [fst_two_zero _ _ _ (by exact hl), hv]; rfl
  have HT := Lib.hid (fun w => timeOf_bad a b c d v w (by rw [ht]; decide))
  have HS := Lib.hid (fun w => speedErr_any v w)
  rw [ht] at HT
  rw [hv] at HS
  clear ha hl ht hc hv p
  go_enter Try.func3, Try.ntmps3
  go_wp2_with fail
  refine (awake_any _).mono ?_
  rintro e w1 ⟨rfl, hb1⟩
  have qw10 : w1.cell? ⟨w.heap.size, 0, none⟩ = some (.int .i64 a) := cell_later hb1 (by simp [go_sem])
  have qw11 : w1.cell? ⟨w.heap.size, 1, none⟩ = some (.int .i64 b) := cell_later hb1 (by simp [go_sem])
  have qw12 : w1.cell? ⟨w.heap.size + 1, 0, none⟩ = some (.int .i64 c) := cell_later hb1 (by simp [go_sem])
  have qw13 : w1.cell? ⟨w.heap.size + 1, 1, none⟩ = some (.int .i64 d) := cell_later hb1 (by simp [go_sem])
  have zqw1_0 := World.block_lt_of_cell? _ _ qw10
  dsimp only at zqw1_0
  have zqw1_2 := World.block_lt_of_cell? _ _ qw12
  dsimp only at zqw1_2
  have H1 := Lib.hid (below_after (by repeat (first | exact Below.refl _ _ | refine Below.drew ?_ | refine below_drewN ?_ _ | refine Below.setCell ?_ (by first | omega | (simp; done) | (simp; omega)) _ | refine Below.alloc ?_ (by first | omega | (simp; done) | (simp; omega)) _)) hb1 (by simp; omega) : Below w.heap.size w w1); clear hb1
  go_wp2_with fail
  refine (HL.out _).mono ?_
  rintro e w2 ⟨rfl, hb2⟩
  have qw20 : w2.cell? ⟨w.heap.size, 0, none⟩ = some (.int .i64 a) := cell_later hb2 (by simp [go_sem, *])
  have qw21 : w2.cell? ⟨w.heap.size, 1, none⟩ = some (.int .i64 b) := cell_later hb2 (by simp [go_sem, *])
  have qw22 : w2.cell? ⟨w.heap.size + 1, 0, none⟩ = some (.int .i64 c) := cell_later hb2 (by simp [go_sem, *])
  have qw23 : w2.cell? ⟨w.heap.size + 1, 1, none⟩ = some (.int .i64 d) := cell_later hb2 (by simp [go_sem, *])
  have zqw2_0 := World.block_lt_of_cell? _ _ qw20
  dsimp only at zqw2_0
  have zqw2_2 := World.block_lt_of_cell? _ _ qw22
  dsimp only at zqw2_2
  have H2 := Lib.hid (below_then H1.out hb2); clear hb2
  go_wp2_with fail
  refine (HT.out _).mono ?_
  rintro e w3 ⟨rfl, hb3⟩
  have qw30 : w3.cell? ⟨w.heap.size, 0, none⟩ = some (.int .i64 a) := cell_later hb3 (by simp [go_sem, *])
  have qw31 : w3.cell? ⟨w.heap.size, 1, none⟩ = some (.int .i64 b) := cell_later hb3 (by simp [go_sem, *])
  have qw32 : w3.cell? ⟨w.heap.size + 1, 0, none⟩ = some (.int .i64 c) := cell_later hb3 (by simp [go_sem, *])
  have qw33 : w3.cell? ⟨w.heap.size + 1, 1, none⟩ = some (.int .i64 d) := cell_later hb3 (by simp [go_sem, *])
  have qw34 : w3.cell? ⟨w2.heap.size, 0, none⟩ = some (.int .i64 lo) := cell_later hb3 (by simp [go_sem, *])
  have qw35 : w3.cell? ⟨w2.heap.size, 1, none⟩ = some (.int .i64 hi) := cell_later hb3 (by simp [go_sem, *])
  have zqw3_0 := World.block_lt_of_cell? _ _ qw30
  dsimp only at zqw3_0
  have zqw3_2 := World.block_lt_of_cell? _ _ qw32
  dsimp only at zqw3_2
  have zqw3_4 := World.block_lt_of_cell? _ _ qw34
  dsimp only at zqw3_4
  have H3 := Lib.hid (below_then (below_alloc_top H2.out _) hb3); clear hb3
  go_wp2_with fail
  refine (HP.out _).mono ?_
  rintro e w4 ⟨rfl, hb4⟩
  have qw40 : w4.cell? ⟨w.heap.size, 0, none⟩ = some (.int .i64 a) := cell_later hb4 (by simp [go_sem, *])
  have qw41 : w4.cell? ⟨w.heap.size, 1, none⟩ = some (.int .i64 b) := cell_later hb4 (by simp [go_sem, *])
  have qw42 : w4.cell? ⟨w.heap.size + 1, 0, none⟩ = some (.int .i64 c) := cell_later hb4 (by simp [go_sem, *])
  have qw43 : w4.cell? ⟨w.heap.size + 1, 1, none⟩ = some (.int .i64 d) := cell_later hb4 (by simp [go_sem, *])
  have qw44 : w4.cell? ⟨w2.heap.size, 0, none⟩ = some (.int .i64 lo) := cell_later hb4 (by simp [go_sem, *])
  have qw45 : w4.cell? ⟨w2.heap.size, 1, none⟩ = some (.int .i64 hi) := cell_later hb4 (by simp [go_sem, *])
  have qw46 : w4.cell? ⟨w3.heap.size, 0, none⟩ = some (.int .i64 0) := cell_later hb4 (by simp [go_sem, *])
  have qw47 : w4.cell? ⟨w3.heap.size, 1, none⟩ = some (.int .i64 0) := cell_later hb4 (by simp [go_sem, *])
  have zqw4_0 := World.block_lt_of_cell? _ _ qw40
  dsimp only at zqw4_0
  have zqw4_2 := World.block_lt_of_cell? _ _ qw42
  dsimp only at zqw4_2
  have zqw4_4 := World.block_lt_of_cell? _ _ qw44
  dsimp only at zqw4_4
  have zqw4_6 := World.block_lt_of_cell? _ _ qw46
  dsimp only at zqw4_6
  have H4 := Lib.hid (below_then (below_alloc_top H3.out _) hb4); clear hb4
  go_wp2_with fail
  refine (HQ.out _).mono ?_
  rintro e w5 ⟨rfl, hb5⟩
  have qw50 : w5.cell? ⟨w.heap.size, 0, none⟩ = some (.int .i64 a) := cell_later hb5 (by simp [go_sem, *])
  have qw51 : w5.cell? ⟨w.heap.size, 1, none⟩ = some (.int .i64 b) := cell_later hb5 (by simp [go_sem, *])
  have qw52 : w5.cell? ⟨w.heap.size + 1, 0, none⟩ = some (.int .i64 c) := cell_later hb5 (by simp [go_sem, *])
  have qw53 : w5.cell? ⟨w.heap.size + 1, 1, none⟩ = some (.int .i64 d) := cell_later hb5 (by simp [go_sem, *])
  have qw54 : w5.cell? ⟨w2.heap.size, 0, none⟩ = some (.int .i64 lo) := cell_later hb5 (by simp [go_sem, *])
  have qw55 : w5.cell? ⟨w2.heap.size, 1, none⟩ = some (.int .i64 hi) := cell_later hb5 (by simp [go_sem, *])
  have qw56 : w5.cell? ⟨w3.heap.size, 0, none⟩ = some (.int .i64 0) := cell_later hb5 (by simp [go_sem, *])
  have qw57 : w5.cell? ⟨w3.heap.size, 1, none⟩ = some (.int .i64 0) := cell_later hb5 (by simp [go_sem, *])
  have zqw5_0 := World.block_lt_of_cell? _ _ qw50
  dsimp only at zqw5_0
  have zqw5_2 := World.block_lt_of_cell? _ _ qw52
  dsimp only at zqw5_2
  have zqw5_4 := World.block_lt_of_cell? _ _ qw54
  dsimp only at zqw5_4
  have zqw5_6 := World.block_lt_of_cell? _ _ qw56
  dsimp only at zqw5_6
  have H5 := Lib.hid (below_then H4.out hb5); clear hb5
  go_wp2_with fail
  have hBel := H5.out
  go_region_held3 (fun w' => w'.cell? ⟨w.heap.size, 0, none⟩ = some (.int .i64 a) ∧ w'.cell? ⟨w.heap.size, 1, none⟩ = some (.int .i64 b) ∧ w'.cell? ⟨w.heap.size + 1, 0, none⟩ = some (.int .i64 c) ∧ w'.cell? ⟨w.heap.size + 1, 1, none⟩ = some (.int .i64 d) ∧ w'.cell? ⟨w2.heap.size, 0, none⟩ = some (.int .i64 lo) ∧ w'.cell? ⟨w2.heap.size, 1, none⟩ = some (.int .i64 hi) ∧ w'.cell? ⟨w3.heap.size, 0, none⟩ = some (.int .i64 0) ∧ w'.cell? ⟨w3.heap.size, 1, none⟩ = some (.int .i64 0) ∧ Below w.heap.size w w') ((go_split_ands; (repeat' apply And.intro) <;> first | (with_reducible assumption) | exact cell_later (by assumption) (by assumption) | exact frozen_after (by assumption) (by assumption) (by assumption) | exact below_then (by assumption) (by assumption) | exact below_alloc_top (by assumption) _ | exact cell_alloc_later (by assumption) _ | exact frozen_alloc_later (by assumption) (by assumption) _ | exact Below.drew (by assumption) | (simp [go_sem, World.cell?_alloc_past, *]; done)))
    ((go_at_call 26; refine (HR.out _).mono ?_; rintro e w' ⟨rfl, hb⟩))
  go_split_ands
  go_wp2_with fail
  refine (HS.out _).mono ?_
  rintro e w9 ⟨rfl, rfl⟩
  go_wp2
  go_ret
  exact ⟨rfl, by with_reducible assumption⟩
set_option maxRecDepth 100000 in
set_option maxHeartbeats 1000000 in
theorem legs_d (a b c d v : Int) (w : World) (ha : placeE a b = 0) (hc : placeE c d = 0) (hl : legE a b c d = 0) (v0 : 500 ≤ v) (v1 : v ≤ 10000) :
    Calls Try.prog 3 #[.agg #[.int .i64 a, .int .i64 b], .agg #[.int .i64 c, .int .i64 d], .int .i64 v] w fun e w' => e = .returned (.bool true) ∧ Below w.heap.size w w' := by
  have p := (legE_zero a b c d).1 hl
  have HL := Lib.hid (fun w => length_ok a b c d w p)
  have HP := Lib.hid (fun w => spotErr_any a b w)
  have HQ := Lib.hid (fun w => spotErr_any c d w)
  have HR := Lib.hid (fun w => refLength_any a b c d w p)
  rw [ha] at HP
  rw [hc] at HQ
  generalize rt (sqL (c - a) (d - b)) = lo at *
  generalize rtU (sqL (c - a) (d - b)) = hi at *
  have HT := Lib.hid (fun w => timeOf_ok a b c d v w p v0 v1)
  have HS := Lib.hid (fun w => speedErr_any v w)
  have HU := Lib.hid (fun w => refTimeOf_any a b c d v w p v0 v1)
  rw [show unl (inB v 500 10000) 2 = 0 from (unl_inB v 500 10000 2 (by decide)).2 ⟨v0, v1⟩] at HS
  generalize toLo a b c d v = tl at *
  generalize toHi a b c d v = th at *
  clear ha hl hc v0 v1 p
  go_enter Try.func3, Try.ntmps3
  go_wp2_with fail
  refine (awake_any _).mono ?_
  rintro e w1 ⟨rfl, hb1⟩
  have qw10 : w1.cell? ⟨w.heap.size, 0, none⟩ = some (.int .i64 a) := cell_later hb1 (by simp [go_sem])
  have qw11 : w1.cell? ⟨w.heap.size, 1, none⟩ = some (.int .i64 b) := cell_later hb1 (by simp [go_sem])
  have qw12 : w1.cell? ⟨w.heap.size + 1, 0, none⟩ = some (.int .i64 c) := cell_later hb1 (by simp [go_sem])
  have qw13 : w1.cell? ⟨w.heap.size + 1, 1, none⟩ = some (.int .i64 d) := cell_later hb1 (by simp [go_sem])
  have zqw1_0 := World.block_lt_of_cell? _ _ qw10
  dsimp only at zqw1_0
  have zqw1_2 := World.block_lt_of_cell? _ _ qw12
  dsimp only at zqw1_2
  have H1 := Lib.hid (below_after (by repeat (first | exact Below.refl _ _ | refine Below.drew ?_ | refine below_drewN ?_ _ | refine Below.setCell ?_ (by first | omega | (simp; done) | (simp; omega)) _ | refine Below.alloc ?_ (by first | omega | (simp; done) | (simp; omega)) _)) hb1 (by simp; omega) : Below w.heap.size w w1); clear hb1
  go_wp2_with fail
  refine (HL.out _).mono ?_
  rintro e w2 ⟨rfl, hb2⟩
  have qw20 : w2.cell? ⟨w.heap.size, 0, none⟩ = some (.int .i64 a) := cell_later hb2 (by simp [go_sem, *])
  have qw21 : w2.cell? ⟨w.heap.size, 1, none⟩ = some (.int .i64 b) := cell_later hb2 (by simp [go_sem, *])
  have qw22 : w2.cell? ⟨w.heap.size + 1, 0, none⟩ = some (.int .i64 c) := cell_later hb2 (by simp [go_sem, *])
  have qw23 : w2.cell? ⟨w.heap.size + 1, 1, none⟩ = some (.int .i64 d) := cell_later hb2 (by simp [go_sem, *])
  have zqw2_0 := World.block_lt_of_cell? _ _ qw20
  dsimp only at zqw2_0
  have zqw2_2 := World.block_lt_of_cell? _ _ qw22
  dsimp only at zqw2_2
  have H2 := Lib.hid (below_then H1.out hb2); clear hb2
  go_wp2_with fail
  refine (HT.out _).mono ?_
  rintro e w3 ⟨rfl, hb3⟩
  have qw30 : w3.cell? ⟨w.heap.size, 0, none⟩ = some (.int .i64 a) := cell_later hb3 (by simp [go_sem, *])
  have qw31 : w3.cell? ⟨w.heap.size, 1, none⟩ = some (.int .i64 b) := cell_later hb3 (by simp [go_sem, *])
  have qw32 : w3.cell? ⟨w.heap.size + 1, 0, none⟩ = some (.int .i64 c) := cell_later hb3 (by simp [go_sem, *])
  have qw33 : w3.cell? ⟨w.heap.size + 1, 1, none⟩ = some (.int .i64 d) := cell_later hb3 (by simp [go_sem, *])
  have qw34 : w3.cell? ⟨w2.heap.size, 0, none⟩ = some (.int .i64 lo) := cell_later hb3 (by simp [go_sem, *])
  have qw35 : w3.cell? ⟨w2.heap.size, 1, none⟩ = some (.int .i64 hi) := cell_later hb3 (by simp [go_sem, *])
  have zqw3_0 := World.block_lt_of_cell? _ _ qw30
  dsimp only at zqw3_0
  have zqw3_2 := World.block_lt_of_cell? _ _ qw32
  dsimp only at zqw3_2
  have zqw3_4 := World.block_lt_of_cell? _ _ qw34
  dsimp only at zqw3_4
  have H3 := Lib.hid (below_then (below_alloc_top H2.out _) hb3); clear hb3
  go_wp2_with fail
  refine (HP.out _).mono ?_
  rintro e w4 ⟨rfl, hb4⟩
  have qw40 : w4.cell? ⟨w.heap.size, 0, none⟩ = some (.int .i64 a) := cell_later hb4 (by simp [go_sem, *])
  have qw41 : w4.cell? ⟨w.heap.size, 1, none⟩ = some (.int .i64 b) := cell_later hb4 (by simp [go_sem, *])
  have qw42 : w4.cell? ⟨w.heap.size + 1, 0, none⟩ = some (.int .i64 c) := cell_later hb4 (by simp [go_sem, *])
  have qw43 : w4.cell? ⟨w.heap.size + 1, 1, none⟩ = some (.int .i64 d) := cell_later hb4 (by simp [go_sem, *])
  have qw44 : w4.cell? ⟨w2.heap.size, 0, none⟩ = some (.int .i64 lo) := cell_later hb4 (by simp [go_sem, *])
  have qw45 : w4.cell? ⟨w2.heap.size, 1, none⟩ = some (.int .i64 hi) := cell_later hb4 (by simp [go_sem, *])
  have qw46 : w4.cell? ⟨w3.heap.size, 0, none⟩ = some (.int .i64 tl) := cell_later hb4 (by simp [go_sem, *])
  have qw47 : w4.cell? ⟨w3.heap.size, 1, none⟩ = some (.int .i64 th) := cell_later hb4 (by simp [go_sem, *])
  have zqw4_0 := World.block_lt_of_cell? _ _ qw40
  dsimp only at zqw4_0
  have zqw4_2 := World.block_lt_of_cell? _ _ qw42
  dsimp only at zqw4_2
  have zqw4_4 := World.block_lt_of_cell? _ _ qw44
  dsimp only at zqw4_4
  have zqw4_6 := World.block_lt_of_cell? _ _ qw46
  dsimp only at zqw4_6
  have H4 := Lib.hid (below_then (below_alloc_top H3.out _) hb4); clear hb4
  go_wp2_with fail
  refine (HQ.out _).mono ?_
  rintro e w5 ⟨rfl, hb5⟩
  have qw50 : w5.cell? ⟨w.heap.size, 0, none⟩ = some (.int .i64 a) := cell_later hb5 (by simp [go_sem, *])
  have qw51 : w5.cell? ⟨w.heap.size, 1, none⟩ = some (.int .i64 b) := cell_later hb5 (by simp [go_sem, *])
  have qw52 : w5.cell? ⟨w.heap.size + 1, 0, none⟩ = some (.int .i64 c) := cell_later hb5 (by simp [go_sem, *])
  have qw53 : w5.cell? ⟨w.heap.size + 1, 1, none⟩ = some (.int .i64 d) := cell_later hb5 (by simp [go_sem, *])
  have qw54 : w5.cell? ⟨w2.heap.size, 0, none⟩ = some (.int .i64 lo) := cell_later hb5 (by simp [go_sem, *])
  have qw55 : w5.cell? ⟨w2.heap.size, 1, none⟩ = some (.int .i64 hi) := cell_later hb5 (by simp [go_sem, *])
  have qw56 : w5.cell? ⟨w3.heap.size, 0, none⟩ = some (.int .i64 tl) := cell_later hb5 (by simp [go_sem, *])
  have qw57 : w5.cell? ⟨w3.heap.size, 1, none⟩ = some (.int .i64 th) := cell_later hb5 (by simp [go_sem, *])
  have zqw5_0 := World.block_lt_of_cell? _ _ qw50
  dsimp only at zqw5_0
  have zqw5_2 := World.block_lt_of_cell? _ _ qw52
  dsimp only at zqw5_2
  have zqw5_4 := World.block_lt_of_cell? _ _ qw54
  dsimp only at zqw5_4
  have zqw5_6 := World.block_lt_of_cell? _ _ qw56
  dsimp only at zqw5_6
  have H5 := Lib.hid (below_then H4.out hb5); clear hb5
  go_wp2_with fail
  have hBel := H5.out
  go_region_held3 (fun w' => w'.cell? ⟨w.heap.size, 0, none⟩ = some (.int .i64 a) ∧ w'.cell? ⟨w.heap.size, 1, none⟩ = some (.int .i64 b) ∧ w'.cell? ⟨w.heap.size + 1, 0, none⟩ = some (.int .i64 c) ∧ w'.cell? ⟨w.heap.size + 1, 1, none⟩ = some (.int .i64 d) ∧ w'.cell? ⟨w2.heap.size, 0, none⟩ = some (.int .i64 lo) ∧ w'.cell? ⟨w2.heap.size, 1, none⟩ = some (.int .i64 hi) ∧ w'.cell? ⟨w3.heap.size, 0, none⟩ = some (.int .i64 tl) ∧ w'.cell? ⟨w3.heap.size, 1, none⟩ = some (.int .i64 th) ∧ Below w.heap.size w w') ((go_split_ands; (repeat' apply And.intro) <;> first | (with_reducible assumption) | exact cell_later (by assumption) (by assumption) | exact frozen_after (by assumption) (by assumption) (by assumption) | exact below_then (by assumption) (by assumption) | exact below_alloc_top (by assumption) _ | exact cell_alloc_later (by assumption) _ | exact frozen_alloc_later (by assumption) (by assumption) _ | exact Below.drew (by assumption) | (simp [go_sem, World.cell?_alloc_past, *]; done)))
    ((go_at_call 26; refine (HR.out _).mono ?_; rintro e w' ⟨rfl, hb⟩))
  go_split_ands
  go_wp2_with fail
  refine (HS.out _).mono ?_
  rintro e w9 ⟨rfl, rfl⟩
  go_wp2
  go_region_held3 (fun w' => w'.cell? ⟨w.heap.size, 0, none⟩ = some (.int .i64 a) ∧ w'.cell? ⟨w.heap.size, 1, none⟩ = some (.int .i64 b) ∧ w'.cell? ⟨w.heap.size + 1, 0, none⟩ = some (.int .i64 c) ∧ w'.cell? ⟨w.heap.size + 1, 1, none⟩ = some (.int .i64 d) ∧ w'.cell? ⟨w2.heap.size, 0, none⟩ = some (.int .i64 lo) ∧ w'.cell? ⟨w2.heap.size, 1, none⟩ = some (.int .i64 hi) ∧ w'.cell? ⟨w3.heap.size, 0, none⟩ = some (.int .i64 tl) ∧ w'.cell? ⟨w3.heap.size, 1, none⟩ = some (.int .i64 th) ∧ Below w.heap.size w w') ((go_split_ands; (repeat' apply And.intro) <;> first | (with_reducible assumption) | exact cell_later (by assumption) (by assumption) | exact frozen_after (by assumption) (by assumption) (by assumption) | exact below_then (by assumption) (by assumption) | exact below_alloc_top (by assumption) _ | exact cell_alloc_later (by assumption) _ | exact frozen_alloc_later (by assumption) (by assumption) _ | exact Below.drew (by assumption) | (simp [go_sem, World.cell?_alloc_past, *]; done)))
    ((go_at_call 28; refine (HU.out _).mono ?_; rintro e w' ⟨rfl, hb⟩))
  go_split_ands
  go_wp2
  go_ret
  exact ⟨rfl, by with_reducible assumption⟩
theorem legs_any (a b c d v : Int) (w : World) :
    Calls Try.prog 3 #[.agg #[.int .i64 a, .int .i64 b], .agg #[.int .i64 c, .int .i64 d], .int .i64 v] w fun e w' => e = .returned (.bool true) ∧ Below w.heap.size w w' := by
  rcases legE_split a b c d with ⟨h1, h2⟩ | ⟨h1, h2, h3⟩ | ⟨h1, h2, h3⟩
  · exact legs_a a b c d v w h1 h2
  · exact legs_b a b c d v w h1 h2 h3
  · rcases unl_cases (inB v 500 10000) 2 with h | h
    · have k := (unl_inB v 500 10000 2 (by decide)).1 h
      exact legs_d a b c d v w h1 h2 h3 k.1 k.2
    · exact legs_c a b c d v w h1 h2 h3 h
end Go.Proofs.Ytdicndakelgoeaa
