/- steepest directions, near fields -/
import Derived.Test.YtnhbmmpjifliaaaGreatDoorYc
namespace Go.Proofs.YtnhbmmpjifliaaaGreatDoor
open Go.RowKit Go.Shelf RayM
set_option linter.unusedSimpArgs false
set_option linter.unusedVariables false
set_option maxRecDepth 100000 in
set_option maxHeartbeats 1000000 in
theorem steep_any (p s k a b r : Int) (w : World) :
    Calls Tryz.prog 16 #[.agg #[.int .i64 p, .int .i64 s, .int .i64 k, .int .i64 a, .int .i64 b, .int .i64 r]] w fun e w' => e = .returned (.tuple #[.agg #[.int .i64 (stN p s k), .int .i64 (stD p s k)], .int .i64 (stE0 p s k)]) ∧ Below w.heap.size w w' := by
  have HP := Lib.hid (fun w => pitchErr_any p s k a b r w)
  by_cases hP : ptE p s k = 0
  · have hL := lb_of p s k hP
    have HW := Lib.hid (fun w => pitchWave_any p s k a b r w hL)
    obtain ⟨p0, p1, s0, s1, k0, k1, m0, m1⟩ := hL
    by_cases hq : 100 * s < p * k
    · have e0 : stE0 p s k = 12 := by unfold stE0; rw [if_pos hP, if_pos hq]
      have e1 : stN p s k = 0 := by unfold stN; rw [e0]; rfl
      have e2 : stD p s k = 0 := by unfold stD; rw [e0]; rfl
      rw [e0, e1, e2]
      rw [hP] at HP
      clear e0 e1 e2 hP
      have vb0 : 50000 ≤ 100 * s := by omega
      have vb1 : 100 * s ≤ 1000000 := by omega
      generalize p * k = m at *
      generalize 100 * s = v at *
      go_enter Tryz.func16, Tryz.ntmps16
      go_wp2_with fail
      refine (HP.out _).mono ?_
      rintro e w1 ⟨rfl, hb1⟩
      have qw10 : w1.cell? ⟨w.heap.size, 0, none⟩ = some (.int .i64 p) := cell_later hb1 (by simp [go_sem])
      have qw11 : w1.cell? ⟨w.heap.size, 1, none⟩ = some (.int .i64 s) := cell_later hb1 (by simp [go_sem])
      have qw12 : w1.cell? ⟨w.heap.size, 2, none⟩ = some (.int .i64 k) := cell_later hb1 (by simp [go_sem])
      have qw13 : w1.cell? ⟨w.heap.size, 3, none⟩ = some (.int .i64 a) := cell_later hb1 (by simp [go_sem])
      have qw14 : w1.cell? ⟨w.heap.size, 4, none⟩ = some (.int .i64 b) := cell_later hb1 (by simp [go_sem])
      have qw15 : w1.cell? ⟨w.heap.size, 5, none⟩ = some (.int .i64 r) := cell_later hb1 (by simp [go_sem])
      have qw16 : w1.cell? ⟨w.heap.size + 1, 0, none⟩ = some (.int .i64 0) := cell_later hb1 (by simp [go_sem])
      have qw17 : w1.cell? ⟨w.heap.size + 1, 1, none⟩ = some (.int .i64 0) := cell_later hb1 (by simp [go_sem])
      have qw1f0 : w1.frozen? ⟨w.heap.size + 1, 0, none⟩ = false := frozen_after hb1 (v := .int .i64 0) (by simp [go_sem]) (by simp [go_sem])
      have qw1f1 : w1.frozen? ⟨w.heap.size + 1, 1, none⟩ = false := frozen_after hb1 (v := .int .i64 0) (by simp [go_sem]) (by simp [go_sem])
      have zqw1_0 := World.block_lt_of_cell? _ _ qw10
      dsimp only at zqw1_0
      have zqw1_6 := World.block_lt_of_cell? _ _ qw16
      dsimp only at zqw1_6
      have H1 : Hid (Below w.heap.size w w1) := Lib.hid (below_after (by repeat (first | exact Below.refl _ _ | refine Below.drew ?_ | refine below_drewN ?_ _ | refine Below.setCell ?_ (by first | omega | (simp; done) | (simp; omega)) _ | refine Below.alloc ?_ (by first | omega | (simp; done) | (simp; omega)) _)) hb1 (by first | omega | (simp; done) | (simp; omega))); clear hb1
      go_wp2_with fail
      refine (HW.out _).mono ?_
      rintro e w2 ⟨rfl, hb2⟩
      have qw20 : w2.cell? ⟨w.heap.size, 0, none⟩ = some (.int .i64 p) := cell_later hb2 (by first | assumption | simp [go_sem, *])
      have qw21 : w2.cell? ⟨w.heap.size, 1, none⟩ = some (.int .i64 s) := cell_later hb2 (by first | assumption | simp [go_sem, *])
      have qw22 : w2.cell? ⟨w.heap.size, 2, none⟩ = some (.int .i64 k) := cell_later hb2 (by first | assumption | simp [go_sem, *])
      have qw23 : w2.cell? ⟨w.heap.size, 3, none⟩ = some (.int .i64 a) := cell_later hb2 (by first | assumption | simp [go_sem, *])
      have qw24 : w2.cell? ⟨w.heap.size, 4, none⟩ = some (.int .i64 b) := cell_later hb2 (by first | assumption | simp [go_sem, *])
      have qw25 : w2.cell? ⟨w.heap.size, 5, none⟩ = some (.int .i64 r) := cell_later hb2 (by first | assumption | simp [go_sem, *])
      have qw26 : w2.cell? ⟨w.heap.size + 1, 0, none⟩ = some (.int .i64 0) := cell_later hb2 (by first | assumption | simp [go_sem, *])
      have qw27 : w2.cell? ⟨w.heap.size + 1, 1, none⟩ = some (.int .i64 0) := cell_later hb2 (by first | assumption | simp [go_sem, *])
      have qw2f0 : w2.frozen? ⟨w.heap.size + 1, 0, none⟩ = false := frozen_after hb2 (v := .int .i64 0) (by first | assumption | simp [go_sem, *]) (by first | assumption | simp [go_sem, *])
      have qw2f1 : w2.frozen? ⟨w.heap.size + 1, 1, none⟩ = false := frozen_after hb2 (v := .int .i64 0) (by first | assumption | simp [go_sem, *]) (by first | assumption | simp [go_sem, *])
      have zqw2_0 := World.block_lt_of_cell? _ _ qw20
      dsimp only at zqw2_0
      have zqw2_6 := World.block_lt_of_cell? _ _ qw26
      dsimp only at zqw2_6
      have H2 : Hid (Below w.heap.size w w2) := Lib.hid (below_then (by (repeat (first | (with_reducible exact H1.out) | (with_reducible refine Below.setCell ?_ ?_ _) | (with_reducible refine below_alloc_top ?_ _) | (with_reducible refine Below.drew ?_))); all_goals (first | omega | (simp; done) | (simp; omega))) hb2); clear hb2
      go_wp2
      exact bodyPost_ret (v := .tuple #[.agg #[.int .i64 (0), .int .i64 (0)], .int .i64 (12)]) (by simp [results, Tryz.results16, go_sem, World.cell?_alloc_past, *]) rfl ⟨rfl, (by (repeat (first | (with_reducible exact H2.out) | (with_reducible refine Below.setCell ?_ ?_ _) | (with_reducible refine below_alloc_top ?_ _) | (with_reducible refine Below.drew ?_))); all_goals (first | omega | (simp; done) | (simp; omega)))⟩
    · have e0 : stE0 p s k = 0 := by unfold stE0; rw [if_pos hP, if_neg hq]
      obtain ⟨_, _, e1, e2⟩ := st_parts p s k e0
      rw [e0, e1, e2]
      have LT := Lib.hid (fun w => lowestTerms_any (min (100 * s - p * k) (p * k)) (p * k) w (by omega) (by omega) (by omega) (by omega))
      generalize lowN (min (100 * s - p * k) (p * k)) (p * k) = N at *
      generalize lowD (min (100 * s - p * k) (p * k)) (p * k) = D at *
      rw [hP] at HP
      clear e0 e1 e2 hP
      have vb0 : 50000 ≤ 100 * s := by omega
      have vb1 : 100 * s ≤ 1000000 := by omega
      generalize p * k = m at *
      generalize 100 * s = v at *
      go_enter Tryz.func16, Tryz.ntmps16
      go_wp2_with fail
      refine (HP.out _).mono ?_
      rintro e w1 ⟨rfl, hb1⟩
      have qw10 : w1.cell? ⟨w.heap.size, 0, none⟩ = some (.int .i64 p) := cell_later hb1 (by simp [go_sem])
      have qw11 : w1.cell? ⟨w.heap.size, 1, none⟩ = some (.int .i64 s) := cell_later hb1 (by simp [go_sem])
      have qw12 : w1.cell? ⟨w.heap.size, 2, none⟩ = some (.int .i64 k) := cell_later hb1 (by simp [go_sem])
      have qw13 : w1.cell? ⟨w.heap.size, 3, none⟩ = some (.int .i64 a) := cell_later hb1 (by simp [go_sem])
      have qw14 : w1.cell? ⟨w.heap.size, 4, none⟩ = some (.int .i64 b) := cell_later hb1 (by simp [go_sem])
      have qw15 : w1.cell? ⟨w.heap.size, 5, none⟩ = some (.int .i64 r) := cell_later hb1 (by simp [go_sem])
      have qw16 : w1.cell? ⟨w.heap.size + 1, 0, none⟩ = some (.int .i64 0) := cell_later hb1 (by simp [go_sem])
      have qw17 : w1.cell? ⟨w.heap.size + 1, 1, none⟩ = some (.int .i64 0) := cell_later hb1 (by simp [go_sem])
      have qw1f0 : w1.frozen? ⟨w.heap.size + 1, 0, none⟩ = false := frozen_after hb1 (v := .int .i64 0) (by simp [go_sem]) (by simp [go_sem])
      have qw1f1 : w1.frozen? ⟨w.heap.size + 1, 1, none⟩ = false := frozen_after hb1 (v := .int .i64 0) (by simp [go_sem]) (by simp [go_sem])
      have zqw1_0 := World.block_lt_of_cell? _ _ qw10
      dsimp only at zqw1_0
      have zqw1_6 := World.block_lt_of_cell? _ _ qw16
      dsimp only at zqw1_6
      have H1 : Hid (Below w.heap.size w w1) := Lib.hid (below_after (by repeat (first | exact Below.refl _ _ | refine Below.drew ?_ | refine below_drewN ?_ _ | refine Below.setCell ?_ (by first | omega | (simp; done) | (simp; omega)) _ | refine Below.alloc ?_ (by first | omega | (simp; done) | (simp; omega)) _)) hb1 (by first | omega | (simp; done) | (simp; omega))); clear hb1
      go_wp2_with fail
      refine (HW.out _).mono ?_
      rintro e w2 ⟨rfl, hb2⟩
      have qw20 : w2.cell? ⟨w.heap.size, 0, none⟩ = some (.int .i64 p) := cell_later hb2 (by first | assumption | simp [go_sem, *])
      have qw21 : w2.cell? ⟨w.heap.size, 1, none⟩ = some (.int .i64 s) := cell_later hb2 (by first | assumption | simp [go_sem, *])
      have qw22 : w2.cell? ⟨w.heap.size, 2, none⟩ = some (.int .i64 k) := cell_later hb2 (by first | assumption | simp [go_sem, *])
      have qw23 : w2.cell? ⟨w.heap.size, 3, none⟩ = some (.int .i64 a) := cell_later hb2 (by first | assumption | simp [go_sem, *])
      have qw24 : w2.cell? ⟨w.heap.size, 4, none⟩ = some (.int .i64 b) := cell_later hb2 (by first | assumption | simp [go_sem, *])
      have qw25 : w2.cell? ⟨w.heap.size, 5, none⟩ = some (.int .i64 r) := cell_later hb2 (by first | assumption | simp [go_sem, *])
      have qw26 : w2.cell? ⟨w.heap.size + 1, 0, none⟩ = some (.int .i64 0) := cell_later hb2 (by first | assumption | simp [go_sem, *])
      have qw27 : w2.cell? ⟨w.heap.size + 1, 1, none⟩ = some (.int .i64 0) := cell_later hb2 (by first | assumption | simp [go_sem, *])
      have qw2f0 : w2.frozen? ⟨w.heap.size + 1, 0, none⟩ = false := frozen_after hb2 (v := .int .i64 0) (by first | assumption | simp [go_sem, *]) (by first | assumption | simp [go_sem, *])
      have qw2f1 : w2.frozen? ⟨w.heap.size + 1, 1, none⟩ = false := frozen_after hb2 (v := .int .i64 0) (by first | assumption | simp [go_sem, *]) (by first | assumption | simp [go_sem, *])
      have zqw2_0 := World.block_lt_of_cell? _ _ qw20
      dsimp only at zqw2_0
      have zqw2_6 := World.block_lt_of_cell? _ _ qw26
      dsimp only at zqw2_6
      have H2 : Hid (Below w.heap.size w w2) := Lib.hid (below_then (by (repeat (first | (with_reducible exact H1.out) | (with_reducible refine Below.setCell ?_ ?_ _) | (with_reducible refine below_alloc_top ?_ _) | (with_reducible refine Below.drew ?_))); all_goals (first | omega | (simp; done) | (simp; omega))) hb2); clear hb2
      go_wp2_with fail
      refine (LT.out _).mono ?_
      rintro e w3 ⟨rfl, hb3⟩
      have qw30 : w3.cell? ⟨w.heap.size, 0, none⟩ = some (.int .i64 p) := cell_later hb3 (by first | assumption | simp [go_sem, *])
      have qw31 : w3.cell? ⟨w.heap.size, 1, none⟩ = some (.int .i64 s) := cell_later hb3 (by first | assumption | simp [go_sem, *])
      have qw32 : w3.cell? ⟨w.heap.size, 2, none⟩ = some (.int .i64 k) := cell_later hb3 (by first | assumption | simp [go_sem, *])
      have qw33 : w3.cell? ⟨w.heap.size, 3, none⟩ = some (.int .i64 a) := cell_later hb3 (by first | assumption | simp [go_sem, *])
      have qw34 : w3.cell? ⟨w.heap.size, 4, none⟩ = some (.int .i64 b) := cell_later hb3 (by first | assumption | simp [go_sem, *])
      have qw35 : w3.cell? ⟨w.heap.size, 5, none⟩ = some (.int .i64 r) := cell_later hb3 (by first | assumption | simp [go_sem, *])
      have qw36 : w3.cell? ⟨w.heap.size + 1, 0, none⟩ = some (.int .i64 0) := cell_later hb3 (by first | assumption | simp [go_sem, *])
      have qw37 : w3.cell? ⟨w.heap.size + 1, 1, none⟩ = some (.int .i64 0) := cell_later hb3 (by first | assumption | simp [go_sem, *])
      have qw3f0 : w3.frozen? ⟨w.heap.size + 1, 0, none⟩ = false := frozen_after hb3 (v := .int .i64 0) (by first | assumption | simp [go_sem, *]) (by first | assumption | simp [go_sem, *])
      have qw3f1 : w3.frozen? ⟨w.heap.size + 1, 1, none⟩ = false := frozen_after hb3 (v := .int .i64 0) (by first | assumption | simp [go_sem, *]) (by first | assumption | simp [go_sem, *])
      have zqw3_0 := World.block_lt_of_cell? _ _ qw30
      dsimp only at zqw3_0
      have zqw3_6 := World.block_lt_of_cell? _ _ qw36
      dsimp only at zqw3_6
      have H3 : Hid (Below w.heap.size w w3) := Lib.hid (below_then (by (repeat (first | (with_reducible exact H2.out) | (with_reducible refine Below.setCell ?_ ?_ _) | (with_reducible refine below_alloc_top ?_ _) | (with_reducible refine Below.drew ?_))); all_goals (first | omega | (simp; done) | (simp; omega))) hb3); clear hb3
      go_wp2
      exact bodyPost_ret (v := .tuple #[.agg #[.int .i64 (N), .int .i64 (D)], .int .i64 (0)]) (by simp [results, Tryz.results16, go_sem, World.cell?_alloc_past, *]) rfl ⟨rfl, (by (repeat (first | (with_reducible exact H3.out) | (with_reducible refine Below.setCell ?_ ?_ _) | (with_reducible refine below_alloc_top ?_ _) | (with_reducible refine Below.drew ?_))); all_goals (first | omega | (simp; done) | (simp; omega)))⟩
  · have e0 : stE0 p s k = ptE p s k := by unfold stE0; rw [if_neg hP]
    have e1 : stN p s k = 0 := by unfold stN; rw [e0, if_neg hP]
    have e2 : stD p s k = 0 := by unfold stD; rw [e0, if_neg hP]
    rw [e0, e1, e2]
    have n1 : (ptE p s k != 0) = true := by simpa using hP
    generalize ptE p s k = u at *
    clear e0 e1 e2 hP
    go_enter Tryz.func16, Tryz.ntmps16
    go_wp2_with fail
    refine (HP.out _).mono ?_
    rintro e w1 ⟨rfl, hb1⟩
    have qw10 : w1.cell? ⟨w.heap.size, 0, none⟩ = some (.int .i64 p) := cell_later hb1 (by simp [go_sem])
    have qw11 : w1.cell? ⟨w.heap.size, 1, none⟩ = some (.int .i64 s) := cell_later hb1 (by simp [go_sem])
    have qw12 : w1.cell? ⟨w.heap.size, 2, none⟩ = some (.int .i64 k) := cell_later hb1 (by simp [go_sem])
    have qw13 : w1.cell? ⟨w.heap.size, 3, none⟩ = some (.int .i64 a) := cell_later hb1 (by simp [go_sem])
    have qw14 : w1.cell? ⟨w.heap.size, 4, none⟩ = some (.int .i64 b) := cell_later hb1 (by simp [go_sem])
    have qw15 : w1.cell? ⟨w.heap.size, 5, none⟩ = some (.int .i64 r) := cell_later hb1 (by simp [go_sem])
    have qw16 : w1.cell? ⟨w.heap.size + 1, 0, none⟩ = some (.int .i64 0) := cell_later hb1 (by simp [go_sem])
    have qw17 : w1.cell? ⟨w.heap.size + 1, 1, none⟩ = some (.int .i64 0) := cell_later hb1 (by simp [go_sem])
    have qw1f0 : w1.frozen? ⟨w.heap.size + 1, 0, none⟩ = false := frozen_after hb1 (v := .int .i64 0) (by simp [go_sem]) (by simp [go_sem])
    have qw1f1 : w1.frozen? ⟨w.heap.size + 1, 1, none⟩ = false := frozen_after hb1 (v := .int .i64 0) (by simp [go_sem]) (by simp [go_sem])
    have zqw1_0 := World.block_lt_of_cell? _ _ qw10
    dsimp only at zqw1_0
    have zqw1_6 := World.block_lt_of_cell? _ _ qw16
    dsimp only at zqw1_6
    have H1 : Hid (Below w.heap.size w w1) := Lib.hid (below_after (by repeat (first | exact Below.refl _ _ | refine Below.drew ?_ | refine below_drewN ?_ _ | refine Below.setCell ?_ (by first | omega | (simp; done) | (simp; omega)) _ | refine Below.alloc ?_ (by first | omega | (simp; done) | (simp; omega)) _)) hb1 (by first | omega | (simp; done) | (simp; omega))); clear hb1
    go_wp2
    exact bodyPost_ret (v := .tuple #[.agg #[.int .i64 (0), .int .i64 (0)], .int .i64 (u)]) (by simp [results, Tryz.results16, go_sem, World.cell?_alloc_past, *]) rfl ⟨rfl, (by (repeat (first | (with_reducible exact H1.out) | (with_reducible refine Below.setCell ?_ ?_ _) | (with_reducible refine below_alloc_top ?_ _) | (with_reducible refine Below.drew ?_))); all_goals (first | omega | (simp; done) | (simp; omega)))⟩
set_option maxRecDepth 100000 in
set_option maxHeartbeats 1000000 in
theorem free_any (p s k a b r : Int) (w : World) :
    Calls Tryz.prog 15 #[.agg #[.int .i64 p, .int .i64 s, .int .i64 k, .int .i64 a, .int .i64 b, .int .i64 r]] w fun e w' => e = .returned (.tuple #[.bool (if gfE p s k a b r = 0 then gfB p s k a r else false), .int .i64 (gfE p s k a b r)]) ∧ Below w.heap.size w w' := by
  have HP := Lib.hid (fun w => pitchErr_any p s k a b r w)
  have HT := Lib.hid (fun w => checkTurn_any a b r w)
  have EF : Hid (fst [ptE p s k, tuE a b r] = gfE p s k a b r) := Lib.hid (by
    unfold gfE fst; by_cases h : ptE p s k = 0
    · rw [if_pos h, h]; by_cases q : tuE a b r = 0 <;> simp [fst, q]
    · rw [if_neg h]; simp [h])
  by_cases hE : gfE p s k a b r = 0
  · rw [hE] at EF ⊢
    have hz : ptE p s k = 0 ∧ tuE a b r = 0 := by
      unfold gfE at hE
      by_cases h : ptE p s k = 0
      · rw [if_pos h] at hE; exact ⟨h, hE⟩
      · rw [if_neg h] at hE; exact absurd hE h
    obtain ⟨hP, hT⟩ := hz
    have hL := lb_of p s k hP
    have HW := Lib.hid (fun w => pitchWave_any p s k a b r w hL)
    obtain ⟨p0, p1, s0, s1, k0, k1, m0, m1⟩ := hL
    obtain ⟨⟨r0, r1⟩, ⟨a0, a1⟩, _, _⟩ := tuE_zero a b r hT
    rw [if_pos rfl]
    unfold gfB
    have e1 : 0 ≤ p * k * (r + max a (-a)) := Int.mul_nonneg (by omega) (by omega)
    have e2 : p * k * (r + max a (-a)) ≤ 50000000 * 2000 := Int.mul_le_mul m1 (by omega) (by omega) (by omega)
    have e3 : 0 ≤ 100 * s * r := Int.mul_nonneg (by omega) (by omega)
    have e4 : 100 * s * r ≤ 1000000 * 1000 := Int.mul_le_mul (by omega) r1 (by omega) (by omega)
    have v2 : IntKind.i64.wrap (p * k * (r + max a (-a))) = p * k * (r + max a (-a)) := wrap_self _ (by omega) (by omega)
    have v3 : IntKind.i64.wrap (100 * s * r) = 100 * s * r := wrap_self _ (by omega) (by omega)
    generalize ptE p s k = u1 at *
    generalize tuE a b r = u2 at *
    generalize p * k = m at *
    generalize 100 * s = v at *
    clear hE hP hT
    go_enter Tryz.func15, Tryz.ntmps15
    go_wp2
    have hS : Below w.heap.size w (w.alloc (.cells #[.int .i64 p, .int .i64 s, .int .i64 k, .int .i64 a, .int .i64 b, .int .i64 r] 34)) := (by repeat (first | exact Below.refl _ _ | refine Below.drew ?_ | refine below_drewN ?_ _ | refine Below.setCell ?_ (by first | omega | (simp; done) | (simp; omega)) _ | refine Below.alloc ?_ (by first | omega | (simp; done) | (simp; omega)) _))
    go_region_held3 (fun w' => w'.cell? ⟨w.heap.size, 0, none⟩ = some (.int .i64 p) ∧ w'.cell? ⟨w.heap.size, 1, none⟩ = some (.int .i64 s) ∧ w'.cell? ⟨w.heap.size, 2, none⟩ = some (.int .i64 k) ∧ w'.cell? ⟨w.heap.size, 3, none⟩ = some (.int .i64 a) ∧ w'.cell? ⟨w.heap.size, 4, none⟩ = some (.int .i64 b) ∧ w'.cell? ⟨w.heap.size, 5, none⟩ = some (.int .i64 r) ∧ Below w.heap.size w w') (((go_split_ands; (repeat' apply And.intro) <;> first | (with_reducible assumption) | exact cell_later (by assumption) (by assumption) | exact frozen_after (by assumption) (by assumption) (by assumption) | exact below_then (by assumption) (by assumption) | exact below_alloc_top (by assumption) _ | exact cell_alloc_later (by assumption) _ | exact frozen_alloc_later (by assumption) (by assumption) _ | exact Below.drew (by assumption) | (simp [go_sem, World.cell?_alloc_past, *]; done))))
      (first
        | (go_split_ands; go_at_call 58; (with_reducible refine (HP.out _).mono ?_); rintro e w' ⟨rfl, hb⟩)
        | (go_split_ands; go_at_call 43; (with_reducible refine (HT.out _).mono ?_); rintro e w' ⟨rfl, hb⟩)
        | (go_at_call 54; refine (firstError_any _ [u1, u2] _ (by simp) (by first | exact cells_drew _ _ (by simp) _ _ | exact cells_new _ _ (by simp) _ _)).mono ?_; rw [EF.out]; rintro e w' ⟨rfl, rfl⟩))
    go_split_ands
    generalize hW : w'.alloc (Obj.cells #[.int .i64 u1, .int .i64 u2] 24) = W0 at *
    clear hW
    have y0 : W0.cell? ⟨w.heap.size, 0, none⟩ = some (.int .i64 p)   := by with_reducible assumption
    have y1 : W0.cell? ⟨w.heap.size, 1, none⟩ = some (.int .i64 s)   := by with_reducible assumption
    have y2 : W0.cell? ⟨w.heap.size, 2, none⟩ = some (.int .i64 k)   := by with_reducible assumption
    have y3 : W0.cell? ⟨w.heap.size, 3, none⟩ = some (.int .i64 a)   := by with_reducible assumption
    have y4 : W0.cell? ⟨w.heap.size, 4, none⟩ = some (.int .i64 b)   := by with_reducible assumption
    have y5 : W0.cell? ⟨w.heap.size, 5, none⟩ = some (.int .i64 r)   := by with_reducible assumption
    have yB0 : Below w.heap.size w W0 := by with_reducible assumption
    have yB := Lib.hid yB0; clear yB0
    have yz0 := World.block_lt_of_cell? _ _ y0
    dsimp only at yz0
    go_wp2_with fail
    refine (HW.out _).mono ?_
    rintro e w2 ⟨rfl, hb2⟩
    have qw20 : w2.cell? ⟨w.heap.size, 0, none⟩ = some (.int .i64 p) := cell_later hb2 (by first | assumption | simp [go_sem, *])
    have qw21 : w2.cell? ⟨w.heap.size, 1, none⟩ = some (.int .i64 s) := cell_later hb2 (by first | assumption | simp [go_sem, *])
    have qw22 : w2.cell? ⟨w.heap.size, 2, none⟩ = some (.int .i64 k) := cell_later hb2 (by first | assumption | simp [go_sem, *])
    have qw23 : w2.cell? ⟨w.heap.size, 3, none⟩ = some (.int .i64 a) := cell_later hb2 (by first | assumption | simp [go_sem, *])
    have qw24 : w2.cell? ⟨w.heap.size, 4, none⟩ = some (.int .i64 b) := cell_later hb2 (by first | assumption | simp [go_sem, *])
    have qw25 : w2.cell? ⟨w.heap.size, 5, none⟩ = some (.int .i64 r) := cell_later hb2 (by first | assumption | simp [go_sem, *])
    have zqw2_0 := World.block_lt_of_cell? _ _ qw20
    dsimp only at zqw2_0
    have H2 : Hid (Below w.heap.size w w2) := Lib.hid (below_then yB.out hb2)
    clear hb2
    go_wp2
    go_ret2
    exact ⟨rfl, (by (repeat (first | (with_reducible exact H2.out) | (with_reducible refine Below.setCell ?_ ?_ _) | (with_reducible refine below_alloc_top ?_ _) | (with_reducible refine Below.drew ?_))); all_goals (first | omega | (simp; done) | (simp; omega)))⟩
  · rw [if_neg hE]
    have n1 : (gfE p s k a b r != 0) = true := by simpa using hE
    generalize gfE p s k a b r = E at *
    generalize ptE p s k = u1 at *
    generalize tuE a b r = u2 at *
    clear hE
    go_enter Tryz.func15, Tryz.ntmps15
    go_wp2
    have hS : Below w.heap.size w (w.alloc (.cells #[.int .i64 p, .int .i64 s, .int .i64 k, .int .i64 a, .int .i64 b, .int .i64 r] 34)) := (by repeat (first | exact Below.refl _ _ | refine Below.drew ?_ | refine below_drewN ?_ _ | refine Below.setCell ?_ (by first | omega | (simp; done) | (simp; omega)) _ | refine Below.alloc ?_ (by first | omega | (simp; done) | (simp; omega)) _))
    go_region_held3 (fun w' => w'.cell? ⟨w.heap.size, 0, none⟩ = some (.int .i64 p) ∧ w'.cell? ⟨w.heap.size, 1, none⟩ = some (.int .i64 s) ∧ w'.cell? ⟨w.heap.size, 2, none⟩ = some (.int .i64 k) ∧ w'.cell? ⟨w.heap.size, 3, none⟩ = some (.int .i64 a) ∧ w'.cell? ⟨w.heap.size, 4, none⟩ = some (.int .i64 b) ∧ w'.cell? ⟨w.heap.size, 5, none⟩ = some (.int .i64 r) ∧ Below w.heap.size w w') (((go_split_ands; (repeat' apply And.intro) <;> first | (with_reducible assumption) | exact cell_later (by assumption) (by assumption) | exact frozen_after (by assumption) (by assumption) (by assumption) | exact below_then (by assumption) (by assumption) | exact below_alloc_top (by assumption) _ | exact cell_alloc_later (by assumption) _ | exact frozen_alloc_later (by assumption) (by assumption) _ | exact Below.drew (by assumption) | (simp [go_sem, World.cell?_alloc_past, *]; done))))
      (first
        | (go_split_ands; go_at_call 58; (with_reducible refine (HP.out _).mono ?_); rintro e w' ⟨rfl, hb⟩)
        | (go_split_ands; go_at_call 43; (with_reducible refine (HT.out _).mono ?_); rintro e w' ⟨rfl, hb⟩)
        | (go_at_call 54; refine (firstError_any _ [u1, u2] _ (by simp) (by first | exact cells_drew _ _ (by simp) _ _ | exact cells_new _ _ (by simp) _ _)).mono ?_; rw [EF.out]; rintro e w' ⟨rfl, rfl⟩))
    go_split_ands
    generalize hW : w'.alloc (Obj.cells #[.int .i64 u1, .int .i64 u2] 24) = W0 at *
    clear hW
    have y0 : W0.cell? ⟨w.heap.size, 0, none⟩ = some (.int .i64 p)   := by with_reducible assumption
    have y1 : W0.cell? ⟨w.heap.size, 1, none⟩ = some (.int .i64 s)   := by with_reducible assumption
    have y2 : W0.cell? ⟨w.heap.size, 2, none⟩ = some (.int .i64 k)   := by with_reducible assumption
    have y3 : W0.cell? ⟨w.heap.size, 3, none⟩ = some (.int .i64 a)   := by with_reducible assumption
    have y4 : W0.cell? ⟨w.heap.size, 4, none⟩ = some (.int .i64 b)   := by with_reducible assumption
    have y5 : W0.cell? ⟨w.heap.size, 5, none⟩ = some (.int .i64 r)   := by with_reducible assumption
    have yB0 : Below w.heap.size w W0 := by with_reducible assumption
    have yB := Lib.hid yB0; clear yB0
    have yz0 := World.block_lt_of_cell? _ _ y0
    dsimp only at yz0
    go_wp2
    go_ret2
    exact ⟨rfl, (by (repeat (first | (with_reducible exact yB.out) | (with_reducible refine Below.setCell ?_ ?_ _) | (with_reducible refine below_alloc_top ?_ _) | (with_reducible refine Below.drew ?_))); all_goals (first | omega | (simp; done) | (simp; omega)))⟩
set_option maxRecDepth 100000 in
set_option maxHeartbeats 1000000 in
theorem rSteep_any (p s k a b r : Int) (w : World) (hP : ptE p s k = 0) :
    Calls Tryz.prog 20 #[.agg #[.int .i64 p, .int .i64 s, .int .i64 k, .int .i64 a, .int .i64 b, .int .i64 r]] w fun e w' => e = .returned (.tuple #[.agg #[.int .i64 (stN p s k), .int .i64 (stD p s k)], .int .i64 (stE0 p s k)]) ∧ Below w.heap.size w w' := by
  have hL := lb_of p s k hP
  obtain ⟨p0, p1, s0, s1, k0, k1, m0, m1⟩ := hL
  have v1 : IntKind.i64.wrap (p * k) = p * k := wrap_self _ (by omega) (by omega)
  have v2 : IntKind.i64.wrap (100 * s) = 100 * s := wrap_self _ (by omega) (by omega)
  by_cases hq : 100 * s < p * k
  · have e0 : stE0 p s k = 12 := by unfold stE0; rw [if_pos hP, if_pos hq]
    have e1 : stN p s k = 0 := by unfold stN; rw [e0]; rfl
    have e2 : stD p s k = 0 := by unfold stD; rw [e0]; rfl
    rw [e0, e1, e2]
    clear e0 e1 e2 hP
    go_enter Tryz.func20, Tryz.ntmps20
    go_wp2
    go_quiet (fail)
    go_wp2
    exact bodyPost_ret (v := .tuple #[.agg #[.int .i64 0, .int .i64 0], .int .i64 12]) (by simp [results, Tryz.results20, go_sem, World.cell?_alloc_past, *]) rfl ⟨rfl, (by repeat (first | exact Below.refl _ _ | refine Below.drew ?_ | refine below_drewN ?_ _ | refine Below.setCell ?_ (by first | omega | (simp; done) | (simp; omega)) _ | refine Below.alloc ?_ (by first | omega | (simp; done) | (simp; omega)) _))⟩
  · have e0 : stE0 p s k = 0 := by unfold stE0; rw [if_pos hP, if_neg hq]
    obtain ⟨_, _, e1, e2⟩ := st_parts p s k e0
    rw [e0, e1, e2]
    have LT := Lib.hid (fun w => lowest_any (min (100 * s - p * k) (p * k)) (p * k) w (by omega) (by omega) (by omega) (by omega))
    generalize lowN (min (100 * s - p * k) (p * k)) (p * k) = N at *
    generalize lowD (min (100 * s - p * k) (p * k)) (p * k) = D at *
    clear e0 e1 e2 hP
    go_enter Tryz.func20, Tryz.ntmps20
    go_wp2
    go_quiet (fail)
    go_wp2_with fail
    refine (LT.out _).mono ?_
    rintro e w3 ⟨rfl, hb3⟩
    have qw30 : w3.cell? ⟨w.heap.size + 1, 0, none⟩ = some (.int .i64 0) := cell_later hb3 (by simp [go_sem, *])
    have qw31 : w3.cell? ⟨w.heap.size + 1, 1, none⟩ = some (.int .i64 0) := cell_later hb3 (by simp [go_sem, *])
    have qw3f0 : w3.frozen? ⟨w.heap.size + 1, 0, none⟩ = false := frozen_after hb3 (v := .int .i64 0) (by simp [go_sem, *]) (by simp [go_sem, *])
    have qw3f1 : w3.frozen? ⟨w.heap.size + 1, 1, none⟩ = false := frozen_after hb3 (v := .int .i64 0) (by simp [go_sem, *]) (by simp [go_sem, *])
    have zqw3_0 := World.block_lt_of_cell? _ _ qw30
    dsimp only at zqw3_0
    have H3 : Hid (Below w.heap.size w w3) := Lib.hid (below_after (by repeat (first | exact Below.refl _ _ | refine Below.drew ?_ | refine below_drewN ?_ _ | refine Below.setCell ?_ (by first | omega | (simp; done) | (simp; omega)) _ | refine Below.alloc ?_ (by first | omega | (simp; done) | (simp; omega)) _)) hb3 (by first | omega | (simp; done) | (simp; omega))); clear hb3
    go_wp2
    exact bodyPost_ret (v := .tuple #[.agg #[.int .i64 (N), .int .i64 (D)], .int .i64 (0)]) (by simp [results, Tryz.results20, go_sem, World.cell?_alloc_past, *]) rfl ⟨rfl, (by (repeat (first | (with_reducible exact H3.out) | (with_reducible refine Below.setCell ?_ ?_ _) | (with_reducible refine below_alloc_top ?_ _) | (with_reducible refine Below.drew ?_))); all_goals (first | omega | (simp; done) | (simp; omega)))⟩
set_option maxRecDepth 100000 in
set_option maxHeartbeats 1000000 in
theorem rNear_any (x s k : Int) (w : World) :
    Calls Tryz.prog 18 #[.int .i64 x, .int .i64 s, .int .i64 k] w fun e w' => e = .returned (.tuple #[.agg #[.int .i64 (nfLo x s k), .int .i64 (nfHi x s k)], .int .i64 (nfE x s k)]) ∧ Below w.heap.size w w' := by
  have HS := Lib.hid (fun w => rSound_any s k w)
  cases h1 : inB x 0 10000
  · have e0 : nfE x s k = 2 := by unfold nfE; rw [h1]; simp [fst, unl]
    have e1 : nfLo x s k = 0 := by unfold nfLo; rw [e0]; rfl
    have e2 : nfHi x s k = 0 := by unfold nfHi; rw [e0]; rfl
    rw [e0, e1, e2]
    have H1 := Lib.hid h1; clear h1 e0 e1 e2
    go_enter Tryz.func18, Tryz.ntmps18
    go_wp2_with (go_at_call 14; (with_reducible refine (bwithin_any _ _ _ _).mono ?_); (first | rw [H1.out]); rintro e w' ⟨rfl, rfl⟩)
    exact bodyPost_ret (v := .tuple #[.agg #[.int .i64 (0), .int .i64 (0)], .int .i64 (2)]) (by simp [results, Tryz.results18, go_sem, World.cell?_alloc_past, *]) rfl ⟨rfl, (by repeat (first | exact Below.refl _ _ | refine Below.drew ?_ | refine below_drewN ?_ _ | refine Below.setCell ?_ (by first | omega | (simp; done) | (simp; omega)) _ | refine Below.alloc ?_ (by first | omega | (simp; done) | (simp; omega)) _))⟩
  · by_cases hW : wvE s k = 0
    · have e0 : nfE x s k = 0 := by unfold nfE; rw [h1, hW]; simp [fst, unl]
      have e1 : nfLo x s k = x * x * k / (400 * s) := by unfold nfLo; rw [if_pos e0]
      have e2 : nfHi x s k = cdiv (x * x * k) (400 * s) := by unfold nfHi; rw [if_pos e0]
      rw [e0, e1, e2]
      obtain ⟨⟨x0, x1⟩, hw⟩ := (nfE_zero x s k).1 e0
      obtain ⟨⟨s0, s1⟩, ⟨k0, k1⟩⟩ := (wvE_zero s k).1 hw
      have m0 : 0 ≤ x * x := Int.mul_nonneg x0 x0
      have m1 : x * x ≤ 10000 * 10000 := Int.mul_le_mul x1 x1 x0 (by omega)
      have m2 : 0 ≤ x * x * k := Int.mul_nonneg m0 (by omega)
      have m3 : x * x * k ≤ 100000000 * 50000 := Int.mul_le_mul (by omega) k1 (by omega) (by omega)
      have v1 : IntKind.i64.wrap (x * x) = x * x := wrap_self _ (by omega) (by omega)
      have v2 : IntKind.i64.wrap (x * x * k) = x * x * k := wrap_self _ (by omega) (by omega)
      have v3 : IntKind.i64.wrap (400 * s) = 400 * s := wrap_self _ (by omega) (by omega)
      have FL := Lib.hid (fun w => floor_any (x * x * k) (400 * s) w (by omega) (by omega) (by omega) (by omega))
      have CE := Lib.hid (fun w => ceil_any (x * x * k) (400 * s) w (by omega) (by omega) (by omega) (by omega))
      rw [hW] at HS
      have H1 := Lib.hid h1
      generalize x * x * k / (400 * s) = lo at *
      generalize cdiv (x * x * k) (400 * s) = hi at *
      clear h1 e0 e1 e2 hw hW
      go_enter Tryz.func18, Tryz.ntmps18
      go_wp2_with (first | (go_at_call 14; (with_reducible refine (bwithin_any _ _ _ _).mono ?_); (first | rw [H1.out]); rintro e w' ⟨rfl, rfl⟩) | (go_at_call 63; (with_reducible refine (HS.out _).mono ?_); rintro e w' ⟨rfl, rfl⟩) | (go_at_call 64; (with_reducible refine (FL.out _).mono ?_); rintro e w' ⟨rfl, rfl⟩) | (go_at_call 57; (with_reducible refine (CE.out _).mono ?_); rintro e w' ⟨rfl, rfl⟩))
      exact bodyPost_ret (v := .tuple #[.agg #[.int .i64 (lo), .int .i64 (hi)], .int .i64 (0)]) (by simp [results, Tryz.results18, go_sem, World.cell?_alloc_past, *]) rfl ⟨rfl, (by repeat (first | exact Below.refl _ _ | refine Below.drew ?_ | refine below_drewN ?_ _ | refine Below.setCell ?_ (by first | omega | (simp; done) | (simp; omega)) _ | refine Below.alloc ?_ (by first | omega | (simp; done) | (simp; omega)) _))⟩
    · have n1 : (wvE s k != 0) = true := by simpa using hW
      have e3 : wvE s k = 2 := by
        revert hW; unfold wvE; cases inB s 500 10000 <;> cases inB k 1 50000 <;> simp [fst, unl]
      have e0 : nfE x s k = 2 := by unfold nfE; rw [h1, e3]; simp [fst, unl]
      have e1 : nfLo x s k = 0 := by unfold nfLo; rw [e0]; rfl
      have e2 : nfHi x s k = 0 := by unfold nfHi; rw [e0]; rfl
      rw [e0, e1, e2]
      rw [e3] at HS
      have H1 := Lib.hid h1; clear h1 e0 e1 e2 n1 hW e3
      go_enter Tryz.func18, Tryz.ntmps18
      go_wp2_with (first | (go_at_call 14; (with_reducible refine (bwithin_any _ _ _ _).mono ?_); (first | rw [H1.out]); rintro e w' ⟨rfl, rfl⟩) | (go_at_call 63; (with_reducible refine (HS.out _).mono ?_); rintro e w' ⟨rfl, rfl⟩))
      exact bodyPost_ret (v := .tuple #[.agg #[.int .i64 (0), .int .i64 (0)], .int .i64 (2)]) (by simp [results, Tryz.results18, go_sem, World.cell?_alloc_past, *]) rfl ⟨rfl, (by repeat (first | exact Below.refl _ _ | refine Below.drew ?_ | refine below_drewN ?_ _ | refine Below.setCell ?_ (by first | omega | (simp; done) | (simp; omega)) _ | refine Below.alloc ?_ (by first | omega | (simp; done) | (simp; omega)) _))⟩
end Go.Proofs.YtnhbmmpjifliaaaGreatDoor
