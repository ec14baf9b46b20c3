/- LawLobes: the walk -/
import Derived.Test.YtnhbmmpjifliaaaGreatDoorYd
import Derived.Test.YtnhbmmpjifliaaaGreatDoorU2
namespace Go.Proofs.YtnhbmmpjifliaaaGreatDoor
open Go.RowKit Go.Shelf RayM
set_option linter.unusedSimpArgs false
set_option linter.unusedVariables false
set_option maxRecDepth 100000 in
set_option maxHeartbeats 1000000 in
theorem lobes_any (p s k a b r x : Int) (w : World) (hL : Laid w) (AWK : Hid (∀ w, Laid w → Calls Tryz.prog 11 #[] w fun e w' => e = .returned (.bool true) ∧ Below w.heap.size w w')) :
    Calls Tryz.prog 4 #[.agg #[.int .i64 p, .int .i64 s, .int .i64 k, .int .i64 a, .int .i64 b, .int .i64 r], .int .i64 x] w fun e w' => e = .returned (.bool true) ∧ Below w.heap.size w w' := by
  have LH := Lib.hid hL
  clear hL
  have HF := Lib.hid (fun w => free_any p s k a b r w)
  have HS := Lib.hid (fun w => steep_any p s k a b r w)
  have HN := Lib.hid (fun w => nearField_any x s k w)
  have HM := Lib.hid (fun w => rNear_any x s k w)
  have HP := Lib.hid (fun w => rPitch_any p s k a b r w)
  have HT := Lib.hid (fun w => rTurn_any a b r w)
  have HR := Lib.hid (fun h w => rSteep_any p s k a b r w h)
  have HG : Hid (ptE p s k = 0 → tuE a b r = 0 → ∀ w, Calls Tryz.prog 22 #[.agg #[.int .i64 p, .int .i64 s, .int .i64 k, .int .i64 a, .int .i64 b, .int .i64 r]] w fun e w' => e = .returned (.bool (gfB p s k a r)) ∧ Below w.heap.size w w') := Lib.hid (fun hP hT w => by
    obtain ⟨⟨r0, r1⟩, ⟨a0, a1⟩, _, _⟩ := tuE_zero a b r hT
    exact rFree_any p s k a b r w (lb_of p s k hP) r0 r1 a0 a1)
  have HZ : Hid (tuE a b r = 0 → ∀ w, Calls Tryz.prog 24 #[.int .i64 a] w fun e w' => e = .returned (.int .i64 (max a (-a))) ∧ w = w') := Lib.hid (fun hT w => by
    obtain ⟨⟨r0, r1⟩, ⟨a0, a1⟩, _, _⟩ := tuE_zero a b r hT
    exact rSize_any a w (by omega) (by omega))
  have HC : Hid (stE0 p s k = 0 → tuE a b r = 0 → ∀ w, Calls Tryz.prog 23 #[.int .i64 (max a (-a)), .int .i64 r, .int .i64 (stN p s k), .int .i64 (stD p s k)] w fun e w' => e = .returned (.int .i64 (sg (max a (-a) * stD p s k) (stN p s k * r))) ∧ w = w') := Lib.hid (fun hS hT w => by
    obtain ⟨⟨r0, r1⟩, ⟨a0, a1⟩, _, _⟩ := tuE_zero a b r hT
    obtain ⟨n0, n1, d0, d1⟩ := st_pos p s k hS
    exact compare_any _ _ _ _ w (by omega) n0 r0 d0 (by omega) (by omega) (by omega) (by omega))
  have R1 : Hid (ptE p s k = 0 → gfE p s k a b r = tuE a b r) := Lib.hid (fun h => by unfold gfE; rw [if_pos h])
  have R2 : Hid (ptE p s k ≠ 0 → gfE p s k a b r = ptE p s k) := Lib.hid (fun h => by unfold gfE; rw [if_neg h])
  have R3 : Hid (ptE p s k ≠ 0 → stE0 p s k = ptE p s k ∧ stN p s k = 0 ∧ stD p s k = 0) := Lib.hid (fun h => by
    have e0 : stE0 p s k = ptE p s k := by unfold stE0; rw [if_neg h]
    exact ⟨e0, by unfold stN; rw [e0, if_neg h], by unfold stD; rw [e0, if_neg h]⟩)
  have R4 : Hid (ptE p s k = 0 → stE0 p s k ≠ 0 → tuE a b r = 0 → gfB p s k a r = false) := Lib.hid (fun hP hS hT => by
    obtain ⟨⟨r0, r1⟩, ⟨a0, a1⟩, _, _⟩ := tuE_zero a b r hT
    refine free_not p s k a r (lb_of p s k hP) ?_ r0
    by_cases q : 100 * s < p * k
    · exact q
    · exact absurd (by unfold stE0; rw [if_pos hP, if_neg q]) hS)
  have R5 : Hid (stE0 p s k = 0 → tuE a b r = 0 → gfB p s k a r = decide (sg (max a (-a) * stD p s k) (stN p s k * r) ≤ 0)) := Lib.hid (fun hS hT => free_iff p s k a b r hS hT)
  have R6 : Hid (gfE p s k a b r = 0 → (if gfE p s k a b r = 0 then gfB p s k a r else false) = gfB p s k a r) := Lib.hid (fun h => if_pos h)
  have R7 : Hid (gfE p s k a b r ≠ 0 → (if gfE p s k a b r = 0 then gfB p s k a r else false) = false) := Lib.hid (fun h => if_neg h)
  generalize (if gfE p s k a b r = 0 then gfB p s k a r else false) = FV at *
  generalize sg (max a (-a) * stD p s k) (stN p s k * r) = C at *
  generalize stN p s k = N at *
  generalize stD p s k = D at *
  generalize stE0 p s k = E2 at *
  generalize gfE p s k a b r = E1 at *
  generalize gfB p s k a r = G at *
  generalize tuE a b r = tu at *
  generalize ptE p s k = pt at *
  generalize nfE x s k = ne at *
  generalize nfLo x s k = lo at *
  generalize nfHi x s k = hi at *
  generalize max a (-a) = u at *
  go_enter Tryz.func4, Tryz.ntmps4
  go_wp2_with fail
  refine (AWK.out _ (LH.out.later ((Below.refl _ _).alloc (Nat.le_refl _) _))).mono ?_
  rintro e w1 ⟨rfl, hb1⟩
  have qw10 : w1.cell? ⟨w.heap.size, 0, none⟩ = some (.int .i64 p) := cell_later hb1 (by simp [go_sem])
  have qw11 : w1.cell? ⟨w.heap.size, 1, none⟩ = some (.int .i64 s) := cell_later hb1 (by simp [go_sem])
  have qw12 : w1.cell? ⟨w.heap.size, 2, none⟩ = some (.int .i64 k) := cell_later hb1 (by simp [go_sem])
  have qw13 : w1.cell? ⟨w.heap.size, 3, none⟩ = some (.int .i64 a) := cell_later hb1 (by simp [go_sem])
  have qw14 : w1.cell? ⟨w.heap.size, 4, none⟩ = some (.int .i64 b) := cell_later hb1 (by simp [go_sem])
  have qw15 : w1.cell? ⟨w.heap.size, 5, none⟩ = some (.int .i64 r) := cell_later hb1 (by simp [go_sem])
  have zqw1_0 := World.block_lt_of_cell? _ _ qw10
  dsimp only at zqw1_0
  have H1 : Hid (Below w.heap.size w w1) := Lib.hid (below_after (by repeat (first | exact Below.refl _ _ | refine Below.drew ?_ | refine below_drewN ?_ _ | refine Below.setCell ?_ (by first | omega | (simp; done) | (simp; omega)) _ | refine Below.alloc ?_ (by first | omega | (simp; done) | (simp; omega)) _)) hb1 (by first | omega | (simp; done) | (simp; omega))); clear hb1
  go_wp2_with fail
  refine (HF.out _).mono ?_
  rintro e w2 ⟨rfl, hb2⟩
  have qw20 : w2.cell? ⟨w.heap.size, 0, none⟩ = some (.int .i64 p) := cell_later hb2 (by first | assumption | simp [go_sem, *])
  have qw21 : w2.cell? ⟨w.heap.size, 1, none⟩ = some (.int .i64 s) := cell_later hb2 (by first | assumption | simp [go_sem, *])
  have qw22 : w2.cell? ⟨w.heap.size, 2, none⟩ = some (.int .i64 k) := cell_later hb2 (by first | assumption | simp [go_sem, *])
  have qw23 : w2.cell? ⟨w.heap.size, 3, none⟩ = some (.int .i64 a) := cell_later hb2 (by first | assumption | simp [go_sem, *])
  have qw24 : w2.cell? ⟨w.heap.size, 4, none⟩ = some (.int .i64 b) := cell_later hb2 (by first | assumption | simp [go_sem, *])
  have qw25 : w2.cell? ⟨w.heap.size, 5, none⟩ = some (.int .i64 r) := cell_later hb2 (by first | assumption | simp [go_sem, *])
  have zqw2_0 := World.block_lt_of_cell? _ _ qw20
  dsimp only at zqw2_0
  have H2 : Hid (Below w.heap.size w w2) := Lib.hid (below_then (by (repeat (first | (with_reducible exact H1.out) | (with_reducible refine Below.setCell ?_ ?_ _) | (with_reducible refine below_alloc_top ?_ _) | (with_reducible refine Below.drew ?_))); all_goals (first | omega | (simp; done) | (simp; omega))) hb2); clear hb2
  go_wp2_with fail
  refine (HS.out _).mono ?_
  rintro e w3 ⟨rfl, hb3⟩
  have qw30 : w3.cell? ⟨w.heap.size, 0, none⟩ = some (.int .i64 p) := cell_later hb3 (by first | assumption | simp [go_sem, *])
  have qw31 : w3.cell? ⟨w.heap.size, 1, none⟩ = some (.int .i64 s) := cell_later hb3 (by first | assumption | simp [go_sem, *])
  have qw32 : w3.cell? ⟨w.heap.size, 2, none⟩ = some (.int .i64 k) := cell_later hb3 (by first | assumption | simp [go_sem, *])
  have qw33 : w3.cell? ⟨w.heap.size, 3, none⟩ = some (.int .i64 a) := cell_later hb3 (by first | assumption | simp [go_sem, *])
  have qw34 : w3.cell? ⟨w.heap.size, 4, none⟩ = some (.int .i64 b) := cell_later hb3 (by first | assumption | simp [go_sem, *])
  have qw35 : w3.cell? ⟨w.heap.size, 5, none⟩ = some (.int .i64 r) := cell_later hb3 (by first | assumption | simp [go_sem, *])
  have zqw3_0 := World.block_lt_of_cell? _ _ qw30
  dsimp only at zqw3_0
  have H3 : Hid (Below w.heap.size w w3) := Lib.hid (below_then (by (repeat (first | (with_reducible exact H2.out) | (with_reducible refine Below.setCell ?_ ?_ _) | (with_reducible refine below_alloc_top ?_ _) | (with_reducible refine Below.drew ?_))); all_goals (first | omega | (simp; done) | (simp; omega))) hb3); clear hb3
  go_wp2_with fail
  refine (HN.out _).mono ?_
  rintro e w4 ⟨rfl, hb4⟩
  have qw40 : w4.cell? ⟨w.heap.size, 0, none⟩ = some (.int .i64 p) := cell_later hb4 (by simp [go_sem, World.cell?_alloc_past, World.frozen?_alloc_past, *])
  have qw41 : w4.cell? ⟨w.heap.size, 1, none⟩ = some (.int .i64 s) := cell_later hb4 (by simp [go_sem, World.cell?_alloc_past, World.frozen?_alloc_past, *])
  have qw42 : w4.cell? ⟨w.heap.size, 2, none⟩ = some (.int .i64 k) := cell_later hb4 (by simp [go_sem, World.cell?_alloc_past, World.frozen?_alloc_past, *])
  have qw43 : w4.cell? ⟨w.heap.size, 3, none⟩ = some (.int .i64 a) := cell_later hb4 (by simp [go_sem, World.cell?_alloc_past, World.frozen?_alloc_past, *])
  have qw44 : w4.cell? ⟨w.heap.size, 4, none⟩ = some (.int .i64 b) := cell_later hb4 (by simp [go_sem, World.cell?_alloc_past, World.frozen?_alloc_past, *])
  have qw45 : w4.cell? ⟨w.heap.size, 5, none⟩ = some (.int .i64 r) := cell_later hb4 (by simp [go_sem, World.cell?_alloc_past, World.frozen?_alloc_past, *])
  have qw46 : w4.cell? ⟨w3.heap.size, 0, none⟩ = some (.int .i64 N) := cell_later hb4 (by simp [go_sem, World.cell?_alloc_past, World.frozen?_alloc_past, *])
  have qw47 : w4.cell? ⟨w3.heap.size, 1, none⟩ = some (.int .i64 D) := cell_later hb4 (by simp [go_sem, World.cell?_alloc_past, World.frozen?_alloc_past, *])
  have zqw4_0 := World.block_lt_of_cell? _ _ qw40
  dsimp only at zqw4_0
  have zqw4_6 := World.block_lt_of_cell? _ _ qw46
  dsimp only at zqw4_6
  have H4 : Hid (Below w.heap.size w w4) := Lib.hid (below_then (by (repeat (first | (with_reducible exact H3.out) | (with_reducible refine Below.setCell ?_ ?_ _) | (with_reducible refine below_alloc_top ?_ _) | (with_reducible refine Below.drew ?_))); all_goals (first | omega | (simp; done) | (simp; omega))) hb4); clear hb4
  go_wp2_with fail
  refine (HM.out _).mono ?_
  rintro e w5 ⟨rfl, hb5⟩
  have qw50 : w5.cell? ⟨w.heap.size, 0, none⟩ = some (.int .i64 p) := cell_later hb5 (by simp [go_sem, World.cell?_alloc_past, World.frozen?_alloc_past, *])
  have qw51 : w5.cell? ⟨w.heap.size, 1, none⟩ = some (.int .i64 s) := cell_later hb5 (by simp [go_sem, World.cell?_alloc_past, World.frozen?_alloc_past, *])
  have qw52 : w5.cell? ⟨w.heap.size, 2, none⟩ = some (.int .i64 k) := cell_later hb5 (by simp [go_sem, World.cell?_alloc_past, World.frozen?_alloc_past, *])
  have qw53 : w5.cell? ⟨w.heap.size, 3, none⟩ = some (.int .i64 a) := cell_later hb5 (by simp [go_sem, World.cell?_alloc_past, World.frozen?_alloc_past, *])
  have qw54 : w5.cell? ⟨w.heap.size, 4, none⟩ = some (.int .i64 b) := cell_later hb5 (by simp [go_sem, World.cell?_alloc_past, World.frozen?_alloc_past, *])
  have qw55 : w5.cell? ⟨w.heap.size, 5, none⟩ = some (.int .i64 r) := cell_later hb5 (by simp [go_sem, World.cell?_alloc_past, World.frozen?_alloc_past, *])
  have qw56 : w5.cell? ⟨w3.heap.size, 0, none⟩ = some (.int .i64 N) := cell_later hb5 (by simp [go_sem, World.cell?_alloc_past, World.frozen?_alloc_past, *])
  have qw57 : w5.cell? ⟨w3.heap.size, 1, none⟩ = some (.int .i64 D) := cell_later hb5 (by simp [go_sem, World.cell?_alloc_past, World.frozen?_alloc_past, *])
  have qw58 : w5.cell? ⟨w4.heap.size, 0, none⟩ = some (.int .i64 lo) := cell_later hb5 (by simp [go_sem, World.cell?_alloc_past, World.frozen?_alloc_past, *])
  have qw59 : w5.cell? ⟨w4.heap.size, 1, none⟩ = some (.int .i64 hi) := cell_later hb5 (by simp [go_sem, World.cell?_alloc_past, World.frozen?_alloc_past, *])
  have zqw5_0 := World.block_lt_of_cell? _ _ qw50
  dsimp only at zqw5_0
  have zqw5_6 := World.block_lt_of_cell? _ _ qw56
  dsimp only at zqw5_6
  have zqw5_8 := World.block_lt_of_cell? _ _ qw58
  dsimp only at zqw5_8
  have H5 : Hid (Below w.heap.size w w5) := Lib.hid (below_then (by (repeat (first | (with_reducible exact H4.out) | (with_reducible refine Below.setCell ?_ ?_ _) | (with_reducible refine below_alloc_top ?_ _) | (with_reducible refine Below.drew ?_))); all_goals (first | omega | (simp; done) | (simp; omega))) hb5); clear hb5
  go_wp2_with fail
  refine (HP.out _).mono ?_
  rintro e w6 ⟨rfl, hb6⟩
  have qw60 : w6.cell? ⟨w.heap.size, 0, none⟩ = some (.int .i64 p) := cell_later hb6 (by simp [go_sem, World.cell?_alloc_past, World.frozen?_alloc_past, *])
  have qw61 : w6.cell? ⟨w.heap.size, 1, none⟩ = some (.int .i64 s) := cell_later hb6 (by simp [go_sem, World.cell?_alloc_past, World.frozen?_alloc_past, *])
  have qw62 : w6.cell? ⟨w.heap.size, 2, none⟩ = some (.int .i64 k) := cell_later hb6 (by simp [go_sem, World.cell?_alloc_past, World.frozen?_alloc_past, *])
  have qw63 : w6.cell? ⟨w.heap.size, 3, none⟩ = some (.int .i64 a) := cell_later hb6 (by simp [go_sem, World.cell?_alloc_past, World.frozen?_alloc_past, *])
  have qw64 : w6.cell? ⟨w.heap.size, 4, none⟩ = some (.int .i64 b) := cell_later hb6 (by simp [go_sem, World.cell?_alloc_past, World.frozen?_alloc_past, *])
  have qw65 : w6.cell? ⟨w.heap.size, 5, none⟩ = some (.int .i64 r) := cell_later hb6 (by simp [go_sem, World.cell?_alloc_past, World.frozen?_alloc_past, *])
  have qw66 : w6.cell? ⟨w3.heap.size, 0, none⟩ = some (.int .i64 N) := cell_later hb6 (by simp [go_sem, World.cell?_alloc_past, World.frozen?_alloc_past, *])
  have qw67 : w6.cell? ⟨w3.heap.size, 1, none⟩ = some (.int .i64 D) := cell_later hb6 (by simp [go_sem, World.cell?_alloc_past, World.frozen?_alloc_past, *])
  have qw68 : w6.cell? ⟨w4.heap.size, 0, none⟩ = some (.int .i64 lo) := cell_later hb6 (by simp [go_sem, World.cell?_alloc_past, World.frozen?_alloc_past, *])
  have qw69 : w6.cell? ⟨w4.heap.size, 1, none⟩ = some (.int .i64 hi) := cell_later hb6 (by simp [go_sem, World.cell?_alloc_past, World.frozen?_alloc_past, *])
  have qw610 : w6.cell? ⟨w5.heap.size, 0, none⟩ = some (.int .i64 lo) := cell_later hb6 (by simp [go_sem, World.cell?_alloc_past, World.frozen?_alloc_past, *])
  have qw611 : w6.cell? ⟨w5.heap.size, 1, none⟩ = some (.int .i64 hi) := cell_later hb6 (by simp [go_sem, World.cell?_alloc_past, World.frozen?_alloc_past, *])
  have zqw6_0 := World.block_lt_of_cell? _ _ qw60
  dsimp only at zqw6_0
  have zqw6_6 := World.block_lt_of_cell? _ _ qw66
  dsimp only at zqw6_6
  have zqw6_8 := World.block_lt_of_cell? _ _ qw68
  dsimp only at zqw6_8
  have zqw6_10 := World.block_lt_of_cell? _ _ qw610
  dsimp only at zqw6_10
  have H6 : Hid (Below w.heap.size w w6) := Lib.hid (below_then (by (repeat (first | (with_reducible exact H5.out) | (with_reducible refine Below.setCell ?_ ?_ _) | (with_reducible refine below_alloc_top ?_ _) | (with_reducible refine Below.drew ?_))); all_goals (first | omega | (simp; done) | (simp; omega))) hb6); clear hb6
  clear qw10 qw11 qw12 qw13 qw14 qw15 qw20 qw21 qw22 qw23 qw24 qw25 qw30 qw31 qw32 qw33 qw34 qw35 qw40 qw41 qw42 qw43 qw44 qw45 qw46 qw47 qw50 qw51 qw52 qw53 qw54 qw55 qw56 qw57 qw58 qw59
  by_cases hP : pt = 0
  · have HR' := Lib.hid (HR.out hP)
    have HG' := Lib.hid (HG.out hP)
    have R1' := R1.out hP
    have R4' := Lib.hid (R4.out hP)
    subst hP
    have R1s := R1'.symm
    subst R1s
    clear HR HG R1 R2 R3 R4
    go_wp2_with fail
    refine (HR'.out _).mono ?_
    rintro e w7 ⟨rfl, hb7⟩
    have qw70 : w7.cell? ⟨w.heap.size, 0, none⟩ = some (.int .i64 p) := cell_later hb7 (by simp [go_sem, World.cell?_alloc_past, World.frozen?_alloc_past, *])
    have qw71 : w7.cell? ⟨w.heap.size, 1, none⟩ = some (.int .i64 s) := cell_later hb7 (by simp [go_sem, World.cell?_alloc_past, World.frozen?_alloc_past, *])
    have qw72 : w7.cell? ⟨w.heap.size, 2, none⟩ = some (.int .i64 k) := cell_later hb7 (by simp [go_sem, World.cell?_alloc_past, World.frozen?_alloc_past, *])
    have qw73 : w7.cell? ⟨w.heap.size, 3, none⟩ = some (.int .i64 a) := cell_later hb7 (by simp [go_sem, World.cell?_alloc_past, World.frozen?_alloc_past, *])
    have qw74 : w7.cell? ⟨w.heap.size, 4, none⟩ = some (.int .i64 b) := cell_later hb7 (by simp [go_sem, World.cell?_alloc_past, World.frozen?_alloc_past, *])
    have qw75 : w7.cell? ⟨w.heap.size, 5, none⟩ = some (.int .i64 r) := cell_later hb7 (by simp [go_sem, World.cell?_alloc_past, World.frozen?_alloc_past, *])
    have qw76 : w7.cell? ⟨w3.heap.size, 0, none⟩ = some (.int .i64 N) := cell_later hb7 (by simp [go_sem, World.cell?_alloc_past, World.frozen?_alloc_past, *])
    have qw77 : w7.cell? ⟨w3.heap.size, 1, none⟩ = some (.int .i64 D) := cell_later hb7 (by simp [go_sem, World.cell?_alloc_past, World.frozen?_alloc_past, *])
    have qw78 : w7.cell? ⟨w4.heap.size, 0, none⟩ = some (.int .i64 lo) := cell_later hb7 (by simp [go_sem, World.cell?_alloc_past, World.frozen?_alloc_past, *])
    have qw79 : w7.cell? ⟨w4.heap.size, 1, none⟩ = some (.int .i64 hi) := cell_later hb7 (by simp [go_sem, World.cell?_alloc_past, World.frozen?_alloc_past, *])
    have qw710 : w7.cell? ⟨w5.heap.size, 0, none⟩ = some (.int .i64 lo) := cell_later hb7 (by simp [go_sem, World.cell?_alloc_past, World.frozen?_alloc_past, *])
    have qw711 : w7.cell? ⟨w5.heap.size, 1, none⟩ = some (.int .i64 hi) := cell_later hb7 (by simp [go_sem, World.cell?_alloc_past, World.frozen?_alloc_past, *])
    have qw712 : w7.cell? ⟨w6.heap.size, 0, none⟩ = some (.int .i64 0) := cell_later hb7 (by simp [go_sem, World.cell?_alloc_past, World.frozen?_alloc_past, *])
    have qw713 : w7.cell? ⟨w6.heap.size, 1, none⟩ = some (.int .i64 0) := cell_later hb7 (by simp [go_sem, World.cell?_alloc_past, World.frozen?_alloc_past, *])
    have qw7f0 : w7.frozen? ⟨w6.heap.size, 0, none⟩ = false := frozen_after hb7 (v := .int .i64 0) (by simp [go_sem, World.cell?_alloc_past, World.frozen?_alloc_past, *]) (by simp [go_sem, World.cell?_alloc_past, World.frozen?_alloc_past, *])
    have qw7f1 : w7.frozen? ⟨w6.heap.size, 1, none⟩ = false := frozen_after hb7 (v := .int .i64 0) (by simp [go_sem, World.cell?_alloc_past, World.frozen?_alloc_past, *]) (by simp [go_sem, World.cell?_alloc_past, World.frozen?_alloc_past, *])
    have zqw7_0 := World.block_lt_of_cell? _ _ qw70
    dsimp only at zqw7_0
    have zqw7_6 := World.block_lt_of_cell? _ _ qw76
    dsimp only at zqw7_6
    have zqw7_8 := World.block_lt_of_cell? _ _ qw78
    dsimp only at zqw7_8
    have zqw7_10 := World.block_lt_of_cell? _ _ qw710
    dsimp only at zqw7_10
    have zqw7_12 := World.block_lt_of_cell? _ _ qw712
    dsimp only at zqw7_12
    have H7 : Hid (Below w.heap.size w w7) := Lib.hid (below_then (by (repeat (first | (with_reducible exact H6.out) | (with_reducible refine Below.setCell ?_ ?_ _) | (with_reducible refine below_alloc_top ?_ _) | (with_reducible refine Below.drew ?_))); all_goals (first | omega | (simp; done) | (simp; omega))) hb7); clear hb7
    by_cases hT : tu = 0
    · have HGG := Lib.hid (HG'.out hT)
      have HZZ := Lib.hid (HZ.out hT)
      have HCC := Lib.hid (fun q => HC.out q hT)
      have R5' := Lib.hid (fun q => R5.out q hT)
      have R4'' := Lib.hid (fun q => R4'.out q hT)
      have R6' := R6.out hT
      subst hT
      subst R6'
      clear HG' HZ HC R5 R4' R6 R7
      go_wp2_with fail
      refine (HT.out _).mono ?_
      rintro e w8 ⟨rfl, hb8⟩
      have qw80 : w8.cell? ⟨w.heap.size, 0, none⟩ = some (.int .i64 p) := cell_later hb8 (by simp [go_sem, World.cell?_alloc_past, World.frozen?_alloc_past, *])
      have qw81 : w8.cell? ⟨w.heap.size, 1, none⟩ = some (.int .i64 s) := cell_later hb8 (by simp [go_sem, World.cell?_alloc_past, World.frozen?_alloc_past, *])
      have qw82 : w8.cell? ⟨w.heap.size, 2, none⟩ = some (.int .i64 k) := cell_later hb8 (by simp [go_sem, World.cell?_alloc_past, World.frozen?_alloc_past, *])
      have qw83 : w8.cell? ⟨w.heap.size, 3, none⟩ = some (.int .i64 a) := cell_later hb8 (by simp [go_sem, World.cell?_alloc_past, World.frozen?_alloc_past, *])
      have qw84 : w8.cell? ⟨w.heap.size, 4, none⟩ = some (.int .i64 b) := cell_later hb8 (by simp [go_sem, World.cell?_alloc_past, World.frozen?_alloc_past, *])
      have qw85 : w8.cell? ⟨w.heap.size, 5, none⟩ = some (.int .i64 r) := cell_later hb8 (by simp [go_sem, World.cell?_alloc_past, World.frozen?_alloc_past, *])
      have qw86 : w8.cell? ⟨w3.heap.size, 0, none⟩ = some (.int .i64 N) := cell_later hb8 (by simp [go_sem, World.cell?_alloc_past, World.frozen?_alloc_past, *])
      have qw87 : w8.cell? ⟨w3.heap.size, 1, none⟩ = some (.int .i64 D) := cell_later hb8 (by simp [go_sem, World.cell?_alloc_past, World.frozen?_alloc_past, *])
      have qw88 : w8.cell? ⟨w4.heap.size, 0, none⟩ = some (.int .i64 lo) := cell_later hb8 (by simp [go_sem, World.cell?_alloc_past, World.frozen?_alloc_past, *])
      have qw89 : w8.cell? ⟨w4.heap.size, 1, none⟩ = some (.int .i64 hi) := cell_later hb8 (by simp [go_sem, World.cell?_alloc_past, World.frozen?_alloc_past, *])
      have qw810 : w8.cell? ⟨w5.heap.size, 0, none⟩ = some (.int .i64 lo) := cell_later hb8 (by simp [go_sem, World.cell?_alloc_past, World.frozen?_alloc_past, *])
      have qw811 : w8.cell? ⟨w5.heap.size, 1, none⟩ = some (.int .i64 hi) := cell_later hb8 (by simp [go_sem, World.cell?_alloc_past, World.frozen?_alloc_past, *])
      have qw812 : w8.cell? ⟨w6.heap.size, 0, none⟩ = some (.int .i64 N) := cell_later hb8 (by simp [go_sem, World.cell?_alloc_past, World.frozen?_alloc_past, *])
      have qw813 : w8.cell? ⟨w6.heap.size, 1, none⟩ = some (.int .i64 D) := cell_later hb8 (by simp [go_sem, World.cell?_alloc_past, World.frozen?_alloc_past, *])
      have zqw8_0 := World.block_lt_of_cell? _ _ qw80
      dsimp only at zqw8_0
      have zqw8_6 := World.block_lt_of_cell? _ _ qw86
      dsimp only at zqw8_6
      have zqw8_8 := World.block_lt_of_cell? _ _ qw88
      dsimp only at zqw8_8
      have zqw8_10 := World.block_lt_of_cell? _ _ qw810
      dsimp only at zqw8_10
      have zqw8_12 := World.block_lt_of_cell? _ _ qw812
      dsimp only at zqw8_12
      have H8 : Hid (Below w.heap.size w w8) := Lib.hid (below_then (by (repeat (first | (with_reducible exact H7.out) | (with_reducible refine Below.setCell ?_ ?_ _) | (with_reducible refine below_alloc_top ?_ _) | (with_reducible refine Below.drew ?_))); all_goals (first | omega | (simp; done) | (simp; omega))) hb8); clear hb8
      go_wp2_with fail
      refine (HGG.out _).mono ?_
      rintro e w9 ⟨rfl, hb9⟩
      have qw90 : w9.cell? ⟨w.heap.size, 0, none⟩ = some (.int .i64 p) := cell_later hb9 (by simp [go_sem, World.cell?_alloc_past, World.frozen?_alloc_past, *])
      have qw91 : w9.cell? ⟨w.heap.size, 1, none⟩ = some (.int .i64 s) := cell_later hb9 (by simp [go_sem, World.cell?_alloc_past, World.frozen?_alloc_past, *])
      have qw92 : w9.cell? ⟨w.heap.size, 2, none⟩ = some (.int .i64 k) := cell_later hb9 (by simp [go_sem, World.cell?_alloc_past, World.frozen?_alloc_past, *])
      have qw93 : w9.cell? ⟨w.heap.size, 3, none⟩ = some (.int .i64 a) := cell_later hb9 (by simp [go_sem, World.cell?_alloc_past, World.frozen?_alloc_past, *])
      have qw94 : w9.cell? ⟨w.heap.size, 4, none⟩ = some (.int .i64 b) := cell_later hb9 (by simp [go_sem, World.cell?_alloc_past, World.frozen?_alloc_past, *])
      have qw95 : w9.cell? ⟨w.heap.size, 5, none⟩ = some (.int .i64 r) := cell_later hb9 (by simp [go_sem, World.cell?_alloc_past, World.frozen?_alloc_past, *])
      have qw96 : w9.cell? ⟨w3.heap.size, 0, none⟩ = some (.int .i64 N) := cell_later hb9 (by simp [go_sem, World.cell?_alloc_past, World.frozen?_alloc_past, *])
      have qw97 : w9.cell? ⟨w3.heap.size, 1, none⟩ = some (.int .i64 D) := cell_later hb9 (by simp [go_sem, World.cell?_alloc_past, World.frozen?_alloc_past, *])
      have qw98 : w9.cell? ⟨w4.heap.size, 0, none⟩ = some (.int .i64 lo) := cell_later hb9 (by simp [go_sem, World.cell?_alloc_past, World.frozen?_alloc_past, *])
      have qw99 : w9.cell? ⟨w4.heap.size, 1, none⟩ = some (.int .i64 hi) := cell_later hb9 (by simp [go_sem, World.cell?_alloc_past, World.frozen?_alloc_past, *])
      have qw910 : w9.cell? ⟨w5.heap.size, 0, none⟩ = some (.int .i64 lo) := cell_later hb9 (by simp [go_sem, World.cell?_alloc_past, World.frozen?_alloc_past, *])
      have qw911 : w9.cell? ⟨w5.heap.size, 1, none⟩ = some (.int .i64 hi) := cell_later hb9 (by simp [go_sem, World.cell?_alloc_past, World.frozen?_alloc_past, *])
      have qw912 : w9.cell? ⟨w6.heap.size, 0, none⟩ = some (.int .i64 N) := cell_later hb9 (by simp [go_sem, World.cell?_alloc_past, World.frozen?_alloc_past, *])
      have qw913 : w9.cell? ⟨w6.heap.size, 1, none⟩ = some (.int .i64 D) := cell_later hb9 (by simp [go_sem, World.cell?_alloc_past, World.frozen?_alloc_past, *])
      have zqw9_0 := World.block_lt_of_cell? _ _ qw90
      dsimp only at zqw9_0
      have zqw9_6 := World.block_lt_of_cell? _ _ qw96
      dsimp only at zqw9_6
      have zqw9_8 := World.block_lt_of_cell? _ _ qw98
      dsimp only at zqw9_8
      have zqw9_10 := World.block_lt_of_cell? _ _ qw910
      dsimp only at zqw9_10
      have zqw9_12 := World.block_lt_of_cell? _ _ qw912
      dsimp only at zqw9_12
      have H9 : Hid (Below w.heap.size w w9) := Lib.hid (below_then (by (repeat (first | (with_reducible exact H8.out) | (with_reducible refine Below.setCell ?_ ?_ _) | (with_reducible refine below_alloc_top ?_ _) | (with_reducible refine Below.drew ?_))); all_goals (first | omega | (simp; done) | (simp; omega))) hb9); clear hb9
      by_cases hS : E2 = 0
      · have HCC' := Lib.hid (HCC.out hS)
        have R5'' := R5'.out hS
        subst hS
        clear HCC R5' R4''
        go_wp2
        go_quiet (first | (go_at_call 24; exact Calls.quiet_of_same ((HZZ.out _).mono fun e w' h => ⟨h.1, h.2.symm⟩)) | (go_at_call 23; exact Calls.quiet_of_same ((HCC'.out _).mono fun e w' h => ⟨h.1, h.2.symm⟩)))
        have q5 := Lib.hid R5''
        clear R5''
        go_wp2
        go_ret
        exact ⟨by rw [← q5.out]; simp, (by repeat (first | (with_reducible exact H9.out) | refine Below.drew ?_ | refine below_drewN ?_ _))⟩
      · have hg := R4''.out hS
        have n2 : (E2 != 0) = true := by simpa using hS
        subst hg
        clear HCC R5' R4''
        go_wp2
        go_ret
        exact ⟨rfl, H9.out⟩
    · have n1 : (tu != 0) = true := by simpa using hT
      have n3 : (tu == 0) = false := by simpa using hT
      have R7' := R7.out hT
      subst R7'
      clear HG' HZ HC R5 R4' R6 R7
      go_wp2_with fail
      refine (HT.out _).mono ?_
      rintro e w8 ⟨rfl, hb8⟩
      have qw80 : w8.cell? ⟨w.heap.size, 0, none⟩ = some (.int .i64 p) := cell_later hb8 (by simp [go_sem, World.cell?_alloc_past, World.frozen?_alloc_past, *])
      have qw81 : w8.cell? ⟨w.heap.size, 1, none⟩ = some (.int .i64 s) := cell_later hb8 (by simp [go_sem, World.cell?_alloc_past, World.frozen?_alloc_past, *])
      have qw82 : w8.cell? ⟨w.heap.size, 2, none⟩ = some (.int .i64 k) := cell_later hb8 (by simp [go_sem, World.cell?_alloc_past, World.frozen?_alloc_past, *])
      have qw83 : w8.cell? ⟨w.heap.size, 3, none⟩ = some (.int .i64 a) := cell_later hb8 (by simp [go_sem, World.cell?_alloc_past, World.frozen?_alloc_past, *])
      have qw84 : w8.cell? ⟨w.heap.size, 4, none⟩ = some (.int .i64 b) := cell_later hb8 (by simp [go_sem, World.cell?_alloc_past, World.frozen?_alloc_past, *])
      have qw85 : w8.cell? ⟨w.heap.size, 5, none⟩ = some (.int .i64 r) := cell_later hb8 (by simp [go_sem, World.cell?_alloc_past, World.frozen?_alloc_past, *])
      have qw86 : w8.cell? ⟨w3.heap.size, 0, none⟩ = some (.int .i64 N) := cell_later hb8 (by simp [go_sem, World.cell?_alloc_past, World.frozen?_alloc_past, *])
      have qw87 : w8.cell? ⟨w3.heap.size, 1, none⟩ = some (.int .i64 D) := cell_later hb8 (by simp [go_sem, World.cell?_alloc_past, World.frozen?_alloc_past, *])
      have qw88 : w8.cell? ⟨w4.heap.size, 0, none⟩ = some (.int .i64 lo) := cell_later hb8 (by simp [go_sem, World.cell?_alloc_past, World.frozen?_alloc_past, *])
      have qw89 : w8.cell? ⟨w4.heap.size, 1, none⟩ = some (.int .i64 hi) := cell_later hb8 (by simp [go_sem, World.cell?_alloc_past, World.frozen?_alloc_past, *])
      have qw810 : w8.cell? ⟨w5.heap.size, 0, none⟩ = some (.int .i64 lo) := cell_later hb8 (by simp [go_sem, World.cell?_alloc_past, World.frozen?_alloc_past, *])
      have qw811 : w8.cell? ⟨w5.heap.size, 1, none⟩ = some (.int .i64 hi) := cell_later hb8 (by simp [go_sem, World.cell?_alloc_past, World.frozen?_alloc_past, *])
      have qw812 : w8.cell? ⟨w6.heap.size, 0, none⟩ = some (.int .i64 N) := cell_later hb8 (by simp [go_sem, World.cell?_alloc_past, World.frozen?_alloc_past, *])
      have qw813 : w8.cell? ⟨w6.heap.size, 1, none⟩ = some (.int .i64 D) := cell_later hb8 (by simp [go_sem, World.cell?_alloc_past, World.frozen?_alloc_past, *])
      have zqw8_0 := World.block_lt_of_cell? _ _ qw80
      dsimp only at zqw8_0
      have zqw8_6 := World.block_lt_of_cell? _ _ qw86
      dsimp only at zqw8_6
      have zqw8_8 := World.block_lt_of_cell? _ _ qw88
      dsimp only at zqw8_8
      have zqw8_10 := World.block_lt_of_cell? _ _ qw810
      dsimp only at zqw8_10
      have zqw8_12 := World.block_lt_of_cell? _ _ qw812
      dsimp only at zqw8_12
      have H8 : Hid (Below w.heap.size w w8) := Lib.hid (below_then (by (repeat (first | (with_reducible exact H7.out) | (with_reducible refine Below.setCell ?_ ?_ _) | (with_reducible refine below_alloc_top ?_ _) | (with_reducible refine Below.drew ?_))); all_goals (first | omega | (simp; done) | (simp; omega))) hb8); clear hb8
      go_wp2
      go_ret
      exact ⟨by simp, H8.out⟩
  · have e1 := R2.out hP
    obtain ⟨e2, e3, e4⟩ := R3.out hP
    have e1s := e1.symm
    subst e1s
    have e5 := R7.out hP
    subst e5
    have e2s := e2.symm
    subst e2s
    subst e3
    subst e4
    have n1 : (pt != 0) = true := by simpa using hP
    have n3 : (pt == 0) = false := by simpa using hP
    clear HR HG HZ HC R1 R2 R3 R4 R5 R6 R7
    go_wp2
    go_ret
    exact ⟨by simp, below_alloc_top H6.out _⟩
end Go.Proofs.YtnhbmmpjifliaaaGreatDoor
