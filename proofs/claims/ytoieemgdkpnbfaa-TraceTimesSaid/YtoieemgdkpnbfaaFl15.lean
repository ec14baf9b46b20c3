/- times of samples -/
import Derived.Test.YtoieemgdkpnbfaaFl14
namespace Go.Proofs.Ytoieemgdkpnbfaa
open Go.RowKit RayM
set_option linter.unusedSimpArgs false
set_option linter.unusedVariables false
/-- the time of a sample, the sample of a time -/
def toE (f s n : Int) : Int := fst [saE f s, unl (inB n 0 63) 2]
def toR (f s n : Int) : Int := if toE f s n = 0 then f + n * s else 0
def neE (f s t : Int) : Int := fst [saE f s, tiE t]
def neK (f s t : Int) : Int := (2 * (t - f) + s) / (2 * s)
def neX (f s t : Int) : Int := if neE f s t = 0 then unl (inB (neK f s t) 0 63) 12 else neE f s t
def neR (f s t : Int) : Int := if neX f s t = 0 then neK f s t else 0
theorem mul_in (n s : Int) (n0 : 0 ≤ n) (n1 : n ≤ 63) (s0 : 1 ≤ s) (s1 : s ≤ 100000000) : 0 ≤ n * s ∧ n * s ≤ 6300000000 := by
  refine ⟨Int.mul_nonneg n0 (by omega), ?_⟩
  have := Int.mul_le_mul n1 s1 (by omega) (by decide : (0 : Int) ≤ 63)
  omega
set_option maxRecDepth 100000 in
set_option maxHeartbeats 1000000 in
theorem timeOf_any (f s n : Int) (w : World) :
    Calls Try.prog 37 #[.agg #[.int .i64 f, .int .i64 s], .int .i64 n] w fun e w' => e = .returned (.tuple #[.int .i64 (toR f s n), .int .i64 (toE f s n)]) ∧ Below w.heap.size w w' := by
  have HS := Lib.hid (fun w => checkSampling_any f s w)
  have EF : Hid (fst [saE f s, unl (inB n 0 63) 2] = toE f s n) := (rfl : _ = _)
  have SZ := Lib.hid (saE_zero f s)
  have RZ : Hid (toE f s n = 0 → toR f s n = f + n * s) := fun h => by unfold toR; rw [if_pos h]
  have RN : Hid (toE f s n ≠ 0 → toR f s n = 0) := fun h => by unfold toR; rw [if_neg h]
  have EZ : Hid (toE f s n = 0 → saE f s = 0 ∧ 0 ≤ n ∧ n ≤ 63) := fun h => by
    obtain ⟨h1, h2⟩ := (fst2 _ _).1 h
    exact ⟨h1, (unl_inB _ _ _ _ (by decide)).1 h2⟩
  generalize toR f s n = R0 at *
  generalize toE f s n = X0 at *
  generalize saE f s = E0 at *
  by_cases hz : X0 = 0
  · obtain ⟨h1, n0, n1⟩ := EZ.out hz
    obtain ⟨⟨f0, f1⟩, s0, s1⟩ := SZ.out.1 h1
    have hR := RZ.out hz
    subst hz
    have mi := mul_in n s n0 n1 s0 s1
    have e1 : IntKind.i64.wrap (n * s) = n * s := IntWalk.i64_in _ (by omega)
    have e2 : IntKind.i64.wrap (f + n * s) = f + n * s := IntWalk.i64_in _ (by omega)
    have HR := Lib.hid hR
    clear hR mi EZ RZ RN SZ h1
    go_enter Try.func37, Try.ntmps37
    go_wp2_with (first
      | ((with_reducible refine wpList_box_lit rfl 77 _ rfl 2 rfl #[.int .i64 f, .int .i64 s] rfl ?_); intro w1 N1; have s1 := N1.size; have cg1 := N1.at'; have zg1 := N1.free; have b1 : Hid (Below w.heap.size w w1) := Lib.hid N1.below; clear N1; have yg0_1 : w1.cell? ⟨w.heap.size, 0, none⟩ = some (.int .i64 f) := cg1 0 (by simp); have xg0_1 : w1.frozen? ⟨w.heap.size, 0, none⟩ = false := zg1 0 (by simp); have yg1_1 : w1.cell? ⟨w.heap.size, 1, none⟩ = some (.int .i64 s) := cg1 1 (by simp); have xg1_1 : w1.frozen? ⟨w.heap.size, 1, none⟩ = false := zg1 1 (by simp))
      | (go_at_call 41; (with_reducible refine (HS.out _).mono ?_); rintro e w2 ⟨rfl, hb2⟩; have cg2 := cg1.later hb2; have zg2 := zg1.later cg1 hb2; have b2 : Hid (Below w.heap.size w w2) := Lib.hid (below_then b1.out hb2); have s2' := hb2.size; rw [s1] at s2'; clear yg0_1 xg0_1 yg1_1 xg1_1; have yg0_2 : w2.cell? ⟨w.heap.size, 0, none⟩ = some (.int .i64 f) := cg2 0 (by simp); have xg0_2 : w2.frozen? ⟨w.heap.size, 0, none⟩ = false := zg2 0 (by simp); have yg1_2 : w2.cell? ⟨w.heap.size, 1, none⟩ = some (.int .i64 s) := cg2 1 (by simp); have xg1_2 : w2.frozen? ⟨w.heap.size, 1, none⟩ = false := zg2 1 (by simp); have lg2 := World.block_lt_of_cell? _ _ yg0_2; dsimp only at lg2; clear hb2)
      | (go_at_call 54; (with_reducible refine (isWithin_any _ _ _ _).mono ?_); rintro e w' ⟨rfl, rfl⟩)
      | (go_at_call 50; refine (firstError_any _ [E0, unl (inB n 0 63) 2] _ (by simp) (by first | exact cells_drew _ _ (by first | rfl | assumption | simp) _ _ | exact cells_new _ _ (by first | rfl | assumption | simp) _ _)).mono ?_; rw [EF.out]; rintro e w' ⟨rfl, rfl⟩))
    go_ret2
    exact ⟨by rw [HR.out]; rfl, below_alloc_top b2.out _⟩
  · have nz : (X0 != 0) = true := by simpa using hz
    obtain rfl := RN.out hz
    clear hz EZ RZ RN SZ
    go_enter Try.func37, Try.ntmps37
    go_wp2_with (first
      | ((with_reducible refine wpList_box_lit rfl 77 _ rfl 2 rfl #[.int .i64 f, .int .i64 s] rfl ?_); intro w1 N1; have s1 := N1.size; have cg1 := N1.at'; have zg1 := N1.free; have b1 : Hid (Below w.heap.size w w1) := Lib.hid N1.below; clear N1; have yg0_1 : w1.cell? ⟨w.heap.size, 0, none⟩ = some (.int .i64 f) := cg1 0 (by simp); have xg0_1 : w1.frozen? ⟨w.heap.size, 0, none⟩ = false := zg1 0 (by simp); have yg1_1 : w1.cell? ⟨w.heap.size, 1, none⟩ = some (.int .i64 s) := cg1 1 (by simp); have xg1_1 : w1.frozen? ⟨w.heap.size, 1, none⟩ = false := zg1 1 (by simp))
      | (go_at_call 41; (with_reducible refine (HS.out _).mono ?_); rintro e w2 ⟨rfl, hb2⟩; have cg2 := cg1.later hb2; have zg2 := zg1.later cg1 hb2; have b2 : Hid (Below w.heap.size w w2) := Lib.hid (below_then b1.out hb2); have s2' := hb2.size; rw [s1] at s2'; clear yg0_1 xg0_1 yg1_1 xg1_1; have yg0_2 : w2.cell? ⟨w.heap.size, 0, none⟩ = some (.int .i64 f) := cg2 0 (by simp); have xg0_2 : w2.frozen? ⟨w.heap.size, 0, none⟩ = false := zg2 0 (by simp); have yg1_2 : w2.cell? ⟨w.heap.size, 1, none⟩ = some (.int .i64 s) := cg2 1 (by simp); have xg1_2 : w2.frozen? ⟨w.heap.size, 1, none⟩ = false := zg2 1 (by simp); have lg2 := World.block_lt_of_cell? _ _ yg0_2; dsimp only at lg2; clear hb2)
      | (go_at_call 54; (with_reducible refine (isWithin_any _ _ _ _).mono ?_); rintro e w' ⟨rfl, rfl⟩)
      | (go_at_call 50; refine (firstError_any _ [E0, unl (inB n 0 63) 2] _ (by simp) (by first | exact cells_drew _ _ (by first | rfl | assumption | simp) _ _ | exact cells_new _ _ (by first | rfl | assumption | simp) _ _)).mono ?_; rw [EF.out]; rintro e w' ⟨rfl, rfl⟩))
    go_ret2
    exact ⟨rfl, below_alloc_top b2.out _⟩
set_option maxRecDepth 100000 in
set_option maxHeartbeats 1000000 in
theorem nearestS_any (f s t : Int) (w : World) :
    Calls Try.prog 38 #[.agg #[.int .i64 f, .int .i64 s], .int .i64 t] w fun e w' => e = .returned (.tuple #[.int .i64 (neR f s t), .int .i64 (neX f s t)]) ∧ Below w.heap.size w w' := by
  have HS := Lib.hid (fun w => checkSampling_any f s w)
  have HT := Lib.hid (fun w => timeErr_any t w)
  have EF : Hid (fst [saE f s, tiE t] = neE f s t) := (rfl : _ = _)
  have SZ := Lib.hid (saE_zero f s)
  have TZ := Lib.hid (tiE_zero t)
  have KF : Hid (neK f s t = (2 * (t - f) + s) / (2 * s)) := (rfl : _ = _)
  have XZ : Hid (neE f s t = 0 → neX f s t = unl (inB (neK f s t) 0 63) 12) := fun h => by unfold neX; rw [if_pos h]
  have XN : Hid (neE f s t ≠ 0 → neX f s t = neE f s t) := fun h => by unfold neX; rw [if_neg h]
  have RZ : Hid (neX f s t = 0 → neR f s t = neK f s t) := fun h => by unfold neR; rw [if_pos h]
  have RN : Hid (neX f s t ≠ 0 → neR f s t = 0) := fun h => by unfold neR; rw [if_neg h]
  have EZ : Hid (neE f s t = 0 → saE f s = 0 ∧ tiE t = 0) := fun h => (fst2 _ _).1 h
  generalize neR f s t = R0 at *
  generalize neX f s t = X0 at *
  generalize neE f s t = Y0 at *
  generalize saE f s = E0 at *
  generalize tiE t = E1 at *
  by_cases hz : Y0 = 0
  · obtain ⟨h1, h2⟩ := EZ.out hz
    obtain ⟨⟨f0, f1⟩, s0, s1⟩ := SZ.out.1 h1
    obtain ⟨t0, t1⟩ := TZ.out.1 h2
    have hX := XZ.out hz
    subst hz
    have e5 : IntKind.i64.wrap (t - f) = t - f := IntWalk.i64_in _ (by omega)
    have NE := Lib.hid (fun w => nearest_any (t - f) s w (by omega) (by omega) s0 (by omega))
    rw [← KF.out] at NE
    generalize neK f s t = K0 at *
    have HX := Lib.hid hX
    clear hX EZ XZ XN SZ TZ h1 h2
    by_cases k0 : K0 < 0
    · have hx : X0 = 12 := by rw [HX.out]; have : inB K0 0 63 = false := by simp [inB]; omega
                              rw [this]; rfl
      have hr := RN.out (by rw [hx]; decide)
      subst hx
      subst hr
      have d0 : decide (K0 < 0) = true := by simpa using k0
      clear HX RZ RN
      go_enter Try.func38, Try.ntmps38
      go_wp2_with (first
        | ((with_reducible refine wpList_box_lit rfl 77 _ rfl 2 rfl #[.int .i64 f, .int .i64 s] rfl ?_); intro w1 N1; have s1 := N1.size; have cg1 := N1.at'; have zg1 := N1.free; have b1 : Hid (Below w.heap.size w w1) := Lib.hid N1.below; clear N1; have yg0_1 : w1.cell? ⟨w.heap.size, 0, none⟩ = some (.int .i64 f) := cg1 0 (by simp); have xg0_1 : w1.frozen? ⟨w.heap.size, 0, none⟩ = false := zg1 0 (by simp); have yg1_1 : w1.cell? ⟨w.heap.size, 1, none⟩ = some (.int .i64 s) := cg1 1 (by simp); have xg1_1 : w1.frozen? ⟨w.heap.size, 1, none⟩ = false := zg1 1 (by simp))
        | (go_at_call 41; (with_reducible refine (HS.out _).mono ?_); rintro e w2 ⟨rfl, hb2⟩; have cg2 := cg1.later hb2; have zg2 := zg1.later cg1 hb2; have b2 : Hid (Below w.heap.size w w2) := Lib.hid (below_then b1.out hb2); have s2' := hb2.size; rw [s1] at s2'; clear yg0_1 xg0_1 yg1_1 xg1_1; have yg0_2 : w2.cell? ⟨w.heap.size, 0, none⟩ = some (.int .i64 f) := cg2 0 (by simp); have xg0_2 : w2.frozen? ⟨w.heap.size, 0, none⟩ = false := zg2 0 (by simp); have yg1_2 : w2.cell? ⟨w.heap.size, 1, none⟩ = some (.int .i64 s) := cg2 1 (by simp); have xg1_2 : w2.frozen? ⟨w.heap.size, 1, none⟩ = false := zg2 1 (by simp); have lg2 := World.block_lt_of_cell? _ _ yg0_2; dsimp only at lg2; clear hb2)
        | (go_at_call 72; (with_reducible refine (HT.out _).mono ?_); rintro e w' ⟨rfl, rfl⟩)
        | (go_at_call 50; refine (firstError_any _ [E0, E1] _ (by simp) (by first | exact cells_drew _ _ (by first | rfl | assumption | simp) _ _ | exact cells_new _ _ (by first | rfl | assumption | simp) _ _)).mono ?_; rw [EF.out]; rintro e w' ⟨rfl, rfl⟩)
        | (go_at_call 60; (with_reducible refine (NE.out _).mono ?_); rintro e w' ⟨rfl, rfl⟩))
      go_ret2
      exact ⟨rfl, below_alloc_top b2.out _⟩
    · by_cases k1 : 63 < K0
      · have hx : X0 = 12 := by rw [HX.out]; have : inB K0 0 63 = false := by simp [inB]; omega
                                rw [this]; rfl
        have hr := RN.out (by rw [hx]; decide)
        subst hx
        subst hr
        have d0 : decide (K0 < 0) = false := by simpa using k0
        have d1 : decide (63 < K0) = true := by simpa using k1
        clear HX RZ RN
        go_enter Try.func38, Try.ntmps38
        go_wp2_with (first
          | ((with_reducible refine wpList_box_lit rfl 77 _ rfl 2 rfl #[.int .i64 f, .int .i64 s] rfl ?_); intro w1 N1; have s1 := N1.size; have cg1 := N1.at'; have zg1 := N1.free; have b1 : Hid (Below w.heap.size w w1) := Lib.hid N1.below; clear N1; have yg0_1 : w1.cell? ⟨w.heap.size, 0, none⟩ = some (.int .i64 f) := cg1 0 (by simp); have xg0_1 : w1.frozen? ⟨w.heap.size, 0, none⟩ = false := zg1 0 (by simp); have yg1_1 : w1.cell? ⟨w.heap.size, 1, none⟩ = some (.int .i64 s) := cg1 1 (by simp); have xg1_1 : w1.frozen? ⟨w.heap.size, 1, none⟩ = false := zg1 1 (by simp))
          | (go_at_call 41; (with_reducible refine (HS.out _).mono ?_); rintro e w2 ⟨rfl, hb2⟩; have cg2 := cg1.later hb2; have zg2 := zg1.later cg1 hb2; have b2 : Hid (Below w.heap.size w w2) := Lib.hid (below_then b1.out hb2); have s2' := hb2.size; rw [s1] at s2'; clear yg0_1 xg0_1 yg1_1 xg1_1; have yg0_2 : w2.cell? ⟨w.heap.size, 0, none⟩ = some (.int .i64 f) := cg2 0 (by simp); have xg0_2 : w2.frozen? ⟨w.heap.size, 0, none⟩ = false := zg2 0 (by simp); have yg1_2 : w2.cell? ⟨w.heap.size, 1, none⟩ = some (.int .i64 s) := cg2 1 (by simp); have xg1_2 : w2.frozen? ⟨w.heap.size, 1, none⟩ = false := zg2 1 (by simp); have lg2 := World.block_lt_of_cell? _ _ yg0_2; dsimp only at lg2; clear hb2)
          | (go_at_call 72; (with_reducible refine (HT.out _).mono ?_); rintro e w' ⟨rfl, rfl⟩)
          | (go_at_call 50; refine (firstError_any _ [E0, E1] _ (by simp) (by first | exact cells_drew _ _ (by first | rfl | assumption | simp) _ _ | exact cells_new _ _ (by first | rfl | assumption | simp) _ _)).mono ?_; rw [EF.out]; rintro e w' ⟨rfl, rfl⟩)
          | (go_at_call 60; (with_reducible refine (NE.out _).mono ?_); rintro e w' ⟨rfl, rfl⟩))
        go_ret2
        exact ⟨rfl, below_alloc_top b2.out _⟩
      · have hx : X0 = 0 := by rw [HX.out]; have : inB K0 0 63 = true := by simp [inB]; omega
                               rw [this]; rfl
        have hr := RZ.out hx
        subst hx
        subst hr
        have d0 : decide (R0 < 0) = false := by simpa using k0
        have d1 : decide (63 < R0) = false := by simpa using k1
        clear HX RZ RN
        go_enter Try.func38, Try.ntmps38
        go_wp2_with (first
          | ((with_reducible refine wpList_box_lit rfl 77 _ rfl 2 rfl #[.int .i64 f, .int .i64 s] rfl ?_); intro w1 N1; have s1 := N1.size; have cg1 := N1.at'; have zg1 := N1.free; have b1 : Hid (Below w.heap.size w w1) := Lib.hid N1.below; clear N1; have yg0_1 : w1.cell? ⟨w.heap.size, 0, none⟩ = some (.int .i64 f) := cg1 0 (by simp); have xg0_1 : w1.frozen? ⟨w.heap.size, 0, none⟩ = false := zg1 0 (by simp); have yg1_1 : w1.cell? ⟨w.heap.size, 1, none⟩ = some (.int .i64 s) := cg1 1 (by simp); have xg1_1 : w1.frozen? ⟨w.heap.size, 1, none⟩ = false := zg1 1 (by simp))
          | (go_at_call 41; (with_reducible refine (HS.out _).mono ?_); rintro e w2 ⟨rfl, hb2⟩; have cg2 := cg1.later hb2; have zg2 := zg1.later cg1 hb2; have b2 : Hid (Below w.heap.size w w2) := Lib.hid (below_then b1.out hb2); have s2' := hb2.size; rw [s1] at s2'; clear yg0_1 xg0_1 yg1_1 xg1_1; have yg0_2 : w2.cell? ⟨w.heap.size, 0, none⟩ = some (.int .i64 f) := cg2 0 (by simp); have xg0_2 : w2.frozen? ⟨w.heap.size, 0, none⟩ = false := zg2 0 (by simp); have yg1_2 : w2.cell? ⟨w.heap.size, 1, none⟩ = some (.int .i64 s) := cg2 1 (by simp); have xg1_2 : w2.frozen? ⟨w.heap.size, 1, none⟩ = false := zg2 1 (by simp); have lg2 := World.block_lt_of_cell? _ _ yg0_2; dsimp only at lg2; clear hb2)
          | (go_at_call 72; (with_reducible refine (HT.out _).mono ?_); rintro e w' ⟨rfl, rfl⟩)
          | (go_at_call 50; refine (firstError_any _ [E0, E1] _ (by simp) (by first | exact cells_drew _ _ (by first | rfl | assumption | simp) _ _ | exact cells_new _ _ (by first | rfl | assumption | simp) _ _)).mono ?_; rw [EF.out]; rintro e w' ⟨rfl, rfl⟩)
          | (go_at_call 60; (with_reducible refine (NE.out _).mono ?_); rintro e w' ⟨rfl, rfl⟩))
        go_ret2
        exact ⟨rfl, below_alloc_top b2.out _⟩
  · have nz : (Y0 != 0) = true := by simpa using hz
    have hx := XN.out hz
    have hr := RN.out (by rw [hx]; exact hz)
    subst hr
    have HX := Lib.hid hx
    clear hz EZ RZ RN SZ TZ XN XZ hx
    go_enter Try.func38, Try.ntmps38
    go_wp2_with (first
      | ((with_reducible refine wpList_box_lit rfl 77 _ rfl 2 rfl #[.int .i64 f, .int .i64 s] rfl ?_); intro w1 N1; have s1 := N1.size; have cg1 := N1.at'; have zg1 := N1.free; have b1 : Hid (Below w.heap.size w w1) := Lib.hid N1.below; clear N1; have yg0_1 : w1.cell? ⟨w.heap.size, 0, none⟩ = some (.int .i64 f) := cg1 0 (by simp); have xg0_1 : w1.frozen? ⟨w.heap.size, 0, none⟩ = false := zg1 0 (by simp); have yg1_1 : w1.cell? ⟨w.heap.size, 1, none⟩ = some (.int .i64 s) := cg1 1 (by simp); have xg1_1 : w1.frozen? ⟨w.heap.size, 1, none⟩ = false := zg1 1 (by simp))
      | (go_at_call 41; (with_reducible refine (HS.out _).mono ?_); rintro e w2 ⟨rfl, hb2⟩; have cg2 := cg1.later hb2; have zg2 := zg1.later cg1 hb2; have b2 : Hid (Below w.heap.size w w2) := Lib.hid (below_then b1.out hb2); have s2' := hb2.size; rw [s1] at s2'; clear yg0_1 xg0_1 yg1_1 xg1_1; have yg0_2 : w2.cell? ⟨w.heap.size, 0, none⟩ = some (.int .i64 f) := cg2 0 (by simp); have xg0_2 : w2.frozen? ⟨w.heap.size, 0, none⟩ = false := zg2 0 (by simp); have yg1_2 : w2.cell? ⟨w.heap.size, 1, none⟩ = some (.int .i64 s) := cg2 1 (by simp); have xg1_2 : w2.frozen? ⟨w.heap.size, 1, none⟩ = false := zg2 1 (by simp); have lg2 := World.block_lt_of_cell? _ _ yg0_2; dsimp only at lg2; clear hb2)
      | (go_at_call 72; (with_reducible refine (HT.out _).mono ?_); rintro e w' ⟨rfl, rfl⟩)
      | (go_at_call 50; refine (firstError_any _ [E0, E1] _ (by simp) (by first | exact cells_drew _ _ (by first | rfl | assumption | simp) _ _ | exact cells_new _ _ (by first | rfl | assumption | simp) _ _)).mono ?_; rw [EF.out]; rintro e w' ⟨rfl, rfl⟩)
      | (go_at_call 60; (with_reducible refine (NE.out _).mono ?_); rintro e w' ⟨rfl, rfl⟩))
    go_ret2
    exact ⟨by rw [HX.out]; rfl, below_alloc_top b2.out _⟩
end Go.Proofs.Ytoieemgdkpnbfaa
