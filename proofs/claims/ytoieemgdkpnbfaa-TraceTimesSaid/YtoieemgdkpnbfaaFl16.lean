/- times of samples, as the reference has them -/
import Derived.Test.YtoieemgdkpnbfaaFl15
namespace Go.Proofs.Ytoieemgdkpnbfaa
open Go.RowKit RayM
set_option linter.unusedSimpArgs false
set_option linter.unusedVariables false
set_option maxRecDepth 100000 in
set_option maxHeartbeats 1000000 in
theorem rTimeOf_any (f s n : Int) (w : World) (h : saE f s = 0) :
    Calls Try.prog 42 #[.agg #[.int .i64 f, .int .i64 s], .int .i64 n] w fun e w' => e = .returned (.tuple #[.int .i64 (toR f s n), .int .i64 (toE f s n)]) ∧ Below w.heap.size w w' := by
  have HB := Lib.hid (fun w => bwithin_any n 0 63 w)
  obtain ⟨⟨f0, f1⟩, s0, s1⟩ := (saE_zero f s).1 h
  have hE : toE f s n = unl (inB n 0 63) 2 := by unfold toE; rw [h]; by_cases hx : inB n 0 63 = true <;> simp [hx, unl, fst]
  by_cases hb : inB n 0 63 = true
  · obtain ⟨n0, n1⟩ := (inB_iff _ _ _).1 hb
    rw [hb] at hE HB
    have hR : toR f s n = f + n * s := by unfold toR; rw [if_pos (show toE f s n = 0 from hE)]
    rw [hE, hR]
    have mi := mul_in n s n0 n1 s0 s1
    have e1 : IntKind.i64.wrap (n * s) = n * s := IntWalk.i64_in _ (by omega)
    have e2 : IntKind.i64.wrap (f + n * s) = f + n * s := IntWalk.i64_in _ (by omega)
    clear mi hE hR h hb
    go_enter Try.func42, Try.ntmps42
    go_wp2_with (first
      | ((with_reducible refine wpList_box_lit rfl 77 _ rfl 2 rfl #[.int .i64 f, .int .i64 s] rfl ?_); intro w1 N1; have s1 := N1.size; have cg1 := N1.at'; have zg1 := N1.free; have b1 : Hid (Below w.heap.size w w1) := Lib.hid N1.below; clear N1; have yg0_1 : w1.cell? ⟨w.heap.size, 0, none⟩ = some (.int .i64 f) := cg1 0 (by simp); have xg0_1 : w1.frozen? ⟨w.heap.size, 0, none⟩ = false := zg1 0 (by simp); have yg1_1 : w1.cell? ⟨w.heap.size, 1, none⟩ = some (.int .i64 s) := cg1 1 (by simp); have xg1_1 : w1.frozen? ⟨w.heap.size, 1, none⟩ = false := zg1 1 (by simp))
      | (go_at_call 17; (with_reducible refine (HB.out _).mono ?_); rintro e w' ⟨rfl, rfl⟩))
    go_ret2
    exact ⟨rfl, b1.out⟩
  · have hb' : inB n 0 63 = false := by simpa using hb
    rw [hb'] at hE HB
    have hR : toR f s n = 0 := by unfold toR; rw [if_neg (by rw [hE]; decide)]
    rw [hE, hR]
    clear hE hR h hb hb'
    go_enter Try.func42, Try.ntmps42
    go_wp2_with (first
      | ((with_reducible refine wpList_box_lit rfl 77 _ rfl 2 rfl #[.int .i64 f, .int .i64 s] rfl ?_); intro w1 N1; have s1 := N1.size; have cg1 := N1.at'; have zg1 := N1.free; have b1 : Hid (Below w.heap.size w w1) := Lib.hid N1.below; clear N1; have yg0_1 : w1.cell? ⟨w.heap.size, 0, none⟩ = some (.int .i64 f) := cg1 0 (by simp); have xg0_1 : w1.frozen? ⟨w.heap.size, 0, none⟩ = false := zg1 0 (by simp); have yg1_1 : w1.cell? ⟨w.heap.size, 1, none⟩ = some (.int .i64 s) := cg1 1 (by simp); have xg1_1 : w1.frozen? ⟨w.heap.size, 1, none⟩ = false := zg1 1 (by simp))
      | (go_at_call 17; (with_reducible refine (HB.out _).mono ?_); rintro e w' ⟨rfl, rfl⟩))
    go_ret2
    exact ⟨rfl, b1.out⟩
set_option maxRecDepth 100000 in
set_option maxHeartbeats 1000000 in
theorem rounded_any (a b : Int) (w : World) (a0 : -1000000000000000000 ≤ a) (a1 : a ≤ 1000000000000000000) (b0 : 1 ≤ b) (b1 : b ≤ 1000000000000000000) :
    Calls Try.prog 62 #[.int .i64 a, .int .i64 b] w fun e w' => e = .returned (.int .i64 ((2 * a + b) / (2 * b))) ∧ w = w' := by
  go_enter Try.func62, Try.ntmps62
  go_wp2_with (go_at_call 76; refine (floor_any _ _ _ (by omega) (by omega) (by omega) (by omega)).mono ?_; rintro e w' ⟨rfl, rfl⟩)
  go_ret
  exact ⟨rfl, rfl⟩
set_option maxRecDepth 100000 in
set_option maxHeartbeats 1000000 in
theorem rNearest_any (f s t : Int) (w : World) (h : saE f s = 0) (ht : tiE t = 0) :
    Calls Try.prog 44 #[.agg #[.int .i64 f, .int .i64 s], .int .i64 t] w fun e w' => e = .returned (.tuple #[.int .i64 (neR f s t), .int .i64 (neX f s t)]) ∧ Below w.heap.size w w' := by
  obtain ⟨⟨f0, f1⟩, s0, s1⟩ := (saE_zero f s).1 h
  obtain ⟨t0, t1⟩ := (tiE_zero t).1 ht
  have hE : neE f s t = 0 := (fst2 _ _).2 ⟨h, ht⟩
  have hX : neX f s t = unl (inB (neK f s t) 0 63) 12 := by unfold neX; rw [if_pos hE]
  have e5 : IntKind.i64.wrap (t - f) = t - f := IntWalk.i64_in _ (by omega)
  have NE := Lib.hid (fun w => rounded_any (t - f) s w (by omega) (by omega) s0 (by omega))
  have KF : Hid (neK f s t = (2 * (t - f) + s) / (2 * s)) := (rfl : _ = _)
  have RZ : Hid (neX f s t = 0 → neR f s t = neK f s t) := fun h => by unfold neR; rw [if_pos h]
  have RN : Hid (neX f s t ≠ 0 → neR f s t = 0) := fun h => by unfold neR; rw [if_neg h]
  rw [← KF.out] at NE
  generalize neR f s t = R0 at *
  generalize neX f s t = X0 at *
  generalize neK f s t = K0 at *
  have HB := Lib.hid (fun w => bwithin_any K0 0 63 w)
  by_cases hb : inB K0 0 63 = true
  · rw [hb] at hX HB
    have hx : X0 = 0 := hX
    have hr := RZ.out hx
    subst hx
    subst hr
    clear hX hb RZ RN hE h ht
    go_enter Try.func44, Try.ntmps44
    go_wp2_with (first
      | ((with_reducible refine wpList_box_lit rfl 77 _ rfl 2 rfl #[.int .i64 f, .int .i64 s] rfl ?_); intro w1 N1; have s1 := N1.size; have cg1 := N1.at'; have zg1 := N1.free; have b1 : Hid (Below w.heap.size w w1) := Lib.hid N1.below; clear N1; have yg0_1 : w1.cell? ⟨w.heap.size, 0, none⟩ = some (.int .i64 f) := cg1 0 (by simp); have xg0_1 : w1.frozen? ⟨w.heap.size, 0, none⟩ = false := zg1 0 (by simp); have yg1_1 : w1.cell? ⟨w.heap.size, 1, none⟩ = some (.int .i64 s) := cg1 1 (by simp); have xg1_1 : w1.frozen? ⟨w.heap.size, 1, none⟩ = false := zg1 1 (by simp))
      | (go_at_call 62; (with_reducible refine (NE.out _).mono ?_); rintro e w' ⟨rfl, rfl⟩)
      | (go_at_call 17; (with_reducible refine (HB.out _).mono ?_); rintro e w' ⟨rfl, rfl⟩))
    go_ret2
    exact ⟨rfl, b1.out⟩
  · have hb' : inB K0 0 63 = false := by simpa using hb
    rw [hb'] at hX HB
    have hx : X0 = 12 := hX
    have hr := RN.out (by rw [hx]; decide)
    subst hx
    subst hr
    clear hX hb hb' RZ RN hE h ht
    go_enter Try.func44, Try.ntmps44
    go_wp2_with (first
      | ((with_reducible refine wpList_box_lit rfl 77 _ rfl 2 rfl #[.int .i64 f, .int .i64 s] rfl ?_); intro w1 N1; have s1 := N1.size; have cg1 := N1.at'; have zg1 := N1.free; have b1 : Hid (Below w.heap.size w w1) := Lib.hid N1.below; clear N1; have yg0_1 : w1.cell? ⟨w.heap.size, 0, none⟩ = some (.int .i64 f) := cg1 0 (by simp); have xg0_1 : w1.frozen? ⟨w.heap.size, 0, none⟩ = false := zg1 0 (by simp); have yg1_1 : w1.cell? ⟨w.heap.size, 1, none⟩ = some (.int .i64 s) := cg1 1 (by simp); have xg1_1 : w1.frozen? ⟨w.heap.size, 1, none⟩ = false := zg1 1 (by simp))
      | (go_at_call 62; (with_reducible refine (NE.out _).mono ?_); rintro e w' ⟨rfl, rfl⟩)
      | (go_at_call 17; (with_reducible refine (HB.out _).mono ?_); rintro e w' ⟨rfl, rfl⟩))
    go_ret2
    exact ⟨rfl, b1.out⟩
end Go.Proofs.Ytoieemgdkpnbfaa
