/- the reference of losses -/
import Derived.Test.YtnhbmmpjifliaaaGreatDoorU1
namespace Go.Proofs.YtnhbmmpjifliaaaGreatDoor
open Go.RowKit RayM
set_option linter.unusedSimpArgs false
set_option linter.unusedVariables false
theorem bwithin_any (n l m : Int) (w : World) :
    Calls Tryz.prog 14 #[.int .i64 n, .int .i64 l, .int .i64 m] w fun e w' => e = .returned (.bool (inB n l m)) ∧ w = w' := by
  by_cases h1 : l ≤ n
  · have hd : inB n l m = decide (n ≤ m) := by simp [inB, h1]
    rw [hd]; clear hd
    go_enter Tryz.func14, Tryz.ntmps14
    go_wp2
    go_ret
    exact ⟨rfl, rfl⟩
  · have hd : inB n l m = false := by simp [inB]; omega
    rw [hd]; clear hd
    go_enter Tryz.func14, Tryz.ntmps14
    go_wp2
    go_ret
    exact ⟨rfl, rfl⟩
theorem loE2_two (s p : Int) (h : loE2 s p ≠ 0) : loE2 s p = 2 := by
  revert h
  unfold loE2
  cases inB s 0 1000000000000 <;> cases inB p 1 10000000 <;> simp [fst, unl]
theorem loE2_in (s p : Int) : loE2 s p = 0 ↔ inB s 0 1000000000000 = true ∧ inB p 1 10000000 = true := by
  unfold loE2
  cases inB s 0 1000000000000 <;> cases inB p 1 10000000 <;> simp [fst, unl]
set_option maxRecDepth 100000 in
set_option maxHeartbeats 1000000 in
theorem refLoss_any (s p : Int) (w : World) :
    Calls Tryz.prog 13 #[.int .i64 s, .int .i64 p] w fun e w' => e = .returned (.tuple #[.int .i64 (loV s p), .int .i64 (loE2 s p)]) ∧ w = w' := by
  have EI := Lib.hid (loE2_in s p)
  by_cases hE : loE2 s p = 0
  · obtain ⟨⟨s0, s1⟩, p0, p1⟩ := (loE2_zero s p).1 hE
    obtain ⟨i1, i2⟩ := EI.out.1 hE
    by_cases hlt : p ≤ s
    · rw [loV_full s p hE hlt, hE]
      have I1 := Lib.hid i1; have I2 := Lib.hid i2
      clear EI hE i1 i2
      go_enter Tryz.func13, Tryz.ntmps13
      go_wp2_with (first | (go_at_call 14; (with_reducible refine (bwithin_any _ _ _ _).mono ?_); (first | rw [I1.out] | rw [I2.out]); rintro e w' ⟨rfl, rfl⟩))
      go_ret2
      exact ⟨rfl, rfl⟩
    · have e1 : loM s p = s := by unfold loM; omega
      have ev : loV s p = min 1000 (cdiv (5000 * s * s) (p * p)) := by unfold loV; rw [if_pos hE, e1, Int.min_comm]
      obtain ⟨m0, m1, m2, m3, q0, q1⟩ := loM_in s p hE
      rw [e1] at m2 m3
      rw [ev, hE]
      have a0 : 0 ≤ 5000 * s * s := by rw [Int.mul_assoc]; omega
      have a1 : 5000 * s * s ≤ 500000000000000000 := by rw [Int.mul_assoc]; omega
      have E2 : Hid (wrap64 (5000 * s * s) = 5000 * s * s) := Lib.hid (IntWalk.wrap64_in _ ⟨by omega, by omega⟩)
      have UP : Hid (∀ w, Calls Tryz.prog 57 #[.int .i64 (5000 * s * s), .int .i64 (p * p)] w fun e w' => e = .returned (.int .i64 (cdiv (5000 * s * s) (p * p))) ∧ w = w') := Lib.hid (fun w => ceil_any (5000 * s * s) (p * p) w (by omega) (by omega) (by omega) (by omega))
      have I1 := Lib.hid i1; have I2 := Lib.hid i2
      generalize cdiv (5000 * s * s) (p * p) = C at *
      clear EI hE i1 i2 e1 ev m0 m1 m2 m3 a0 a1
      go_enter Tryz.func13, Tryz.ntmps13
      go_wp2_with (first | (go_at_call 14; (with_reducible refine (bwithin_any _ _ _ _).mono ?_); (first | rw [I1.out] | rw [I2.out]); rintro e w' ⟨rfl, rfl⟩) | (go_at_call 57; (first | rw [E2.out] | skip); (with_reducible refine (UP.out _).mono ?_); rintro e w' ⟨rfl, rfl⟩))
      go_ret2
      exact ⟨rfl, rfl⟩
  · have ev : loV s p = 0 := by unfold loV; rw [if_neg hE]
    have hn := Lib.hid (fun q => hE (EI.out.2 q))
    rw [ev, loE2_two s p hE]
    clear ev hE EI
    by_cases i1 : inB s 0 1000000000000 = true
    · have i2 : inB p 1 10000000 = false := by
        cases hq : inB p 1 10000000 with
        | false => rfl
        | true => exact absurd ⟨i1, hq⟩ hn.out
      have I1 := Lib.hid i1; have I2 := Lib.hid i2
      clear i1 i2 hn
      go_enter Tryz.func13, Tryz.ntmps13
      go_wp2_with (first | (go_at_call 14; (with_reducible refine (bwithin_any _ _ _ _).mono ?_); (first | rw [I1.out] | rw [I2.out]); rintro e w' ⟨rfl, rfl⟩))
      go_ret2
      exact ⟨rfl, rfl⟩
    · have I1 := Lib.hid (show inB s 0 1000000000000 = false by simpa using i1)
      clear i1 hn
      go_enter Tryz.func13, Tryz.ntmps13
      go_wp2_with (first | (go_at_call 14; (with_reducible refine (bwithin_any _ _ _ _).mono ?_); rw [I1.out]; rintro e w' ⟨rfl, rfl⟩))
      go_ret2
      exact ⟨rfl, rfl⟩
end Go.Proofs.YtnhbmmpjifliaaaGreatDoor
