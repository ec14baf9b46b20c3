/- losses -/
import Derived.Test.YtnhbmmpjifliaaaGreatDoorA9
import Derived.Test.YtnhbmmpjifliaaaGreatDoorV0
namespace Go.Proofs.YtnhbmmpjifliaaaGreatDoor
open Go.RowKit RayM
set_option linter.unusedSimpArgs false
set_option linter.unusedVariables false
/-- the error of a loss, and the loss -/
def loE2 (s p : Int) : Int := fst [unl (inB s 0 1000000000000) 2, unl (inB p 1 10000000) 2]
def loM (s p : Int) : Int := min s p
def loV (s p : Int) : Int := if loE2 s p = 0 then min (cdiv (5000 * loM s p * loM s p) (p * p)) 1000 else 0
theorem loE2_zero (s p : Int) : loE2 s p = 0 ↔ (0 ≤ s ∧ s ≤ 1000000000000) ∧ (1 ≤ p ∧ p ≤ 10000000) := by
  unfold loE2
  rw [fst_zero]
  simp only [List.mem_cons, List.not_mem_nil, or_false, forall_eq_or_imp, forall_eq, unl_inB _ _ _ _ (show (2 : Int) ≠ 0 by decide)]
theorem sq_up (m k : Int) (h0 : 0 ≤ m) (h1 : m ≤ k) : m * m ≤ k * k := Int.mul_le_mul h1 h1 h0 (by omega)
theorem loM_in (s p : Int) (h : loE2 s p = 0) : 0 ≤ loM s p ∧ loM s p ≤ 10000000 ∧ 0 ≤ loM s p * loM s p ∧ loM s p * loM s p ≤ 100000000000000 ∧ 1 ≤ p * p ∧ p * p ≤ 100000000000000 := by
  obtain ⟨⟨a, b⟩, c, d⟩ := (loE2_zero s p).1 h
  have m0 : 0 ≤ loM s p ∧ loM s p ≤ 10000000 := by unfold loM; omega
  have := sq_up (loM s p) 10000000 m0.1 m0.2
  have := sq_up p 10000000 (by omega) d
  have := sq_up 1 p (by omega) c
  have := Int.mul_nonneg m0.1 m0.1
  exact ⟨m0.1, m0.2, by omega, by omega, by omega, by omega⟩
theorem cdiv_up_mono (a a' b : Int) (hb : 0 < b) (h : a ≤ a') : cdiv a b ≤ cdiv a' b := by
  have s1 := cdiv_spec a b hb
  have s2 := cdiv_spec a' b hb
  by_cases q : cdiv a b ≤ cdiv a' b
  · exact q
  · have := Int.mul_le_mul_of_nonneg_right (show cdiv a' b + 1 ≤ cdiv a b by omega) (show 0 ≤ b by omega)
    rw [Int.add_mul] at this
    omega
theorem cdiv_anti (a b b' : Int) (hb : 0 < b) (ha : 0 ≤ a) (h : b ≤ b') : cdiv a b' ≤ cdiv a b := by
  have s1 := cdiv_spec a b hb
  have s2 := cdiv_spec a b' (by omega)
  have n1 := (cdiv_le_self a b ha (by omega)).1
  by_cases q : cdiv a b' ≤ cdiv a b
  · exact q
  · have t1 := Int.mul_le_mul_of_nonneg_right (show cdiv a b + 1 ≤ cdiv a b' by omega) (show 0 ≤ b' by omega)
    have t2 := Int.mul_le_mul_of_nonneg_left h n1
    rw [Int.add_mul] at t1
    omega
theorem loV_in (s p : Int) : 0 ≤ loV s p ∧ loV s p ≤ 1000 := by
  unfold loV
  split
  · rename_i h
    obtain ⟨_, _, m2, _, p1, _⟩ := loM_in s p h
    have := (cdiv_le_self (5000 * loM s p * loM s p) (p * p) (by rw [Int.mul_assoc]; omega) p1).1
    omega
  · omega
theorem loV_more (s p m : Int) (h0 : loE2 s p = 0) (h1 : loE2 (s + m) p = 0) (hm : 0 ≤ m) : loV s p ≤ loV (s + m) p := by
  unfold loV
  rw [if_pos h0, if_pos h1]
  obtain ⟨a0, _, _, _, p1, _⟩ := loM_in s p h0
  have mm : loM s p ≤ loM (s + m) p := by unfold loM; omega
  have := sq_up _ _ a0 mm
  have := cdiv_up_mono (5000 * loM s p * loM s p) (5000 * loM (s + m) p * loM (s + m) p) (p * p) (by omega) (by rw [Int.mul_assoc, Int.mul_assoc]; omega)
  omega
theorem loV_full (s p : Int) (h0 : loE2 s p = 0) (h : p ≤ s) : loV s p = 1000 := by
  unfold loV
  rw [if_pos h0]
  obtain ⟨_, _, _, _, p1, _⟩ := loM_in s p h0
  have e : loM s p = p := by unfold loM; omega
  rw [e]
  have s1 := (cdiv_spec (5000 * p * p) (p * p) (by omega)).1
  rw [Int.mul_assoc] at s1
  have : 5000 ≤ cdiv (5000 * p * p) (p * p) := Int.le_of_mul_le_mul_right (by rw [Int.mul_assoc] ; exact s1) (show 0 < p * p by omega)
  omega
theorem loV_less (s p m : Int) (h0 : loE2 s p = 0) (h1 : loE2 s (p + m) = 0) (hm : 0 ≤ m) : loV s (p + m) ≤ loV s p := by
  by_cases q : p ≤ s
  · rw [loV_full s p h0 q]; exact (loV_in s (p + m)).2
  · have e1 : loM s p = s := by unfold loM; omega
    have e2 : loM s (p + m) = s := by unfold loM; omega
    obtain ⟨a0, _, m2, _, p1, _⟩ := loM_in s p h0
    obtain ⟨⟨_, _⟩, c, _⟩ := (loE2_zero s p).1 h0
    have := sq_up p (p + m) (by omega) (by omega)
    unfold loV
    rw [if_pos h0, if_pos h1, e1, e2]
    rw [e1] at m2
    have := cdiv_anti (5000 * s * s) (p * p) ((p + m) * (p + m)) (by omega) (by rw [Int.mul_assoc]; omega) this
    omega
theorem loV_none (p : Int) (h0 : loE2 0 p = 0) : loV 0 p = 0 := by
  obtain ⟨_, _, _, _, p1, _⟩ := loM_in 0 p h0
  obtain ⟨⟨_, _⟩, c, _⟩ := (loE2_zero 0 p).1 h0
  have e1 : loM 0 p = 0 := by unfold loM; omega
  unfold loV
  rw [if_pos h0, e1]
  have := cdiv_le_self 0 (p * p) (by omega) p1
  simp only [Int.mul_zero] at *
  omega
set_option maxRecDepth 100000 in
set_option maxHeartbeats 1000000 in
theorem lossOf_any (s p : Int) (w : World) :
    Calls Tryz.prog 12 #[.int .i64 s, .int .i64 p] w fun e w' => e = .returned (.tuple #[.int .i64 (loV s p), .int .i64 (loE2 s p)]) ∧ Below w.heap.size w w' := by
  have EF : Hid (fst [unl (inB s 0 1000000000000) 2, unl (inB p 1 10000000) 2] = loE2 s p) := (rfl : _ = _)
  have VZ : Hid (loE2 s p = 0 → loV s p = min (cdiv (5000 * loM s p * loM s p) (p * p)) 1000) := Lib.hid (fun h => by unfold loV; rw [if_pos h])
  have VN : Hid (loE2 s p ≠ 0 → loV s p = 0) := Lib.hid (fun h => by unfold loV; rw [if_neg h])
  have MI := Lib.hid (loM_in s p)
  have EZ := Lib.hid (loE2_zero s p).1
  generalize loV s p = V at *
  generalize loE2 s p = E at *
  by_cases hE : E = 0
  · obtain ⟨⟨s0, s1⟩, p0, p1⟩ := EZ.out hE
    obtain ⟨m0, m1, m2, m3, q0, q1⟩ := MI.out hE
    obtain rfl := VZ.out hE
    clear VZ VN MI EZ
    subst hE
    have a0 : 0 ≤ 5000 * loM s p * loM s p := by rw [Int.mul_assoc]; omega
    have a1 : 5000 * loM s p * loM s p ≤ 500000000000000000 := by rw [Int.mul_assoc]; omega
    have UP : Hid (∀ w, Calls Tryz.prog 56 #[.int .i64 (5000 * loM s p * loM s p), .int .i64 (p * p)] w fun e w' => e = .returned (.int .i64 (cdiv (5000 * loM s p * loM s p) (p * p))) ∧ w = w') := Lib.hid (fun w => up_any (5000 * loM s p * loM s p) (p * p) w (by omega) (by omega) (by omega) (by omega))
    have E2 : Hid (wrap64 (5000 * loM s p * loM s p) = 5000 * loM s p * loM s p) := Lib.hid (IntWalk.wrap64_in _ ⟨by omega, by omega⟩)
    generalize cdiv (5000 * loM s p * loM s p) (p * p) = C at *
    unfold loM at *
    clear m2 m3 a0 a1
    go_enter Tryz.func12, Tryz.ntmps12
    go_wp2_with (first | (go_at_call 55; (with_reducible refine (isWithin_any _ _ _ _).mono ?_); rintro e w' ⟨rfl, rfl⟩) | (go_at_call 54; refine (firstError_any _ [unl (inB s 0 1000000000000) 2, unl (inB p 1 10000000) 2] _ (by simp) (by first | exact cells_drew _ _ (by first | rfl | assumption | simp) _ _ | exact cells_new _ _ (by first | rfl | assumption | simp) _ _)).mono ?_; rw [EF.out]; rintro e w' ⟨rfl, rfl⟩) | (go_at_call 56; rw [E2.out]; (with_reducible refine (UP.out _).mono ?_); rintro e w' ⟨rfl, rfl⟩))
    go_ret2
    exact ⟨rfl, (Below.refl _ _).alloc (Nat.le_refl _) _⟩
  · have nE : (E != 0) = true := by simpa using hE
    rw [VN.out hE]
    clear VZ VN MI EZ hE
    go_enter Tryz.func12, Tryz.ntmps12
    go_wp2_with (first | (go_at_call 55; (with_reducible refine (isWithin_any _ _ _ _).mono ?_); rintro e w' ⟨rfl, rfl⟩) | (go_at_call 54; refine (firstError_any _ [unl (inB s 0 1000000000000) 2, unl (inB p 1 10000000) 2] _ (by simp) (by first | exact cells_drew _ _ (by first | rfl | assumption | simp) _ _ | exact cells_new _ _ (by first | rfl | assumption | simp) _ _)).mono ?_; rw [EF.out]; rintro e w' ⟨rfl, rfl⟩))
    go_ret2
    exact ⟨rfl, (Below.refl _ _).alloc (Nat.le_refl _) _⟩
end Go.Proofs.YtnhbmmpjifliaaaGreatDoor
