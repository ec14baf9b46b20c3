/- the reference: slopes and times at places -/
import Derived.Test.YtkkaomgdlnejcaaGreatDoorC4
namespace Go.Proofs.YtkkaomgdlnejcaaGreatDoor
open Go.RowKit RayM
set_option linter.unusedSimpArgs false
set_option linter.unusedVariables false
def sgn (n : Int) : Int := if 0 < n then 1 else if n < 0 then -1 else 0
theorem sgn_pos (n : Int) (h : 0 < n) : sgn n = 1 := by unfold sgn; rw [if_pos h]
theorem sgn_negv (n : Int) (h : n < 0) : sgn n = -1 := by unfold sgn; rw [if_neg (by omega), if_pos h]
theorem sgn_zero (n : Int) (h : n = 0) : sgn n = 0 := by unfold sgn; rw [if_neg (by omega), if_neg (by omega)]
theorem sgn_b (n : Int) : -1 ≤ sgn n ∧ sgn n ≤ 1 := by unfold sgn; split <;> (try split) <;> omega
set_option maxRecDepth 100000 in
set_option maxHeartbeats 1000000 in
theorem sign_any (n : Int) (w : World) :
    Calls Tryz.prog 176 #[.int .i64 n] w fun e w' => e = .returned (.int .i64 (sgn n)) ∧ w = w' := by
  rcases Int.lt_trichotomy n 0 with h | h | h
  · have hv := Lib.hid (sgn_negv n h)
    go_enter Tryz.func176, Tryz.ntmps176
    go_wp2
    go_ret
    exact ⟨by rw [hv.out]; rfl, rfl⟩
  · have hv := Lib.hid (sgn_zero n h)
    subst h
    go_enter Tryz.func176, Tryz.ntmps176
    go_wp2
    go_ret
    exact ⟨by rw [hv.out]; rfl, rfl⟩
  · have hv := Lib.hid (sgn_pos n h)
    go_enter Tryz.func176, Tryz.ntmps176
    go_wp2
    go_ret
    exact ⟨by rw [hv.out]; rfl, rfl⟩
theorem slope_flat (c : Cr) (o : c.ok) (t : Int) (h : t - c.x1 = 0 ∨ c.x2 - t = 0) (hl : c.lo ≤ t) (hh : t ≤ c.hi) : c.slope t = sgn (sgn (t - c.x1) - sgn (c.x2 - t)) := by
  have q1 := sq_pos c.h1 o.c1
  have q2 := sq_pos c.h2 o.d1
  have w1 := sq_pos c.v1 (by have := o.e1; omega)
  have w2 := sq_pos c.v2 (by have := o.f1; omega)
  have F0 : t - c.x1 = 0 → c.F t = 0 := fun e => by unfold Cr.F; rw [e]; simp
  have S0 : c.x2 - t = 0 → c.S t = 0 := fun e => by unfold Cr.S; rw [e]; simp
  have Fp : c.x2 - t = 0 → t - c.x1 ≠ 0 → 0 < c.F t := fun e e' => by
    unfold Cr.F
    rw [e]
    have : 0 < (t - c.x1) * (t - c.x1) := by
      rcases Int.lt_or_lt_of_ne e' with k | k
      · exact Int.mul_pos_of_neg_of_neg k k
      · exact Int.mul_pos k k
    exact Int.mul_pos (Int.mul_pos (Int.mul_pos this (by have := o.f1; omega)) (by have := o.f1; omega)) (by omega)
  have Sp : t - c.x1 = 0 → c.x2 - t ≠ 0 → 0 < c.S t := fun e e' => by
    unfold Cr.S
    rw [e]
    have : 0 < (c.x2 - t) * (c.x2 - t) := by
      rcases Int.lt_or_lt_of_ne e' with k | k
      · exact Int.mul_pos_of_neg_of_neg k k
      · exact Int.mul_pos k k
    exact Int.mul_pos (Int.mul_pos (Int.mul_pos this (by have := o.e1; omega)) (by have := o.e1; omega)) (by omega)
  unfold Cr.lo at hl
  unfold Cr.hi at hh
  unfold Cr.slope
  have k1 := sg_cases (c.S t) (c.F t)
  have k2 := sg_cases (c.F t) (c.S t)
  by_cases e1 : t - c.x1 = 0
  · have f0 := F0 e1
    by_cases e2 : c.x2 - t = 0
    · have s0 := S0 e2
      rw [sgn_zero _ e1, sgn_zero _ e2]
      split <;> (rw [sgn_zero _ (by omega)]; omega)
    · have s1 := Sp e1 e2
      rw [sgn_zero _ e1]
      by_cases hx : c.x2 < c.x1
      · rw [if_pos hx, sgn_negv (c.x2 - t) (by omega), sgn_pos _ (by omega)]; omega
      · rw [if_neg hx, sgn_pos (c.x2 - t) (by omega), sgn_negv _ (by omega)]; omega
  · have e2 : c.x2 - t = 0 := by omega
    have s0 := S0 e2
    have f1 := Fp e2 e1
    rw [sgn_zero _ e2]
    by_cases hx : c.x2 < c.x1
    · rw [if_pos hx, sgn_negv (t - c.x1) (by omega), sgn_negv _ (by omega)]; omega
    · rw [if_neg hx, sgn_pos (t - c.x1) (by omega), sgn_pos _ (by omega)]; omega
set_option maxRecDepth 100000 in
set_option maxHeartbeats 1000000 in
theorem refSlope_a (c : Cr) (t : Int) (p : In c t) (w : World) (h : t - c.x1 = 0) :
    Calls Tryz.prog 161 #[.agg #[.int .i64 c.x1, .int .i64 c.h1, .int .i64 c.v1, .int .i64 c.x2, .int .i64 c.h2, .int .i64 c.v2], .int .i64 t] w fun e w' => e = .returned (.int .i64 (c.slope t)) ∧ Below w.heap.size w w' := by
  have hv := Lib.hid (slope_flat c p.o t (by omega) p.l p.h)
  have x1b := p.o.a1; have x1c := p.o.a2; have x2b := p.o.b1; have x2c := p.o.b2
  obtain ⟨bb0, bb1⟩ := p.bounds
  have g1 := sgn_b (t - c.x1)
  have g2 := sgn_b (c.x2 - t)
  obtain ⟨g1a, g1b⟩ := g1
  obtain ⟨g2a, g2b⟩ := g2
  have n1 : (t - c.x1 == 0) = true := by simp [h]
  clear h
  go_enter Tryz.func161, Tryz.ntmps161
  go_wp2
  go_quiet (fail)
  go_wp2_with (go_at_call 176; refine (sign_any _ _).mono ?_; rintro e w' ⟨rfl, rfl⟩)
  go_ret
  exact ⟨by rw [hv.out]; rfl, (by repeat (first | exact Below.refl _ _ | refine Below.drew ?_ | refine below_drewN ?_ _ | refine Below.setCell ?_ (by first | omega | (simp; done) | (simp; omega)) _ | refine Below.alloc ?_ (by first | omega | (simp; done) | (simp; omega)) _))⟩
set_option maxRecDepth 100000 in
set_option maxHeartbeats 1000000 in
theorem refSlope_b (c : Cr) (t : Int) (p : In c t) (w : World) (h : t - c.x1 ≠ 0) (h2 : c.x2 - t = 0) :
    Calls Tryz.prog 161 #[.agg #[.int .i64 c.x1, .int .i64 c.h1, .int .i64 c.v1, .int .i64 c.x2, .int .i64 c.h2, .int .i64 c.v2], .int .i64 t] w fun e w' => e = .returned (.int .i64 (c.slope t)) ∧ Below w.heap.size w w' := by
  have hv := Lib.hid (slope_flat c p.o t (by omega) p.l p.h)
  have x1b := p.o.a1; have x1c := p.o.a2; have x2b := p.o.b1; have x2c := p.o.b2
  obtain ⟨bb0, bb1⟩ := p.bounds
  have g1 := sgn_b (t - c.x1)
  have g2 := sgn_b (c.x2 - t)
  obtain ⟨g1a, g1b⟩ := g1
  obtain ⟨g2a, g2b⟩ := g2
  have n1 : (t - c.x1 == 0) = false := by simpa using h
  have n2 : (c.x2 - t == 0) = true := by simp [h2]
  clear h h2
  go_enter Tryz.func161, Tryz.ntmps161
  go_wp2
  go_quiet (fail)
  go_wp2_with (go_at_call 176; refine (sign_any _ _).mono ?_; rintro e w' ⟨rfl, rfl⟩)
  go_ret
  exact ⟨by rw [hv.out]; rfl, (by repeat (first | exact Below.refl _ _ | refine Below.drew ?_ | refine below_drewN ?_ _ | refine Below.setCell ?_ (by first | omega | (simp; done) | (simp; omega)) _ | refine Below.alloc ?_ (by first | omega | (simp; done) | (simp; omega)) _))⟩
set_option maxRecDepth 100000 in
set_option maxHeartbeats 1000000 in
theorem refSlope_c (c : Cr) (t : Int) (p : In c t) (w : World) (h : 0 < t - c.x1) (h2 : 0 < c.x2 - t) :
    Calls Tryz.prog 161 #[.agg #[.int .i64 c.x1, .int .i64 c.h1, .int .i64 c.v1, .int .i64 c.x2, .int .i64 c.h2, .int .i64 c.v2], .int .i64 t] w fun e w' => e = .returned (.int .i64 (c.slope t)) ∧ Below w.heap.size w w' := by
  have x1b := p.o.a1; have x1c := p.o.a2; have x2b := p.o.b1; have x2c := p.o.b2
  obtain ⟨bb0, bb1⟩ := p.bounds
  have g1 := sgn_b (t - c.x1)
  have g2 := sgn_b (c.x2 - t)
  obtain ⟨g1a, g1b⟩ := g1
  obtain ⟨g2a, g2b⟩ := g2
  have o := p.o
  obtain ⟨⟨k1, k2⟩, ⟨k3, k4⟩, ⟨k5, k6⟩, ⟨k7, k8⟩, ⟨k9, k10⟩⟩ := slope_bounds (t - c.x1) c.v2 (c.x2 - t) c.h2 (by omega) (by omega) o.f1 o.f2 (by omega) (by omega) o.d1 o.d2
  obtain ⟨⟨j1, j2⟩, ⟨j3, j4⟩, ⟨j5, j6⟩, ⟨j7, j8⟩, ⟨j9, j10⟩⟩ := slope_bounds (c.x2 - t) c.v1 (t - c.x1) c.h1 (by omega) (by omega) o.e1 o.e2 (by omega) (by omega) o.c1 o.c2
  have q1 := sq_pos c.h1 o.c1
  have q2 := sq_pos c.h2 o.d1
  have hcmp := fun w => compare_any ((t - c.x1) * (t - c.x1) * c.v2 * c.v2) ((t - c.x1) * (t - c.x1) + c.h1 * c.h1) ((c.x2 - t) * (c.x2 - t) * c.v1 * c.v1) ((c.x2 - t) * (c.x2 - t) + c.h2 * c.h2) w k5 j5 (by omega) (by omega) (by omega) (by omega) (by omega) (by omega)
  have hF : (t - c.x1) * (t - c.x1) * c.v2 * c.v2 * ((c.x2 - t) * (c.x2 - t) + c.h2 * c.h2) = c.F t := rfl
  have hS : (c.x2 - t) * (c.x2 - t) * c.v1 * c.v1 * ((t - c.x1) * (t - c.x1) + c.h1 * c.h1) = c.S t := rfl
  rw [hF, hS] at hcmp
  have HC := Lib.hid hcmp
  clear hcmp hF hS
  have sb := sg_cases (c.F t) (c.S t)
  have sb1 : -1 ≤ sg (c.F t) (c.S t) := by omega
  have sb2 : sg (c.F t) (c.S t) ≤ 1 := by omega
  have hv := Lib.hid (show c.slope t = sg (c.F t) (c.S t) by unfold Cr.slope; rw [if_neg (by omega)])
  have u1 : 1 ≤ sgn (t - c.x1) := by rw [sgn_pos _ h]; omega
  have u2 : 1 ≤ sgn (c.x2 - t) := by rw [sgn_pos _ h2]; omega
  clear sb
  generalize c.slope t = sl at *
  generalize sg (c.F t) (c.S t) = sv at *
  have n1 : (t - c.x1 == 0) = false := by simp; omega
  have n2 : (c.x2 - t == 0) = false := by simp; omega
  clear o
  go_enter Tryz.func161, Tryz.ntmps161
  go_wp2
  go_quiet (fail)
  go_wp2_with (first | (go_at_call 176; refine (sign_any _ _).mono ?_; rintro e w' ⟨rfl, rfl⟩) | (go_at_call 177; refine (HC.out _).mono ?_; rintro e w' ⟨rfl, rfl⟩))
  go_ret
  exact ⟨by rw [hv.out]; rfl, (by repeat (first | exact Below.refl _ _ | refine Below.drew ?_ | refine below_drewN ?_ _ | refine Below.setCell ?_ (by first | omega | (simp; done) | (simp; omega)) _ | refine Below.alloc ?_ (by first | omega | (simp; done) | (simp; omega)) _))⟩
set_option maxRecDepth 100000 in
set_option maxHeartbeats 1000000 in
theorem refSlope_d (c : Cr) (t : Int) (p : In c t) (w : World) (h : t - c.x1 < 0) (h2 : c.x2 - t < 0) :
    Calls Tryz.prog 161 #[.agg #[.int .i64 c.x1, .int .i64 c.h1, .int .i64 c.v1, .int .i64 c.x2, .int .i64 c.h2, .int .i64 c.v2], .int .i64 t] w fun e w' => e = .returned (.int .i64 (c.slope t)) ∧ Below w.heap.size w w' := by
  have x1b := p.o.a1; have x1c := p.o.a2; have x2b := p.o.b1; have x2c := p.o.b2
  obtain ⟨bb0, bb1⟩ := p.bounds
  have g1 := sgn_b (t - c.x1)
  have g2 := sgn_b (c.x2 - t)
  obtain ⟨g1a, g1b⟩ := g1
  obtain ⟨g2a, g2b⟩ := g2
  have o := p.o
  obtain ⟨⟨k1, k2⟩, ⟨k3, k4⟩, ⟨k5, k6⟩, ⟨k7, k8⟩, ⟨k9, k10⟩⟩ := slope_bounds (t - c.x1) c.v2 (c.x2 - t) c.h2 (by omega) (by omega) o.f1 o.f2 (by omega) (by omega) o.d1 o.d2
  obtain ⟨⟨j1, j2⟩, ⟨j3, j4⟩, ⟨j5, j6⟩, ⟨j7, j8⟩, ⟨j9, j10⟩⟩ := slope_bounds (c.x2 - t) c.v1 (t - c.x1) c.h1 (by omega) (by omega) o.e1 o.e2 (by omega) (by omega) o.c1 o.c2
  have q1 := sq_pos c.h1 o.c1
  have q2 := sq_pos c.h2 o.d1
  have hcmp := fun w => compare_any ((t - c.x1) * (t - c.x1) * c.v2 * c.v2) ((t - c.x1) * (t - c.x1) + c.h1 * c.h1) ((c.x2 - t) * (c.x2 - t) * c.v1 * c.v1) ((c.x2 - t) * (c.x2 - t) + c.h2 * c.h2) w k5 j5 (by omega) (by omega) (by omega) (by omega) (by omega) (by omega)
  have hF : (t - c.x1) * (t - c.x1) * c.v2 * c.v2 * ((c.x2 - t) * (c.x2 - t) + c.h2 * c.h2) = c.F t := rfl
  have hS : (c.x2 - t) * (c.x2 - t) * c.v1 * c.v1 * ((t - c.x1) * (t - c.x1) + c.h1 * c.h1) = c.S t := rfl
  rw [hF, hS] at hcmp
  have HC := Lib.hid hcmp
  clear hcmp hF hS
  have sb := sg_cases (c.F t) (c.S t)
  have sb1 : -1 ≤ sg (c.F t) (c.S t) := by omega
  have sb2 : sg (c.F t) (c.S t) ≤ 1 := by omega
  have hv := Lib.hid (show c.slope t = -sg (c.F t) (c.S t) by unfold Cr.slope; rw [if_pos (by omega), sg_swap_neg])
  have u1 : sgn (t - c.x1) ≤ -1 := by rw [sgn_negv _ h]; omega
  have u2 : sgn (c.x2 - t) ≤ -1 := by rw [sgn_negv _ h2]; omega
  clear sb
  generalize c.slope t = sl at *
  generalize sg (c.F t) (c.S t) = sv at *
  have n1 : (t - c.x1 == 0) = false := by simp; omega
  have n2 : (c.x2 - t == 0) = false := by simp; omega
  clear o
  go_enter Tryz.func161, Tryz.ntmps161
  go_wp2
  go_quiet (fail)
  go_wp2_with (first | (go_at_call 176; refine (sign_any _ _).mono ?_; rintro e w' ⟨rfl, rfl⟩) | (go_at_call 177; refine (HC.out _).mono ?_; rintro e w' ⟨rfl, rfl⟩))
  go_ret
  exact ⟨by rw [hv.out]; rfl, (by repeat (first | exact Below.refl _ _ | refine Below.drew ?_ | refine below_drewN ?_ _ | refine Below.setCell ?_ (by first | omega | (simp; done) | (simp; omega)) _ | refine Below.alloc ?_ (by first | omega | (simp; done) | (simp; omega)) _))⟩
theorem refSlope_any (c : Cr) (t : Int) (p : In c t) (w : World) :
    Calls Tryz.prog 161 #[.agg #[.int .i64 c.x1, .int .i64 c.h1, .int .i64 c.v1, .int .i64 c.x2, .int .i64 c.h2, .int .i64 c.v2], .int .i64 t] w fun e w' => e = .returned (.int .i64 (c.slope t)) ∧ Below w.heap.size w w' := by
  have hl := p.l
  have hh := p.h
  unfold Cr.lo at hl
  unfold Cr.hi at hh
  by_cases h : t - c.x1 = 0
  · exact refSlope_a c t p w h
  · by_cases h2 : c.x2 - t = 0
    · exact refSlope_b c t p w h h2
    · by_cases h3 : 0 < t - c.x1
      · exact refSlope_c c t p w h3 (by omega)
      · exact refSlope_d c t p w (by omega) (by omega)
set_option maxRecDepth 100000 in
set_option maxHeartbeats 1000000 in
theorem refIs_any (c : Cr) (t : Int) (w : World) :
    Calls Tryz.prog 140 #[.agg #[.int .i64 c.x1, .int .i64 c.h1, .int .i64 c.v1, .int .i64 c.x2, .int .i64 c.h2, .int .i64 c.v2], .int .i64 t] w fun e w' => e = .returned (.bool (inB t c.lo c.hi)) ∧ Below w.heap.size w w' := by
  have hl : min c.x1 c.x2 = c.lo := rfl
  have hh : max c.x1 c.x2 = c.hi := rfl
  have HW := Lib.hid (fun w => within_any t (min c.x1 c.x2) (max c.x1 c.x2) w)
  go_enter Tryz.func140, Tryz.ntmps140
  clear hl hh
  go_wp2_with (go_at_call 16; refine (HW.out _).mono ?_; rintro e w' ⟨rfl, rfl⟩)
  go_ret
  exact ⟨rfl, (by repeat (first | exact Below.refl _ _ | refine Below.drew ?_ | refine below_drewN ?_ _ | refine Below.setCell ?_ (by first | omega | (simp; done) | (simp; omega)) _ | refine Below.alloc ?_ (by first | omega | (simp; done) | (simp; omega)) _))⟩
end Go.Proofs.YtkkaomgdlnejcaaGreatDoor
