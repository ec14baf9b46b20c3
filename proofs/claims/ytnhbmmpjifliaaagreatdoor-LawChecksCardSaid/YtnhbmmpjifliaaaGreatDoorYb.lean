/- wave: the program's directions and pitches -/
import Derived.Test.YtnhbmmpjifliaaaGreatDoorYm
namespace Go.Proofs.YtnhbmmpjifliaaaGreatDoor
open Go.RowKit Go.Shelf RayM
set_option linter.unusedSimpArgs false
set_option linter.unusedVariables false
theorem wrap_self (x : Int) (h0 : -9223372036854775808 ≤ x) (h1 : x ≤ 9223372036854775807) : IntKind.i64.wrap x = x := IntWalk.i64_in _ (by omega)
def huW (a b r : Int) : Bool := if a < IntKind.i64.wrap (-r) then false else if r < a then false else if b < IntKind.i64.wrap (-r) then false else if r < b then false else (IntKind.i64.wrap (IntKind.i64.wrap (a * a) + IntKind.i64.wrap (b * b)) == IntKind.i64.wrap (r * r))
theorem huW_eq (a b r : Int) (r0 : 1 ≤ r) (r1 : r ≤ 1000) : huW a b r = huB a b r := by
  unfold huW huB inB
  rw [wrap_self (-r) (by omega) (by omega)]
  by_cases h1 : a < -r
  · rw [if_pos h1]; simp [show ¬ -r ≤ a by omega]
  · rw [if_neg h1]
    by_cases h2 : r < a
    · rw [if_pos h2]; simp [show ¬ a ≤ r by omega]
    · rw [if_neg h2]
      by_cases h3 : b < -r
      · rw [if_pos h3]; simp [show ¬ -r ≤ b by omega]
      · rw [if_neg h3]
        by_cases h4 : r < b
        · rw [if_pos h4]; simp [show ¬ b ≤ r by omega]
        · rw [if_neg h4]
          simp [show -r ≤ a by omega, show a ≤ r by omega, show -r ≤ b by omega, show b ≤ r by omega]
theorem tuE_fst (a b r : Int) : fst [unl (inB r 1 1000) 2, unl (huW a b r) 10, unl (decide (0 < b)) 15] = tuE a b r := by
  unfold tuE
  by_cases h : inB r 1 1000 = true
  · have hr : 1 ≤ r ∧ r ≤ 1000 := by simpa [inB] using h
    rw [huW_eq a b r hr.1 hr.2, if_pos h, h]
    cases huB a b r <;> cases decide (0 < b) <;> simp [fst, unl]
  · rw [if_neg h]
    have h' : inB r 1 1000 = false := by simpa using h
    rw [h']; simp [fst, unl]
set_option maxRecDepth 100000 in
set_option maxHeartbeats 1000000 in
theorem hasUnit_any (a b r : Int) (w : World) :
    Calls Tryz.prog 96 #[.agg #[.int .i64 a, .int .i64 b, .int .i64 r]] w fun e w' => e = .returned (.bool (huW a b r)) ∧ Below w.heap.size w w' := by
  obtain ⟨m, hm⟩ : ∃ m, m = IntKind.i64.wrap (-r) := ⟨_, rfl⟩
  unfold huW
  rw [← hm]
  have hm' := hm.symm
  clear hm
  by_cases h1 : a < m
  · rw [if_pos h1]
    go_enter Tryz.func96, Tryz.ntmps96
    go_wp2
    go_ret
    exact ⟨by first | rfl | (simp; done) | (simp only [IntWalk.i64_left]; rfl), (by repeat (first | exact Below.refl _ _ | refine Below.drew ?_ | refine below_drewN ?_ _ | refine Below.setCell ?_ (by first | omega | (simp; done) | (simp; omega)) _ | refine Below.alloc ?_ (by first | omega | (simp; done) | (simp; omega)) _))⟩
  · rw [if_neg h1]
    by_cases h2 : r < a
    · rw [if_pos h2]
      go_enter Tryz.func96, Tryz.ntmps96
      go_wp2
      go_ret
      exact ⟨by first | rfl | (simp; done) | (simp only [IntWalk.i64_left]; rfl), (by repeat (first | exact Below.refl _ _ | refine Below.drew ?_ | refine below_drewN ?_ _ | refine Below.setCell ?_ (by first | omega | (simp; done) | (simp; omega)) _ | refine Below.alloc ?_ (by first | omega | (simp; done) | (simp; omega)) _))⟩
    · rw [if_neg h2]
      by_cases h3 : b < m
      · rw [if_pos h3]
        go_enter Tryz.func96, Tryz.ntmps96
        go_wp2
        go_ret
        exact ⟨by first | rfl | (simp; done) | (simp only [IntWalk.i64_left]; rfl), (by repeat (first | exact Below.refl _ _ | refine Below.drew ?_ | refine below_drewN ?_ _ | refine Below.setCell ?_ (by first | omega | (simp; done) | (simp; omega)) _ | refine Below.alloc ?_ (by first | omega | (simp; done) | (simp; omega)) _))⟩
      · rw [if_neg h3]
        by_cases h4 : r < b
        · rw [if_pos h4]
          go_enter Tryz.func96, Tryz.ntmps96
          go_wp2
          go_ret
          exact ⟨by first | rfl | (simp; done) | (simp only [IntWalk.i64_left]; rfl), (by repeat (first | exact Below.refl _ _ | refine Below.drew ?_ | refine below_drewN ?_ _ | refine Below.setCell ?_ (by first | omega | (simp; done) | (simp; omega)) _ | refine Below.alloc ?_ (by first | omega | (simp; done) | (simp; omega)) _))⟩
        · rw [if_neg h4]
          go_enter Tryz.func96, Tryz.ntmps96
          go_wp2
          go_ret
          exact ⟨by first | rfl | (simp; done) | (simp only [IntWalk.i64_left]; rfl), (by repeat (first | exact Below.refl _ _ | refine Below.drew ?_ | refine below_drewN ?_ _ | refine Below.setCell ?_ (by first | omega | (simp; done) | (simp; omega)) _ | refine Below.alloc ?_ (by first | omega | (simp; done) | (simp; omega)) _))⟩
set_option maxRecDepth 100000 in
set_option maxHeartbeats 1000000 in
theorem checkTurn_any (a b r : Int) (w : World) :
    Calls Tryz.prog 43 #[.agg #[.int .i64 a, .int .i64 b, .int .i64 r]] w fun e w' => e = .returned (.int .i64 (tuE a b r)) ∧ Below w.heap.size w w' := by
  have HU := Lib.hid (fun w => hasUnit_any a b r w)
  have EF : Hid (fst [unl (inB r 1 1000) 2, unl (huW a b r) 10, unl (decide (0 < b)) 15] = tuE a b r) := Lib.hid (tuE_fst a b r)
  generalize huW a b r = u at *
  generalize tuE a b r = E at *
  go_enter Tryz.func43, Tryz.ntmps43
  go_wp2
  have hS : Below w.heap.size w (w.alloc (.cells #[.int .i64 a, .int .i64 b, .int .i64 r] 32)) := (by repeat (first | exact Below.refl _ _ | refine Below.drew ?_ | refine below_drewN ?_ _ | refine Below.setCell ?_ (by first | omega | (simp; done) | (simp; omega)) _ | refine Below.alloc ?_ (by first | omega | (simp; done) | (simp; omega)) _))
  go_region_held3 (fun w' => w'.cell? ⟨w.heap.size, 0, none⟩ = some (.int .i64 a) ∧ w'.cell? ⟨w.heap.size, 1, none⟩ = some (.int .i64 b) ∧ w'.cell? ⟨w.heap.size, 2, none⟩ = some (.int .i64 r) ∧ Below w.heap.size w w') (((go_split_ands; (repeat' apply And.intro) <;> first | (with_reducible assumption) | exact cell_later (by assumption) (by assumption) | exact frozen_after (by assumption) (by assumption) (by assumption) | exact below_then (by assumption) (by assumption) | exact below_alloc_top (by assumption) _ | exact cell_alloc_later (by assumption) _ | exact frozen_alloc_later (by assumption) (by assumption) _ | exact Below.drew (by assumption) | (simp [go_sem, World.cell?_alloc_past, *]; done))))
    (first
      | (go_at_call 55; (with_reducible refine (isWithin_any _ _ _ _).mono ?_); rintro e w' ⟨rfl, rfl⟩)
      | (go_split_ands; go_at_call 96; (with_reducible refine (HU.out _).mono ?_); rintro e w' ⟨rfl, hb⟩)
      | (go_at_call 71; (with_reducible refine (unless_any _ _ _).mono ?_); rintro e w' ⟨rfl, rfl⟩)
      | (go_at_call 54; refine (firstError_any _ [unl (inB r 1 1000) 2, unl u 10, unl (decide (0 < b)) 15] _ (by simp) (by first | exact cells_drew _ _ (by simp) _ _ | exact cells_new _ _ (by simp) _ _)).mono ?_; rw [EF.out]; rintro e w' ⟨rfl, rfl⟩))
  all_goals (go_split_ands; go_wp2; go_ret; exact ⟨rfl, (by repeat (first | (with_reducible assumption) | refine Below.drew ?_ | refine Below.alloc ?_ (by first | omega | (simp; done) | (simp; omega)) _))⟩)
set_option maxRecDepth 100000 in
set_option maxHeartbeats 1000000 in
theorem pitchErr_any (p s k a b r : Int) (w : World) :
    Calls Tryz.prog 58 #[.agg #[.int .i64 p, .int .i64 s, .int .i64 k, .int .i64 a, .int .i64 b, .int .i64 r]] w fun e w' => e = .returned (.int .i64 (ptE p s k)) ∧ Below w.heap.size w w' := by
  have HW := Lib.hid (fun w => waveErr_any s k w)
  unfold ptE
  generalize wvE s k = u at *
  go_enter Tryz.func58, Tryz.ntmps58
  go_wp2
  have hS : Below w.heap.size w (w.alloc (.cells #[.int .i64 p, .int .i64 s, .int .i64 k, .int .i64 a, .int .i64 b, .int .i64 r] 34)) := (by repeat (first | exact Below.refl _ _ | refine Below.drew ?_ | refine below_drewN ?_ _ | refine Below.setCell ?_ (by first | omega | (simp; done) | (simp; omega)) _ | refine Below.alloc ?_ (by first | omega | (simp; done) | (simp; omega)) _))
  go_region_held3 (fun w' => w'.cell? ⟨w.heap.size, 0, none⟩ = some (.int .i64 p) ∧ w'.cell? ⟨w.heap.size, 1, none⟩ = some (.int .i64 s) ∧ w'.cell? ⟨w.heap.size, 2, none⟩ = some (.int .i64 k) ∧ Below w.heap.size w w') (((go_split_ands; (repeat' apply And.intro) <;> first | (with_reducible assumption) | exact cell_later (by assumption) (by assumption) | exact frozen_after (by assumption) (by assumption) (by assumption) | exact below_then (by assumption) (by assumption) | exact below_alloc_top (by assumption) _ | exact cell_alloc_later (by assumption) _ | exact frozen_alloc_later (by assumption) (by assumption) _ | exact Below.drew (by assumption) | (simp [go_sem, World.cell?_alloc_past, *]; done))))
    (first
      | (go_at_call 55; (with_reducible refine (isWithin_any _ _ _ _).mono ?_); rintro e w' ⟨rfl, rfl⟩)
      | (go_split_ands; go_at_call 61; (with_reducible refine (HW.out _).mono ?_); rintro e w' ⟨rfl, hb⟩)
      | (go_at_call 54; refine (firstError_any _ [unl (inB p 1 1000) 2, u] _ (by simp) (by first | exact cells_drew _ _ (by simp) _ _ | exact cells_new _ _ (by simp) _ _)).mono ?_; rintro e w' ⟨rfl, rfl⟩))
  all_goals (go_split_ands; go_wp2; go_ret; exact ⟨rfl, (by repeat (first | (with_reducible assumption) | refine Below.drew ?_ | refine Below.alloc ?_ (by first | omega | (simp; done) | (simp; omega)) _))⟩)
set_option maxRecDepth 100000 in
set_option maxHeartbeats 1000000 in
theorem pitchWave_any (p s k a b r : Int) (w : World) (L : Lb p s k) :
    Calls Tryz.prog 59 #[.agg #[.int .i64 p, .int .i64 s, .int .i64 k, .int .i64 a, .int .i64 b, .int .i64 r]] w fun e w' => e = .returned (.tuple #[.int .i64 (p * k), .int .i64 (100 * s)]) ∧ Below w.heap.size w w' := by
  obtain ⟨p0, p1, s0, s1, k0, k1, m0, m1⟩ := L
  have v1 : IntKind.i64.wrap (p * k) = p * k := wrap_self _ (by omega) (by omega)
  have v2 : IntKind.i64.wrap (100 * s) = 100 * s := wrap_self _ (by omega) (by omega)
  go_enter Tryz.func59, Tryz.ntmps59
  go_wp2
  go_quiet (fail)
  go_wp2
  go_ret2
  exact ⟨rfl, (by repeat (first | exact Below.refl _ _ | refine Below.drew ?_ | refine below_drewN ?_ _ | refine Below.setCell ?_ (by first | omega | (simp; done) | (simp; omega)) _ | refine Below.alloc ?_ (by first | omega | (simp; done) | (simp; omega)) _))⟩
end Go.Proofs.YtnhbmmpjifliaaaGreatDoor
