/- the check of a direction -/
import Derived.Test.YtkkaomgdlnejcaaGreatDoorTj
namespace Go.Proofs.YtkkaomgdlnejcaaGreatDoor
open Go.RowKit Go.Shelf RayM
set_option linter.unusedSimpArgs false
set_option linter.unusedVariables false
def huB (p q r : Int) : Bool := (inB p (-r) r && inB q (-r) r) && (IntKind.i64.wrap (IntKind.i64.wrap (p * p) + IntKind.i64.wrap (q * q)) == IntKind.i64.wrap (r * r))
def tuE (p q r : Int) : Int := if inB r 1 1000 then (if huB p q r then unl (decide (0 < q)) 15 else 10) else 2
theorem tuE_zero (p q r : Int) (h : tuE p q r = 0) : (1 ≤ r ∧ r ≤ 1000) ∧ (-r ≤ p ∧ p ≤ r) ∧ (-r ≤ q ∧ q ≤ r) ∧ 0 < q := by
  unfold tuE at h
  by_cases h1 : inB r 1 1000 = true
  · rw [if_pos h1] at h
    by_cases h2 : huB p q r = true
    · rw [if_pos h2] at h
      have h3 : 0 < q := by
        by_cases g : 0 < q
        · exact g
        · simp [unl, g] at h
      unfold huB at h2
      simp only [Bool.and_eq_true, inB, decide_eq_true_eq] at h1 h2
      exact ⟨h1, h2.1.1, h2.1.2, h3⟩
    · rw [if_neg h2] at h; omega
  · rw [if_neg h1] at h; omega
theorem wrap_self (x : Int) (h0 : -9223372036854775808 ≤ x) (h1 : x ≤ 9223372036854775807) : IntKind.i64.wrap x = x := IntWalk.i64_in _ (by omega)
def huW (a b r : Int) : Bool := if a < IntKind.i64.wrap (-r) then false else if r < a then false else if b < IntKind.i64.wrap (-r) then false else if r < b then false else (IntKind.i64.wrap (IntKind.i64.wrap (a * a) + IntKind.i64.wrap (b * b)) == IntKind.i64.wrap (r * r))
theorem huW_eq (a b r : Int) (r0 : 1 ≤ r) (r1 : r ≤ 1000) : huW a b r = huB a b r := by
  unfold huW huB inB
  rw [wrap_self (-r) (by omega) (by omega)]
  by_cases h1 : a < -r
  · rw [if_pos h1]; simp [show ¬ -r ≤ a by omega]
  · rw [if_neg h1]
    by_cases h2 : r < a
    · rw [if_pos h2]; simp [show ¬ a ≤ r by omega]
    · rw [if_neg h2]
      by_cases h3 : b < -r
      · rw [if_pos h3]; simp [show ¬ -r ≤ b by omega]
      · rw [if_neg h3]
        by_cases h4 : r < b
        · rw [if_pos h4]; simp [show ¬ b ≤ r by omega]
        · rw [if_neg h4]
          simp [show -r ≤ a by omega, show a ≤ r by omega, show -r ≤ b by omega, show b ≤ r by omega]
theorem tuE_fst (a b r : Int) : fst [unl (inB r 1 1000) 2, unl (huW a b r) 10, unl (decide (0 < b)) 15] = tuE a b r := by
  unfold tuE
  by_cases h : inB r 1 1000 = true
  · have hr : 1 ≤ r ∧ r ≤ 1000 := by simpa [inB] using h
    rw [huW_eq a b r hr.1 hr.2, if_pos h, h]
    cases huB a b r <;> cases decide (0 < b) <;> simp [fst, unl]
  · rw [if_neg h]
    have h' : inB r 1 1000 = false := by simpa using h
    rw [h']; simp [fst, unl]
set_option maxRecDepth 100000 in
set_option maxHeartbeats 1000000 in
theorem hasUnit_any (a b r : Int) (w : World) :
    Calls Tryz.prog 80 #[.agg #[.int .i64 a, .int .i64 b, .int .i64 r]] w fun e w' => e = .returned (.bool (huW a b r)) ∧ Below w.heap.size w w' := by
  obtain ⟨m, hm⟩ : ∃ m, m = IntKind.i64.wrap (-r) := ⟨_, rfl⟩
  unfold huW
  rw [← hm]
  have hm' := hm.symm
  clear hm
  by_cases h1 : a < m
  · rw [if_pos h1]
    go_enter Tryz.func80, Tryz.ntmps80
    go_wp2
    go_ret
    exact ⟨by first | rfl | (simp; done) | (simp only [IntWalk.i64_left]; rfl), (by repeat (first | exact Below.refl _ _ | refine Below.drew ?_ | refine below_drewN ?_ _ | refine Below.setCell ?_ (by first | omega | (simp; done) | (simp; omega)) _ | refine Below.alloc ?_ (by first | omega | (simp; done) | (simp; omega)) _))⟩
  · rw [if_neg h1]
    by_cases h2 : r < a
    · rw [if_pos h2]
      go_enter Tryz.func80, Tryz.ntmps80
      go_wp2
      go_ret
      exact ⟨by first | rfl | (simp; done) | (simp only [IntWalk.i64_left]; rfl), (by repeat (first | exact Below.refl _ _ | refine Below.drew ?_ | refine below_drewN ?_ _ | refine Below.setCell ?_ (by first | omega | (simp; done) | (simp; omega)) _ | refine Below.alloc ?_ (by first | omega | (simp; done) | (simp; omega)) _))⟩
    · rw [if_neg h2]
      by_cases h3 : b < m
      · rw [if_pos h3]
        go_enter Tryz.func80, Tryz.ntmps80
        go_wp2
        go_ret
        exact ⟨by first | rfl | (simp; done) | (simp only [IntWalk.i64_left]; rfl), (by repeat (first | exact Below.refl _ _ | refine Below.drew ?_ | refine below_drewN ?_ _ | refine Below.setCell ?_ (by first | omega | (simp; done) | (simp; omega)) _ | refine Below.alloc ?_ (by first | omega | (simp; done) | (simp; omega)) _))⟩
      · rw [if_neg h3]
        by_cases h4 : r < b
        · rw [if_pos h4]
          go_enter Tryz.func80, Tryz.ntmps80
          go_wp2
          go_ret
          exact ⟨by first | rfl | (simp; done) | (simp only [IntWalk.i64_left]; rfl), (by repeat (first | exact Below.refl _ _ | refine Below.drew ?_ | refine below_drewN ?_ _ | refine Below.setCell ?_ (by first | omega | (simp; done) | (simp; omega)) _ | refine Below.alloc ?_ (by first | omega | (simp; done) | (simp; omega)) _))⟩
        · rw [if_neg h4]
          go_enter Tryz.func80, Tryz.ntmps80
          go_wp2
          go_ret
          exact ⟨by first | rfl | (simp; done) | (simp only [IntWalk.i64_left]; rfl), (by repeat (first | exact Below.refl _ _ | refine Below.drew ?_ | refine below_drewN ?_ _ | refine Below.setCell ?_ (by first | omega | (simp; done) | (simp; omega)) _ | refine Below.alloc ?_ (by first | omega | (simp; done) | (simp; omega)) _))⟩
set_option maxRecDepth 100000 in
set_option maxHeartbeats 1000000 in
theorem checkTurn_any (a b r : Int) (w : World) :
    Calls Tryz.prog 44 #[.agg #[.int .i64 a, .int .i64 b, .int .i64 r]] w fun e w' => e = .returned (.int .i64 (tuE a b r)) ∧ Below w.heap.size w w' := by
  have HU := Lib.hid (fun w => hasUnit_any a b r w)
  have EF : Hid (fst [unl (inB r 1 1000) 2, unl (huW a b r) 10, unl (decide (0 < b)) 15] = tuE a b r) := Lib.hid (tuE_fst a b r)
  generalize huW a b r = u at *
  generalize tuE a b r = E at *
  go_enter Tryz.func44, Tryz.ntmps44
  go_wp2
  have hS : Below w.heap.size w (w.alloc (.cells #[.int .i64 a, .int .i64 b, .int .i64 r] 28)) := (by repeat (first | exact Below.refl _ _ | refine Below.drew ?_ | refine below_drewN ?_ _ | refine Below.setCell ?_ (by first | omega | (simp; done) | (simp; omega)) _ | refine Below.alloc ?_ (by first | omega | (simp; done) | (simp; omega)) _))
  go_region_held3 (fun w' => w'.cell? ⟨w.heap.size, 0, none⟩ = some (.int .i64 a) ∧ w'.cell? ⟨w.heap.size, 1, none⟩ = some (.int .i64 b) ∧ w'.cell? ⟨w.heap.size, 2, none⟩ = some (.int .i64 r) ∧ Below w.heap.size w w') (((go_split_ands; (repeat' apply And.intro) <;> first | (with_reducible assumption) | exact cell_later (by assumption) (by assumption) | exact frozen_after (by assumption) (by assumption) (by assumption) | exact below_then (by assumption) (by assumption) | exact below_alloc_top (by assumption) _ | exact cell_alloc_later (by assumption) _ | exact frozen_alloc_later (by assumption) (by assumption) _ | exact Below.drew (by assumption) | (simp [go_sem, World.cell?_alloc_past, *]; done))))
    (first
      | (go_at_call 58; (with_reducible refine (isWithin_any _ _ _ _).mono ?_); rintro e w' ⟨rfl, rfl⟩)
      | (go_split_ands; go_at_call 80; (with_reducible refine (HU.out _).mono ?_); rintro e w' ⟨rfl, hb⟩)
      | (go_at_call 78; (with_reducible refine (unless_any _ _ _).mono ?_); rintro e w' ⟨rfl, rfl⟩)
      | (go_at_call 42; refine (firstError_any _ [unl (inB r 1 1000) 2, unl u 10, unl (decide (0 < b)) 15] _ (by simp) (by first | exact cells_drew _ _ (by simp) _ _ | exact cells_new _ _ (by simp) _ _)).mono ?_; rw [EF.out]; rintro e w' ⟨rfl, rfl⟩))
  all_goals (go_split_ands; go_wp2; go_ret; exact ⟨rfl, (by repeat (first | (with_reducible assumption) | refine Below.drew ?_ | refine Below.alloc ?_ (by first | omega | (simp; done) | (simp; omega)) _))⟩)
set_option maxRecDepth 100000 in
set_option maxHeartbeats 1000000 in
theorem rTurn_any (a b r : Int) (w : World) :
    Calls Tryz.prog 13 #[.agg #[.int .i64 a, .int .i64 b, .int .i64 r]] w fun e w' => e = .returned (.int .i64 (tuE a b r)) ∧ Below w.heap.size w w' := by
  unfold tuE huB
  cases h1 : inB r 1 1000
  · have H1 := Lib.hid h1; clear h1
    go_enter Tryz.func13, Tryz.ntmps13
    go_wp2_with (first | (go_at_call 16; (with_reducible refine (within_any _ _ _ _).mono ?_); (first | rw [H1.out]); rintro e w' ⟨rfl, rfl⟩))
    go_ret
    exact ⟨by first | rfl | simp [unl, *], (by repeat (first | exact Below.refl _ _ | refine Below.drew ?_ | refine below_drewN ?_ _ | refine Below.setCell ?_ (by first | omega | (simp; done) | (simp; omega)) _ | refine Below.alloc ?_ (by first | omega | (simp; done) | (simp; omega)) _))⟩
  · have hr : 1 ≤ r ∧ r ≤ 1000 := by simpa [inB] using h1
    obtain ⟨r0, r1⟩ := hr
    have H1 := Lib.hid h1; clear h1
    cases h2 : inB a (-r) r
    · have H2 := Lib.hid h2; clear h2
      go_enter Tryz.func13, Tryz.ntmps13
      go_wp2_with (first | (go_at_call 16; (with_reducible refine (within_any _ _ _ _).mono ?_); (first | rw [H2.out] | rw [H1.out]); rintro e w' ⟨rfl, rfl⟩))
      go_ret
      exact ⟨by first | rfl | simp [unl, *], (by repeat (first | exact Below.refl _ _ | refine Below.drew ?_ | refine below_drewN ?_ _ | refine Below.setCell ?_ (by first | omega | (simp; done) | (simp; omega)) _ | refine Below.alloc ?_ (by first | omega | (simp; done) | (simp; omega)) _))⟩
    · have ha : -r ≤ a ∧ a ≤ r := by simpa [inB] using h2
      obtain ⟨a0, a1⟩ := ha
      have H2 := Lib.hid h2; clear h2
      cases h3 : inB b (-r) r
      · have H3 := Lib.hid h3; clear h3
        go_enter Tryz.func13, Tryz.ntmps13
        go_wp2_with (first | (go_at_call 16; (with_reducible refine (within_any _ _ _ _).mono ?_); (first | rw [H3.out] | rw [H2.out] | rw [H1.out]); rintro e w' ⟨rfl, rfl⟩))
        go_ret
        exact ⟨by first | rfl | simp [unl, *], (by repeat (first | exact Below.refl _ _ | refine Below.drew ?_ | refine below_drewN ?_ _ | refine Below.setCell ?_ (by first | omega | (simp; done) | (simp; omega)) _ | refine Below.alloc ?_ (by first | omega | (simp; done) | (simp; omega)) _))⟩
      · have hb : -r ≤ b ∧ b ≤ r := by simpa [inB] using h3
        obtain ⟨b0, b1⟩ := hb
        have H3 := Lib.hid h3; clear h3
        obtain ⟨z, hz⟩ : ∃ z, z = (IntKind.i64.wrap (IntKind.i64.wrap (a * a) + IntKind.i64.wrap (b * b)) == IntKind.i64.wrap (r * r)) := ⟨_, rfl⟩
        rw [← hz]
        have sa : -1000000 ≤ a * a ∧ a * a ≤ 1000000 := by
          have h := Int.natAbs_mul_self (a := a)
          have h1 : a.natAbs * a.natAbs ≤ 1000 * 1000 := Nat.mul_le_mul (by omega) (by omega)
          omega
        have sb : -1000000 ≤ b * b ∧ b * b ≤ 1000000 := by
          have h := Int.natAbs_mul_self (a := b)
          have h1 : b.natAbs * b.natAbs ≤ 1000 * 1000 := Nat.mul_le_mul (by omega) (by omega)
          omega
        have sr : -1000000 ≤ r * r ∧ r * r ≤ 1000000 := by
          have h := Int.natAbs_mul_self (a := r)
          have h1 : r.natAbs * r.natAbs ≤ 1000 * 1000 := Nat.mul_le_mul (by omega) (by omega)
          omega
        rw [wrap_self (a * a) (by omega) (by omega), wrap_self (b * b) (by omega) (by omega), wrap_self (r * r) (by omega) (by omega), wrap_self (a * a + b * b) (by omega) (by omega)] at hz
        cases z
        · have n1 : (a * a + b * b != r * r) = true := by simp [bne, ← hz]
          clear hz
          go_enter Tryz.func13, Tryz.ntmps13
          go_wp2_with (first | (go_at_call 16; (with_reducible refine (within_any _ _ _ _).mono ?_); (first | rw [H3.out] | rw [H2.out] | rw [H1.out]); rintro e w' ⟨rfl, rfl⟩))
          go_ret
          exact ⟨by first | rfl | simp [unl, *], (by repeat (first | exact Below.refl _ _ | refine Below.drew ?_ | refine below_drewN ?_ _ | refine Below.setCell ?_ (by first | omega | (simp; done) | (simp; omega)) _ | refine Below.alloc ?_ (by first | omega | (simp; done) | (simp; omega)) _))⟩
        · have n1 : (a * a + b * b != r * r) = false := by simp [bne, ← hz]
          clear hz
          by_cases hq : 0 < b
          · have n2 : decide (b ≤ 0) = false := by simp; omega
            go_enter Tryz.func13, Tryz.ntmps13
            go_wp2_with (first | (go_at_call 16; (with_reducible refine (within_any _ _ _ _).mono ?_); (first | rw [H3.out] | rw [H2.out] | rw [H1.out]); rintro e w' ⟨rfl, rfl⟩))
            go_ret
            exact ⟨by first | rfl | simp [unl, *], (by repeat (first | exact Below.refl _ _ | refine Below.drew ?_ | refine below_drewN ?_ _ | refine Below.setCell ?_ (by first | omega | (simp; done) | (simp; omega)) _ | refine Below.alloc ?_ (by first | omega | (simp; done) | (simp; omega)) _))⟩
          · have n2 : decide (b ≤ 0) = true := by simp; omega
            go_enter Tryz.func13, Tryz.ntmps13
            go_wp2_with (first | (go_at_call 16; (with_reducible refine (within_any _ _ _ _).mono ?_); (first | rw [H3.out] | rw [H2.out] | rw [H1.out]); rintro e w' ⟨rfl, rfl⟩))
            go_ret
            exact ⟨by first | rfl | simp [unl, *], (by repeat (first | exact Below.refl _ _ | refine Below.drew ?_ | refine below_drewN ?_ _ | refine Below.setCell ?_ (by first | omega | (simp; done) | (simp; omega)) _ | refine Below.alloc ?_ (by first | omega | (simp; done) | (simp; omega)) _))⟩
end Go.Proofs.YtkkaomgdlnejcaaGreatDoor
