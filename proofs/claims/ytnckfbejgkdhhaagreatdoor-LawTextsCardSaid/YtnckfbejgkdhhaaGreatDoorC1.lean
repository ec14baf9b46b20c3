/- the reference: errors -/
import Derived.Test.YtnckfbejgkdhhaaGreatDoorB4
namespace Go.Proofs.YtnckfbejgkdhhaaGreatDoor
open Go.RowKit RayM
set_option linter.unusedSimpArgs false
set_option linter.unusedVariables false

set_option maxRecDepth 100000 in
set_option maxHeartbeats 1000000 in
theorem within_any (n l m : Int) (w : World) :
    Calls Tryz.prog 46 #[.int .i64 n, .int .i64 l, .int .i64 m] w fun e w' => e = .returned (.bool (inB n l m)) ∧ w = w' := by
  by_cases h1 : l ≤ n
  · by_cases h2 : n ≤ m
    · go_enter Tryz.func46, Tryz.ntmps46
      go_wp2
      go_ret
      exact ⟨by simp [inB, h1, h2], rfl⟩
    · go_enter Tryz.func46, Tryz.ntmps46
      go_wp2
      go_ret
      exact ⟨by simp [inB, h1]; omega, rfl⟩
  · go_enter Tryz.func46, Tryz.ntmps46
    go_wp2
    go_ret
    exact ⟨by simp [inB]; omega, rfl⟩
theorem fst_two_more (a b : Int) (l : List Int) (h : fst [a, b] ≠ 0) : fst (a :: b :: l) = fst [a, b] := by
  simp only [fst] at *
  split
  · split
    · simp_all
    · rfl
  · rfl
theorem fst_two_zero (a b : Int) (l : List Int) (h : fst [a, b] = 0) : fst (a :: b :: l) = fst l := by
  simp only [fst] at *
  by_cases ha : a = 0
  · by_cases hb : b = 0
    · simp [ha, hb]
    · simp_all
  · simp_all
/-- Unfolded -/
def unE (m : Mo) (z : Int) : Int := fst [moE m, unl (dpB z m.th) 22]
end Go.Proofs.YtnckfbejgkdhhaaGreatDoor
