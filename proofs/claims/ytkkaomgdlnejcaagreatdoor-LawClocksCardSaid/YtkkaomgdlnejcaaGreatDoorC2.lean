/- lengths and times, of the program and of the reference -/
import Derived.Test.YtkkaomgdlnejcaaGreatDoorC1
namespace Go.Proofs.YtkkaomgdlnejcaaGreatDoor
open Go.RowKit RayM
set_option linter.unusedSimpArgs false
set_option linter.unusedVariables false
theorem sqL_swap (a b c d : Int) : sqL (c - a) (d - b) = sqL (a - c) (b - d) := by unfold sqL; rw [sq_sub c a, sq_sub d b]
set_option maxRecDepth 100000 in
set_option maxHeartbeats 1000000 in
theorem lengthOf_any (x z : Int) (w : World) (a : -400000 ≤ x) (b : x ≤ 400000) (c : -400000 ≤ z) (d : z ≤ 400000) :
    Calls Tryz.prog 163 #[.int .i64 x, .int .i64 z] w fun e w' => e = .returned (.agg #[.int .i64 (rt (sqL x z)), .int .i64 (rtU (sqL x z))]) ∧ Below w.heap.size w w' := by
  have k := sqL_bounds x z a b c d
  have k1 := sq_nonneg x
  have k2 := sq_nonneg z
  have hq : sqL x z = 1000000 * (x * x + z * z) := rfl
  have HQ := Lib.hid hq
  have k3 : 1000000 * (x * x + z * z) ≤ 320000000000000000 := by omega
  clear hq a b c d
  go_enter Tryz.func163, Tryz.ntmps163
  go_wp2_with (first | (go_at_call 178; refine (baseRoot_any _ _ (by omega) (by omega)).mono ?_; rintro e w' ⟨rfl, rfl⟩) | (go_at_call 179; refine (baseRootUp_any _ _ (by omega) (by omega)).mono ?_; rintro e w' ⟨rfl, rfl⟩))
  exact bodyPost_ret (v := .agg #[.int .i64 (rt (sqL x z)), .int .i64 (rtU (sqL x z))]) (by rw [HQ.out]; simp [results, Tryz.results163, go_sem]) rfl ⟨rfl, (by repeat (first | exact Below.refl _ _ | refine Below.drew ?_ | refine below_drewN ?_ _ | refine Below.setCell ?_ (by first | omega | (simp; done) | (simp; omega)) _ | refine Below.alloc ?_ (by first | omega | (simp; done) | (simp; omega)) _))⟩
set_option maxRecDepth 100000 in
set_option maxHeartbeats 1000000 in
theorem lasting_any (l h v : Int) (w : World) (a : 0 ≤ l) (b : l ≤ 565685425) (c : 0 ≤ h) (d : h ≤ 565685425) (v0 : 500 ≤ v) (v1 : v ≤ 10000) :
    Calls Tryz.prog 162 #[.agg #[.int .i64 l, .int .i64 h], .int .i64 v] w fun e w' => e = .returned (.agg #[.int .i64 (l * 10000 / v), .int .i64 (cdiv (h * 10000) v)]) ∧ Below w.heap.size w w' := by
  have c94 := Lib.hid (fun w => floor_any (l * 10000) v w (by omega) (by omega) (by omega) (by omega))
  have c95 := Lib.hid (fun w => ceil_any (h * 10000) v w (by omega) (by omega) (by omega) (by omega))
  have e1 : IntKind.i64.wrap (l * 10000) = l * 10000 := IntWalk.i64_in _ (by omega)
  have e2 : IntKind.i64.wrap (h * 10000) = h * 10000 := IntWalk.i64_in _ (by omega)
  go_enter Tryz.func162, Tryz.ntmps162
  go_wp2
  go_region_held3 (fun w' => w'.cell? ⟨w.heap.size, 0, none⟩ = some (.int .i64 l) ∧ w'.cell? ⟨w.heap.size, 1, none⟩ = some (.int .i64 h)) (simp [go_sem, World.cell?_alloc_past])
    (first
      | (go_at_call 83; refine (c94.out _).mono ?_; rintro e w' ⟨rfl, rfl⟩)
      | (go_at_call 141; refine (c95.out _).mono ?_; rintro e w' ⟨rfl, rfl⟩))
  clear e1 e2
  go_wp2
  exact bodyPost_ret (v := .agg #[.int .i64 (l * 10000 / v), .int .i64 (cdiv (h * 10000) v)]) (by simp [results, Tryz.results162, go_sem]) rfl ⟨rfl, (by repeat (first | exact Below.refl _ _ | refine Below.drew ?_ | refine below_drewN ?_ _ | refine Below.setCell ?_ (by first | omega | (simp; done) | (simp; omega)) _ | refine Below.alloc ?_ (by first | omega | (simp; done) | (simp; omega)) _))⟩
structure InP (a b c d : Int) : Prop where
  a0 : -100000 ≤ a
  a1 : a ≤ 100000
  b0 : -100000 ≤ b
  b1 : b ≤ 100000
  c0 : -100000 ≤ c
  c1 : c ≤ 100000
  d0 : -100000 ≤ d
  d1 : d ≤ 100000
theorem len_bounds (a b c d : Int) (p : InP a b c d) : 0 ≤ rt (sqL (c - a) (d - b)) ∧ rt (sqL (c - a) (d - b)) ≤ 565685425 ∧ 0 ≤ rtU (sqL (c - a) (d - b)) ∧ rtU (sqL (c - a) (d - b)) ≤ 565685425 := by
  obtain ⟨a0, a1, b0, b1, c0, c1, d0, d1⟩ := p
  have s := sqL_bounds (c - a) (d - b) (by omega) (by omega) (by omega) (by omega)
  exact rt_le _ s.1 s.2
/-- the ends of the time of a way straight on -/
def toLo (a b c d v : Int) : Int := rt (sqL (c - a) (d - b)) * 10000 / v
def toHi (a b c d v : Int) : Int := cdiv (rtU (sqL (c - a) (d - b)) * 10000) v
def legE (a b c d : Int) : Int := fst [placeE a b, placeE c d]
def timE (a b c d v : Int) : Int := fst [placeE a b, placeE c d, unl (inB v 500 10000) 2]
theorem legE_zero (a b c d : Int) : legE a b c d = 0 ↔ InP a b c d := by
  unfold legE
  rw [fst_zero]
  simp only [List.mem_cons, List.not_mem_nil, or_false, forall_eq_or_imp, forall_eq, placeE_zero]
  exact ⟨fun ⟨⟨⟨a, b⟩, c, d⟩, ⟨e, f⟩, g, h⟩ => ⟨a, b, c, d, e, f, g, h⟩, fun ⟨a, b, c, d, e, f, g, h⟩ => ⟨⟨⟨a, b⟩, c, d⟩, ⟨e, f⟩, g, h⟩⟩
theorem placeE_two (x z : Int) : placeE x z = 0 ∨ placeE x z = 2 := by
  refine fst_two _ fun y hy => ?_
  simp only [List.mem_cons, List.not_mem_nil, or_false] at hy
  rcases hy with h | h <;> (rw [h]; exact unl_cases _ _)
theorem legE_two (a b c d : Int) : legE a b c d = 0 ∨ legE a b c d = 2 := by
  refine fst_two _ fun y hy => ?_
  simp only [List.mem_cons, List.not_mem_nil, or_false] at hy
  rcases hy with h | h <;> (rw [h]; exact placeE_two _ _)
end Go.Proofs.YtkkaomgdlnejcaaGreatDoor
