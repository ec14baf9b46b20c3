/- lengths and times, of the program and of the reference -/
import Derived.Test.YtdicndakelgoeaaC1
namespace Go.Proofs.Ytdicndakelgoeaa
open Go.RowKit RayM
set_option linter.unusedSimpArgs false
set_option linter.unusedVariables false
theorem sqL_swap (a b c d : Int) : sqL (c - a) (d - b) = sqL (a - c) (b - d) := by unfold sqL; rw [sq_sub c a, sq_sub d b]
set_option maxRecDepth 100000 in
set_option maxHeartbeats 1000000 in
theorem lengthOf_any (x z : Int) (w : World) (a : -400000 ≤ x) (b : x ≤ 400000) (c : -400000 ≤ z) (d : z ≤ 400000) :
    Calls Try.prog 98 #[.int .i64 x, .int .i64 z] w fun e w' => e = .returned (.agg #[.int .i64 (rt (sqL x z)), .int .i64 (rtU (sqL x z))]) ∧ Below w.heap.size w w' := by
  have k := sqL_bounds x z a b c d
  have k1 := sq_nonneg x
  have k2 := sq_nonneg z
  have hq : sqL x z = 1000000 * (x * x + z * z) := rfl
  have HQ := Lib.hid hq
  have k3 : 1000000 * (x * x + z * z) ≤ 320000000000000000 := by omega
  clear hq a b c d
  go_enter Try.func98, Try.ntmps98
  go_wp2_with (first | (go_at_call 155; refine (baseRoot_any _ _ (by omega) (by omega)).mono ?_; rintro e w' ⟨rfl, rfl⟩) | (go_at_call 156; refine (baseRootUp_any _ _ (by omega) (by omega)).mono ?_; rintro e w' ⟨rfl, rfl⟩))
  exact bodyPost_ret (v := .agg #[.int .i64 (rt (sqL x z)), .int .i64 (rtU (sqL x z))]) (by rw [HQ.out]; simp [results, Try.results98, go_sem]) rfl ⟨rfl, (by repeat (first | exact Below.refl _ _ | refine Below.drew ?_ | refine below_drewN ?_ _ | refine Below.setCell ?_ (by first | omega | (simp; done) | (simp; omega)) _ | refine Below.alloc ?_ (by first | omega | (simp; done) | (simp; omega)) _))⟩
set_option maxRecDepth 100000 in
set_option maxHeartbeats 1000000 in
theorem lasting_any (l h v : Int) (w : World) (a : 0 ≤ l) (b : l ≤ 565685425) (c : 0 ≤ h) (d : h ≤ 565685425) (v0 : 500 ≤ v) (v1 : v ≤ 10000) :
    Calls Try.prog 99 #[.agg #[.int .i64 l, .int .i64 h], .int .i64 v] w fun e w' => e = .returned (.agg #[.int .i64 (l * 10000 / v), .int .i64 (cdiv (h * 10000) v)]) ∧ Below w.heap.size w w' := by
  have c94 := Lib.hid (fun w => floor_any (l * 10000) v w (by omega) (by omega) (by omega) (by omega))
  have c95 := Lib.hid (fun w => ceil_any (h * 10000) v w (by omega) (by omega) (by omega) (by omega))
  have e1 : IntKind.i64.wrap (l * 10000) = l * 10000 := IntWalk.i64_in _ (by omega)
  have e2 : IntKind.i64.wrap (h * 10000) = h * 10000 := IntWalk.i64_in _ (by omega)
  go_enter Try.func99, Try.ntmps99
  go_wp2
  go_region_held3 (fun w' => w'.cell? ⟨w.heap.size, 0, none⟩ = some (.int .i64 l) ∧ w'.cell? ⟨w.heap.size, 1, none⟩ = some (.int .i64 h)) (simp [go_sem, World.cell?_alloc_past])
    (first
      | (go_at_call 110; refine (c94.out _).mono ?_; rintro e w' ⟨rfl, rfl⟩)
      | (go_at_call 111; refine (c95.out _).mono ?_; rintro e w' ⟨rfl, rfl⟩))
  clear e1 e2
  go_wp2
  exact bodyPost_ret (v := .agg #[.int .i64 (l * 10000 / v), .int .i64 (cdiv (h * 10000) v)]) (by simp [results, Try.results99, go_sem]) rfl ⟨rfl, (by repeat (first | exact Below.refl _ _ | refine Below.drew ?_ | refine below_drewN ?_ _ | refine Below.setCell ?_ (by first | omega | (simp; done) | (simp; omega)) _ | refine Below.alloc ?_ (by first | omega | (simp; done) | (simp; omega)) _))⟩
structure InP (a b c d : Int) : Prop where
  a0 : -100000 ≤ a
  a1 : a ≤ 100000
  b0 : -100000 ≤ b
  b1 : b ≤ 100000
  c0 : -100000 ≤ c
  c1 : c ≤ 100000
  d0 : -100000 ≤ d
  d1 : d ≤ 100000
set_option maxRecDepth 100000 in
set_option maxHeartbeats 1000000 in
theorem refLength_any (a b c d : Int) (w : World) (p : InP a b c d) :
    Calls Try.prog 26 #[.agg #[.int .i64 a, .int .i64 b], .agg #[.int .i64 c, .int .i64 d]] w fun e w' => e = .returned (.agg #[.int .i64 (rt (sqL (c - a) (d - b))), .int .i64 (rtU (sqL (c - a) (d - b)))]) ∧ Below w.heap.size w w' := by
  obtain ⟨a0, a1, b0, b1, c0, c1, d0, d1⟩ := p
  have HL := Lib.hid (fun w => lengthOf_any (a - c) (b - d) w (by omega) (by omega) (by omega) (by omega))
  rw [← sqL_swap] at HL
  generalize rt (sqL (c - a) (d - b)) = lo at *
  generalize rtU (sqL (c - a) (d - b)) = hi at *
  go_enter Try.func26, Try.ntmps26
  go_wp2_with fail
  refine (HL.out _).mono ?_
  rintro e w1 ⟨rfl, hb1⟩
  have qw10 : w1.cell? ⟨w.heap.size + 1 + 1, 0, none⟩ = some (.int .i64 0) := cell_later hb1 (by simp [go_sem])
  have qw11 : w1.cell? ⟨w.heap.size + 1 + 1, 1, none⟩ = some (.int .i64 0) := cell_later hb1 (by simp [go_sem])
  have qw1f0 : w1.frozen? ⟨w.heap.size + 1 + 1, 0, none⟩ = false := frozen_after hb1 (v := .int .i64 0) (by simp [go_sem]) (by simp [go_sem])
  have qw1f1 : w1.frozen? ⟨w.heap.size + 1 + 1, 1, none⟩ = false := frozen_after hb1 (v := .int .i64 0) (by simp [go_sem]) (by simp [go_sem])
  have H1 := Lib.hid (below_after (by repeat (first | exact Below.refl _ _ | refine Below.drew ?_ | refine below_drewN ?_ _ | refine Below.setCell ?_ (by first | omega | (simp; done) | (simp; omega)) _ | refine Below.alloc ?_ (by first | omega | (simp; done) | (simp; omega)) _)) hb1 (by simp; omega) : Below w.heap.size w w1); clear hb1
  go_wp2
  exact bodyPost_ret (v := .agg #[.int .i64 lo, .int .i64 hi]) (by simp [results, Try.results26, go_sem, qw10, qw11]) rfl ⟨rfl, (by (repeat (first | (with_reducible exact H1.out) | (with_reducible refine Below.setCell ?_ ?_ _) | (with_reducible refine below_alloc_top ?_ _) | (with_reducible refine Below.drew ?_))); all_goals (first | omega | (simp; done) | (simp; omega)))⟩
theorem len_bounds (a b c d : Int) (p : InP a b c d) : 0 ≤ rt (sqL (c - a) (d - b)) ∧ rt (sqL (c - a) (d - b)) ≤ 565685425 ∧ 0 ≤ rtU (sqL (c - a) (d - b)) ∧ rtU (sqL (c - a) (d - b)) ≤ 565685425 := by
  obtain ⟨a0, a1, b0, b1, c0, c1, d0, d1⟩ := p
  have s := sqL_bounds (c - a) (d - b) (by omega) (by omega) (by omega) (by omega)
  exact rt_le _ s.1 s.2
/-- the ends of the time of a way straight on -/
def toLo (a b c d v : Int) : Int := rt (sqL (c - a) (d - b)) * 10000 / v
def toHi (a b c d v : Int) : Int := cdiv (rtU (sqL (c - a) (d - b)) * 10000) v
set_option maxRecDepth 100000 in
set_option maxHeartbeats 1000000 in
theorem refTimeOf_any (a b c d v : Int) (w : World) (p : InP a b c d) (v0 : 500 ≤ v) (v1 : v ≤ 10000) :
    Calls Try.prog 28 #[.agg #[.int .i64 a, .int .i64 b], .agg #[.int .i64 c, .int .i64 d], .int .i64 v] w fun e w' => e = .returned (.agg #[.int .i64 (toLo a b c d v), .int .i64 (toHi a b c d v)]) ∧ Below w.heap.size w w' := by
  have HL := Lib.hid (fun w => refLength_any a b c d w p)
  obtain ⟨q1, q2, q3, q4⟩ := len_bounds a b c d p
  have HT := Lib.hid (fun w => lasting_any _ _ v w q1 q2 q3 q4 v0 v1)
  have he : toLo a b c d v = rt (sqL (c - a) (d - b)) * 10000 / v := rfl
  have hf : toHi a b c d v = cdiv (rtU (sqL (c - a) (d - b)) * 10000) v := rfl
  rw [← he, ← hf] at HT
  clear he hf q1 q2 q3 q4
  generalize rt (sqL (c - a) (d - b)) = lo at *
  generalize rtU (sqL (c - a) (d - b)) = hi at *
  generalize toLo a b c d v = tl at *
  generalize toHi a b c d v = th at *
  go_enter Try.func28, Try.ntmps28
  go_wp2_with fail
  refine (HL.out _).mono ?_
  rintro e w1 ⟨rfl, hb1⟩
  have qw10 : w1.cell? ⟨w.heap.size + 1 + 1, 0, none⟩ = some (.int .i64 0) := cell_later hb1 (by simp [go_sem])
  have qw11 : w1.cell? ⟨w.heap.size + 1 + 1, 1, none⟩ = some (.int .i64 0) := cell_later hb1 (by simp [go_sem])
  have qw1f0 : w1.frozen? ⟨w.heap.size + 1 + 1, 0, none⟩ = false := frozen_after hb1 (v := .int .i64 0) (by simp [go_sem]) (by simp [go_sem])
  have qw1f1 : w1.frozen? ⟨w.heap.size + 1 + 1, 1, none⟩ = false := frozen_after hb1 (v := .int .i64 0) (by simp [go_sem]) (by simp [go_sem])
  have H1 := Lib.hid (below_after (by repeat (first | exact Below.refl _ _ | refine Below.drew ?_ | refine below_drewN ?_ _ | refine Below.setCell ?_ (by first | omega | (simp; done) | (simp; omega)) _ | refine Below.alloc ?_ (by first | omega | (simp; done) | (simp; omega)) _)) hb1 (by simp; omega) : Below w.heap.size w w1); clear hb1
  go_wp2_with fail
  refine (HT.out _).mono ?_
  rintro e w2 ⟨rfl, hb2⟩
  have qw20 : w2.cell? ⟨w.heap.size + 1 + 1, 0, none⟩ = some (.int .i64 0) := cell_later hb2 (by simp [go_sem, *])
  have qw21 : w2.cell? ⟨w.heap.size + 1 + 1, 1, none⟩ = some (.int .i64 0) := cell_later hb2 (by simp [go_sem, *])
  have qw2f0 : w2.frozen? ⟨w.heap.size + 1 + 1, 0, none⟩ = false := frozen_after hb2 (v := .int .i64 0) (by simp [go_sem, *]) (by simp [go_sem, *])
  have qw2f1 : w2.frozen? ⟨w.heap.size + 1 + 1, 1, none⟩ = false := frozen_after hb2 (v := .int .i64 0) (by simp [go_sem, *]) (by simp [go_sem, *])
  have H2 := Lib.hid (below_then H1.out hb2); clear hb2
  go_wp2
  exact bodyPost_ret (v := .agg #[.int .i64 tl, .int .i64 th]) (by simp [results, Try.results28, go_sem, qw20, qw21]) rfl ⟨rfl, (by (repeat (first | (with_reducible exact H2.out) | (with_reducible refine Below.setCell ?_ ?_ _) | (with_reducible refine below_alloc_top ?_ _) | (with_reducible refine Below.drew ?_))); all_goals (first | omega | (simp; done) | (simp; omega)))⟩
def legE (a b c d : Int) : Int := fst [placeE a b, placeE c d]
def timE (a b c d v : Int) : Int := fst [placeE a b, placeE c d, unl (inB v 500 10000) 2]
theorem legE_zero (a b c d : Int) : legE a b c d = 0 ↔ InP a b c d := by
  unfold legE
  rw [fst_zero]
  simp only [List.mem_cons, List.not_mem_nil, or_false, forall_eq_or_imp, forall_eq, placeE_zero]
  exact ⟨fun ⟨⟨⟨a, b⟩, c, d⟩, ⟨e, f⟩, g, h⟩ => ⟨a, b, c, d, e, f, g, h⟩, fun ⟨a, b, c, d, e, f, g, h⟩ => ⟨⟨⟨a, b⟩, c, d⟩, ⟨e, f⟩, g, h⟩⟩
theorem placeE_two (x z : Int) : placeE x z = 0 ∨ placeE x z = 2 := by
  refine fst_two _ fun y hy => ?_
  simp only [List.mem_cons, List.not_mem_nil, or_false] at hy
  rcases hy with h | h <;> (rw [h]; exact unl_cases _ _)
theorem legE_two (a b c d : Int) : legE a b c d = 0 ∨ legE a b c d = 2 := by
  refine fst_two _ fun y hy => ?_
  simp only [List.mem_cons, List.not_mem_nil, or_false] at hy
  rcases hy with h | h <;> (rw [h]; exact placeE_two _ _)
set_option maxRecDepth 100000 in
set_option maxHeartbeats 1000000 in
theorem length_ok (a b c d : Int) (w : World) (p : InP a b c d) :
    Calls Try.prog 23 #[.agg #[.int .i64 a, .int .i64 b], .agg #[.int .i64 c, .int .i64 d]] w fun e w' => e = .returned (.tuple #[.agg #[.int .i64 (rt (sqL (c - a) (d - b))), .int .i64 (rtU (sqL (c - a) (d - b)))], .int .i64 0]) ∧ Below w.heap.size w w' := by
  have HZ : Hid (fst [placeE a b, placeE c d] = 0) := (legE_zero a b c d).2 p
  have HL := Lib.hid (fun w => lengthBetween_any a b c d w (by have := p.a0; omega) (by have := p.b0; omega) (by have := p.c0; omega) (by have := p.d0; omega) (by have := p.a1; omega) (by have := p.b1; omega) (by have := p.c1; omega) (by have := p.d1; omega))
  generalize rt (sqL (c - a) (d - b)) = lo at *
  generalize rtU (sqL (c - a) (d - b)) = hi at *
  go_enter Try.func23, Try.ntmps23
  go_wp2
  have hS : Below w.heap.size w (((w.alloc (.cells #[.int .i64 a, .int .i64 b] 23)).alloc (.cells #[.int .i64 c, .int .i64 d] 23)).alloc (.cells #[.int .i64 0, .int .i64 0] 26)) := (by repeat (first | exact Below.refl _ _ | refine Below.drew ?_ | refine below_drewN ?_ _ | refine Below.setCell ?_ (by first | omega | (simp; done) | (simp; omega)) _ | refine Below.alloc ?_ (by first | omega | (simp; done) | (simp; omega)) _))
  go_region_held3 (fun w' => w'.cell? ⟨w.heap.size, 0, none⟩ = some (.int .i64 a) ∧ w'.cell? ⟨w.heap.size, 1, none⟩ = some (.int .i64 b) ∧ w'.cell? ⟨w.heap.size + 1, 0, none⟩ = some (.int .i64 c) ∧ w'.cell? ⟨w.heap.size + 1, 1, none⟩ = some (.int .i64 d) ∧ w'.cell? ⟨w.heap.size + 1 + 1, 0, none⟩ = some (.int .i64 0) ∧ w'.cell? ⟨w.heap.size + 1 + 1, 1, none⟩ = some (.int .i64 0) ∧ w'.frozen? ⟨w.heap.size + 1 + 1, 0, none⟩ = false ∧ w'.frozen? ⟨w.heap.size + 1 + 1, 1, none⟩ = false ∧ Below w.heap.size w w') ((go_split_ands; (repeat' apply And.intro) <;> first | (with_reducible assumption) | exact cell_later (by assumption) (by assumption) | exact frozen_after (by assumption) (by assumption) (by assumption) | exact below_then (by assumption) (by assumption) | exact below_alloc_top (by assumption) _ | exact cell_alloc_later (by assumption) _ | exact frozen_alloc_later (by assumption) (by assumption) _ | exact Below.drew (by assumption) | (simp [go_sem, World.cell?_alloc_past, *]; done)))
    (first
      | (go_at_call 94; refine (placeError_any _ _ _).mono ?_; rintro e w' ⟨rfl, hb⟩)
      | (go_at_call 93; refine (firstError_any _ [placeE a b, placeE c d] _ (by simp) (by first | exact cells_drew _ _ (by simp) _ _ | exact cells_new _ _ (by simp) _ _)).mono ?_; rintro e w' ⟨rfl, rfl⟩))
  go_split_ands
  generalize hW : w'.alloc (Obj.cells #[.int .i64 (placeE a b), .int .i64 (placeE c d)] 27) = W0 at *
  clear hW
  have y0 : W0.cell? ⟨w.heap.size, 0, none⟩ = some (.int .i64 a) := by with_reducible assumption
  have y1 : W0.cell? ⟨w.heap.size, 1, none⟩ = some (.int .i64 b) := by with_reducible assumption
  have y2 : W0.cell? ⟨w.heap.size + 1, 0, none⟩ = some (.int .i64 c) := by with_reducible assumption
  have y3 : W0.cell? ⟨w.heap.size + 1, 1, none⟩ = some (.int .i64 d) := by with_reducible assumption
  have y4 : W0.cell? ⟨w.heap.size + 1 + 1, 0, none⟩ = some (.int .i64 0) := by with_reducible assumption
  have y5 : W0.cell? ⟨w.heap.size + 1 + 1, 1, none⟩ = some (.int .i64 0) := by with_reducible assumption
  have yf0 : W0.frozen? ⟨w.heap.size + 1 + 1, 0, none⟩ = false := by with_reducible assumption
  have yf1 : W0.frozen? ⟨w.heap.size + 1 + 1, 1, none⟩ = false := by with_reducible assumption
  have yB0 : Below w.heap.size w W0 := by with_reducible assumption
  have yB := Lib.hid yB0; clear yB0
  clear hb hS
  rw [HZ.out]
  go_wp2_with fail
  refine (HL.out _).mono ?_
  rintro e w1 ⟨rfl, hb1⟩
  have qw10 : w1.cell? ⟨w.heap.size + 1 + 1, 0, none⟩ = some (.int .i64 0) := cell_later hb1 (by with_reducible assumption)
  have qw11 : w1.cell? ⟨w.heap.size + 1 + 1, 1, none⟩ = some (.int .i64 0) := cell_later hb1 (by with_reducible assumption)
  have qw1f0 : w1.frozen? ⟨w.heap.size + 1 + 1, 0, none⟩ = false := frozen_after hb1 (v := .int .i64 0) (by with_reducible assumption) (by with_reducible assumption)
  have qw1f1 : w1.frozen? ⟨w.heap.size + 1 + 1, 1, none⟩ = false := frozen_after hb1 (v := .int .i64 0) (by with_reducible assumption) (by with_reducible assumption)
  have H1 := Lib.hid (below_then yB.out hb1); clear hb1
  go_wp2
  exact bodyPost_ret (v := .tuple #[.agg #[.int .i64 lo, .int .i64 hi], .int .i64 0]) (by simp [results, Try.results23, go_sem, qw10, qw11]) rfl ⟨rfl, (by (repeat (first | (with_reducible exact H1.out) | (with_reducible refine Below.setCell ?_ ?_ _) | (with_reducible refine below_alloc_top ?_ _) | (with_reducible refine Below.drew ?_))); all_goals (first | omega | (simp; done) | (simp; omega)))⟩
set_option maxRecDepth 100000 in
set_option maxHeartbeats 1000000 in
theorem length_bad (a b c d : Int) (w : World) (h : legE a b c d ≠ 0) :
    Calls Try.prog 23 #[.agg #[.int .i64 a, .int .i64 b], .agg #[.int .i64 c, .int .i64 d]] w fun e w' => e = .returned (.tuple #[.agg #[.int .i64 0, .int .i64 0], .int .i64 (legE a b c d)]) ∧ Below w.heap.size w w' := by
  have h2 : (legE a b c d != 0) = true := by simpa using h
  have HE : Hid (fst [placeE a b, placeE c d] = legE a b c d) := rfl
  clear h
  go_enter Try.func23, Try.ntmps23
  go_wp2
  have hS : Below w.heap.size w (((w.alloc (.cells #[.int .i64 a, .int .i64 b] 23)).alloc (.cells #[.int .i64 c, .int .i64 d] 23)).alloc (.cells #[.int .i64 0, .int .i64 0] 26)) := (by repeat (first | exact Below.refl _ _ | refine Below.drew ?_ | refine below_drewN ?_ _ | refine Below.setCell ?_ (by first | omega | (simp; done) | (simp; omega)) _ | refine Below.alloc ?_ (by first | omega | (simp; done) | (simp; omega)) _))
  go_region_held3 (fun w' => w'.cell? ⟨w.heap.size, 0, none⟩ = some (.int .i64 a) ∧ w'.cell? ⟨w.heap.size, 1, none⟩ = some (.int .i64 b) ∧ w'.cell? ⟨w.heap.size + 1, 0, none⟩ = some (.int .i64 c) ∧ w'.cell? ⟨w.heap.size + 1, 1, none⟩ = some (.int .i64 d) ∧ w'.cell? ⟨w.heap.size + 1 + 1, 0, none⟩ = some (.int .i64 0) ∧ w'.cell? ⟨w.heap.size + 1 + 1, 1, none⟩ = some (.int .i64 0) ∧ w'.frozen? ⟨w.heap.size + 1 + 1, 0, none⟩ = false ∧ w'.frozen? ⟨w.heap.size + 1 + 1, 1, none⟩ = false ∧ Below w.heap.size w w') ((go_split_ands; (repeat' apply And.intro) <;> first | (with_reducible assumption) | exact cell_later (by assumption) (by assumption) | exact frozen_after (by assumption) (by assumption) (by assumption) | exact below_then (by assumption) (by assumption) | exact below_alloc_top (by assumption) _ | exact cell_alloc_later (by assumption) _ | exact frozen_alloc_later (by assumption) (by assumption) _ | exact Below.drew (by assumption) | (simp [go_sem, World.cell?_alloc_past, *]; done)))
    (first
      | (go_at_call 94; refine (placeError_any _ _ _).mono ?_; rintro e w' ⟨rfl, hb⟩)
      | (go_at_call 93; refine (firstError_any _ [placeE a b, placeE c d] _ (by simp) (by first | exact cells_drew _ _ (by simp) _ _ | exact cells_new _ _ (by simp) _ _)).mono ?_; rintro e w' ⟨rfl, rfl⟩))
  go_split_ands
  generalize hW : w'.alloc (Obj.cells #[.int .i64 (placeE a b), .int .i64 (placeE c d)] 27) = W0 at *
  clear hW
  have y0 : W0.cell? ⟨w.heap.size, 0, none⟩ = some (.int .i64 a) := by with_reducible assumption
  have y1 : W0.cell? ⟨w.heap.size, 1, none⟩ = some (.int .i64 b) := by with_reducible assumption
  have y2 : W0.cell? ⟨w.heap.size + 1, 0, none⟩ = some (.int .i64 c) := by with_reducible assumption
  have y3 : W0.cell? ⟨w.heap.size + 1, 1, none⟩ = some (.int .i64 d) := by with_reducible assumption
  have y4 : W0.cell? ⟨w.heap.size + 1 + 1, 0, none⟩ = some (.int .i64 0) := by with_reducible assumption
  have y5 : W0.cell? ⟨w.heap.size + 1 + 1, 1, none⟩ = some (.int .i64 0) := by with_reducible assumption
  have yf0 : W0.frozen? ⟨w.heap.size + 1 + 1, 0, none⟩ = false := by with_reducible assumption
  have yf1 : W0.frozen? ⟨w.heap.size + 1 + 1, 1, none⟩ = false := by with_reducible assumption
  have yB0 : Below w.heap.size w W0 := by with_reducible assumption
  have yB := Lib.hid yB0; clear yB0
  clear hb hS
  rw [HE.out]
  go_wp2
  exact bodyPost_ret (v := .tuple #[.agg #[.int .i64 0, .int .i64 0], .int .i64 (legE a b c d)]) (by simp [results, Try.results23, go_sem, y4, y5]) rfl ⟨rfl, (by (repeat (first | (with_reducible exact yB.out) | (with_reducible refine Below.setCell ?_ ?_ _) | (with_reducible refine below_alloc_top ?_ _) | (with_reducible refine Below.drew ?_))); all_goals (first | omega | (simp; done) | (simp; omega)))⟩
set_option maxRecDepth 100000 in
set_option maxHeartbeats 1000000 in
theorem timeOf_ok (a b c d v : Int) (w : World) (p : InP a b c d) (v0 : 500 ≤ v) (v1 : v ≤ 10000) :
    Calls Try.prog 24 #[.agg #[.int .i64 a, .int .i64 b], .agg #[.int .i64 c, .int .i64 d], .int .i64 v] w fun e w' => e = .returned (.tuple #[.agg #[.int .i64 (toLo a b c d v), .int .i64 (toHi a b c d v)], .int .i64 0]) ∧ Below w.heap.size w w' := by
  have HZ : Hid (fst [placeE a b, placeE c d, unl (inB v 500 10000) 2] = 0) := by
    show fst _ = 0
    have k := (legE_zero a b c d).2 p
    unfold legE at k
    rw [fst_two_zero _ _ _ k]
    have : unl (inB v 500 10000) 2 = 0 := (unl_inB v 500 10000 2 (by decide)).2 ⟨v0, v1⟩
    rw [this]; rfl
  have HL := Lib.hid (fun w => lengthBetween_any a b c d w (by have := p.a0; omega) (by have := p.b0; omega) (by have := p.c0; omega) (by have := p.d0; omega) (by have := p.a1; omega) (by have := p.b1; omega) (by have := p.c1; omega) (by have := p.d1; omega))
  obtain ⟨q1, q2, q3, q4⟩ := len_bounds a b c d p
  have HT := Lib.hid (fun w => timeOfLength_any _ _ v w q1 q2 q3 q4 v0 v1)
  have he : toLo a b c d v = rt (sqL (c - a) (d - b)) * 10000 / v := rfl
  have hf : toHi a b c d v = cdiv (rtU (sqL (c - a) (d - b)) * 10000) v := rfl
  rw [← he, ← hf] at HT
  clear he hf q1 q2 q3 q4
  generalize rt (sqL (c - a) (d - b)) = lo at *
  generalize rtU (sqL (c - a) (d - b)) = hi at *
  generalize toLo a b c d v = tl at *
  generalize toHi a b c d v = th at *
  go_enter Try.func24, Try.ntmps24
  go_wp2
  have hS : Below w.heap.size w (((w.alloc (.cells #[.int .i64 a, .int .i64 b] 23)).alloc (.cells #[.int .i64 c, .int .i64 d] 23)).alloc (.cells #[.int .i64 0, .int .i64 0] 26)) := (by repeat (first | exact Below.refl _ _ | refine Below.drew ?_ | refine below_drewN ?_ _ | refine Below.setCell ?_ (by first | omega | (simp; done) | (simp; omega)) _ | refine Below.alloc ?_ (by first | omega | (simp; done) | (simp; omega)) _))
  go_region_held3 (fun w' => w'.cell? ⟨w.heap.size, 0, none⟩ = some (.int .i64 a) ∧ w'.cell? ⟨w.heap.size, 1, none⟩ = some (.int .i64 b) ∧ w'.cell? ⟨w.heap.size + 1, 0, none⟩ = some (.int .i64 c) ∧ w'.cell? ⟨w.heap.size + 1, 1, none⟩ = some (.int .i64 d) ∧ w'.cell? ⟨w.heap.size + 1 + 1, 0, none⟩ = some (.int .i64 0) ∧ w'.cell? ⟨w.heap.size + 1 + 1, 1, none⟩ = some (.int .i64 0) ∧ w'.frozen? ⟨w.heap.size + 1 + 1, 0, none⟩ = false ∧ w'.frozen? ⟨w.heap.size + 1 + 1, 1, none⟩ = false ∧ Below w.heap.size w w') ((go_split_ands; (repeat' apply And.intro) <;> first | (with_reducible assumption) | exact cell_later (by assumption) (by assumption) | exact frozen_after (by assumption) (by assumption) (by assumption) | exact below_then (by assumption) (by assumption) | exact below_alloc_top (by assumption) _ | exact cell_alloc_later (by assumption) _ | exact frozen_alloc_later (by assumption) (by assumption) _ | exact Below.drew (by assumption) | (simp [go_sem, World.cell?_alloc_past, *]; done)))
    (first
      | (go_at_call 94; refine (placeError_any _ _ _).mono ?_; rintro e w' ⟨rfl, hb⟩)
      | (go_at_call 96; refine (speedError_any _ _).mono ?_; rintro e w' ⟨rfl, rfl⟩)
      | (go_at_call 93; refine (firstError_any _ [placeE a b, placeE c d, unl (inB v 500 10000) 2] _ (by simp) (by first | exact cells_drew _ _ (by simp) _ _ | exact cells_new _ _ (by simp) _ _)).mono ?_; rintro e w' ⟨rfl, rfl⟩))
  go_split_ands
  generalize hW : w'.alloc (Obj.cells #[.int .i64 (placeE a b), .int .i64 (placeE c d), .int .i64 (unl (inB v 500 10000) 2)] 27) = W0 at *
  clear hW
  have y0 : W0.cell? ⟨w.heap.size, 0, none⟩ = some (.int .i64 a) := by with_reducible assumption
  have y1 : W0.cell? ⟨w.heap.size, 1, none⟩ = some (.int .i64 b) := by with_reducible assumption
  have y2 : W0.cell? ⟨w.heap.size + 1, 0, none⟩ = some (.int .i64 c) := by with_reducible assumption
  have y3 : W0.cell? ⟨w.heap.size + 1, 1, none⟩ = some (.int .i64 d) := by with_reducible assumption
  have y4 : W0.cell? ⟨w.heap.size + 1 + 1, 0, none⟩ = some (.int .i64 0) := by with_reducible assumption
  have y5 : W0.cell? ⟨w.heap.size + 1 + 1, 1, none⟩ = some (.int .i64 0) := by with_reducible assumption
  have yf0 : W0.frozen? ⟨w.heap.size + 1 + 1, 0, none⟩ = false := by with_reducible assumption
  have yf1 : W0.frozen? ⟨w.heap.size + 1 + 1, 1, none⟩ = false := by with_reducible assumption
  have yB0 : Below w.heap.size w W0 := by with_reducible assumption
  have yB := Lib.hid yB0; clear yB0
  clear hb hS
  rw [HZ.out]
  go_wp2_with fail
  refine (HL.out _).mono ?_
  rintro e w1 ⟨rfl, hb1⟩
  have qw10 : w1.cell? ⟨w.heap.size + 1 + 1, 0, none⟩ = some (.int .i64 0) := cell_later hb1 (by with_reducible assumption)
  have qw11 : w1.cell? ⟨w.heap.size + 1 + 1, 1, none⟩ = some (.int .i64 0) := cell_later hb1 (by with_reducible assumption)
  have qw1f0 : w1.frozen? ⟨w.heap.size + 1 + 1, 0, none⟩ = false := frozen_after hb1 (v := .int .i64 0) (by with_reducible assumption) (by with_reducible assumption)
  have qw1f1 : w1.frozen? ⟨w.heap.size + 1 + 1, 1, none⟩ = false := frozen_after hb1 (v := .int .i64 0) (by with_reducible assumption) (by with_reducible assumption)
  have H1 := Lib.hid (below_then yB.out hb1); clear hb1
  go_wp2_with fail
  refine (HT.out _).mono ?_
  rintro e w2 ⟨rfl, hb2⟩
  have qw20 : w2.cell? ⟨w.heap.size + 1 + 1, 0, none⟩ = some (.int .i64 0) := cell_later hb2 (by with_reducible assumption)
  have qw21 : w2.cell? ⟨w.heap.size + 1 + 1, 1, none⟩ = some (.int .i64 0) := cell_later hb2 (by with_reducible assumption)
  have qw2f0 : w2.frozen? ⟨w.heap.size + 1 + 1, 0, none⟩ = false := frozen_after hb2 (v := .int .i64 0) (by with_reducible assumption) (by with_reducible assumption)
  have qw2f1 : w2.frozen? ⟨w.heap.size + 1 + 1, 1, none⟩ = false := frozen_after hb2 (v := .int .i64 0) (by with_reducible assumption) (by with_reducible assumption)
  have H2 := Lib.hid (below_then H1.out hb2); clear hb2
  go_wp2
  exact bodyPost_ret (v := .tuple #[.agg #[.int .i64 tl, .int .i64 th], .int .i64 0]) (by simp [results, Try.results24, go_sem, qw20, qw21]) rfl ⟨rfl, (by (repeat (first | (with_reducible exact H2.out) | (with_reducible refine Below.setCell ?_ ?_ _) | (with_reducible refine below_alloc_top ?_ _) | (with_reducible refine Below.drew ?_))); all_goals (first | omega | (simp; done) | (simp; omega)))⟩
set_option maxRecDepth 100000 in
set_option maxHeartbeats 1000000 in
theorem timeOf_bad (a b c d v : Int) (w : World) (h : timE a b c d v ≠ 0) :
    Calls Try.prog 24 #[.agg #[.int .i64 a, .int .i64 b], .agg #[.int .i64 c, .int .i64 d], .int .i64 v] w fun e w' => e = .returned (.tuple #[.agg #[.int .i64 0, .int .i64 0], .int .i64 (timE a b c d v)]) ∧ Below w.heap.size w w' := by
  have h2 : (timE a b c d v != 0) = true := by simpa using h
  have HE : Hid (fst [placeE a b, placeE c d, unl (inB v 500 10000) 2] = timE a b c d v) := rfl
  clear h
  go_enter Try.func24, Try.ntmps24
  go_wp2
  have hS : Below w.heap.size w (((w.alloc (.cells #[.int .i64 a, .int .i64 b] 23)).alloc (.cells #[.int .i64 c, .int .i64 d] 23)).alloc (.cells #[.int .i64 0, .int .i64 0] 26)) := (by repeat (first | exact Below.refl _ _ | refine Below.drew ?_ | refine below_drewN ?_ _ | refine Below.setCell ?_ (by first | omega | (simp; done) | (simp; omega)) _ | refine Below.alloc ?_ (by first | omega | (simp; done) | (simp; omega)) _))
  go_region_held3 (fun w' => w'.cell? ⟨w.heap.size, 0, none⟩ = some (.int .i64 a) ∧ w'.cell? ⟨w.heap.size, 1, none⟩ = some (.int .i64 b) ∧ w'.cell? ⟨w.heap.size + 1, 0, none⟩ = some (.int .i64 c) ∧ w'.cell? ⟨w.heap.size + 1, 1, none⟩ = some (.int .i64 d) ∧ w'.cell? ⟨w.heap.size + 1 + 1, 0, none⟩ = some (.int .i64 0) ∧ w'.cell? ⟨w.heap.size + 1 + 1, 1, none⟩ = some (.int .i64 0) ∧ w'.frozen? ⟨w.heap.size + 1 + 1, 0, none⟩ = false ∧ w'.frozen? ⟨w.heap.size + 1 + 1, 1, none⟩ = false ∧ Below w.heap.size w w') ((go_split_ands; (repeat' apply And.intro) <;> first | (with_reducible assumption) | exact cell_later (by assumption) (by assumption) | exact frozen_after (by assumption) (by assumption) (by assumption) | exact below_then (by assumption) (by assumption) | exact below_alloc_top (by assumption) _ | exact cell_alloc_later (by assumption) _ | exact frozen_alloc_later (by assumption) (by assumption) _ | exact Below.drew (by assumption) | (simp [go_sem, World.cell?_alloc_past, *]; done)))
    (first
      | (go_at_call 94; refine (placeError_any _ _ _).mono ?_; rintro e w' ⟨rfl, hb⟩)
      | (go_at_call 96; refine (speedError_any _ _).mono ?_; rintro e w' ⟨rfl, rfl⟩)
      | (go_at_call 93; refine (firstError_any _ [placeE a b, placeE c d, unl (inB v 500 10000) 2] _ (by simp) (by first | exact cells_drew _ _ (by simp) _ _ | exact cells_new _ _ (by simp) _ _)).mono ?_; rintro e w' ⟨rfl, rfl⟩))
  go_split_ands
  generalize hW : w'.alloc (Obj.cells #[.int .i64 (placeE a b), .int .i64 (placeE c d), .int .i64 (unl (inB v 500 10000) 2)] 27) = W0 at *
  clear hW
  have y0 : W0.cell? ⟨w.heap.size, 0, none⟩ = some (.int .i64 a) := by with_reducible assumption
  have y1 : W0.cell? ⟨w.heap.size, 1, none⟩ = some (.int .i64 b) := by with_reducible assumption
  have y2 : W0.cell? ⟨w.heap.size + 1, 0, none⟩ = some (.int .i64 c) := by with_reducible assumption
  have y3 : W0.cell? ⟨w.heap.size + 1, 1, none⟩ = some (.int .i64 d) := by with_reducible assumption
  have y4 : W0.cell? ⟨w.heap.size + 1 + 1, 0, none⟩ = some (.int .i64 0) := by with_reducible assumption
  have y5 : W0.cell? ⟨w.heap.size + 1 + 1, 1, none⟩ = some (.int .i64 0) := by with_reducible assumption
  have yf0 : W0.frozen? ⟨w.heap.size + 1 + 1, 0, none⟩ = false := by with_reducible assumption
  have yf1 : W0.frozen? ⟨w.heap.size + 1 + 1, 1, none⟩ = false := by with_reducible assumption
  have yB0 : Below w.heap.size w W0 := by with_reducible assumption
  have yB := Lib.hid yB0; clear yB0
  clear hb hS
  rw [HE.out]
  go_wp2
  exact bodyPost_ret (v := .tuple #[.agg #[.int .i64 0, .int .i64 0], .int .i64 (timE a b c d v)]) (by simp [results, Try.results24, go_sem, y4, y5]) rfl ⟨rfl, (by (repeat (first | (with_reducible exact yB.out) | (with_reducible refine Below.setCell ?_ ?_ _) | (with_reducible refine below_alloc_top ?_ _) | (with_reducible refine Below.drew ?_))); all_goals (first | omega | (simp; done) | (simp; omega)))⟩
end Go.Proofs.Ytdicndakelgoeaa
