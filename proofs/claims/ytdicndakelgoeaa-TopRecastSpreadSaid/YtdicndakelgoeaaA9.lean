/- crossings: the exported functions -/
import Derived.Test.YtdicndakelgoeaaA8
namespace Go.Proofs.Ytdicndakelgoeaa
open Go.RowKit RayM
set_option linter.unusedSimpArgs false
set_option linter.unusedVariables false

theorem inB_iff (n l m : Int) : inB n l m = true ↔ l ≤ n ∧ n ≤ m := by simp [inB]
theorem unl_inB (n l m e : Int) (he : e ≠ 0) : unl (inB n l m) e = 0 ↔ l ≤ n ∧ n ≤ m := by
  rw [← inB_iff]; unfold unl; cases inB n l m <;> simp [he]
theorem unl_cases (b : Bool) (e : Int) : unl b e = 0 ∨ unl b e = e := by cases b <;> simp [unl]
def spE (v : Int) : Int := unl (inB v 500 10000) 2
/-- the error of a crossing -/
def ccE (c : Cr) : Int := fst [unl (inB c.x1 (-100000) 100000) 2, unl (inB c.x2 (-100000) 100000) 2, unl (inB c.h1 1 100000) 2, unl (inB c.h2 1 100000) 2, unl (inB c.v1 500 10000) 2, unl (inB c.v2 500 10000) 2]
theorem fst_zero : ∀ l : List Int, fst l = 0 ↔ ∀ x ∈ l, x = 0
  | [] => by simp [fst]
  | x :: l => by
    have ih := fst_zero l
    unfold fst
    by_cases h : x = 0
    · rw [if_pos h, ih]; simp [h]
    · rw [if_neg h]; simp [h]
theorem fst_two : ∀ l : List Int, (∀ x ∈ l, x = 0 ∨ x = 2) → fst l = 0 ∨ fst l = 2
  | [], _ => by simp [fst]
  | x :: l, h => by
    have ih := fst_two l (fun y hy => h y (by simp [hy]))
    have hx := h x (by simp)
    unfold fst
    split
    · exact ih
    · omega
theorem ccE_ok (c : Cr) (o : c.ok) : ccE c = 0 := by
  unfold ccE
  rw [fst_zero]
  obtain ⟨p1, p2, p3, p4, p5, p6, p7, p8, p9, p10, p11, p12⟩ := o
  intro x hx
  simp only [List.mem_cons, List.not_mem_nil, or_false] at hx
  rcases hx with h | h | h | h | h | h <;> (rw [h, unl_inB _ _ _ _ (by decide)]; exact ⟨by omega, by omega⟩)
theorem ok_of_ccE (c : Cr) (h : ccE c = 0) : c.ok := by
  unfold ccE at h
  rw [fst_zero] at h
  simp only [List.mem_cons, List.not_mem_nil, or_false, forall_eq_or_imp, forall_eq, unl_inB _ _ _ _ (show (2 : Int) ≠ 0 by decide)] at h
  obtain ⟨⟨a, b⟩, ⟨c, d⟩, ⟨e, f⟩, ⟨g, i⟩, ⟨j, k⟩, ⟨l, m⟩⟩ := h
  exact ⟨a, b, c, d, e, f, g, i, j, k, l, m⟩
theorem ccE_bad (c : Cr) (h : ¬ c.ok) : ccE c = 2 := by
  have : ccE c ≠ 0 := fun h' => h (ok_of_ccE c h')
  have k : ccE c = 0 ∨ ccE c = 2 := by
    refine fst_two _ fun x hx => ?_
    simp only [List.mem_cons, List.not_mem_nil, or_false] at hx
    rcases hx with h | h | h | h | h | h <;> (rw [h]; exact unl_cases _ _)
  omega

set_option maxRecDepth 100000 in
set_option maxHeartbeats 1000000 in
/-- CheckCross(x) -/
theorem checkCross_any (c : Cr) (w : World) :
    Calls Try.prog 33 #[.agg #[.int .i64 c.x1, .int .i64 c.h1, .int .i64 c.v1, .int .i64 c.x2, .int .i64 c.h2, .int .i64 c.v2]] w fun e w' => e = .returned (.int .i64 (ccE c)) ∧ Below w.heap.size w w' := by
  go_enter Try.func33, Try.ntmps33
  go_wp2
  go_region_held3 (fun w' => w'.cell? ⟨w.heap.size, 0, none⟩ = some (.int .i64 c.x1) ∧ w'.cell? ⟨w.heap.size, 1, none⟩ = some (.int .i64 c.h1) ∧ w'.cell? ⟨w.heap.size, 2, none⟩ = some (.int .i64 c.v1) ∧ w'.cell? ⟨w.heap.size, 3, none⟩ = some (.int .i64 c.x2) ∧ w'.cell? ⟨w.heap.size, 4, none⟩ = some (.int .i64 c.h2) ∧ w'.cell? ⟨w.heap.size, 5, none⟩ = some (.int .i64 c.v2)) (simp [go_sem, World.cell?_alloc_past])
    (first
      | (go_at_call 106; refine (isWithin_any _ _ _ _).mono ?_; rintro e w' ⟨rfl, rfl⟩)
      | (go_at_call 122; refine (unless_any _ _ _).mono ?_; rintro e w' ⟨rfl, rfl⟩)
      | (go_at_call 96; refine (speedError_any _ _).mono ?_; rintro e w' ⟨rfl, rfl⟩)
      | (go_at_call 93; refine (firstError_any _ [unl (inB c.x1 (-100000) 100000) 2, unl (inB c.x2 (-100000) 100000) 2, unl (inB c.h1 1 100000) 2, unl (inB c.h2 1 100000) 2, unl (inB c.v1 500 10000) 2, unl (inB c.v2 500 10000) 2] _ (by simp) (by first | exact cells_drew _ _ (by simp) _ _ | exact cells_new _ _ (by simp) _ _)).mono ?_; rintro e w' ⟨rfl, rfl⟩))
  go_wp2
  go_ret
  exact ⟨rfl, (by repeat (first | exact Below.refl _ _ | refine Below.drew ?_ | refine below_drewN ?_ _ | refine Below.setCell ?_ (by first | omega | (simp; done) | (simp; omega)) _ | refine Below.alloc ?_ (by first | omega | (simp; done) | (simp; omega)) _))⟩
theorem checkCross_ok (c : Cr) (o : c.ok) (w : World) :
    Calls Try.prog 33 #[.agg #[.int .i64 c.x1, .int .i64 c.h1, .int .i64 c.v1, .int .i64 c.x2, .int .i64 c.h2, .int .i64 c.v2]] w fun e w' => e = .returned (.int .i64 0) ∧ Below w.heap.size w w' := by
  have := checkCross_any c w; rwa [ccE_ok c o] at this
theorem checkCross_bad (c : Cr) (o : ¬ c.ok) (w : World) :
    Calls Try.prog 33 #[.agg #[.int .i64 c.x1, .int .i64 c.h1, .int .i64 c.v1, .int .i64 c.x2, .int .i64 c.h2, .int .i64 c.v2]] w fun e w' => e = .returned (.int .i64 2) ∧ Below w.heap.size w w' := by
  have := checkCross_any c w; rwa [ccE_bad c o] at this

set_option maxRecDepth 100000 in
set_option maxHeartbeats 1000000 in
/-- Crossing(x) -/
theorem crossing_ok (c : Cr) (o : c.ok) (w : World) :
    Calls Try.prog 38 #[.agg #[.int .i64 c.x1, .int .i64 c.h1, .int .i64 c.v1, .int .i64 c.x2, .int .i64 c.h2, .int .i64 c.v2]] w fun e w' => e = .returned (.tuple #[.int .i64 c.k, .int .i64 0]) ∧ Below w.heap.size w w' := by
  go_enter Try.func38, Try.ntmps38
  go_wp2_with fail
  refine (checkCross_ok c o _).mono ?_
  rintro e w1 ⟨rfl, hb1⟩
  have qw10 : w1.cell? ⟨w.heap.size, 0, none⟩ = some (.int .i64 c.x1) := cell_later hb1 (by simp [go_sem])
  have qw11 : w1.cell? ⟨w.heap.size, 1, none⟩ = some (.int .i64 c.h1) := cell_later hb1 (by simp [go_sem])
  have qw12 : w1.cell? ⟨w.heap.size, 2, none⟩ = some (.int .i64 c.v1) := cell_later hb1 (by simp [go_sem])
  have qw13 : w1.cell? ⟨w.heap.size, 3, none⟩ = some (.int .i64 c.x2) := cell_later hb1 (by simp [go_sem])
  have qw14 : w1.cell? ⟨w.heap.size, 4, none⟩ = some (.int .i64 c.h2) := cell_later hb1 (by simp [go_sem])
  have qw15 : w1.cell? ⟨w.heap.size, 5, none⟩ = some (.int .i64 c.v2) := cell_later hb1 (by simp [go_sem])
  have zw1 := hb1.size
  try simp at zw1
  have zw10 : w.heap.size < w1.heap.size := by omega
  have HB1 : Hid (Below w.heap.size w w1) := below_after (by repeat (first | exact Below.refl _ _ | refine Below.drew ?_ | refine below_drewN ?_ _ | refine Below.setCell ?_ (by first | omega | (simp; done) | (simp; omega)) _ | refine Below.alloc ?_ (by first | omega | (simp; done) | (simp; omega)) _)) hb1 (by simp)
  clear hb1
  go_wp2_with fail
  refine (crossingOf_any c _).mono ?_
  rintro e w2 ⟨rfl, hb2⟩
  have HB2 : Hid (Below w.heap.size w w2) := below_then HB1.out hb2
  clear hb2
  go_wp2_with fail
  refine (fastest_any c o _).mono ?_
  rintro e w3 ⟨rfl, hb3⟩
  have HB3 : Hid (Below w.heap.size w w3) := below_then HB2.out hb3
  clear hb3
  go_wp2
  go_ret2
  exact ⟨rfl, HB3.out⟩
set_option maxRecDepth 100000 in
set_option maxHeartbeats 1000000 in
theorem crossing_bad (c : Cr) (o : ¬ c.ok) (w : World) :
    Calls Try.prog 38 #[.agg #[.int .i64 c.x1, .int .i64 c.h1, .int .i64 c.v1, .int .i64 c.x2, .int .i64 c.h2, .int .i64 c.v2]] w fun e w' => e = .returned (.tuple #[.int .i64 0, .int .i64 2]) ∧ Below w.heap.size w w' := by
  go_enter Try.func38, Try.ntmps38
  go_wp2_with fail
  refine (checkCross_bad c o _).mono ?_
  rintro e w1 ⟨rfl, hb1⟩
  have HB1 : Hid (Below w.heap.size w w1) := below_after (by repeat (first | exact Below.refl _ _ | refine Below.drew ?_ | refine below_drewN ?_ _ | refine Below.setCell ?_ (by first | omega | (simp; done) | (simp; omega)) _ | refine Below.alloc ?_ (by first | omega | (simp; done) | (simp; omega)) _)) hb1 (by simp)
  clear hb1
  go_wp2
  go_ret2
  exact ⟨rfl, HB1.out⟩

set_option maxRecDepth 100000 in
set_option maxHeartbeats 1000000 in
/-- Least(x) -/
theorem least_ok (c : Cr) (o : c.ok) (w : World) :
    Calls Try.prog 39 #[.agg #[.int .i64 c.x1, .int .i64 c.h1, .int .i64 c.v1, .int .i64 c.x2, .int .i64 c.h2, .int .i64 c.v2]] w fun e w' => e = .returned (.tuple #[.agg #[.int .i64 c.lLo, .int .i64 c.lHi], .int .i64 0]) ∧ Below w.heap.size w w' := by
  go_enter Try.func39, Try.ntmps39
  go_wp2_with fail
  refine (checkCross_ok c o _).mono ?_
  rintro e w1 ⟨rfl, hb1⟩
  have qw10 : w1.cell? ⟨w.heap.size, 0, none⟩ = some (.int .i64 c.x1) := cell_later hb1 (by simp [go_sem])
  have qw11 : w1.cell? ⟨w.heap.size, 1, none⟩ = some (.int .i64 c.h1) := cell_later hb1 (by simp [go_sem])
  have qw12 : w1.cell? ⟨w.heap.size, 2, none⟩ = some (.int .i64 c.v1) := cell_later hb1 (by simp [go_sem])
  have qw13 : w1.cell? ⟨w.heap.size, 3, none⟩ = some (.int .i64 c.x2) := cell_later hb1 (by simp [go_sem])
  have qw14 : w1.cell? ⟨w.heap.size, 4, none⟩ = some (.int .i64 c.h2) := cell_later hb1 (by simp [go_sem])
  have qw15 : w1.cell? ⟨w.heap.size, 5, none⟩ = some (.int .i64 c.v2) := cell_later hb1 (by simp [go_sem])
  have qw16 : w1.cell? ⟨w.heap.size + 1, 0, none⟩ = some (.int .i64 0) := cell_later hb1 (by simp [go_sem])
  have qw17 : w1.cell? ⟨w.heap.size + 1, 1, none⟩ = some (.int .i64 0) := cell_later hb1 (by simp [go_sem])
  have qw1f0 : w1.frozen? ⟨w.heap.size + 1, 0, none⟩ = false := frozen_after hb1 (v := .int .i64 0) (by simp [go_sem]) (by simp [go_sem])
  have qw1f1 : w1.frozen? ⟨w.heap.size + 1, 1, none⟩ = false := frozen_after hb1 (v := .int .i64 0) (by simp [go_sem]) (by simp [go_sem])
  have zw1 := hb1.size
  try simp at zw1
  have zw10 : w.heap.size < w1.heap.size := by omega
  have zw11 : w.heap.size + 1 < w1.heap.size := by omega
  have HB1 : Hid (Below w.heap.size w w1) := below_after (by repeat (first | exact Below.refl _ _ | refine Below.drew ?_ | refine below_drewN ?_ _ | refine Below.setCell ?_ (by first | omega | (simp; done) | (simp; omega)) _ | refine Below.alloc ?_ (by first | omega | (simp; done) | (simp; omega)) _)) hb1 (by simp; omega)
  clear hb1
  go_wp2_with fail
  refine (crossingOf_any c _).mono ?_
  rintro e w2 ⟨rfl, hb2⟩
  have qw20 : w2.cell? ⟨w.heap.size + 1, 0, none⟩ = some (.int .i64 0) := cell_later hb2 (by simp [go_sem, *])
  have qw21 : w2.cell? ⟨w.heap.size + 1, 1, none⟩ = some (.int .i64 0) := cell_later hb2 (by simp [go_sem, *])
  have qw2f0 : w2.frozen? ⟨w.heap.size + 1, 0, none⟩ = false := frozen_after hb2 (v := .int .i64 0) (by simp [go_sem, *]) (by simp [go_sem, *])
  have qw2f1 : w2.frozen? ⟨w.heap.size + 1, 1, none⟩ = false := frozen_after hb2 (v := .int .i64 0) (by simp [go_sem, *]) (by simp [go_sem, *])
  have HB2 : Hid (Below w.heap.size w w2) := below_then HB1.out hb2
  clear hb2
  go_wp2_with fail
  by_cases hk : c.k < c.hi
  · refine (leastTime_in c o _ hk).mono ?_
    rintro e w3 ⟨rfl, hb3⟩
    have qw30 : w3.cell? ⟨w.heap.size + 1, 0, none⟩ = some (.int .i64 0) := cell_later hb3 (by simp [go_sem, *])
    have qw31 : w3.cell? ⟨w.heap.size + 1, 1, none⟩ = some (.int .i64 0) := cell_later hb3 (by simp [go_sem, *])
    have qw3f0 : w3.frozen? ⟨w.heap.size + 1, 0, none⟩ = false := frozen_after hb3 (v := .int .i64 0) (by simp [go_sem, *]) (by simp [go_sem, *])
    have qw3f1 : w3.frozen? ⟨w.heap.size + 1, 1, none⟩ = false := frozen_after hb3 (v := .int .i64 0) (by simp [go_sem, *]) (by simp [go_sem, *])
    have HB3 : Hid (Below w.heap.size w w3) := below_then HB2.out hb3
    clear hb3
    go_wp2
    exact bodyPost_ret (v := .tuple #[.agg #[.int .i64 c.lLo, .int .i64 c.lHi], .int .i64 0]) (by simp [results, Try.results39, go_sem, qw30, qw31]) rfl ⟨rfl, (by repeat (first | exact HB3.out | refine Below.drew ?_ | refine Below.setCell ?_ (by first | omega | (simp; done) | (simp; omega)) _))⟩
  · refine (leastTime_end c o _ hk).mono ?_
    rintro e w3 ⟨rfl, hb3⟩
    have qw30 : w3.cell? ⟨w.heap.size + 1, 0, none⟩ = some (.int .i64 0) := cell_later hb3 (by simp [go_sem, *])
    have qw31 : w3.cell? ⟨w.heap.size + 1, 1, none⟩ = some (.int .i64 0) := cell_later hb3 (by simp [go_sem, *])
    have qw3f0 : w3.frozen? ⟨w.heap.size + 1, 0, none⟩ = false := frozen_after hb3 (v := .int .i64 0) (by simp [go_sem, *]) (by simp [go_sem, *])
    have qw3f1 : w3.frozen? ⟨w.heap.size + 1, 1, none⟩ = false := frozen_after hb3 (v := .int .i64 0) (by simp [go_sem, *]) (by simp [go_sem, *])
    have HB3 : Hid (Below w.heap.size w w3) := below_then HB2.out hb3
    clear hb3
    go_wp2
    exact bodyPost_ret (v := .tuple #[.agg #[.int .i64 c.lLo, .int .i64 c.lHi], .int .i64 0]) (by simp [results, Try.results39, go_sem, qw30, qw31]) rfl ⟨rfl, (by repeat (first | exact HB3.out | refine Below.drew ?_ | refine Below.setCell ?_ (by first | omega | (simp; done) | (simp; omega)) _))⟩
set_option maxRecDepth 100000 in
set_option maxHeartbeats 1000000 in
theorem least_bad (c : Cr) (o : ¬ c.ok) (w : World) :
    Calls Try.prog 39 #[.agg #[.int .i64 c.x1, .int .i64 c.h1, .int .i64 c.v1, .int .i64 c.x2, .int .i64 c.h2, .int .i64 c.v2]] w fun e w' => e = .returned (.tuple #[.agg #[.int .i64 0, .int .i64 0], .int .i64 2]) ∧ Below w.heap.size w w' := by
  go_enter Try.func39, Try.ntmps39
  go_wp2_with fail
  refine (checkCross_bad c o _).mono ?_
  rintro e w1 ⟨rfl, hb1⟩
  have qw10 : w1.cell? ⟨w.heap.size + 1, 0, none⟩ = some (.int .i64 0) := cell_later hb1 (by simp [go_sem])
  have qw11 : w1.cell? ⟨w.heap.size + 1, 1, none⟩ = some (.int .i64 0) := cell_later hb1 (by simp [go_sem])
  have qw1f0 : w1.frozen? ⟨w.heap.size + 1, 0, none⟩ = false := frozen_after hb1 (v := .int .i64 0) (by simp [go_sem]) (by simp [go_sem])
  have qw1f1 : w1.frozen? ⟨w.heap.size + 1, 1, none⟩ = false := frozen_after hb1 (v := .int .i64 0) (by simp [go_sem]) (by simp [go_sem])
  have HB3 : Hid (Below w.heap.size w w1) := below_after (by repeat (first | exact Below.refl _ _ | refine Below.drew ?_ | refine below_drewN ?_ _ | refine Below.setCell ?_ (by first | omega | (simp; done) | (simp; omega)) _ | refine Below.alloc ?_ (by first | omega | (simp; done) | (simp; omega)) _)) hb1 (by simp; omega)
  clear hb1
  go_wp2
  exact bodyPost_ret (v := .tuple #[.agg #[.int .i64 0, .int .i64 0], .int .i64 2]) (by simp [results, Try.results39, go_sem, qw10, qw11]) rfl ⟨rfl, (by repeat (first | exact HB3.out | refine Below.drew ?_ | refine Below.setCell ?_ (by first | omega | (simp; done) | (simp; omega)) _))⟩
end Go.Proofs.Ytdicndakelgoeaa
