/- places of a crossing: the exported functions -/
import Derived.Test.YtdicndakelgoeaaC1
namespace Go.Proofs.Ytdicndakelgoeaa
open Go.RowKit RayM
set_option linter.unusedSimpArgs false
set_option linter.unusedVariables false
def atE (c : Cr) (t : Int) : Int := fst [ccE c, unl (inB t c.lo c.hi) 2]
structure In (c : Cr) (t : Int) : Prop where
  o : c.ok
  l : c.lo ≤ t
  h : t ≤ c.hi
theorem ccE_two (c : Cr) : ccE c = 0 ∨ ccE c = 2 := by
  by_cases o : c.ok
  · exact .inl (ccE_ok c o)
  · exact .inr (ccE_bad c o)
theorem atE_zero (c : Cr) (t : Int) : atE c t = 0 ↔ In c t := by
  unfold atE
  rw [fst_zero]
  simp only [List.mem_cons, List.not_mem_nil, or_false, forall_eq_or_imp, forall_eq, unl_inB _ _ _ _ (show (2 : Int) ≠ 0 by decide)]
  exact ⟨fun ⟨a, b, d⟩ => ⟨ok_of_ccE c a, b, d⟩, fun ⟨a, b, d⟩ => ⟨ccE_ok c a, b, d⟩⟩
theorem atE_two (c : Cr) (t : Int) : atE c t = 0 ∨ atE c t = 2 := by
  refine fst_two _ fun x hx => ?_
  simp only [List.mem_cons, List.not_mem_nil, or_false] at hx
  rcases hx with h | h
  · rw [h]; exact ccE_two c
  · rw [h]; exact unl_cases _ _
theorem atE_bad (c : Cr) (t : Int) (h : ¬ In c t) : atE c t = 2 := by
  rcases atE_two c t with k | k
  · exact absurd ((atE_zero c t).1 k) h
  · exact k
theorem In.bounds {c : Cr} {t : Int} (p : In c t) : -100000 ≤ t ∧ t ≤ 100000 := by
  have k := k_bounds c p.o
  have := p.l; have := p.h
  omega
set_option maxRecDepth 100000 in
set_option maxHeartbeats 1000000 in
theorem reachError_any (c : Cr) (t : Int) (w : World) :
    Calls Try.prog 101 #[.agg #[.int .i64 c.x1, .int .i64 c.h1, .int .i64 c.x2, .int .i64 c.h2, .int .i64 c.v1, .int .i64 c.v2], .int .i64 t] w fun e w' => e = .returned (.int .i64 (unl (inB t c.lo c.hi) 2)) ∧ Below w.heap.size w w' := by
  go_enter Try.func101, Try.ntmps101
  go_wp2_with fail
  refine (reach_any c _).mono ?_
  rintro e w1 ⟨rfl, hb1⟩
  have H1 := Lib.hid (below_after (by repeat (first | exact Below.refl _ _ | refine Below.drew ?_ | refine below_drewN ?_ _ | refine Below.setCell ?_ (by first | omega | (simp; done) | (simp; omega)) _ | refine Below.alloc ?_ (by first | omega | (simp; done) | (simp; omega)) _)) hb1 (by first | omega | (simp; done) | (simp; omega)) : Below w.heap.size w w1); clear hb1
  go_wp2_with (first | (go_at_call 106; refine (isWithin_any _ _ _ _).mono ?_; rintro e w' ⟨rfl, rfl⟩) | (go_at_call 122; refine (unless_any _ _ _).mono ?_; rintro e w' ⟨rfl, rfl⟩))
  go_ret
  exact ⟨rfl, H1.out⟩
set_option maxRecDepth 100000 in
set_option maxHeartbeats 1000000 in
theorem slopeAt_ok (c : Cr) (t : Int) (p : In c t) (w : World) :
    Calls Try.prog 29 #[.agg #[.int .i64 c.x1, .int .i64 c.h1, .int .i64 c.v1, .int .i64 c.x2, .int .i64 c.h2, .int .i64 c.v2], .int .i64 t] w fun e w' => e = .returned (.tuple #[.int .i64 (c.slope t), .int .i64 0]) ∧ Below w.heap.size w w' := by
  have HZ : Hid (fst [ccE c, unl (inB t c.lo c.hi) 2] = 0) := (atE_zero c t).2 p
  have HS := Lib.hid (fun w => slope_any c p.o t w p.bounds.1 p.bounds.2)
  go_enter Try.func29, Try.ntmps29
  go_wp2_with fail
  refine (crossingOf_any c _).mono ?_
  rintro e w1 ⟨rfl, hb1⟩
  have qw10 : w1.cell? ⟨w.heap.size, 0, none⟩ = some (.int .i64 c.x1) := cell_later hb1 (by simp [go_sem])
  have qw11 : w1.cell? ⟨w.heap.size, 1, none⟩ = some (.int .i64 c.h1) := cell_later hb1 (by simp [go_sem])
  have qw12 : w1.cell? ⟨w.heap.size, 2, none⟩ = some (.int .i64 c.v1) := cell_later hb1 (by simp [go_sem])
  have qw13 : w1.cell? ⟨w.heap.size, 3, none⟩ = some (.int .i64 c.x2) := cell_later hb1 (by simp [go_sem])
  have qw14 : w1.cell? ⟨w.heap.size, 4, none⟩ = some (.int .i64 c.h2) := cell_later hb1 (by simp [go_sem])
  have qw15 : w1.cell? ⟨w.heap.size, 5, none⟩ = some (.int .i64 c.v2) := cell_later hb1 (by simp [go_sem])
  have zqw1_0 := World.block_lt_of_cell? _ _ qw10
  dsimp only at zqw1_0
  have H1 := Lib.hid (below_after (by repeat (first | exact Below.refl _ _ | refine Below.drew ?_ | refine below_drewN ?_ _ | refine Below.setCell ?_ (by first | omega | (simp; done) | (simp; omega)) _ | refine Below.alloc ?_ (by first | omega | (simp; done) | (simp; omega)) _)) hb1 (by first | omega | (simp; done) | (simp; omega)) : Below w.heap.size w w1); clear hb1
  go_wp2_with fail
  have hS := below_alloc_top H1.out (.cells #[.int .i64 c.x1, .int .i64 c.h1, .int .i64 c.x2, .int .i64 c.h2, .int .i64 c.v1, .int .i64 c.v2] 152)
  go_region_held3 (fun w' => w'.cell? ⟨w.heap.size, 0, none⟩ = some (.int .i64 c.x1) ∧ w'.cell? ⟨w.heap.size, 1, none⟩ = some (.int .i64 c.h1) ∧ w'.cell? ⟨w.heap.size, 2, none⟩ = some (.int .i64 c.v1) ∧ w'.cell? ⟨w.heap.size, 3, none⟩ = some (.int .i64 c.x2) ∧ w'.cell? ⟨w.heap.size, 4, none⟩ = some (.int .i64 c.h2) ∧ w'.cell? ⟨w.heap.size, 5, none⟩ = some (.int .i64 c.v2) ∧ w'.cell? ⟨w1.heap.size, 0, none⟩ = some (.int .i64 c.x1) ∧ w'.cell? ⟨w1.heap.size, 1, none⟩ = some (.int .i64 c.h1) ∧ w'.cell? ⟨w1.heap.size, 2, none⟩ = some (.int .i64 c.x2) ∧ w'.cell? ⟨w1.heap.size, 3, none⟩ = some (.int .i64 c.h2) ∧ w'.cell? ⟨w1.heap.size, 4, none⟩ = some (.int .i64 c.v1) ∧ w'.cell? ⟨w1.heap.size, 5, none⟩ = some (.int .i64 c.v2) ∧ Below w.heap.size w w') ((go_split_ands; (repeat' apply And.intro) <;> first | (with_reducible assumption) | exact cell_later (by assumption) (by assumption) | exact frozen_after (by assumption) (by assumption) (by assumption) | exact below_then (by assumption) (by assumption) | exact below_alloc_top (by assumption) _ | exact cell_alloc_later (by assumption) _ | exact frozen_alloc_later (by assumption) (by assumption) _ | exact Below.drew (by assumption) | (simp [go_sem, World.cell?_alloc_past, *]; done)))
    (first
      | (go_at_call 33; refine (checkCross_any c _).mono ?_; rintro e w' ⟨rfl, hb⟩)
      | (go_at_call 101; refine (reachError_any c t _).mono ?_; rintro e w' ⟨rfl, hb⟩)
      | (go_at_call 93; refine (firstError_any _ [ccE c, unl (inB t c.lo c.hi) 2] _ (by simp) (by first | exact cells_drew _ _ (by simp) _ _ | exact cells_new _ _ (by simp) _ _)).mono ?_; rintro e w' ⟨rfl, rfl⟩))
  go_split_ands
  generalize hW : w'.alloc (Obj.cells #[.int .i64 (ccE c), .int .i64 (unl (inB t c.lo c.hi) 2)] 27) = W0 at *
  clear hW
  have y0 : W0.cell? ⟨w.heap.size, 0, none⟩ = some (.int .i64 c.x1) := by with_reducible assumption
  have y1 : W0.cell? ⟨w.heap.size, 1, none⟩ = some (.int .i64 c.h1) := by with_reducible assumption
  have y2 : W0.cell? ⟨w.heap.size, 2, none⟩ = some (.int .i64 c.v1) := by with_reducible assumption
  have y3 : W0.cell? ⟨w.heap.size, 3, none⟩ = some (.int .i64 c.x2) := by with_reducible assumption
  have y4 : W0.cell? ⟨w.heap.size, 4, none⟩ = some (.int .i64 c.h2) := by with_reducible assumption
  have y5 : W0.cell? ⟨w.heap.size, 5, none⟩ = some (.int .i64 c.v2) := by with_reducible assumption
  have y6 : W0.cell? ⟨w1.heap.size, 0, none⟩ = some (.int .i64 c.x1) := by with_reducible assumption
  have y7 : W0.cell? ⟨w1.heap.size, 1, none⟩ = some (.int .i64 c.h1) := by with_reducible assumption
  have y8 : W0.cell? ⟨w1.heap.size, 2, none⟩ = some (.int .i64 c.x2) := by with_reducible assumption
  have y9 : W0.cell? ⟨w1.heap.size, 3, none⟩ = some (.int .i64 c.h2) := by with_reducible assumption
  have y10 : W0.cell? ⟨w1.heap.size, 4, none⟩ = some (.int .i64 c.v1) := by with_reducible assumption
  have y11 : W0.cell? ⟨w1.heap.size, 5, none⟩ = some (.int .i64 c.v2) := by with_reducible assumption
  have yB0 : Below w.heap.size w W0 := by with_reducible assumption
  have yB := Lib.hid yB0; clear yB0
  clear hb hS
  rw [HZ.out]
  go_wp2_with fail
  refine (HS.out _).mono ?_
  rintro e w3 ⟨rfl, hb3⟩
  have H3 := Lib.hid (below_then yB.out hb3); clear hb3
  go_wp2
  go_ret2
  exact ⟨rfl, H3.out⟩
set_option maxRecDepth 100000 in
set_option maxHeartbeats 1000000 in
theorem slopeAt_bad (c : Cr) (t : Int) (p : ¬ In c t) (w : World) :
    Calls Try.prog 29 #[.agg #[.int .i64 c.x1, .int .i64 c.h1, .int .i64 c.v1, .int .i64 c.x2, .int .i64 c.h2, .int .i64 c.v2], .int .i64 t] w fun e w' => e = .returned (.tuple #[.int .i64 0, .int .i64 2]) ∧ Below w.heap.size w w' := by
  have HE : Hid (fst [ccE c, unl (inB t c.lo c.hi) 2] = 2) := atE_bad c t p
  go_enter Try.func29, Try.ntmps29
  go_wp2_with fail
  refine (crossingOf_any c _).mono ?_
  rintro e w1 ⟨rfl, hb1⟩
  have qw10 : w1.cell? ⟨w.heap.size, 0, none⟩ = some (.int .i64 c.x1) := cell_later hb1 (by simp [go_sem])
  have qw11 : w1.cell? ⟨w.heap.size, 1, none⟩ = some (.int .i64 c.h1) := cell_later hb1 (by simp [go_sem])
  have qw12 : w1.cell? ⟨w.heap.size, 2, none⟩ = some (.int .i64 c.v1) := cell_later hb1 (by simp [go_sem])
  have qw13 : w1.cell? ⟨w.heap.size, 3, none⟩ = some (.int .i64 c.x2) := cell_later hb1 (by simp [go_sem])
  have qw14 : w1.cell? ⟨w.heap.size, 4, none⟩ = some (.int .i64 c.h2) := cell_later hb1 (by simp [go_sem])
  have qw15 : w1.cell? ⟨w.heap.size, 5, none⟩ = some (.int .i64 c.v2) := cell_later hb1 (by simp [go_sem])
  have zqw1_0 := World.block_lt_of_cell? _ _ qw10
  dsimp only at zqw1_0
  have H1 := Lib.hid (below_after (by repeat (first | exact Below.refl _ _ | refine Below.drew ?_ | refine below_drewN ?_ _ | refine Below.setCell ?_ (by first | omega | (simp; done) | (simp; omega)) _ | refine Below.alloc ?_ (by first | omega | (simp; done) | (simp; omega)) _)) hb1 (by first | omega | (simp; done) | (simp; omega)) : Below w.heap.size w w1); clear hb1
  go_wp2_with fail
  have hS := below_alloc_top H1.out (.cells #[.int .i64 c.x1, .int .i64 c.h1, .int .i64 c.x2, .int .i64 c.h2, .int .i64 c.v1, .int .i64 c.v2] 152)
  go_region_held3 (fun w' => w'.cell? ⟨w.heap.size, 0, none⟩ = some (.int .i64 c.x1) ∧ w'.cell? ⟨w.heap.size, 1, none⟩ = some (.int .i64 c.h1) ∧ w'.cell? ⟨w.heap.size, 2, none⟩ = some (.int .i64 c.v1) ∧ w'.cell? ⟨w.heap.size, 3, none⟩ = some (.int .i64 c.x2) ∧ w'.cell? ⟨w.heap.size, 4, none⟩ = some (.int .i64 c.h2) ∧ w'.cell? ⟨w.heap.size, 5, none⟩ = some (.int .i64 c.v2) ∧ w'.cell? ⟨w1.heap.size, 0, none⟩ = some (.int .i64 c.x1) ∧ w'.cell? ⟨w1.heap.size, 1, none⟩ = some (.int .i64 c.h1) ∧ w'.cell? ⟨w1.heap.size, 2, none⟩ = some (.int .i64 c.x2) ∧ w'.cell? ⟨w1.heap.size, 3, none⟩ = some (.int .i64 c.h2) ∧ w'.cell? ⟨w1.heap.size, 4, none⟩ = some (.int .i64 c.v1) ∧ w'.cell? ⟨w1.heap.size, 5, none⟩ = some (.int .i64 c.v2) ∧ Below w.heap.size w w') ((go_split_ands; (repeat' apply And.intro) <;> first | (with_reducible assumption) | exact cell_later (by assumption) (by assumption) | exact frozen_after (by assumption) (by assumption) (by assumption) | exact below_then (by assumption) (by assumption) | exact below_alloc_top (by assumption) _ | exact cell_alloc_later (by assumption) _ | exact frozen_alloc_later (by assumption) (by assumption) _ | exact Below.drew (by assumption) | (simp [go_sem, World.cell?_alloc_past, *]; done)))
    (first
      | (go_at_call 33; refine (checkCross_any c _).mono ?_; rintro e w' ⟨rfl, hb⟩)
      | (go_at_call 101; refine (reachError_any c t _).mono ?_; rintro e w' ⟨rfl, hb⟩)
      | (go_at_call 93; refine (firstError_any _ [ccE c, unl (inB t c.lo c.hi) 2] _ (by simp) (by first | exact cells_drew _ _ (by simp) _ _ | exact cells_new _ _ (by simp) _ _)).mono ?_; rintro e w' ⟨rfl, rfl⟩))
  go_split_ands
  generalize hW : w'.alloc (Obj.cells #[.int .i64 (ccE c), .int .i64 (unl (inB t c.lo c.hi) 2)] 27) = W0 at *
  clear hW
  have y0 : W0.cell? ⟨w.heap.size, 0, none⟩ = some (.int .i64 c.x1) := by with_reducible assumption
  have y1 : W0.cell? ⟨w.heap.size, 1, none⟩ = some (.int .i64 c.h1) := by with_reducible assumption
  have y2 : W0.cell? ⟨w.heap.size, 2, none⟩ = some (.int .i64 c.v1) := by with_reducible assumption
  have y3 : W0.cell? ⟨w.heap.size, 3, none⟩ = some (.int .i64 c.x2) := by with_reducible assumption
  have y4 : W0.cell? ⟨w.heap.size, 4, none⟩ = some (.int .i64 c.h2) := by with_reducible assumption
  have y5 : W0.cell? ⟨w.heap.size, 5, none⟩ = some (.int .i64 c.v2) := by with_reducible assumption
  have y6 : W0.cell? ⟨w1.heap.size, 0, none⟩ = some (.int .i64 c.x1) := by with_reducible assumption
  have y7 : W0.cell? ⟨w1.heap.size, 1, none⟩ = some (.int .i64 c.h1) := by with_reducible assumption
  have y8 : W0.cell? ⟨w1.heap.size, 2, none⟩ = some (.int .i64 c.x2) := by with_reducible assumption
  have y9 : W0.cell? ⟨w1.heap.size, 3, none⟩ = some (.int .i64 c.h2) := by with_reducible assumption
  have y10 : W0.cell? ⟨w1.heap.size, 4, none⟩ = some (.int .i64 c.v1) := by with_reducible assumption
  have y11 : W0.cell? ⟨w1.heap.size, 5, none⟩ = some (.int .i64 c.v2) := by with_reducible assumption
  have yB0 : Below w.heap.size w W0 := by with_reducible assumption
  have yB := Lib.hid yB0; clear yB0
  clear hb hS
  rw [HE.out]
  go_wp2
  go_ret2
  exact ⟨rfl, yB.out⟩
set_option maxRecDepth 100000 in
set_option maxHeartbeats 1000000 in
theorem timeAtE_ok (c : Cr) (t : Int) (p : In c t) (w : World) :
    Calls Try.prog 30 #[.agg #[.int .i64 c.x1, .int .i64 c.h1, .int .i64 c.v1, .int .i64 c.x2, .int .i64 c.h2, .int .i64 c.v2], .int .i64 t] w fun e w' => e = .returned (.tuple #[.agg #[.int .i64 (c.tLo t), .int .i64 (c.tHi t)], .int .i64 0]) ∧ Below w.heap.size w w' := by
  have HZ : Hid (fst [ccE c, unl (inB t c.lo c.hi) 2] = 0) := (atE_zero c t).2 p
  have HS := Lib.hid (fun w => timeAt_any c p.o t w p.bounds.1 p.bounds.2)
  go_enter Try.func30, Try.ntmps30
  go_wp2_with fail
  refine (crossingOf_any c _).mono ?_
  rintro e w1 ⟨rfl, hb1⟩
  have qw10 : w1.cell? ⟨w.heap.size, 0, none⟩ = some (.int .i64 c.x1) := cell_later hb1 (by simp [go_sem])
  have qw11 : w1.cell? ⟨w.heap.size, 1, none⟩ = some (.int .i64 c.h1) := cell_later hb1 (by simp [go_sem])
  have qw12 : w1.cell? ⟨w.heap.size, 2, none⟩ = some (.int .i64 c.v1) := cell_later hb1 (by simp [go_sem])
  have qw13 : w1.cell? ⟨w.heap.size, 3, none⟩ = some (.int .i64 c.x2) := cell_later hb1 (by simp [go_sem])
  have qw14 : w1.cell? ⟨w.heap.size, 4, none⟩ = some (.int .i64 c.h2) := cell_later hb1 (by simp [go_sem])
  have qw15 : w1.cell? ⟨w.heap.size, 5, none⟩ = some (.int .i64 c.v2) := cell_later hb1 (by simp [go_sem])
  have qw16 : w1.cell? ⟨w.heap.size + 1, 0, none⟩ = some (.int .i64 0) := cell_later hb1 (by simp [go_sem])
  have qw17 : w1.cell? ⟨w.heap.size + 1, 1, none⟩ = some (.int .i64 0) := cell_later hb1 (by simp [go_sem])
  have qw1f0 : w1.frozen? ⟨w.heap.size + 1, 0, none⟩ = false := frozen_after hb1 (v := .int .i64 0) (by simp [go_sem]) (by simp [go_sem])
  have qw1f1 : w1.frozen? ⟨w.heap.size + 1, 1, none⟩ = false := frozen_after hb1 (v := .int .i64 0) (by simp [go_sem]) (by simp [go_sem])
  have zqw1_0 := World.block_lt_of_cell? _ _ qw10
  dsimp only at zqw1_0
  have zqw1_6 := World.block_lt_of_cell? _ _ qw16
  dsimp only at zqw1_6
  have H1 := Lib.hid (below_after (by repeat (first | exact Below.refl _ _ | refine Below.drew ?_ | refine below_drewN ?_ _ | refine Below.setCell ?_ (by first | omega | (simp; done) | (simp; omega)) _ | refine Below.alloc ?_ (by first | omega | (simp; done) | (simp; omega)) _)) hb1 (by first | omega | (simp; done) | (simp; omega)) : Below w.heap.size w w1); clear hb1
  go_wp2_with fail
  have hS := below_alloc_top H1.out (.cells #[.int .i64 c.x1, .int .i64 c.h1, .int .i64 c.x2, .int .i64 c.h2, .int .i64 c.v1, .int .i64 c.v2] 152)
  go_region_held3 (fun w' => w'.cell? ⟨w.heap.size, 0, none⟩ = some (.int .i64 c.x1) ∧ w'.cell? ⟨w.heap.size, 1, none⟩ = some (.int .i64 c.h1) ∧ w'.cell? ⟨w.heap.size, 2, none⟩ = some (.int .i64 c.v1) ∧ w'.cell? ⟨w.heap.size, 3, none⟩ = some (.int .i64 c.x2) ∧ w'.cell? ⟨w.heap.size, 4, none⟩ = some (.int .i64 c.h2) ∧ w'.cell? ⟨w.heap.size, 5, none⟩ = some (.int .i64 c.v2) ∧ w'.cell? ⟨w.heap.size + 1, 0, none⟩ = some (.int .i64 0) ∧ w'.cell? ⟨w.heap.size + 1, 1, none⟩ = some (.int .i64 0) ∧ w'.cell? ⟨w1.heap.size, 0, none⟩ = some (.int .i64 c.x1) ∧ w'.cell? ⟨w1.heap.size, 1, none⟩ = some (.int .i64 c.h1) ∧ w'.cell? ⟨w1.heap.size, 2, none⟩ = some (.int .i64 c.x2) ∧ w'.cell? ⟨w1.heap.size, 3, none⟩ = some (.int .i64 c.h2) ∧ w'.cell? ⟨w1.heap.size, 4, none⟩ = some (.int .i64 c.v1) ∧ w'.cell? ⟨w1.heap.size, 5, none⟩ = some (.int .i64 c.v2) ∧ w'.frozen? ⟨w.heap.size + 1, 0, none⟩ = false ∧ w'.frozen? ⟨w.heap.size + 1, 1, none⟩ = false ∧ Below w.heap.size w w') ((go_split_ands; (repeat' apply And.intro) <;> first | (with_reducible assumption) | exact cell_later (by assumption) (by assumption) | exact frozen_after (by assumption) (by assumption) (by assumption) | exact below_then (by assumption) (by assumption) | exact below_alloc_top (by assumption) _ | exact cell_alloc_later (by assumption) _ | exact frozen_alloc_later (by assumption) (by assumption) _ | exact Below.drew (by assumption) | (simp [go_sem, World.cell?_alloc_past, *]; done)))
    (first
      | (go_at_call 33; refine (checkCross_any c _).mono ?_; rintro e w' ⟨rfl, hb⟩)
      | (go_at_call 101; refine (reachError_any c t _).mono ?_; rintro e w' ⟨rfl, hb⟩)
      | (go_at_call 93; refine (firstError_any _ [ccE c, unl (inB t c.lo c.hi) 2] _ (by simp) (by first | exact cells_drew _ _ (by simp) _ _ | exact cells_new _ _ (by simp) _ _)).mono ?_; rintro e w' ⟨rfl, rfl⟩))
  go_split_ands
  generalize hW : w'.alloc (Obj.cells #[.int .i64 (ccE c), .int .i64 (unl (inB t c.lo c.hi) 2)] 27) = W0 at *
  clear hW
  have y0 : W0.cell? ⟨w.heap.size, 0, none⟩ = some (.int .i64 c.x1) := by with_reducible assumption
  have y1 : W0.cell? ⟨w.heap.size, 1, none⟩ = some (.int .i64 c.h1) := by with_reducible assumption
  have y2 : W0.cell? ⟨w.heap.size, 2, none⟩ = some (.int .i64 c.v1) := by with_reducible assumption
  have y3 : W0.cell? ⟨w.heap.size, 3, none⟩ = some (.int .i64 c.x2) := by with_reducible assumption
  have y4 : W0.cell? ⟨w.heap.size, 4, none⟩ = some (.int .i64 c.h2) := by with_reducible assumption
  have y5 : W0.cell? ⟨w.heap.size, 5, none⟩ = some (.int .i64 c.v2) := by with_reducible assumption
  have y6 : W0.cell? ⟨w.heap.size + 1, 0, none⟩ = some (.int .i64 0) := by with_reducible assumption
  have y7 : W0.cell? ⟨w.heap.size + 1, 1, none⟩ = some (.int .i64 0) := by with_reducible assumption
  have y8 : W0.cell? ⟨w1.heap.size, 0, none⟩ = some (.int .i64 c.x1) := by with_reducible assumption
  have y9 : W0.cell? ⟨w1.heap.size, 1, none⟩ = some (.int .i64 c.h1) := by with_reducible assumption
  have y10 : W0.cell? ⟨w1.heap.size, 2, none⟩ = some (.int .i64 c.x2) := by with_reducible assumption
  have y11 : W0.cell? ⟨w1.heap.size, 3, none⟩ = some (.int .i64 c.h2) := by with_reducible assumption
  have y12 : W0.cell? ⟨w1.heap.size, 4, none⟩ = some (.int .i64 c.v1) := by with_reducible assumption
  have y13 : W0.cell? ⟨w1.heap.size, 5, none⟩ = some (.int .i64 c.v2) := by with_reducible assumption
  have yf0 : W0.frozen? ⟨w.heap.size + 1, 0, none⟩ = false := by with_reducible assumption
  have yf1 : W0.frozen? ⟨w.heap.size + 1, 1, none⟩ = false := by with_reducible assumption
  have yB0 : Below w.heap.size w W0 := by with_reducible assumption
  have yB := Lib.hid yB0; clear yB0
  clear hb hS
  rw [HZ.out]
  go_wp2_with fail
  refine (HS.out _).mono ?_
  rintro e w3 ⟨rfl, hb3⟩
  have qw30 : w3.cell? ⟨w.heap.size + 1, 0, none⟩ = some (.int .i64 0) := cell_later hb3 (by with_reducible assumption)
  have qw31 : w3.cell? ⟨w.heap.size + 1, 1, none⟩ = some (.int .i64 0) := cell_later hb3 (by with_reducible assumption)
  have qw3f0 : w3.frozen? ⟨w.heap.size + 1, 0, none⟩ = false := frozen_after hb3 (v := .int .i64 0) (by with_reducible assumption) (by with_reducible assumption)
  have qw3f1 : w3.frozen? ⟨w.heap.size + 1, 1, none⟩ = false := frozen_after hb3 (v := .int .i64 0) (by with_reducible assumption) (by with_reducible assumption)
  have H3 := Lib.hid (below_then yB.out hb3); clear hb3
  go_wp2
  exact bodyPost_ret (v := .tuple #[.agg #[.int .i64 (c.tLo t), .int .i64 (c.tHi t)], .int .i64 0]) (by simp [results, Try.results30, go_sem, qw30, qw31]) rfl ⟨rfl, (by (repeat (first | (with_reducible exact H3.out) | (with_reducible refine Below.setCell ?_ ?_ _) | (with_reducible refine below_alloc_top ?_ _) | (with_reducible refine Below.drew ?_))); all_goals (first | omega | (simp; done) | (simp; omega)))⟩
set_option maxRecDepth 100000 in
set_option maxHeartbeats 1000000 in
theorem timeAtE_bad (c : Cr) (t : Int) (p : ¬ In c t) (w : World) :
    Calls Try.prog 30 #[.agg #[.int .i64 c.x1, .int .i64 c.h1, .int .i64 c.v1, .int .i64 c.x2, .int .i64 c.h2, .int .i64 c.v2], .int .i64 t] w fun e w' => e = .returned (.tuple #[.agg #[.int .i64 0, .int .i64 0], .int .i64 2]) ∧ Below w.heap.size w w' := by
  have HE : Hid (fst [ccE c, unl (inB t c.lo c.hi) 2] = 2) := atE_bad c t p
  go_enter Try.func30, Try.ntmps30
  go_wp2_with fail
  refine (crossingOf_any c _).mono ?_
  rintro e w1 ⟨rfl, hb1⟩
  have qw10 : w1.cell? ⟨w.heap.size, 0, none⟩ = some (.int .i64 c.x1) := cell_later hb1 (by simp [go_sem])
  have qw11 : w1.cell? ⟨w.heap.size, 1, none⟩ = some (.int .i64 c.h1) := cell_later hb1 (by simp [go_sem])
  have qw12 : w1.cell? ⟨w.heap.size, 2, none⟩ = some (.int .i64 c.v1) := cell_later hb1 (by simp [go_sem])
  have qw13 : w1.cell? ⟨w.heap.size, 3, none⟩ = some (.int .i64 c.x2) := cell_later hb1 (by simp [go_sem])
  have qw14 : w1.cell? ⟨w.heap.size, 4, none⟩ = some (.int .i64 c.h2) := cell_later hb1 (by simp [go_sem])
  have qw15 : w1.cell? ⟨w.heap.size, 5, none⟩ = some (.int .i64 c.v2) := cell_later hb1 (by simp [go_sem])
  have qw16 : w1.cell? ⟨w.heap.size + 1, 0, none⟩ = some (.int .i64 0) := cell_later hb1 (by simp [go_sem])
  have qw17 : w1.cell? ⟨w.heap.size + 1, 1, none⟩ = some (.int .i64 0) := cell_later hb1 (by simp [go_sem])
  have qw1f0 : w1.frozen? ⟨w.heap.size + 1, 0, none⟩ = false := frozen_after hb1 (v := .int .i64 0) (by simp [go_sem]) (by simp [go_sem])
  have qw1f1 : w1.frozen? ⟨w.heap.size + 1, 1, none⟩ = false := frozen_after hb1 (v := .int .i64 0) (by simp [go_sem]) (by simp [go_sem])
  have zqw1_0 := World.block_lt_of_cell? _ _ qw10
  dsimp only at zqw1_0
  have zqw1_6 := World.block_lt_of_cell? _ _ qw16
  dsimp only at zqw1_6
  have H1 := Lib.hid (below_after (by repeat (first | exact Below.refl _ _ | refine Below.drew ?_ | refine below_drewN ?_ _ | refine Below.setCell ?_ (by first | omega | (simp; done) | (simp; omega)) _ | refine Below.alloc ?_ (by first | omega | (simp; done) | (simp; omega)) _)) hb1 (by first | omega | (simp; done) | (simp; omega)) : Below w.heap.size w w1); clear hb1
  go_wp2_with fail
  have hS := below_alloc_top H1.out (.cells #[.int .i64 c.x1, .int .i64 c.h1, .int .i64 c.x2, .int .i64 c.h2, .int .i64 c.v1, .int .i64 c.v2] 152)
  go_region_held3 (fun w' => w'.cell? ⟨w.heap.size, 0, none⟩ = some (.int .i64 c.x1) ∧ w'.cell? ⟨w.heap.size, 1, none⟩ = some (.int .i64 c.h1) ∧ w'.cell? ⟨w.heap.size, 2, none⟩ = some (.int .i64 c.v1) ∧ w'.cell? ⟨w.heap.size, 3, none⟩ = some (.int .i64 c.x2) ∧ w'.cell? ⟨w.heap.size, 4, none⟩ = some (.int .i64 c.h2) ∧ w'.cell? ⟨w.heap.size, 5, none⟩ = some (.int .i64 c.v2) ∧ w'.cell? ⟨w.heap.size + 1, 0, none⟩ = some (.int .i64 0) ∧ w'.cell? ⟨w.heap.size + 1, 1, none⟩ = some (.int .i64 0) ∧ w'.cell? ⟨w1.heap.size, 0, none⟩ = some (.int .i64 c.x1) ∧ w'.cell? ⟨w1.heap.size, 1, none⟩ = some (.int .i64 c.h1) ∧ w'.cell? ⟨w1.heap.size, 2, none⟩ = some (.int .i64 c.x2) ∧ w'.cell? ⟨w1.heap.size, 3, none⟩ = some (.int .i64 c.h2) ∧ w'.cell? ⟨w1.heap.size, 4, none⟩ = some (.int .i64 c.v1) ∧ w'.cell? ⟨w1.heap.size, 5, none⟩ = some (.int .i64 c.v2) ∧ w'.frozen? ⟨w.heap.size + 1, 0, none⟩ = false ∧ w'.frozen? ⟨w.heap.size + 1, 1, none⟩ = false ∧ Below w.heap.size w w') ((go_split_ands; (repeat' apply And.intro) <;> first | (with_reducible assumption) | exact cell_later (by assumption) (by assumption) | exact frozen_after (by assumption) (by assumption) (by assumption) | exact below_then (by assumption) (by assumption) | exact below_alloc_top (by assumption) _ | exact cell_alloc_later (by assumption) _ | exact frozen_alloc_later (by assumption) (by assumption) _ | exact Below.drew (by assumption) | (simp [go_sem, World.cell?_alloc_past, *]; done)))
    (first
      | (go_at_call 33; refine (checkCross_any c _).mono ?_; rintro e w' ⟨rfl, hb⟩)
      | (go_at_call 101; refine (reachError_any c t _).mono ?_; rintro e w' ⟨rfl, hb⟩)
      | (go_at_call 93; refine (firstError_any _ [ccE c, unl (inB t c.lo c.hi) 2] _ (by simp) (by first | exact cells_drew _ _ (by simp) _ _ | exact cells_new _ _ (by simp) _ _)).mono ?_; rintro e w' ⟨rfl, rfl⟩))
  go_split_ands
  generalize hW : w'.alloc (Obj.cells #[.int .i64 (ccE c), .int .i64 (unl (inB t c.lo c.hi) 2)] 27) = W0 at *
  clear hW
  have y0 : W0.cell? ⟨w.heap.size, 0, none⟩ = some (.int .i64 c.x1) := by with_reducible assumption
  have y1 : W0.cell? ⟨w.heap.size, 1, none⟩ = some (.int .i64 c.h1) := by with_reducible assumption
  have y2 : W0.cell? ⟨w.heap.size, 2, none⟩ = some (.int .i64 c.v1) := by with_reducible assumption
  have y3 : W0.cell? ⟨w.heap.size, 3, none⟩ = some (.int .i64 c.x2) := by with_reducible assumption
  have y4 : W0.cell? ⟨w.heap.size, 4, none⟩ = some (.int .i64 c.h2) := by with_reducible assumption
  have y5 : W0.cell? ⟨w.heap.size, 5, none⟩ = some (.int .i64 c.v2) := by with_reducible assumption
  have y6 : W0.cell? ⟨w.heap.size + 1, 0, none⟩ = some (.int .i64 0) := by with_reducible assumption
  have y7 : W0.cell? ⟨w.heap.size + 1, 1, none⟩ = some (.int .i64 0) := by with_reducible assumption
  have y8 : W0.cell? ⟨w1.heap.size, 0, none⟩ = some (.int .i64 c.x1) := by with_reducible assumption
  have y9 : W0.cell? ⟨w1.heap.size, 1, none⟩ = some (.int .i64 c.h1) := by with_reducible assumption
  have y10 : W0.cell? ⟨w1.heap.size, 2, none⟩ = some (.int .i64 c.x2) := by with_reducible assumption
  have y11 : W0.cell? ⟨w1.heap.size, 3, none⟩ = some (.int .i64 c.h2) := by with_reducible assumption
  have y12 : W0.cell? ⟨w1.heap.size, 4, none⟩ = some (.int .i64 c.v1) := by with_reducible assumption
  have y13 : W0.cell? ⟨w1.heap.size, 5, none⟩ = some (.int .i64 c.v2) := by with_reducible assumption
  have yf0 : W0.frozen? ⟨w.heap.size + 1, 0, none⟩ = false := by with_reducible assumption
  have yf1 : W0.frozen? ⟨w.heap.size + 1, 1, none⟩ = false := by with_reducible assumption
  have yB0 : Below w.heap.size w W0 := by with_reducible assumption
  have yB := Lib.hid yB0; clear yB0
  clear hb hS
  rw [HE.out]
  go_wp2
  exact bodyPost_ret (v := .tuple #[.agg #[.int .i64 0, .int .i64 0], .int .i64 2]) (by simp [results, Try.results30, go_sem, y6, y7]) rfl ⟨rfl, (by (repeat (first | (with_reducible exact yB.out) | (with_reducible refine Below.setCell ?_ ?_ _) | (with_reducible refine below_alloc_top ?_ _) | (with_reducible refine Below.drew ?_))); all_goals (first | omega | (simp; done) | (simp; omega)))⟩
set_option maxRecDepth 100000 in
set_option maxHeartbeats 1000000 in
theorem checkCrossing_bad (c : Cr) (t : Int) (p : ¬ In c t) (w : World) :
    Calls Try.prog 31 #[.agg #[.int .i64 c.x1, .int .i64 c.h1, .int .i64 c.v1, .int .i64 c.x2, .int .i64 c.h2, .int .i64 c.v2], .int .i64 t] w fun e w' => e = .returned (.int .i64 2) ∧ Below w.heap.size w w' := by
  have HE : Hid (fst [ccE c, unl (inB t c.lo c.hi) 2] = 2) := atE_bad c t p
  go_enter Try.func31, Try.ntmps31
  go_wp2_with fail
  refine (crossingOf_any c _).mono ?_
  rintro e w1 ⟨rfl, hb1⟩
  have qw10 : w1.cell? ⟨w.heap.size, 0, none⟩ = some (.int .i64 c.x1) := cell_later hb1 (by simp [go_sem])
  have qw11 : w1.cell? ⟨w.heap.size, 1, none⟩ = some (.int .i64 c.h1) := cell_later hb1 (by simp [go_sem])
  have qw12 : w1.cell? ⟨w.heap.size, 2, none⟩ = some (.int .i64 c.v1) := cell_later hb1 (by simp [go_sem])
  have qw13 : w1.cell? ⟨w.heap.size, 3, none⟩ = some (.int .i64 c.x2) := cell_later hb1 (by simp [go_sem])
  have qw14 : w1.cell? ⟨w.heap.size, 4, none⟩ = some (.int .i64 c.h2) := cell_later hb1 (by simp [go_sem])
  have qw15 : w1.cell? ⟨w.heap.size, 5, none⟩ = some (.int .i64 c.v2) := cell_later hb1 (by simp [go_sem])
  have zqw1_0 := World.block_lt_of_cell? _ _ qw10
  dsimp only at zqw1_0
  have H1 := Lib.hid (below_after (by repeat (first | exact Below.refl _ _ | refine Below.drew ?_ | refine below_drewN ?_ _ | refine Below.setCell ?_ (by first | omega | (simp; done) | (simp; omega)) _ | refine Below.alloc ?_ (by first | omega | (simp; done) | (simp; omega)) _)) hb1 (by first | omega | (simp; done) | (simp; omega)) : Below w.heap.size w w1); clear hb1
  go_wp2_with fail
  have hS := below_alloc_top H1.out (.cells #[.int .i64 c.x1, .int .i64 c.h1, .int .i64 c.x2, .int .i64 c.h2, .int .i64 c.v1, .int .i64 c.v2] 152)
  go_region_held3 (fun w' => w'.cell? ⟨w.heap.size, 0, none⟩ = some (.int .i64 c.x1) ∧ w'.cell? ⟨w.heap.size, 1, none⟩ = some (.int .i64 c.h1) ∧ w'.cell? ⟨w.heap.size, 2, none⟩ = some (.int .i64 c.v1) ∧ w'.cell? ⟨w.heap.size, 3, none⟩ = some (.int .i64 c.x2) ∧ w'.cell? ⟨w.heap.size, 4, none⟩ = some (.int .i64 c.h2) ∧ w'.cell? ⟨w.heap.size, 5, none⟩ = some (.int .i64 c.v2) ∧ w'.cell? ⟨w1.heap.size, 0, none⟩ = some (.int .i64 c.x1) ∧ w'.cell? ⟨w1.heap.size, 1, none⟩ = some (.int .i64 c.h1) ∧ w'.cell? ⟨w1.heap.size, 2, none⟩ = some (.int .i64 c.x2) ∧ w'.cell? ⟨w1.heap.size, 3, none⟩ = some (.int .i64 c.h2) ∧ w'.cell? ⟨w1.heap.size, 4, none⟩ = some (.int .i64 c.v1) ∧ w'.cell? ⟨w1.heap.size, 5, none⟩ = some (.int .i64 c.v2) ∧ Below w.heap.size w w') ((go_split_ands; (repeat' apply And.intro) <;> first | (with_reducible assumption) | exact cell_later (by assumption) (by assumption) | exact frozen_after (by assumption) (by assumption) (by assumption) | exact below_then (by assumption) (by assumption) | exact below_alloc_top (by assumption) _ | exact cell_alloc_later (by assumption) _ | exact frozen_alloc_later (by assumption) (by assumption) _ | exact Below.drew (by assumption) | (simp [go_sem, World.cell?_alloc_past, *]; done)))
    (first
      | (go_at_call 33; refine (checkCross_any c _).mono ?_; rintro e w' ⟨rfl, hb⟩)
      | (go_at_call 101; refine (reachError_any c t _).mono ?_; rintro e w' ⟨rfl, hb⟩)
      | (go_at_call 93; refine (firstError_any _ [ccE c, unl (inB t c.lo c.hi) 2] _ (by simp) (by first | exact cells_drew _ _ (by simp) _ _ | exact cells_new _ _ (by simp) _ _)).mono ?_; rintro e w' ⟨rfl, rfl⟩))
  go_split_ands
  generalize hW : w'.alloc (Obj.cells #[.int .i64 (ccE c), .int .i64 (unl (inB t c.lo c.hi) 2)] 27) = W0 at *
  clear hW
  have y0 : W0.cell? ⟨w.heap.size, 0, none⟩ = some (.int .i64 c.x1) := by with_reducible assumption
  have y1 : W0.cell? ⟨w.heap.size, 1, none⟩ = some (.int .i64 c.h1) := by with_reducible assumption
  have y2 : W0.cell? ⟨w.heap.size, 2, none⟩ = some (.int .i64 c.v1) := by with_reducible assumption
  have y3 : W0.cell? ⟨w.heap.size, 3, none⟩ = some (.int .i64 c.x2) := by with_reducible assumption
  have y4 : W0.cell? ⟨w.heap.size, 4, none⟩ = some (.int .i64 c.h2) := by with_reducible assumption
  have y5 : W0.cell? ⟨w.heap.size, 5, none⟩ = some (.int .i64 c.v2) := by with_reducible assumption
  have y6 : W0.cell? ⟨w1.heap.size, 0, none⟩ = some (.int .i64 c.x1) := by with_reducible assumption
  have y7 : W0.cell? ⟨w1.heap.size, 1, none⟩ = some (.int .i64 c.h1) := by with_reducible assumption
  have y8 : W0.cell? ⟨w1.heap.size, 2, none⟩ = some (.int .i64 c.x2) := by with_reducible assumption
  have y9 : W0.cell? ⟨w1.heap.size, 3, none⟩ = some (.int .i64 c.h2) := by with_reducible assumption
  have y10 : W0.cell? ⟨w1.heap.size, 4, none⟩ = some (.int .i64 c.v1) := by with_reducible assumption
  have y11 : W0.cell? ⟨w1.heap.size, 5, none⟩ = some (.int .i64 c.v2) := by with_reducible assumption
  have yB0 : Below w.heap.size w W0 := by with_reducible assumption
  have yB := Lib.hid yB0; clear yB0
  clear hb hS
  rw [HE.out]
  go_wp2
  go_ret
  exact ⟨rfl, yB.out⟩
set_option maxRecDepth 100000 in
set_option maxHeartbeats 1000000 in
theorem ck_a (c : Cr) (t : Int) (p : In c t) (w : World) (hs : 0 < c.slope t) :
    Calls Try.prog 31 #[.agg #[.int .i64 c.x1, .int .i64 c.h1, .int .i64 c.v1, .int .i64 c.x2, .int .i64 c.h2, .int .i64 c.v2], .int .i64 t] w fun e w' => e = .returned (.int .i64 18) ∧ Below w.heap.size w w' := by
  have HZ : Hid (fst [ccE c, unl (inB t c.lo c.hi) 2] = 0) := (atE_zero c t).2 p
  have HS := Lib.hid (fun w => slope_any c p.o t w p.bounds.1 p.bounds.2)
  obtain ⟨bb0, bb1⟩ := p.bounds
  generalize c.slope t = st at *
  go_enter Try.func31, Try.ntmps31
  go_wp2_with fail
  refine (crossingOf_any c _).mono ?_
  rintro e w1 ⟨rfl, hb1⟩
  have qw10 : w1.cell? ⟨w.heap.size, 0, none⟩ = some (.int .i64 c.x1) := cell_later hb1 (by simp [go_sem])
  have qw11 : w1.cell? ⟨w.heap.size, 1, none⟩ = some (.int .i64 c.h1) := cell_later hb1 (by simp [go_sem])
  have qw12 : w1.cell? ⟨w.heap.size, 2, none⟩ = some (.int .i64 c.v1) := cell_later hb1 (by simp [go_sem])
  have qw13 : w1.cell? ⟨w.heap.size, 3, none⟩ = some (.int .i64 c.x2) := cell_later hb1 (by simp [go_sem])
  have qw14 : w1.cell? ⟨w.heap.size, 4, none⟩ = some (.int .i64 c.h2) := cell_later hb1 (by simp [go_sem])
  have qw15 : w1.cell? ⟨w.heap.size, 5, none⟩ = some (.int .i64 c.v2) := cell_later hb1 (by simp [go_sem])
  have zqw1_0 := World.block_lt_of_cell? _ _ qw10
  dsimp only at zqw1_0
  have H1 := Lib.hid (below_after (by repeat (first | exact Below.refl _ _ | refine Below.drew ?_ | refine below_drewN ?_ _ | refine Below.setCell ?_ (by first | omega | (simp; done) | (simp; omega)) _ | refine Below.alloc ?_ (by first | omega | (simp; done) | (simp; omega)) _)) hb1 (by first | omega | (simp; done) | (simp; omega)) : Below w.heap.size w w1); clear hb1
  go_wp2_with fail
  have hS := below_alloc_top H1.out (.cells #[.int .i64 c.x1, .int .i64 c.h1, .int .i64 c.x2, .int .i64 c.h2, .int .i64 c.v1, .int .i64 c.v2] 152)
  go_region_held3 (fun w' => w'.cell? ⟨w.heap.size, 0, none⟩ = some (.int .i64 c.x1) ∧ w'.cell? ⟨w.heap.size, 1, none⟩ = some (.int .i64 c.h1) ∧ w'.cell? ⟨w.heap.size, 2, none⟩ = some (.int .i64 c.v1) ∧ w'.cell? ⟨w.heap.size, 3, none⟩ = some (.int .i64 c.x2) ∧ w'.cell? ⟨w.heap.size, 4, none⟩ = some (.int .i64 c.h2) ∧ w'.cell? ⟨w.heap.size, 5, none⟩ = some (.int .i64 c.v2) ∧ w'.cell? ⟨w1.heap.size, 0, none⟩ = some (.int .i64 c.x1) ∧ w'.cell? ⟨w1.heap.size, 1, none⟩ = some (.int .i64 c.h1) ∧ w'.cell? ⟨w1.heap.size, 2, none⟩ = some (.int .i64 c.x2) ∧ w'.cell? ⟨w1.heap.size, 3, none⟩ = some (.int .i64 c.h2) ∧ w'.cell? ⟨w1.heap.size, 4, none⟩ = some (.int .i64 c.v1) ∧ w'.cell? ⟨w1.heap.size, 5, none⟩ = some (.int .i64 c.v2) ∧ Below w.heap.size w w') ((go_split_ands; (repeat' apply And.intro) <;> first | (with_reducible assumption) | exact cell_later (by assumption) (by assumption) | exact frozen_after (by assumption) (by assumption) (by assumption) | exact below_then (by assumption) (by assumption) | exact below_alloc_top (by assumption) _ | exact cell_alloc_later (by assumption) _ | exact frozen_alloc_later (by assumption) (by assumption) _ | exact Below.drew (by assumption) | (simp [go_sem, World.cell?_alloc_past, *]; done)))
    (first
      | (go_at_call 33; refine (checkCross_any c _).mono ?_; rintro e w' ⟨rfl, hb⟩)
      | (go_at_call 101; refine (reachError_any c t _).mono ?_; rintro e w' ⟨rfl, hb⟩)
      | (go_at_call 93; refine (firstError_any _ [ccE c, unl (inB t c.lo c.hi) 2] _ (by simp) (by first | exact cells_drew _ _ (by simp) _ _ | exact cells_new _ _ (by simp) _ _)).mono ?_; rintro e w' ⟨rfl, rfl⟩))
  go_split_ands
  generalize hW : w'.alloc (Obj.cells #[.int .i64 (ccE c), .int .i64 (unl (inB t c.lo c.hi) 2)] 27) = W0 at *
  clear hW
  have y0 : W0.cell? ⟨w.heap.size, 0, none⟩ = some (.int .i64 c.x1) := by with_reducible assumption
  have y1 : W0.cell? ⟨w.heap.size, 1, none⟩ = some (.int .i64 c.h1) := by with_reducible assumption
  have y2 : W0.cell? ⟨w.heap.size, 2, none⟩ = some (.int .i64 c.v1) := by with_reducible assumption
  have y3 : W0.cell? ⟨w.heap.size, 3, none⟩ = some (.int .i64 c.x2) := by with_reducible assumption
  have y4 : W0.cell? ⟨w.heap.size, 4, none⟩ = some (.int .i64 c.h2) := by with_reducible assumption
  have y5 : W0.cell? ⟨w.heap.size, 5, none⟩ = some (.int .i64 c.v2) := by with_reducible assumption
  have y6 : W0.cell? ⟨w1.heap.size, 0, none⟩ = some (.int .i64 c.x1) := by with_reducible assumption
  have y7 : W0.cell? ⟨w1.heap.size, 1, none⟩ = some (.int .i64 c.h1) := by with_reducible assumption
  have y8 : W0.cell? ⟨w1.heap.size, 2, none⟩ = some (.int .i64 c.x2) := by with_reducible assumption
  have y9 : W0.cell? ⟨w1.heap.size, 3, none⟩ = some (.int .i64 c.h2) := by with_reducible assumption
  have y10 : W0.cell? ⟨w1.heap.size, 4, none⟩ = some (.int .i64 c.v1) := by with_reducible assumption
  have y11 : W0.cell? ⟨w1.heap.size, 5, none⟩ = some (.int .i64 c.v2) := by with_reducible assumption
  have yB0 : Below w.heap.size w W0 := by with_reducible assumption
  have yB := Lib.hid yB0; clear yB0
  clear hb hS
  rw [HZ.out]
  go_wp2_with fail
  refine (reach_any c _).mono ?_
  rintro e w3 ⟨rfl, hb3⟩
  have qw30 : w3.cell? ⟨w1.heap.size, 0, none⟩ = some (.int .i64 c.x1) := cell_later hb3 (by with_reducible assumption)
  have qw31 : w3.cell? ⟨w1.heap.size, 1, none⟩ = some (.int .i64 c.h1) := cell_later hb3 (by with_reducible assumption)
  have qw32 : w3.cell? ⟨w1.heap.size, 2, none⟩ = some (.int .i64 c.x2) := cell_later hb3 (by with_reducible assumption)
  have qw33 : w3.cell? ⟨w1.heap.size, 3, none⟩ = some (.int .i64 c.h2) := cell_later hb3 (by with_reducible assumption)
  have qw34 : w3.cell? ⟨w1.heap.size, 4, none⟩ = some (.int .i64 c.v1) := cell_later hb3 (by with_reducible assumption)
  have qw35 : w3.cell? ⟨w1.heap.size, 5, none⟩ = some (.int .i64 c.v2) := cell_later hb3 (by with_reducible assumption)
  have H3 := Lib.hid (below_then yB.out hb3); clear hb3
  go_wp2_with fail
  refine (HS.out _).mono ?_
  rintro e w4 ⟨rfl, hb4⟩
  have qw40 : w4.cell? ⟨w1.heap.size, 0, none⟩ = some (.int .i64 c.x1) := cell_later hb4 (by with_reducible assumption)
  have qw41 : w4.cell? ⟨w1.heap.size, 1, none⟩ = some (.int .i64 c.h1) := cell_later hb4 (by with_reducible assumption)
  have qw42 : w4.cell? ⟨w1.heap.size, 2, none⟩ = some (.int .i64 c.x2) := cell_later hb4 (by with_reducible assumption)
  have qw43 : w4.cell? ⟨w1.heap.size, 3, none⟩ = some (.int .i64 c.h2) := cell_later hb4 (by with_reducible assumption)
  have qw44 : w4.cell? ⟨w1.heap.size, 4, none⟩ = some (.int .i64 c.v1) := cell_later hb4 (by with_reducible assumption)
  have qw45 : w4.cell? ⟨w1.heap.size, 5, none⟩ = some (.int .i64 c.v2) := cell_later hb4 (by with_reducible assumption)
  have H4 := Lib.hid (below_then H3.out hb4); clear hb4
  go_wp2
  go_ret
  exact ⟨rfl, H4.out⟩
set_option maxRecDepth 100000 in
set_option maxHeartbeats 1000000 in
theorem ck_b (c : Cr) (t : Int) (p : In c t) (w : World) (hs : c.slope t ≤ 0) (hn : t = c.hi) :
    Calls Try.prog 31 #[.agg #[.int .i64 c.x1, .int .i64 c.h1, .int .i64 c.v1, .int .i64 c.x2, .int .i64 c.h2, .int .i64 c.v2], .int .i64 t] w fun e w' => e = .returned (.int .i64 0) ∧ Below w.heap.size w w' := by
  have HZ : Hid (fst [ccE c, unl (inB t c.lo c.hi) 2] = 0) := (atE_zero c t).2 p
  have HS := Lib.hid (fun w => slope_any c p.o t w p.bounds.1 p.bounds.2)
  obtain ⟨bb0, bb1⟩ := p.bounds
  generalize c.slope t = st at *
  have n1 : (t != c.hi) = false := by simp [hn]
  clear hn
  go_enter Try.func31, Try.ntmps31
  go_wp2_with fail
  refine (crossingOf_any c _).mono ?_
  rintro e w1 ⟨rfl, hb1⟩
  have qw10 : w1.cell? ⟨w.heap.size, 0, none⟩ = some (.int .i64 c.x1) := cell_later hb1 (by simp [go_sem])
  have qw11 : w1.cell? ⟨w.heap.size, 1, none⟩ = some (.int .i64 c.h1) := cell_later hb1 (by simp [go_sem])
  have qw12 : w1.cell? ⟨w.heap.size, 2, none⟩ = some (.int .i64 c.v1) := cell_later hb1 (by simp [go_sem])
  have qw13 : w1.cell? ⟨w.heap.size, 3, none⟩ = some (.int .i64 c.x2) := cell_later hb1 (by simp [go_sem])
  have qw14 : w1.cell? ⟨w.heap.size, 4, none⟩ = some (.int .i64 c.h2) := cell_later hb1 (by simp [go_sem])
  have qw15 : w1.cell? ⟨w.heap.size, 5, none⟩ = some (.int .i64 c.v2) := cell_later hb1 (by simp [go_sem])
  have zqw1_0 := World.block_lt_of_cell? _ _ qw10
  dsimp only at zqw1_0
  have H1 := Lib.hid (below_after (by repeat (first | exact Below.refl _ _ | refine Below.drew ?_ | refine below_drewN ?_ _ | refine Below.setCell ?_ (by first | omega | (simp; done) | (simp; omega)) _ | refine Below.alloc ?_ (by first | omega | (simp; done) | (simp; omega)) _)) hb1 (by first | omega | (simp; done) | (simp; omega)) : Below w.heap.size w w1); clear hb1
  go_wp2_with fail
  have hS := below_alloc_top H1.out (.cells #[.int .i64 c.x1, .int .i64 c.h1, .int .i64 c.x2, .int .i64 c.h2, .int .i64 c.v1, .int .i64 c.v2] 152)
  go_region_held3 (fun w' => w'.cell? ⟨w.heap.size, 0, none⟩ = some (.int .i64 c.x1) ∧ w'.cell? ⟨w.heap.size, 1, none⟩ = some (.int .i64 c.h1) ∧ w'.cell? ⟨w.heap.size, 2, none⟩ = some (.int .i64 c.v1) ∧ w'.cell? ⟨w.heap.size, 3, none⟩ = some (.int .i64 c.x2) ∧ w'.cell? ⟨w.heap.size, 4, none⟩ = some (.int .i64 c.h2) ∧ w'.cell? ⟨w.heap.size, 5, none⟩ = some (.int .i64 c.v2) ∧ w'.cell? ⟨w1.heap.size, 0, none⟩ = some (.int .i64 c.x1) ∧ w'.cell? ⟨w1.heap.size, 1, none⟩ = some (.int .i64 c.h1) ∧ w'.cell? ⟨w1.heap.size, 2, none⟩ = some (.int .i64 c.x2) ∧ w'.cell? ⟨w1.heap.size, 3, none⟩ = some (.int .i64 c.h2) ∧ w'.cell? ⟨w1.heap.size, 4, none⟩ = some (.int .i64 c.v1) ∧ w'.cell? ⟨w1.heap.size, 5, none⟩ = some (.int .i64 c.v2) ∧ Below w.heap.size w w') ((go_split_ands; (repeat' apply And.intro) <;> first | (with_reducible assumption) | exact cell_later (by assumption) (by assumption) | exact frozen_after (by assumption) (by assumption) (by assumption) | exact below_then (by assumption) (by assumption) | exact below_alloc_top (by assumption) _ | exact cell_alloc_later (by assumption) _ | exact frozen_alloc_later (by assumption) (by assumption) _ | exact Below.drew (by assumption) | (simp [go_sem, World.cell?_alloc_past, *]; done)))
    (first
      | (go_at_call 33; refine (checkCross_any c _).mono ?_; rintro e w' ⟨rfl, hb⟩)
      | (go_at_call 101; refine (reachError_any c t _).mono ?_; rintro e w' ⟨rfl, hb⟩)
      | (go_at_call 93; refine (firstError_any _ [ccE c, unl (inB t c.lo c.hi) 2] _ (by simp) (by first | exact cells_drew _ _ (by simp) _ _ | exact cells_new _ _ (by simp) _ _)).mono ?_; rintro e w' ⟨rfl, rfl⟩))
  go_split_ands
  generalize hW : w'.alloc (Obj.cells #[.int .i64 (ccE c), .int .i64 (unl (inB t c.lo c.hi) 2)] 27) = W0 at *
  clear hW
  have y0 : W0.cell? ⟨w.heap.size, 0, none⟩ = some (.int .i64 c.x1) := by with_reducible assumption
  have y1 : W0.cell? ⟨w.heap.size, 1, none⟩ = some (.int .i64 c.h1) := by with_reducible assumption
  have y2 : W0.cell? ⟨w.heap.size, 2, none⟩ = some (.int .i64 c.v1) := by with_reducible assumption
  have y3 : W0.cell? ⟨w.heap.size, 3, none⟩ = some (.int .i64 c.x2) := by with_reducible assumption
  have y4 : W0.cell? ⟨w.heap.size, 4, none⟩ = some (.int .i64 c.h2) := by with_reducible assumption
  have y5 : W0.cell? ⟨w.heap.size, 5, none⟩ = some (.int .i64 c.v2) := by with_reducible assumption
  have y6 : W0.cell? ⟨w1.heap.size, 0, none⟩ = some (.int .i64 c.x1) := by with_reducible assumption
  have y7 : W0.cell? ⟨w1.heap.size, 1, none⟩ = some (.int .i64 c.h1) := by with_reducible assumption
  have y8 : W0.cell? ⟨w1.heap.size, 2, none⟩ = some (.int .i64 c.x2) := by with_reducible assumption
  have y9 : W0.cell? ⟨w1.heap.size, 3, none⟩ = some (.int .i64 c.h2) := by with_reducible assumption
  have y10 : W0.cell? ⟨w1.heap.size, 4, none⟩ = some (.int .i64 c.v1) := by with_reducible assumption
  have y11 : W0.cell? ⟨w1.heap.size, 5, none⟩ = some (.int .i64 c.v2) := by with_reducible assumption
  have yB0 : Below w.heap.size w W0 := by with_reducible assumption
  have yB := Lib.hid yB0; clear yB0
  clear hb hS
  rw [HZ.out]
  go_wp2_with fail
  refine (reach_any c _).mono ?_
  rintro e w3 ⟨rfl, hb3⟩
  have qw30 : w3.cell? ⟨w1.heap.size, 0, none⟩ = some (.int .i64 c.x1) := cell_later hb3 (by with_reducible assumption)
  have qw31 : w3.cell? ⟨w1.heap.size, 1, none⟩ = some (.int .i64 c.h1) := cell_later hb3 (by with_reducible assumption)
  have qw32 : w3.cell? ⟨w1.heap.size, 2, none⟩ = some (.int .i64 c.x2) := cell_later hb3 (by with_reducible assumption)
  have qw33 : w3.cell? ⟨w1.heap.size, 3, none⟩ = some (.int .i64 c.h2) := cell_later hb3 (by with_reducible assumption)
  have qw34 : w3.cell? ⟨w1.heap.size, 4, none⟩ = some (.int .i64 c.v1) := cell_later hb3 (by with_reducible assumption)
  have qw35 : w3.cell? ⟨w1.heap.size, 5, none⟩ = some (.int .i64 c.v2) := cell_later hb3 (by with_reducible assumption)
  have H3 := Lib.hid (below_then yB.out hb3); clear hb3
  go_wp2_with fail
  refine (HS.out _).mono ?_
  rintro e w4 ⟨rfl, hb4⟩
  have qw40 : w4.cell? ⟨w1.heap.size, 0, none⟩ = some (.int .i64 c.x1) := cell_later hb4 (by with_reducible assumption)
  have qw41 : w4.cell? ⟨w1.heap.size, 1, none⟩ = some (.int .i64 c.h1) := cell_later hb4 (by with_reducible assumption)
  have qw42 : w4.cell? ⟨w1.heap.size, 2, none⟩ = some (.int .i64 c.x2) := cell_later hb4 (by with_reducible assumption)
  have qw43 : w4.cell? ⟨w1.heap.size, 3, none⟩ = some (.int .i64 c.h2) := cell_later hb4 (by with_reducible assumption)
  have qw44 : w4.cell? ⟨w1.heap.size, 4, none⟩ = some (.int .i64 c.v1) := cell_later hb4 (by with_reducible assumption)
  have qw45 : w4.cell? ⟨w1.heap.size, 5, none⟩ = some (.int .i64 c.v2) := cell_later hb4 (by with_reducible assumption)
  have H4 := Lib.hid (below_then H3.out hb4); clear hb4
  go_wp2
  go_ret
  exact ⟨rfl, H4.out⟩
set_option maxRecDepth 100000 in
set_option maxHeartbeats 1000000 in
theorem ck_c (c : Cr) (t : Int) (p : In c t) (w : World) (hs : c.slope t ≤ 0) (hn : t ≠ c.hi) (hu : c.slope (t + 1) ≤ 0) :
    Calls Try.prog 31 #[.agg #[.int .i64 c.x1, .int .i64 c.h1, .int .i64 c.v1, .int .i64 c.x2, .int .i64 c.h2, .int .i64 c.v2], .int .i64 t] w fun e w' => e = .returned (.int .i64 18) ∧ Below w.heap.size w w' := by
  have HZ : Hid (fst [ccE c, unl (inB t c.lo c.hi) 2] = 0) := (atE_zero c t).2 p
  have HS := Lib.hid (fun w => slope_any c p.o t w p.bounds.1 p.bounds.2)
  obtain ⟨bb0, bb1⟩ := p.bounds
  have hlt : t < c.hi := by have := p.h; omega
  have HT := Lib.hid (fun w => slope_any c p.o (t + 1) w (by omega) (by have := k_bounds c p.o; omega))
  have n1 : (t != c.hi) = true := by simp; omega
  clear hlt hn
  generalize c.slope t = st at *
  generalize c.slope (t + 1) = su at *
  go_enter Try.func31, Try.ntmps31
  go_wp2_with fail
  refine (crossingOf_any c _).mono ?_
  rintro e w1 ⟨rfl, hb1⟩
  have qw10 : w1.cell? ⟨w.heap.size, 0, none⟩ = some (.int .i64 c.x1) := cell_later hb1 (by simp [go_sem])
  have qw11 : w1.cell? ⟨w.heap.size, 1, none⟩ = some (.int .i64 c.h1) := cell_later hb1 (by simp [go_sem])
  have qw12 : w1.cell? ⟨w.heap.size, 2, none⟩ = some (.int .i64 c.v1) := cell_later hb1 (by simp [go_sem])
  have qw13 : w1.cell? ⟨w.heap.size, 3, none⟩ = some (.int .i64 c.x2) := cell_later hb1 (by simp [go_sem])
  have qw14 : w1.cell? ⟨w.heap.size, 4, none⟩ = some (.int .i64 c.h2) := cell_later hb1 (by simp [go_sem])
  have qw15 : w1.cell? ⟨w.heap.size, 5, none⟩ = some (.int .i64 c.v2) := cell_later hb1 (by simp [go_sem])
  have zqw1_0 := World.block_lt_of_cell? _ _ qw10
  dsimp only at zqw1_0
  have H1 := Lib.hid (below_after (by repeat (first | exact Below.refl _ _ | refine Below.drew ?_ | refine below_drewN ?_ _ | refine Below.setCell ?_ (by first | omega | (simp; done) | (simp; omega)) _ | refine Below.alloc ?_ (by first | omega | (simp; done) | (simp; omega)) _)) hb1 (by first | omega | (simp; done) | (simp; omega)) : Below w.heap.size w w1); clear hb1
  go_wp2_with fail
  have hS := below_alloc_top H1.out (.cells #[.int .i64 c.x1, .int .i64 c.h1, .int .i64 c.x2, .int .i64 c.h2, .int .i64 c.v1, .int .i64 c.v2] 152)
  go_region_held3 (fun w' => w'.cell? ⟨w.heap.size, 0, none⟩ = some (.int .i64 c.x1) ∧ w'.cell? ⟨w.heap.size, 1, none⟩ = some (.int .i64 c.h1) ∧ w'.cell? ⟨w.heap.size, 2, none⟩ = some (.int .i64 c.v1) ∧ w'.cell? ⟨w.heap.size, 3, none⟩ = some (.int .i64 c.x2) ∧ w'.cell? ⟨w.heap.size, 4, none⟩ = some (.int .i64 c.h2) ∧ w'.cell? ⟨w.heap.size, 5, none⟩ = some (.int .i64 c.v2) ∧ w'.cell? ⟨w1.heap.size, 0, none⟩ = some (.int .i64 c.x1) ∧ w'.cell? ⟨w1.heap.size, 1, none⟩ = some (.int .i64 c.h1) ∧ w'.cell? ⟨w1.heap.size, 2, none⟩ = some (.int .i64 c.x2) ∧ w'.cell? ⟨w1.heap.size, 3, none⟩ = some (.int .i64 c.h2) ∧ w'.cell? ⟨w1.heap.size, 4, none⟩ = some (.int .i64 c.v1) ∧ w'.cell? ⟨w1.heap.size, 5, none⟩ = some (.int .i64 c.v2) ∧ Below w.heap.size w w') ((go_split_ands; (repeat' apply And.intro) <;> first | (with_reducible assumption) | exact cell_later (by assumption) (by assumption) | exact frozen_after (by assumption) (by assumption) (by assumption) | exact below_then (by assumption) (by assumption) | exact below_alloc_top (by assumption) _ | exact cell_alloc_later (by assumption) _ | exact frozen_alloc_later (by assumption) (by assumption) _ | exact Below.drew (by assumption) | (simp [go_sem, World.cell?_alloc_past, *]; done)))
    (first
      | (go_at_call 33; refine (checkCross_any c _).mono ?_; rintro e w' ⟨rfl, hb⟩)
      | (go_at_call 101; refine (reachError_any c t _).mono ?_; rintro e w' ⟨rfl, hb⟩)
      | (go_at_call 93; refine (firstError_any _ [ccE c, unl (inB t c.lo c.hi) 2] _ (by simp) (by first | exact cells_drew _ _ (by simp) _ _ | exact cells_new _ _ (by simp) _ _)).mono ?_; rintro e w' ⟨rfl, rfl⟩))
  go_split_ands
  generalize hW : w'.alloc (Obj.cells #[.int .i64 (ccE c), .int .i64 (unl (inB t c.lo c.hi) 2)] 27) = W0 at *
  clear hW
  have y0 : W0.cell? ⟨w.heap.size, 0, none⟩ = some (.int .i64 c.x1) := by with_reducible assumption
  have y1 : W0.cell? ⟨w.heap.size, 1, none⟩ = some (.int .i64 c.h1) := by with_reducible assumption
  have y2 : W0.cell? ⟨w.heap.size, 2, none⟩ = some (.int .i64 c.v1) := by with_reducible assumption
  have y3 : W0.cell? ⟨w.heap.size, 3, none⟩ = some (.int .i64 c.x2) := by with_reducible assumption
  have y4 : W0.cell? ⟨w.heap.size, 4, none⟩ = some (.int .i64 c.h2) := by with_reducible assumption
  have y5 : W0.cell? ⟨w.heap.size, 5, none⟩ = some (.int .i64 c.v2) := by with_reducible assumption
  have y6 : W0.cell? ⟨w1.heap.size, 0, none⟩ = some (.int .i64 c.x1) := by with_reducible assumption
  have y7 : W0.cell? ⟨w1.heap.size, 1, none⟩ = some (.int .i64 c.h1) := by with_reducible assumption
  have y8 : W0.cell? ⟨w1.heap.size, 2, none⟩ = some (.int .i64 c.x2) := by with_reducible assumption
  have y9 : W0.cell? ⟨w1.heap.size, 3, none⟩ = some (.int .i64 c.h2) := by with_reducible assumption
  have y10 : W0.cell? ⟨w1.heap.size, 4, none⟩ = some (.int .i64 c.v1) := by with_reducible assumption
  have y11 : W0.cell? ⟨w1.heap.size, 5, none⟩ = some (.int .i64 c.v2) := by with_reducible assumption
  have yB0 : Below w.heap.size w W0 := by with_reducible assumption
  have yB := Lib.hid yB0; clear yB0
  clear hb hS
  rw [HZ.out]
  go_wp2_with fail
  refine (reach_any c _).mono ?_
  rintro e w3 ⟨rfl, hb3⟩
  have qw30 : w3.cell? ⟨w1.heap.size, 0, none⟩ = some (.int .i64 c.x1) := cell_later hb3 (by with_reducible assumption)
  have qw31 : w3.cell? ⟨w1.heap.size, 1, none⟩ = some (.int .i64 c.h1) := cell_later hb3 (by with_reducible assumption)
  have qw32 : w3.cell? ⟨w1.heap.size, 2, none⟩ = some (.int .i64 c.x2) := cell_later hb3 (by with_reducible assumption)
  have qw33 : w3.cell? ⟨w1.heap.size, 3, none⟩ = some (.int .i64 c.h2) := cell_later hb3 (by with_reducible assumption)
  have qw34 : w3.cell? ⟨w1.heap.size, 4, none⟩ = some (.int .i64 c.v1) := cell_later hb3 (by with_reducible assumption)
  have qw35 : w3.cell? ⟨w1.heap.size, 5, none⟩ = some (.int .i64 c.v2) := cell_later hb3 (by with_reducible assumption)
  have H3 := Lib.hid (below_then yB.out hb3); clear hb3
  go_wp2_with fail
  refine (HS.out _).mono ?_
  rintro e w4 ⟨rfl, hb4⟩
  have qw40 : w4.cell? ⟨w1.heap.size, 0, none⟩ = some (.int .i64 c.x1) := cell_later hb4 (by with_reducible assumption)
  have qw41 : w4.cell? ⟨w1.heap.size, 1, none⟩ = some (.int .i64 c.h1) := cell_later hb4 (by with_reducible assumption)
  have qw42 : w4.cell? ⟨w1.heap.size, 2, none⟩ = some (.int .i64 c.x2) := cell_later hb4 (by with_reducible assumption)
  have qw43 : w4.cell? ⟨w1.heap.size, 3, none⟩ = some (.int .i64 c.h2) := cell_later hb4 (by with_reducible assumption)
  have qw44 : w4.cell? ⟨w1.heap.size, 4, none⟩ = some (.int .i64 c.v1) := cell_later hb4 (by with_reducible assumption)
  have qw45 : w4.cell? ⟨w1.heap.size, 5, none⟩ = some (.int .i64 c.v2) := cell_later hb4 (by with_reducible assumption)
  have H4 := Lib.hid (below_then H3.out hb4); clear hb4
  go_wp2_with fail
  refine (HT.out _).mono ?_
  rintro e w5 ⟨rfl, hb5⟩
  have H5 := Lib.hid (below_then H4.out hb5); clear hb5
  go_wp2
  go_ret
  exact ⟨rfl, H5.out⟩
set_option maxRecDepth 100000 in
set_option maxHeartbeats 1000000 in
theorem ck_d (c : Cr) (t : Int) (p : In c t) (w : World) (hs : c.slope t ≤ 0) (hn : t ≠ c.hi) (hu : 0 < c.slope (t + 1)) :
    Calls Try.prog 31 #[.agg #[.int .i64 c.x1, .int .i64 c.h1, .int .i64 c.v1, .int .i64 c.x2, .int .i64 c.h2, .int .i64 c.v2], .int .i64 t] w fun e w' => e = .returned (.int .i64 0) ∧ Below w.heap.size w w' := by
  have HZ : Hid (fst [ccE c, unl (inB t c.lo c.hi) 2] = 0) := (atE_zero c t).2 p
  have HS := Lib.hid (fun w => slope_any c p.o t w p.bounds.1 p.bounds.2)
  obtain ⟨bb0, bb1⟩ := p.bounds
  have hlt : t < c.hi := by have := p.h; omega
  have HT := Lib.hid (fun w => slope_any c p.o (t + 1) w (by omega) (by have := k_bounds c p.o; omega))
  have n1 : (t != c.hi) = true := by simp; omega
  clear hlt hn
  generalize c.slope t = st at *
  generalize c.slope (t + 1) = su at *
  go_enter Try.func31, Try.ntmps31
  go_wp2_with fail
  refine (crossingOf_any c _).mono ?_
  rintro e w1 ⟨rfl, hb1⟩
  have qw10 : w1.cell? ⟨w.heap.size, 0, none⟩ = some (.int .i64 c.x1) := cell_later hb1 (by simp [go_sem])
  have qw11 : w1.cell? ⟨w.heap.size, 1, none⟩ = some (.int .i64 c.h1) := cell_later hb1 (by simp [go_sem])
  have qw12 : w1.cell? ⟨w.heap.size, 2, none⟩ = some (.int .i64 c.v1) := cell_later hb1 (by simp [go_sem])
  have qw13 : w1.cell? ⟨w.heap.size, 3, none⟩ = some (.int .i64 c.x2) := cell_later hb1 (by simp [go_sem])
  have qw14 : w1.cell? ⟨w.heap.size, 4, none⟩ = some (.int .i64 c.h2) := cell_later hb1 (by simp [go_sem])
  have qw15 : w1.cell? ⟨w.heap.size, 5, none⟩ = some (.int .i64 c.v2) := cell_later hb1 (by simp [go_sem])
  have zqw1_0 := World.block_lt_of_cell? _ _ qw10
  dsimp only at zqw1_0
  have H1 := Lib.hid (below_after (by repeat (first | exact Below.refl _ _ | refine Below.drew ?_ | refine below_drewN ?_ _ | refine Below.setCell ?_ (by first | omega | (simp; done) | (simp; omega)) _ | refine Below.alloc ?_ (by first | omega | (simp; done) | (simp; omega)) _)) hb1 (by first | omega | (simp; done) | (simp; omega)) : Below w.heap.size w w1); clear hb1
  go_wp2_with fail
  have hS := below_alloc_top H1.out (.cells #[.int .i64 c.x1, .int .i64 c.h1, .int .i64 c.x2, .int .i64 c.h2, .int .i64 c.v1, .int .i64 c.v2] 152)
  go_region_held3 (fun w' => w'.cell? ⟨w.heap.size, 0, none⟩ = some (.int .i64 c.x1) ∧ w'.cell? ⟨w.heap.size, 1, none⟩ = some (.int .i64 c.h1) ∧ w'.cell? ⟨w.heap.size, 2, none⟩ = some (.int .i64 c.v1) ∧ w'.cell? ⟨w.heap.size, 3, none⟩ = some (.int .i64 c.x2) ∧ w'.cell? ⟨w.heap.size, 4, none⟩ = some (.int .i64 c.h2) ∧ w'.cell? ⟨w.heap.size, 5, none⟩ = some (.int .i64 c.v2) ∧ w'.cell? ⟨w1.heap.size, 0, none⟩ = some (.int .i64 c.x1) ∧ w'.cell? ⟨w1.heap.size, 1, none⟩ = some (.int .i64 c.h1) ∧ w'.cell? ⟨w1.heap.size, 2, none⟩ = some (.int .i64 c.x2) ∧ w'.cell? ⟨w1.heap.size, 3, none⟩ = some (.int .i64 c.h2) ∧ w'.cell? ⟨w1.heap.size, 4, none⟩ = some (.int .i64 c.v1) ∧ w'.cell? ⟨w1.heap.size, 5, none⟩ = some (.int .i64 c.v2) ∧ Below w.heap.size w w') ((go_split_ands; (repeat' apply And.intro) <;> first | (with_reducible assumption) | exact cell_later (by assumption) (by assumption) | exact frozen_after (by assumption) (by assumption) (by assumption) | exact below_then (by assumption) (by assumption) | exact below_alloc_top (by assumption) _ | exact cell_alloc_later (by assumption) _ | exact frozen_alloc_later (by assumption) (by assumption) _ | exact Below.drew (by assumption) | (simp [go_sem, World.cell?_alloc_past, *]; done)))
    (first
      | (go_at_call 33; refine (checkCross_any c _).mono ?_; rintro e w' ⟨rfl, hb⟩)
      | (go_at_call 101; refine (reachError_any c t _).mono ?_; rintro e w' ⟨rfl, hb⟩)
      | (go_at_call 93; refine (firstError_any _ [ccE c, unl (inB t c.lo c.hi) 2] _ (by simp) (by first | exact cells_drew _ _ (by simp) _ _ | exact cells_new _ _ (by simp) _ _)).mono ?_; rintro e w' ⟨rfl, rfl⟩))
  go_split_ands
  generalize hW : w'.alloc (Obj.cells #[.int .i64 (ccE c), .int .i64 (unl (inB t c.lo c.hi) 2)] 27) = W0 at *
  clear hW
  have y0 : W0.cell? ⟨w.heap.size, 0, none⟩ = some (.int .i64 c.x1) := by with_reducible assumption
  have y1 : W0.cell? ⟨w.heap.size, 1, none⟩ = some (.int .i64 c.h1) := by with_reducible assumption
  have y2 : W0.cell? ⟨w.heap.size, 2, none⟩ = some (.int .i64 c.v1) := by with_reducible assumption
  have y3 : W0.cell? ⟨w.heap.size, 3, none⟩ = some (.int .i64 c.x2) := by with_reducible assumption
  have y4 : W0.cell? ⟨w.heap.size, 4, none⟩ = some (.int .i64 c.h2) := by with_reducible assumption
  have y5 : W0.cell? ⟨w.heap.size, 5, none⟩ = some (.int .i64 c.v2) := by with_reducible assumption
  have y6 : W0.cell? ⟨w1.heap.size, 0, none⟩ = some (.int .i64 c.x1) := by with_reducible assumption
  have y7 : W0.cell? ⟨w1.heap.size, 1, none⟩ = some (.int .i64 c.h1) := by with_reducible assumption
  have y8 : W0.cell? ⟨w1.heap.size, 2, none⟩ = some (.int .i64 c.x2) := by with_reducible assumption
  have y9 : W0.cell? ⟨w1.heap.size, 3, none⟩ = some (.int .i64 c.h2) := by with_reducible assumption
  have y10 : W0.cell? ⟨w1.heap.size, 4, none⟩ = some (.int .i64 c.v1) := by with_reducible assumption
  have y11 : W0.cell? ⟨w1.heap.size, 5, none⟩ = some (.int .i64 c.v2) := by with_reducible assumption
  have yB0 : Below w.heap.size w W0 := by with_reducible assumption
  have yB := Lib.hid yB0; clear yB0
  clear hb hS
  rw [HZ.out]
  go_wp2_with fail
  refine (reach_any c _).mono ?_
  rintro e w3 ⟨rfl, hb3⟩
  have qw30 : w3.cell? ⟨w1.heap.size, 0, none⟩ = some (.int .i64 c.x1) := cell_later hb3 (by with_reducible assumption)
  have qw31 : w3.cell? ⟨w1.heap.size, 1, none⟩ = some (.int .i64 c.h1) := cell_later hb3 (by with_reducible assumption)
  have qw32 : w3.cell? ⟨w1.heap.size, 2, none⟩ = some (.int .i64 c.x2) := cell_later hb3 (by with_reducible assumption)
  have qw33 : w3.cell? ⟨w1.heap.size, 3, none⟩ = some (.int .i64 c.h2) := cell_later hb3 (by with_reducible assumption)
  have qw34 : w3.cell? ⟨w1.heap.size, 4, none⟩ = some (.int .i64 c.v1) := cell_later hb3 (by with_reducible assumption)
  have qw35 : w3.cell? ⟨w1.heap.size, 5, none⟩ = some (.int .i64 c.v2) := cell_later hb3 (by with_reducible assumption)
  have H3 := Lib.hid (below_then yB.out hb3); clear hb3
  go_wp2_with fail
  refine (HS.out _).mono ?_
  rintro e w4 ⟨rfl, hb4⟩
  have qw40 : w4.cell? ⟨w1.heap.size, 0, none⟩ = some (.int .i64 c.x1) := cell_later hb4 (by with_reducible assumption)
  have qw41 : w4.cell? ⟨w1.heap.size, 1, none⟩ = some (.int .i64 c.h1) := cell_later hb4 (by with_reducible assumption)
  have qw42 : w4.cell? ⟨w1.heap.size, 2, none⟩ = some (.int .i64 c.x2) := cell_later hb4 (by with_reducible assumption)
  have qw43 : w4.cell? ⟨w1.heap.size, 3, none⟩ = some (.int .i64 c.h2) := cell_later hb4 (by with_reducible assumption)
  have qw44 : w4.cell? ⟨w1.heap.size, 4, none⟩ = some (.int .i64 c.v1) := cell_later hb4 (by with_reducible assumption)
  have qw45 : w4.cell? ⟨w1.heap.size, 5, none⟩ = some (.int .i64 c.v2) := cell_later hb4 (by with_reducible assumption)
  have H4 := Lib.hid (below_then H3.out hb4); clear hb4
  go_wp2_with fail
  refine (HT.out _).mono ?_
  rintro e w5 ⟨rfl, hb5⟩
  have H5 := Lib.hid (below_then H4.out hb5); clear hb5
  go_wp2
  go_ret
  exact ⟨rfl, H5.out⟩
/-- what CheckCrossing says of a place -/
def ckV (c : Cr) (t : Int) : Int := if 0 < c.slope t then 18 else if t ≠ c.hi ∧ c.slope (t + 1) ≤ 0 then 18 else 0
theorem checkCrossing_ok (c : Cr) (t : Int) (p : In c t) (w : World) :
    Calls Try.prog 31 #[.agg #[.int .i64 c.x1, .int .i64 c.h1, .int .i64 c.v1, .int .i64 c.x2, .int .i64 c.h2, .int .i64 c.v2], .int .i64 t] w fun e w' => e = .returned (.int .i64 (ckV c t)) ∧ Below w.heap.size w w' := by
  unfold ckV
  by_cases hs : 0 < c.slope t
  · rw [if_pos hs]; exact ck_a c t p w hs
  · rw [if_neg hs]
    by_cases hn : t = c.hi
    · rw [if_neg (by simp [hn])]; exact ck_b c t p w (by omega) hn
    · by_cases hu : c.slope (t + 1) ≤ 0
      · rw [if_pos ⟨hn, hu⟩]; exact ck_c c t p w (by omega) hn hu
      · rw [if_neg (fun h => hu h.2)]; exact ck_d c t p w (by omega) hn (by omega)
end Go.Proofs.Ytdicndakelgoeaa
