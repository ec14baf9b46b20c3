/- turns at the back wall: the program -/
import Derived.Test.YtdicndakelgoeaaB4
import Derived.Test.YtdicndakelgoeaaC1
namespace Go.Proofs.Ytdicndakelgoeaa
open Go.RowKit RayM
set_option linter.unusedSimpArgs false
set_option linter.unusedVariables false

/-- an end of a turn is in the plate, or on its surface -/
def tuB (z t : Int) : Bool := decide (z = 0) || dpB z t
structure Tu where
  fx : Int
  fz : Int
  tx : Int
  tz : Int
  th : Int
  v1 : Int
  v2 : Int
def tuE (x : Tu) : Int := fst [placeE x.fx x.fz, placeE x.tx x.tz, unl (inB x.th 2 20000) 2, unl (tuB x.fz x.th) 22, unl (tuB x.tz x.th) 22, unl (inB x.v1 500 10000) 2, unl (inB x.v2 500 10000) 2]
structure Tu.ok (x : Tu) : Prop where
  a1 : -100000 ≤ x.fx
  a2 : x.fx ≤ 100000
  b1 : 0 ≤ x.fz
  b2 : x.fz < x.th
  c1 : -100000 ≤ x.tx
  c2 : x.tx ≤ 100000
  d1 : 0 ≤ x.tz
  d2 : x.tz < x.th
  e1 : 2 ≤ x.th
  e2 : x.th ≤ 20000
  f1 : 500 ≤ x.v1
  f2 : x.v1 ≤ 10000
  g1 : 500 ≤ x.v2
  g2 : x.v2 ≤ 10000
theorem tuB_iff (z t : Int) (ht : 2 ≤ t) : tuB z t = true ↔ 0 ≤ z ∧ z < t := by
  unfold tuB dpB
  simp only [Bool.or_eq_true, Bool.and_eq_true, decide_eq_true_eq]; omega
theorem tuE_ok (x : Tu) : tuE x = 0 ↔ x.ok := by
  unfold tuE
  rw [fst_zero]
  simp only [List.mem_cons, List.not_mem_nil, or_false, forall_eq_or_imp, forall_eq, placeE_zero, unl_inB _ _ _ _ (show (2 : Int) ≠ 0 by decide), unl_zero _ _ (show (22 : Int) ≠ 0 by decide)]
  constructor
  · rintro ⟨⟨⟨a, b⟩, ⟨c, d⟩⟩, ⟨⟨e, f⟩, ⟨g, h⟩⟩, ⟨i, j⟩, k, l, ⟨m, n⟩, ⟨p, q⟩⟩
    obtain ⟨k1, k2⟩ := (tuB_iff _ _ i).1 k
    obtain ⟨l1, l2⟩ := (tuB_iff _ _ i).1 l
    exact ⟨a, b, k1, k2, e, f, l1, l2, i, j, m, n, p, q⟩
  · rintro ⟨a, b, k1, k2, e, f, l1, l2, i, j, m, n, p, q⟩
    exact ⟨⟨⟨a, b⟩, ⟨by omega, by omega⟩⟩, ⟨⟨e, f⟩, ⟨by omega, by omega⟩⟩, ⟨i, j⟩, (tuB_iff _ _ i).2 ⟨k1, k2⟩, (tuB_iff _ _ i).2 ⟨l1, l2⟩, ⟨m, n⟩, ⟨p, q⟩⟩
/-- the crossing of a turn -/
def Tu.cr (x : Tu) : Cr := ⟨x.fx, x.th - x.fz, x.v1, x.tx, x.th - x.tz, x.v2⟩
theorem tu_cr_ok (x : Tu) (o : x.ok) : x.cr.ok := by
  obtain ⟨a1, a2, b1, b2, c1, c2, d1, d2, e1, e2, f1, f2, g1, g2⟩ := o
  exact ⟨a1, a2, c1, c2, by show 1 ≤ x.th - x.fz; omega, by show x.th - x.fz ≤ 100000; omega, by show 1 ≤ x.th - x.tz; omega, by show x.th - x.tz ≤ 100000; omega, f1, f2, g1, g2⟩
set_option maxRecDepth 100000 in
set_option maxHeartbeats 1000000 in
theorem turnedError_any (x z t : Int) (w : World) :
    Calls Try.prog 119 #[.agg #[.int .i64 x, .int .i64 z], .int .i64 t] w fun e w' => e = .returned (.int .i64 (unl (tuB z t) 22)) ∧ Below w.heap.size w w' := by
  by_cases h : z = 0
  · subst h
    rw [show tuB 0 t = true from rfl]
    go_enter Try.func119, Try.ntmps119
    go_wp2
    go_ret
    exact ⟨rfl, (by repeat (first | exact Below.refl _ _ | refine Below.drew ?_ | refine below_drewN ?_ _ | refine Below.setCell ?_ (by first | omega | (simp; done) | (simp; omega)) _ | refine Below.alloc ?_ (by first | omega | (simp; done) | (simp; omega)) _))⟩
  · have h1 : (z == 0) = false := by simpa using h
    rw [show tuB z t = dpB z t by unfold tuB; rw [decide_eq_false h, Bool.false_or]]
    go_enter Try.func119, Try.ntmps119
    go_wp2_with (go_at_call 112; refine (depthError_any _ _ _).mono ?_; rintro e w' ⟨rfl, rfl⟩)
    go_ret
    exact ⟨rfl, (by repeat (first | exact Below.refl _ _ | refine Below.drew ?_ | refine below_drewN ?_ _ | refine Below.setCell ?_ (by first | omega | (simp; done) | (simp; omega)) _ | refine Below.alloc ?_ (by first | omega | (simp; done) | (simp; omega)) _))⟩
set_option maxRecDepth 100000 in
set_option maxHeartbeats 1000000 in
theorem turned_bad (x : Tu) (h : tuE x ≠ 0) (w : World) :
    Calls Try.prog 58 #[.agg #[.int .i64 x.fx, .int .i64 x.fz, .int .i64 x.tx, .int .i64 x.tz, .int .i64 x.th, .int .i64 x.v1, .int .i64 x.v2]] w fun e w' => e = .returned (.tuple #[.agg #[.int .i64 0, .int .i64 0], .int .i64 (tuE x)]) ∧ Below w.heap.size w w' := by
  have h2 : (tuE x != 0) = true := by simpa using h
  have he : fst [placeE x.fx x.fz, placeE x.tx x.tz, unl (inB x.th 2 20000) 2, unl (tuB x.fz x.th) 22, unl (tuB x.tz x.th) 22, unl (inB x.v1 500 10000) 2, unl (inB x.v2 500 10000) 2] = tuE x := rfl
  have HE := Lib.hid he; clear he h
  go_enter Try.func58, Try.ntmps58
  go_wp2
  have hS : Below w.heap.size w ((w.alloc (.cells #[.int .i64 x.fx, .int .i64 x.fz, .int .i64 x.tx, .int .i64 x.tz, .int .i64 x.th, .int .i64 x.v1, .int .i64 x.v2] 77)).alloc (.cells #[.int .i64 0, .int .i64 0] 26)) := (by repeat (first | exact Below.refl _ _ | refine Below.drew ?_ | refine below_drewN ?_ _ | refine Below.setCell ?_ (by first | omega | (simp; done) | (simp; omega)) _ | refine Below.alloc ?_ (by first | omega | (simp; done) | (simp; omega)) _))
  go_region_held3 (fun w' => w'.cell? ⟨w.heap.size, 0, none⟩ = some (.int .i64 x.fx) ∧ w'.cell? ⟨w.heap.size, 1, none⟩ = some (.int .i64 x.fz) ∧ w'.cell? ⟨w.heap.size, 2, none⟩ = some (.int .i64 x.tx) ∧ w'.cell? ⟨w.heap.size, 3, none⟩ = some (.int .i64 x.tz) ∧ w'.cell? ⟨w.heap.size, 4, none⟩ = some (.int .i64 x.th) ∧ w'.cell? ⟨w.heap.size, 5, none⟩ = some (.int .i64 x.v1) ∧ w'.cell? ⟨w.heap.size, 6, none⟩ = some (.int .i64 x.v2) ∧ w'.cell? ⟨w.heap.size + 1, 0, none⟩ = some (.int .i64 0) ∧ w'.cell? ⟨w.heap.size + 1, 1, none⟩ = some (.int .i64 0) ∧ w'.frozen? ⟨w.heap.size + 1, 0, none⟩ = false ∧ w'.frozen? ⟨w.heap.size + 1, 1, none⟩ = false ∧ Below w.heap.size w w') (((go_split_ands; (repeat' apply And.intro) <;> first | (with_reducible assumption) | exact cell_later (by assumption) (by assumption) | exact frozen_after (by assumption) (by assumption) (by assumption) | exact below_then (by assumption) (by assumption) | exact below_alloc_top (by assumption) _ | exact cell_alloc_later (by assumption) _ | exact frozen_alloc_later (by assumption) (by assumption) _ | exact Below.drew (by assumption) | (simp [go_sem, World.cell?_alloc_past, *]; done))))
    (first
      | (go_at_call 94; refine (placeError_any _ _ _).mono ?_; rintro e w' ⟨rfl, hb⟩)
      | (go_at_call 114; refine (thickError_any _ _).mono ?_; rintro e w' ⟨rfl, rfl⟩)
      | (go_at_call 119; refine (turnedError_any _ _ _ _).mono ?_; rintro e w' ⟨rfl, hb⟩)
      | (go_at_call 96; refine (speedError_any _ _).mono ?_; rintro e w' ⟨rfl, rfl⟩)
      | (go_at_call 93; refine (firstError_any _ [placeE x.fx x.fz, placeE x.tx x.tz, unl (inB x.th 2 20000) 2, unl (tuB x.fz x.th) 22, unl (tuB x.tz x.th) 22, unl (inB x.v1 500 10000) 2, unl (inB x.v2 500 10000) 2] _ (by simp) (by first | exact cells_drew _ _ (by simp) _ _ | exact cells_new _ _ (by simp) _ _)).mono ?_; rintro e w' ⟨rfl, rfl⟩))
  go_split_ands
  generalize hW : w'.alloc (Obj.cells #[.int .i64 (placeE x.fx x.fz), .int .i64 (placeE x.tx x.tz), .int .i64 (unl (inB x.th 2 20000) 2), .int .i64 (unl (tuB x.fz x.th) 22), .int .i64 (unl (tuB x.tz x.th) 22), .int .i64 (unl (inB x.v1 500 10000) 2), .int .i64 (unl (inB x.v2 500 10000) 2)] 27) = W0 at *
  clear hW
  have y0 : W0.cell? ⟨w.heap.size, 0, none⟩ = some (.int .i64 x.fx)   := by with_reducible assumption
  have y1 : W0.cell? ⟨w.heap.size, 1, none⟩ = some (.int .i64 x.fz)   := by with_reducible assumption
  have y2 : W0.cell? ⟨w.heap.size, 2, none⟩ = some (.int .i64 x.tx)   := by with_reducible assumption
  have y3 : W0.cell? ⟨w.heap.size, 3, none⟩ = some (.int .i64 x.tz)   := by with_reducible assumption
  have y4 : W0.cell? ⟨w.heap.size, 4, none⟩ = some (.int .i64 x.th)   := by with_reducible assumption
  have y5 : W0.cell? ⟨w.heap.size, 5, none⟩ = some (.int .i64 x.v1)   := by with_reducible assumption
  have y6 : W0.cell? ⟨w.heap.size, 6, none⟩ = some (.int .i64 x.v2)   := by with_reducible assumption
  have y7 : W0.cell? ⟨w.heap.size + 1, 0, none⟩ = some (.int .i64 0)   := by with_reducible assumption
  have y8 : W0.cell? ⟨w.heap.size + 1, 1, none⟩ = some (.int .i64 0)   := by with_reducible assumption
  have yf0 : W0.frozen? ⟨w.heap.size + 1, 0, none⟩ = false   := by with_reducible assumption
  have yf1 : W0.frozen? ⟨w.heap.size + 1, 1, none⟩ = false   := by with_reducible assumption
  have yB0 : Below w.heap.size w W0 := by with_reducible assumption
  have yB := Lib.hid yB0; clear yB0
  have yz0 := World.block_lt_of_cell? _ _ y0
  dsimp only at yz0
  have yz1 := World.block_lt_of_cell? _ _ y7
  dsimp only at yz1
  clear hS
  rw [HE.out]
  go_wp2
  exact bodyPost_ret (v := .tuple #[.agg #[.int .i64 0, .int .i64 0], .int .i64 (tuE x)]) (by simp [results, Try.results58, go_sem, World.cell?_alloc_past, *]) rfl ⟨rfl, (by (repeat (first | (with_reducible exact yB.out) | (with_reducible refine Below.setCell ?_ ?_ _) | (with_reducible refine below_alloc_top ?_ _) | (with_reducible refine Below.drew ?_))); all_goals (first | omega | (simp; done) | (simp; omega)))⟩
set_option maxRecDepth 100000 in
set_option maxHeartbeats 1000000 in
theorem turned_ok (x : Tu) (o : x.ok) (w : World) :
    Calls Try.prog 58 #[.agg #[.int .i64 x.fx, .int .i64 x.fz, .int .i64 x.tx, .int .i64 x.tz, .int .i64 x.th, .int .i64 x.v1, .int .i64 x.v2]] w fun e w' => e = .returned (.tuple #[.agg #[.int .i64 x.cr.lLo, .int .i64 x.cr.lHi], .int .i64 0]) ∧ Below w.heap.size w w' := by
  have he : fst [placeE x.fx x.fz, placeE x.tx x.tz, unl (inB x.th 2 20000) 2, unl (tuB x.fz x.th) 22, unl (tuB x.tz x.th) 22, unl (inB x.v1 500 10000) 2, unl (inB x.v2 500 10000) 2] = 0 := (tuE_ok x).2 o
  have HE := Lib.hid he; clear he
  have HL : Hid (∀ w, Calls Try.prog 109 #[.agg #[.int .i64 x.fx, .int .i64 (x.th - x.fz), .int .i64 x.tx, .int .i64 (x.th - x.tz), .int .i64 x.v1, .int .i64 x.v2]] w fun e w' => e = .returned (.agg #[.int .i64 x.cr.lLo, .int .i64 x.cr.lHi]) ∧ Below w.heap.size w w') := Lib.hid (fun w => leastTime_any x.cr (tu_cr_ok x o) w)
  obtain ⟨a1, a2, b1, b2, c1, c2, d1, d2, e1, e2, f1, f2, g1, g2⟩ := o
  generalize x.cr.lLo = lo at *
  generalize x.cr.lHi = hi at *
  go_enter Try.func58, Try.ntmps58
  go_wp2
  have hS : Below w.heap.size w ((w.alloc (.cells #[.int .i64 x.fx, .int .i64 x.fz, .int .i64 x.tx, .int .i64 x.tz, .int .i64 x.th, .int .i64 x.v1, .int .i64 x.v2] 77)).alloc (.cells #[.int .i64 0, .int .i64 0] 26)) := (by repeat (first | exact Below.refl _ _ | refine Below.drew ?_ | refine below_drewN ?_ _ | refine Below.setCell ?_ (by first | omega | (simp; done) | (simp; omega)) _ | refine Below.alloc ?_ (by first | omega | (simp; done) | (simp; omega)) _))
  go_region_held3 (fun w' => w'.cell? ⟨w.heap.size, 0, none⟩ = some (.int .i64 x.fx) ∧ w'.cell? ⟨w.heap.size, 1, none⟩ = some (.int .i64 x.fz) ∧ w'.cell? ⟨w.heap.size, 2, none⟩ = some (.int .i64 x.tx) ∧ w'.cell? ⟨w.heap.size, 3, none⟩ = some (.int .i64 x.tz) ∧ w'.cell? ⟨w.heap.size, 4, none⟩ = some (.int .i64 x.th) ∧ w'.cell? ⟨w.heap.size, 5, none⟩ = some (.int .i64 x.v1) ∧ w'.cell? ⟨w.heap.size, 6, none⟩ = some (.int .i64 x.v2) ∧ w'.cell? ⟨w.heap.size + 1, 0, none⟩ = some (.int .i64 0) ∧ w'.cell? ⟨w.heap.size + 1, 1, none⟩ = some (.int .i64 0) ∧ w'.frozen? ⟨w.heap.size + 1, 0, none⟩ = false ∧ w'.frozen? ⟨w.heap.size + 1, 1, none⟩ = false ∧ Below w.heap.size w w') (((go_split_ands; (repeat' apply And.intro) <;> first | (with_reducible assumption) | exact cell_later (by assumption) (by assumption) | exact frozen_after (by assumption) (by assumption) (by assumption) | exact below_then (by assumption) (by assumption) | exact below_alloc_top (by assumption) _ | exact cell_alloc_later (by assumption) _ | exact frozen_alloc_later (by assumption) (by assumption) _ | exact Below.drew (by assumption) | (simp [go_sem, World.cell?_alloc_past, *]; done))))
    (first
      | (go_at_call 94; refine (placeError_any _ _ _).mono ?_; rintro e w' ⟨rfl, hb⟩)
      | (go_at_call 114; refine (thickError_any _ _).mono ?_; rintro e w' ⟨rfl, rfl⟩)
      | (go_at_call 119; refine (turnedError_any _ _ _ _).mono ?_; rintro e w' ⟨rfl, hb⟩)
      | (go_at_call 96; refine (speedError_any _ _).mono ?_; rintro e w' ⟨rfl, rfl⟩)
      | (go_at_call 93; refine (firstError_any _ [placeE x.fx x.fz, placeE x.tx x.tz, unl (inB x.th 2 20000) 2, unl (tuB x.fz x.th) 22, unl (tuB x.tz x.th) 22, unl (inB x.v1 500 10000) 2, unl (inB x.v2 500 10000) 2] _ (by simp) (by first | exact cells_drew _ _ (by simp) _ _ | exact cells_new _ _ (by simp) _ _)).mono ?_; rintro e w' ⟨rfl, rfl⟩))
  go_split_ands
  generalize hW : w'.alloc (Obj.cells #[.int .i64 (placeE x.fx x.fz), .int .i64 (placeE x.tx x.tz), .int .i64 (unl (inB x.th 2 20000) 2), .int .i64 (unl (tuB x.fz x.th) 22), .int .i64 (unl (tuB x.tz x.th) 22), .int .i64 (unl (inB x.v1 500 10000) 2), .int .i64 (unl (inB x.v2 500 10000) 2)] 27) = W0 at *
  clear hW
  have y0 : W0.cell? ⟨w.heap.size, 0, none⟩ = some (.int .i64 x.fx)   := by with_reducible assumption
  have y1 : W0.cell? ⟨w.heap.size, 1, none⟩ = some (.int .i64 x.fz)   := by with_reducible assumption
  have y2 : W0.cell? ⟨w.heap.size, 2, none⟩ = some (.int .i64 x.tx)   := by with_reducible assumption
  have y3 : W0.cell? ⟨w.heap.size, 3, none⟩ = some (.int .i64 x.tz)   := by with_reducible assumption
  have y4 : W0.cell? ⟨w.heap.size, 4, none⟩ = some (.int .i64 x.th)   := by with_reducible assumption
  have y5 : W0.cell? ⟨w.heap.size, 5, none⟩ = some (.int .i64 x.v1)   := by with_reducible assumption
  have y6 : W0.cell? ⟨w.heap.size, 6, none⟩ = some (.int .i64 x.v2)   := by with_reducible assumption
  have y7 : W0.cell? ⟨w.heap.size + 1, 0, none⟩ = some (.int .i64 0)   := by with_reducible assumption
  have y8 : W0.cell? ⟨w.heap.size + 1, 1, none⟩ = some (.int .i64 0)   := by with_reducible assumption
  have yf0 : W0.frozen? ⟨w.heap.size + 1, 0, none⟩ = false   := by with_reducible assumption
  have yf1 : W0.frozen? ⟨w.heap.size + 1, 1, none⟩ = false   := by with_reducible assumption
  have yB0 : Below w.heap.size w W0 := by with_reducible assumption
  have yB := Lib.hid yB0; clear yB0
  have yz0 := World.block_lt_of_cell? _ _ y0
  dsimp only at yz0
  have yz1 := World.block_lt_of_cell? _ _ y7
  dsimp only at yz1
  clear hS
  rw [HE.out]
  clear a1 a2 c1 c2 f1 f2 g1 g2
  go_wp2_with fail
  refine (HL.out _).mono ?_
  rintro e w1 ⟨rfl, hb1⟩
  have qw10 : w1.cell? ⟨w.heap.size + 1, 0, none⟩ = some (.int .i64 0) := cell_later hb1 (by simp [go_sem, World.cell?_alloc_past, World.frozen?_alloc_past, *])
  have qw11 : w1.cell? ⟨w.heap.size + 1, 1, none⟩ = some (.int .i64 0) := cell_later hb1 (by simp [go_sem, World.cell?_alloc_past, World.frozen?_alloc_past, *])
  have qw1f0 : w1.frozen? ⟨w.heap.size + 1, 0, none⟩ = false := frozen_after hb1 (v := .int .i64 0) (by simp [go_sem, World.cell?_alloc_past, World.frozen?_alloc_past, *]) (by simp [go_sem, World.cell?_alloc_past, World.frozen?_alloc_past, *])
  have qw1f1 : w1.frozen? ⟨w.heap.size + 1, 1, none⟩ = false := frozen_after hb1 (v := .int .i64 0) (by simp [go_sem, World.cell?_alloc_past, World.frozen?_alloc_past, *]) (by simp [go_sem, World.cell?_alloc_past, World.frozen?_alloc_past, *])
  have zqw1_0 := World.block_lt_of_cell? _ _ qw10
  dsimp only at zqw1_0
  have H1 : Hid (Below w.heap.size w w1) := Lib.hid (below_then (by (repeat (first | (with_reducible exact yB.out) | (with_reducible refine Below.setCell ?_ ?_ _) | (with_reducible refine below_alloc_top ?_ _) | (with_reducible refine Below.drew ?_))); all_goals (first | omega | (simp; done) | (simp; omega))) hb1); clear hb1
  go_wp2
  exact bodyPost_ret (v := .tuple #[.agg #[.int .i64 lo, .int .i64 hi], .int .i64 0]) (by simp [results, Try.results58, go_sem, World.cell?_alloc_past, *]) rfl ⟨rfl, (by (repeat (first | (with_reducible exact H1.out) | (with_reducible refine Below.setCell ?_ ?_ _) | (with_reducible refine below_alloc_top ?_ _) | (with_reducible refine Below.drew ?_))); all_goals (first | omega | (simp; done) | (simp; omega)))⟩
end Go.Proofs.Ytdicndakelgoeaa
