/- the crossing of a way -/
import Derived.Test.YtnckfbejgkdhhaaGreatDoorB1
namespace Go.Proofs.YtnckfbejgkdhhaaGreatDoor
open Go.RowKit RayM
set_option linter.unusedSimpArgs false
set_option linter.unusedVariables false

set_option maxRecDepth 100000 in
set_option maxHeartbeats 1000000 in
/-- CrossOf -/
theorem crossOf_ok (x : Wy) (o : x.ok) (w : World) :
    Calls Tryz.prog 88 #[.agg #[.int .i64 x.m.wd, .int .i64 x.m.mt, .int .i64 x.m.sk, .int .i64 x.m.th], .agg #[.int .i64 x.fx, .int .i64 x.fz], .agg #[.int .i64 x.tx, .int .i64 x.tz]] w fun e w' => e = .returned (.tuple #[.agg #[.int .i64 x.fx, .int .i64 (-x.fz), .int .i64 x.m.wd, .int .i64 x.tx, .int .i64 (x.m.unf x.tz), .int .i64 x.m.mt], .int .i64 0]) ∧ Below w.heap.size w w' := by
  have hz : fst [moE x.m, waE x] = 0 := (wyE_ok x).2 o
  have HZ := Lib.hid hz; clear hz
  have HU := Lib.hid (fun w => unfoldedDepth_any x.m o.m x.tz w o.d1 o.d2)
  have e1 := Lib.hid (show IntKind.i64.wrap (-x.fz) = -x.fz from IntWalk.i64_in _ (by have := o.b1; have := o.b2; omega))
  go_enter Tryz.func88, Tryz.ntmps88
  go_wp2
  have hS : Below w.heap.size w ((((w.alloc (.cells #[.int .i64 x.m.wd, .int .i64 x.m.mt, .int .i64 x.m.sk, .int .i64 x.m.th] 40)).alloc (.cells #[.int .i64 x.fx, .int .i64 x.fz] 45)).alloc (.cells #[.int .i64 x.tx, .int .i64 x.tz] 45)).alloc (.cells #[.int .i64 0, .int .i64 0, .int .i64 0, .int .i64 0, .int .i64 0, .int .i64 0] 131)) := (by repeat (first | exact Below.refl _ _ | refine Below.drew ?_ | refine below_drewN ?_ _ | refine Below.setCell ?_ (by first | omega | (simp; done) | (simp; omega)) _ | refine Below.alloc ?_ (by first | omega | (simp; done) | (simp; omega)) _))
  go_region_held3 (fun w' => w'.cell? ⟨w.heap.size, 0, none⟩ = some (.int .i64 x.m.wd) ∧ w'.cell? ⟨w.heap.size, 1, none⟩ = some (.int .i64 x.m.mt) ∧ w'.cell? ⟨w.heap.size, 2, none⟩ = some (.int .i64 x.m.sk) ∧ w'.cell? ⟨w.heap.size, 3, none⟩ = some (.int .i64 x.m.th) ∧ w'.cell? ⟨w.heap.size + 1, 0, none⟩ = some (.int .i64 x.fx) ∧ w'.cell? ⟨w.heap.size + 1, 1, none⟩ = some (.int .i64 x.fz) ∧ w'.cell? ⟨w.heap.size + 1 + 1, 0, none⟩ = some (.int .i64 x.tx) ∧ w'.cell? ⟨w.heap.size + 1 + 1, 1, none⟩ = some (.int .i64 x.tz) ∧ w'.cell? ⟨w.heap.size + 1 + 1 + 1, 0, none⟩ = some (.int .i64 0) ∧ w'.cell? ⟨w.heap.size + 1 + 1 + 1, 1, none⟩ = some (.int .i64 0) ∧ w'.cell? ⟨w.heap.size + 1 + 1 + 1, 2, none⟩ = some (.int .i64 0) ∧ w'.cell? ⟨w.heap.size + 1 + 1 + 1, 3, none⟩ = some (.int .i64 0) ∧ w'.cell? ⟨w.heap.size + 1 + 1 + 1, 4, none⟩ = some (.int .i64 0) ∧ w'.cell? ⟨w.heap.size + 1 + 1 + 1, 5, none⟩ = some (.int .i64 0) ∧ w'.frozen? ⟨w.heap.size + 1 + 1 + 1, 0, none⟩ = false ∧ w'.frozen? ⟨w.heap.size + 1 + 1 + 1, 1, none⟩ = false ∧ w'.frozen? ⟨w.heap.size + 1 + 1 + 1, 2, none⟩ = false ∧ w'.frozen? ⟨w.heap.size + 1 + 1 + 1, 3, none⟩ = false ∧ w'.frozen? ⟨w.heap.size + 1 + 1 + 1, 4, none⟩ = false ∧ w'.frozen? ⟨w.heap.size + 1 + 1 + 1, 5, none⟩ = false ∧ Below w.heap.size w w') ((go_split_ands; (repeat' apply And.intro) <;> first | (with_reducible assumption) | exact cell_later (by assumption) (by assumption) | exact frozen_after (by assumption) (by assumption) (by assumption) | exact below_then (by assumption) (by assumption) | exact below_alloc_top (by assumption) _ | exact cell_alloc_later (by assumption) _ | exact frozen_alloc_later (by assumption) (by assumption) _ | exact Below.drew (by assumption) | (simp [go_sem, World.cell?_alloc_past, *]; done)))
    (first
      | (go_at_call 68; refine (checkMode_any x.m _).mono ?_; rintro e w' ⟨rfl, hb⟩)
      | (go_at_call 110; refine (wayError_any x _).mono ?_; rintro e w' ⟨rfl, hb⟩)
      | (go_at_call 22; refine (firstError_any _ [moE x.m, waE x] _ (by simp) (by first | exact cells_drew _ _ (by simp) _ _ | exact cells_new _ _ (by simp) _ _)).mono ?_; rintro e w' ⟨rfl, rfl⟩))
  go_split_ands
  generalize hW : w'.alloc (Obj.cells #[.int .i64 (moE x.m), .int .i64 (waE x)] 29) = W0 at *
  clear hW
  have y0 : W0.cell? ⟨w.heap.size, 0, none⟩ = some (.int .i64 x.m.wd)   := by with_reducible assumption
  have y1 : W0.cell? ⟨w.heap.size, 1, none⟩ = some (.int .i64 x.m.mt)   := by with_reducible assumption
  have y2 : W0.cell? ⟨w.heap.size, 2, none⟩ = some (.int .i64 x.m.sk)   := by with_reducible assumption
  have y3 : W0.cell? ⟨w.heap.size, 3, none⟩ = some (.int .i64 x.m.th)   := by with_reducible assumption
  have y4 : W0.cell? ⟨w.heap.size + 1, 0, none⟩ = some (.int .i64 x.fx)   := by with_reducible assumption
  have y5 : W0.cell? ⟨w.heap.size + 1, 1, none⟩ = some (.int .i64 x.fz)   := by with_reducible assumption
  have y6 : W0.cell? ⟨w.heap.size + 1 + 1, 0, none⟩ = some (.int .i64 x.tx)   := by with_reducible assumption
  have y7 : W0.cell? ⟨w.heap.size + 1 + 1, 1, none⟩ = some (.int .i64 x.tz)   := by with_reducible assumption
  have y8 : W0.cell? ⟨w.heap.size + 1 + 1 + 1, 0, none⟩ = some (.int .i64 0)   := by with_reducible assumption
  have y9 : W0.cell? ⟨w.heap.size + 1 + 1 + 1, 1, none⟩ = some (.int .i64 0)   := by with_reducible assumption
  have y10 : W0.cell? ⟨w.heap.size + 1 + 1 + 1, 2, none⟩ = some (.int .i64 0)   := by with_reducible assumption
  have y11 : W0.cell? ⟨w.heap.size + 1 + 1 + 1, 3, none⟩ = some (.int .i64 0)   := by with_reducible assumption
  have y12 : W0.cell? ⟨w.heap.size + 1 + 1 + 1, 4, none⟩ = some (.int .i64 0)   := by with_reducible assumption
  have y13 : W0.cell? ⟨w.heap.size + 1 + 1 + 1, 5, none⟩ = some (.int .i64 0)   := by with_reducible assumption
  have yf0 : W0.frozen? ⟨w.heap.size + 1 + 1 + 1, 0, none⟩ = false   := by with_reducible assumption
  have yf1 : W0.frozen? ⟨w.heap.size + 1 + 1 + 1, 1, none⟩ = false   := by with_reducible assumption
  have yf2 : W0.frozen? ⟨w.heap.size + 1 + 1 + 1, 2, none⟩ = false   := by with_reducible assumption
  have yf3 : W0.frozen? ⟨w.heap.size + 1 + 1 + 1, 3, none⟩ = false   := by with_reducible assumption
  have yf4 : W0.frozen? ⟨w.heap.size + 1 + 1 + 1, 4, none⟩ = false   := by with_reducible assumption
  have yf5 : W0.frozen? ⟨w.heap.size + 1 + 1 + 1, 5, none⟩ = false   := by with_reducible assumption
  have yB0 : Below w.heap.size w W0 := by with_reducible assumption
  have yB := Lib.hid yB0; clear yB0
  have yz0 := World.block_lt_of_cell? _ _ y0
  have yz1 := World.block_lt_of_cell? _ _ y4
  have yz2 := World.block_lt_of_cell? _ _ y6
  have yz3 := World.block_lt_of_cell? _ _ y8
  dsimp only at yz0 yz1 yz2 yz3
  clear hb hS
  rw [HZ.out]
  have e2 := e1.out
  go_wp2
  go_region_held3 (fun w' => w'.cell? ⟨w.heap.size, 0, none⟩ = some (.int .i64 x.m.wd) ∧ w'.cell? ⟨w.heap.size, 1, none⟩ = some (.int .i64 x.m.mt) ∧ w'.cell? ⟨w.heap.size, 2, none⟩ = some (.int .i64 x.m.sk) ∧ w'.cell? ⟨w.heap.size, 3, none⟩ = some (.int .i64 x.m.th) ∧ w'.cell? ⟨w.heap.size + 1, 0, none⟩ = some (.int .i64 x.fx) ∧ w'.cell? ⟨w.heap.size + 1, 1, none⟩ = some (.int .i64 x.fz) ∧ w'.cell? ⟨w.heap.size + 1 + 1, 0, none⟩ = some (.int .i64 x.tx) ∧ w'.cell? ⟨w.heap.size + 1 + 1, 1, none⟩ = some (.int .i64 x.tz)) ((simp [go_sem, World.cell?_alloc_past, y0, y1, y2, y3, y4, y5, y6, y7, yz0, yz1, yz2, yz3]))
    ((go_at_call 111; refine (HU.out _).mono ?_; rintro e w' ⟨rfl, rfl⟩))
  go_wp2
  exact bodyPost_ret (v := .tuple #[.agg #[.int .i64 x.fx, .int .i64 (-x.fz), .int .i64 x.m.wd, .int .i64 x.tx, .int .i64 (x.m.unf x.tz), .int .i64 x.m.mt], .int .i64 0]) (by simp [results, Tryz.results88, go_sem, y8, y9, y10, y11, y12, y13, yz3]) rfl ⟨rfl, (by (repeat (first | (with_reducible exact yB.out) | (with_reducible refine Below.setCell ?_ ?_ _) | (with_reducible refine below_alloc_top ?_ _) | (with_reducible refine Below.drew ?_))); all_goals (first | omega | (simp; done) | (simp; omega)))⟩
set_option maxRecDepth 100000 in
set_option maxHeartbeats 1000000 in
theorem crossOf_bad (x : Wy) (h : wyE x ≠ 0) (w : World) :
    Calls Tryz.prog 88 #[.agg #[.int .i64 x.m.wd, .int .i64 x.m.mt, .int .i64 x.m.sk, .int .i64 x.m.th], .agg #[.int .i64 x.fx, .int .i64 x.fz], .agg #[.int .i64 x.tx, .int .i64 x.tz]] w fun e w' => e = .returned (.tuple #[.agg #[.int .i64 0, .int .i64 0, .int .i64 0, .int .i64 0, .int .i64 0, .int .i64 0], .int .i64 (wyE x)]) ∧ Below w.heap.size w w' := by
  have h2 : (wyE x != 0) = true := by simpa using h
  have he : fst [moE x.m, waE x] = wyE x := rfl
  have HE := Lib.hid he; clear he h
  go_enter Tryz.func88, Tryz.ntmps88
  go_wp2
  have hS : Below w.heap.size w ((((w.alloc (.cells #[.int .i64 x.m.wd, .int .i64 x.m.mt, .int .i64 x.m.sk, .int .i64 x.m.th] 40)).alloc (.cells #[.int .i64 x.fx, .int .i64 x.fz] 45)).alloc (.cells #[.int .i64 x.tx, .int .i64 x.tz] 45)).alloc (.cells #[.int .i64 0, .int .i64 0, .int .i64 0, .int .i64 0, .int .i64 0, .int .i64 0] 131)) := (by repeat (first | exact Below.refl _ _ | refine Below.drew ?_ | refine below_drewN ?_ _ | refine Below.setCell ?_ (by first | omega | (simp; done) | (simp; omega)) _ | refine Below.alloc ?_ (by first | omega | (simp; done) | (simp; omega)) _))
  go_region_held3 (fun w' => w'.cell? ⟨w.heap.size, 0, none⟩ = some (.int .i64 x.m.wd) ∧ w'.cell? ⟨w.heap.size, 1, none⟩ = some (.int .i64 x.m.mt) ∧ w'.cell? ⟨w.heap.size, 2, none⟩ = some (.int .i64 x.m.sk) ∧ w'.cell? ⟨w.heap.size, 3, none⟩ = some (.int .i64 x.m.th) ∧ w'.cell? ⟨w.heap.size + 1, 0, none⟩ = some (.int .i64 x.fx) ∧ w'.cell? ⟨w.heap.size + 1, 1, none⟩ = some (.int .i64 x.fz) ∧ w'.cell? ⟨w.heap.size + 1 + 1, 0, none⟩ = some (.int .i64 x.tx) ∧ w'.cell? ⟨w.heap.size + 1 + 1, 1, none⟩ = some (.int .i64 x.tz) ∧ w'.cell? ⟨w.heap.size + 1 + 1 + 1, 0, none⟩ = some (.int .i64 0) ∧ w'.cell? ⟨w.heap.size + 1 + 1 + 1, 1, none⟩ = some (.int .i64 0) ∧ w'.cell? ⟨w.heap.size + 1 + 1 + 1, 2, none⟩ = some (.int .i64 0) ∧ w'.cell? ⟨w.heap.size + 1 + 1 + 1, 3, none⟩ = some (.int .i64 0) ∧ w'.cell? ⟨w.heap.size + 1 + 1 + 1, 4, none⟩ = some (.int .i64 0) ∧ w'.cell? ⟨w.heap.size + 1 + 1 + 1, 5, none⟩ = some (.int .i64 0) ∧ w'.frozen? ⟨w.heap.size + 1 + 1 + 1, 0, none⟩ = false ∧ w'.frozen? ⟨w.heap.size + 1 + 1 + 1, 1, none⟩ = false ∧ w'.frozen? ⟨w.heap.size + 1 + 1 + 1, 2, none⟩ = false ∧ w'.frozen? ⟨w.heap.size + 1 + 1 + 1, 3, none⟩ = false ∧ w'.frozen? ⟨w.heap.size + 1 + 1 + 1, 4, none⟩ = false ∧ w'.frozen? ⟨w.heap.size + 1 + 1 + 1, 5, none⟩ = false ∧ Below w.heap.size w w') ((go_split_ands; (repeat' apply And.intro) <;> first | (with_reducible assumption) | exact cell_later (by assumption) (by assumption) | exact frozen_after (by assumption) (by assumption) (by assumption) | exact below_then (by assumption) (by assumption) | exact below_alloc_top (by assumption) _ | exact cell_alloc_later (by assumption) _ | exact frozen_alloc_later (by assumption) (by assumption) _ | exact Below.drew (by assumption) | (simp [go_sem, World.cell?_alloc_past, *]; done)))
    (first
      | (go_at_call 68; refine (checkMode_any x.m _).mono ?_; rintro e w' ⟨rfl, hb⟩)
      | (go_at_call 110; refine (wayError_any x _).mono ?_; rintro e w' ⟨rfl, hb⟩)
      | (go_at_call 22; refine (firstError_any _ [moE x.m, waE x] _ (by simp) (by first | exact cells_drew _ _ (by simp) _ _ | exact cells_new _ _ (by simp) _ _)).mono ?_; rintro e w' ⟨rfl, rfl⟩))
  go_split_ands
  generalize hW : w'.alloc (Obj.cells #[.int .i64 (moE x.m), .int .i64 (waE x)] 29) = W0 at *
  clear hW
  have y0 : W0.cell? ⟨w.heap.size, 0, none⟩ = some (.int .i64 x.m.wd)   := by with_reducible assumption
  have y1 : W0.cell? ⟨w.heap.size, 1, none⟩ = some (.int .i64 x.m.mt)   := by with_reducible assumption
  have y2 : W0.cell? ⟨w.heap.size, 2, none⟩ = some (.int .i64 x.m.sk)   := by with_reducible assumption
  have y3 : W0.cell? ⟨w.heap.size, 3, none⟩ = some (.int .i64 x.m.th)   := by with_reducible assumption
  have y4 : W0.cell? ⟨w.heap.size + 1, 0, none⟩ = some (.int .i64 x.fx)   := by with_reducible assumption
  have y5 : W0.cell? ⟨w.heap.size + 1, 1, none⟩ = some (.int .i64 x.fz)   := by with_reducible assumption
  have y6 : W0.cell? ⟨w.heap.size + 1 + 1, 0, none⟩ = some (.int .i64 x.tx)   := by with_reducible assumption
  have y7 : W0.cell? ⟨w.heap.size + 1 + 1, 1, none⟩ = some (.int .i64 x.tz)   := by with_reducible assumption
  have y8 : W0.cell? ⟨w.heap.size + 1 + 1 + 1, 0, none⟩ = some (.int .i64 0)   := by with_reducible assumption
  have y9 : W0.cell? ⟨w.heap.size + 1 + 1 + 1, 1, none⟩ = some (.int .i64 0)   := by with_reducible assumption
  have y10 : W0.cell? ⟨w.heap.size + 1 + 1 + 1, 2, none⟩ = some (.int .i64 0)   := by with_reducible assumption
  have y11 : W0.cell? ⟨w.heap.size + 1 + 1 + 1, 3, none⟩ = some (.int .i64 0)   := by with_reducible assumption
  have y12 : W0.cell? ⟨w.heap.size + 1 + 1 + 1, 4, none⟩ = some (.int .i64 0)   := by with_reducible assumption
  have y13 : W0.cell? ⟨w.heap.size + 1 + 1 + 1, 5, none⟩ = some (.int .i64 0)   := by with_reducible assumption
  have yf0 : W0.frozen? ⟨w.heap.size + 1 + 1 + 1, 0, none⟩ = false   := by with_reducible assumption
  have yf1 : W0.frozen? ⟨w.heap.size + 1 + 1 + 1, 1, none⟩ = false   := by with_reducible assumption
  have yf2 : W0.frozen? ⟨w.heap.size + 1 + 1 + 1, 2, none⟩ = false   := by with_reducible assumption
  have yf3 : W0.frozen? ⟨w.heap.size + 1 + 1 + 1, 3, none⟩ = false   := by with_reducible assumption
  have yf4 : W0.frozen? ⟨w.heap.size + 1 + 1 + 1, 4, none⟩ = false   := by with_reducible assumption
  have yf5 : W0.frozen? ⟨w.heap.size + 1 + 1 + 1, 5, none⟩ = false   := by with_reducible assumption
  have yB0 : Below w.heap.size w W0 := by with_reducible assumption
  have yB := Lib.hid yB0; clear yB0
  have yz0 := World.block_lt_of_cell? _ _ y0
  have yz1 := World.block_lt_of_cell? _ _ y4
  have yz2 := World.block_lt_of_cell? _ _ y6
  have yz3 := World.block_lt_of_cell? _ _ y8
  dsimp only at yz0 yz1 yz2 yz3
  clear hb hS
  rw [HE.out]
  go_wp2
  exact bodyPost_ret (v := .tuple #[.agg #[.int .i64 0, .int .i64 0, .int .i64 0, .int .i64 0, .int .i64 0, .int .i64 0], .int .i64 (wyE x)]) (by simp [results, Tryz.results88, go_sem, y8, y9, y10, y11, y12, y13, yz3]) rfl ⟨rfl, (by (repeat (first | (with_reducible exact yB.out) | (with_reducible refine Below.setCell ?_ ?_ _) | (with_reducible refine below_alloc_top ?_ _) | (with_reducible refine Below.drew ?_))); all_goals (first | omega | (simp; done) | (simp; omega)))⟩
end Go.Proofs.YtnckfbejgkdhhaaGreatDoor
