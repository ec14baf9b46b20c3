/- turns at the back wall: the reference -/
import Derived.Test.YtdicndakelgoeaaT1
import Derived.Test.YtdicndakelgoeaaG1
namespace Go.Proofs.Ytdicndakelgoeaa
open Go.RowKit RayM
set_option linter.unusedSimpArgs false
set_option linter.unusedVariables false
set_option maxRecDepth 100000 in
set_option maxHeartbeats 1000000 in
theorem refTurn_a (x : Tu) (r : Int) (hr : r ≠ 0) (he : fst [placeE x.fx x.fz, placeE x.tx x.tz] = r) (hv : tuE x = r) (w : World) :
    Calls Try.prog 59 #[.agg #[.int .i64 x.fx, .int .i64 x.fz, .int .i64 x.tx, .int .i64 x.tz, .int .i64 x.th, .int .i64 x.v1, .int .i64 x.v2]] w fun e w' => e = .returned (.int .i64 (tuE x)) ∧ Below w.heap.size w w' := by
  have h2 : (r != 0) = true := by simpa using hr
  have HE := Lib.hid he; have HV := Lib.hid hv; clear he hv hr
  go_enter Try.func59, Try.ntmps59
  go_wp2
  have hS : Below w.heap.size w (w.alloc (.cells #[.int .i64 x.fx, .int .i64 x.fz, .int .i64 x.tx, .int .i64 x.tz, .int .i64 x.th, .int .i64 x.v1, .int .i64 x.v2] 77)) := (by repeat (first | exact Below.refl _ _ | refine Below.drew ?_ | refine below_drewN ?_ _ | refine Below.setCell ?_ (by first | omega | (simp; done) | (simp; omega)) _ | refine Below.alloc ?_ (by first | omega | (simp; done) | (simp; omega)) _))
  go_region_held3 (fun w' => w'.cell? ⟨w.heap.size, 0, none⟩ = some (.int .i64 x.fx) ∧ w'.cell? ⟨w.heap.size, 1, none⟩ = some (.int .i64 x.fz) ∧ w'.cell? ⟨w.heap.size, 2, none⟩ = some (.int .i64 x.tx) ∧ w'.cell? ⟨w.heap.size, 3, none⟩ = some (.int .i64 x.tz) ∧ w'.cell? ⟨w.heap.size, 4, none⟩ = some (.int .i64 x.th) ∧ w'.cell? ⟨w.heap.size, 5, none⟩ = some (.int .i64 x.v1) ∧ w'.cell? ⟨w.heap.size, 6, none⟩ = some (.int .i64 x.v2) ∧ Below w.heap.size w w') (((go_split_ands; (repeat' apply And.intro) <;> first | (with_reducible assumption) | exact cell_later (by assumption) (by assumption) | exact frozen_after (by assumption) (by assumption) (by assumption) | exact below_then (by assumption) (by assumption) | exact below_alloc_top (by assumption) _ | exact cell_alloc_later (by assumption) _ | exact frozen_alloc_later (by assumption) (by assumption) _ | exact Below.drew (by assumption) | (simp [go_sem, World.cell?_alloc_past, *]; done))))
    (first
      | (go_at_call 25; refine (spotErr_any _ _ _).mono ?_; rintro e w' ⟨rfl, hb⟩)
      | (go_at_call 105; refine (firstOf_any _ [placeE x.fx x.fz, placeE x.tx x.tz] _ (by simp) (by first | exact cells_drew _ _ (by simp) _ _ | exact cells_new _ _ (by simp) _ _)).mono ?_; rintro e w' ⟨rfl, rfl⟩))
  go_split_ands
  rw [HE.out]
  go_wp2
  go_ret
  exact ⟨by rw [HV.out]; rfl, by first | (with_reducible assumption) | (with_reducible exact Below.drew (by assumption)) | (with_reducible exact below_alloc_top (by assumption) _)⟩
set_option maxRecDepth 100000 in
set_option maxHeartbeats 1000000 in
theorem refTurn_b (x : Tu) (he : fst [placeE x.fx x.fz, placeE x.tx x.tz] = 0) (w1 : inB x.th 2 20000 = false) (hv : tuE x = 2) (t0 : -20000 ≤ x.th - 1 ∨ inB x.th 2 20000 = false) (w : World) :
    Calls Try.prog 59 #[.agg #[.int .i64 x.fx, .int .i64 x.fz, .int .i64 x.tx, .int .i64 x.tz, .int .i64 x.th, .int .i64 x.v1, .int .i64 x.v2]] w fun e w' => e = .returned (.int .i64 (tuE x)) ∧ Below w.heap.size w w' := by
  have HE := Lib.hid he; have HV := Lib.hid hv; clear he hv t0
  have W1 := Lib.hid w1
  clear w1
  go_enter Try.func59, Try.ntmps59
  go_wp2
  have hS : Below w.heap.size w (w.alloc (.cells #[.int .i64 x.fx, .int .i64 x.fz, .int .i64 x.tx, .int .i64 x.tz, .int .i64 x.th, .int .i64 x.v1, .int .i64 x.v2] 77)) := (by repeat (first | exact Below.refl _ _ | refine Below.drew ?_ | refine below_drewN ?_ _ | refine Below.setCell ?_ (by first | omega | (simp; done) | (simp; omega)) _ | refine Below.alloc ?_ (by first | omega | (simp; done) | (simp; omega)) _))
  go_region_held3 (fun w' => w'.cell? ⟨w.heap.size, 0, none⟩ = some (.int .i64 x.fx) ∧ w'.cell? ⟨w.heap.size, 1, none⟩ = some (.int .i64 x.fz) ∧ w'.cell? ⟨w.heap.size, 2, none⟩ = some (.int .i64 x.tx) ∧ w'.cell? ⟨w.heap.size, 3, none⟩ = some (.int .i64 x.tz) ∧ w'.cell? ⟨w.heap.size, 4, none⟩ = some (.int .i64 x.th) ∧ w'.cell? ⟨w.heap.size, 5, none⟩ = some (.int .i64 x.v1) ∧ w'.cell? ⟨w.heap.size, 6, none⟩ = some (.int .i64 x.v2) ∧ Below w.heap.size w w') (((go_split_ands; (repeat' apply And.intro) <;> first | (with_reducible assumption) | exact cell_later (by assumption) (by assumption) | exact frozen_after (by assumption) (by assumption) (by assumption) | exact below_then (by assumption) (by assumption) | exact below_alloc_top (by assumption) _ | exact cell_alloc_later (by assumption) _ | exact frozen_alloc_later (by assumption) (by assumption) _ | exact Below.drew (by assumption) | (simp [go_sem, World.cell?_alloc_past, *]; done))))
    (first
      | (go_at_call 25; refine (spotErr_any _ _ _).mono ?_; rintro e w' ⟨rfl, hb⟩)
      | (go_at_call 105; refine (firstOf_any _ [placeE x.fx x.fz, placeE x.tx x.tz] _ (by simp) (by first | exact cells_drew _ _ (by simp) _ _ | exact cells_new _ _ (by simp) _ _)).mono ?_; rintro e w' ⟨rfl, rfl⟩))
  go_split_ands
  rw [HE.out]
  go_wp2_with (first
    | (go_at_call 43; refine (within_any _ _ _ _).mono ?_; rintro e w' ⟨rfl, rfl⟩; rw [W1.out])
    | fail)
  go_ret
  exact ⟨by rw [HV.out]; rfl, by first | (with_reducible assumption) | (with_reducible exact Below.drew (by assumption)) | (with_reducible exact below_alloc_top (by assumption) _)⟩
set_option maxRecDepth 100000 in
set_option maxHeartbeats 1000000 in
theorem refTurn_c (x : Tu) (he : fst [placeE x.fx x.fz, placeE x.tx x.tz] = 0) (w1 : inB x.th 2 20000 = true) (w2 : inB x.fz 0 (x.th - 1) = false) (hv : tuE x = 22) (t0 : -20000 ≤ x.th - 1 ∨ inB x.th 2 20000 = false) (w : World) :
    Calls Try.prog 59 #[.agg #[.int .i64 x.fx, .int .i64 x.fz, .int .i64 x.tx, .int .i64 x.tz, .int .i64 x.th, .int .i64 x.v1, .int .i64 x.v2]] w fun e w' => e = .returned (.int .i64 (tuE x)) ∧ Below w.heap.size w w' := by
  have HE := Lib.hid he; have HV := Lib.hid hv; clear he hv t0
  have th0 := ((inB_iff _ _ _).1 w1).1; have th1 := ((inB_iff _ _ _).1 w1).2
  have W1 := Lib.hid w1
  have W2 := Lib.hid w2
  clear w1 w2
  go_enter Try.func59, Try.ntmps59
  go_wp2
  have hS : Below w.heap.size w (w.alloc (.cells #[.int .i64 x.fx, .int .i64 x.fz, .int .i64 x.tx, .int .i64 x.tz, .int .i64 x.th, .int .i64 x.v1, .int .i64 x.v2] 77)) := (by repeat (first | exact Below.refl _ _ | refine Below.drew ?_ | refine below_drewN ?_ _ | refine Below.setCell ?_ (by first | omega | (simp; done) | (simp; omega)) _ | refine Below.alloc ?_ (by first | omega | (simp; done) | (simp; omega)) _))
  go_region_held3 (fun w' => w'.cell? ⟨w.heap.size, 0, none⟩ = some (.int .i64 x.fx) ∧ w'.cell? ⟨w.heap.size, 1, none⟩ = some (.int .i64 x.fz) ∧ w'.cell? ⟨w.heap.size, 2, none⟩ = some (.int .i64 x.tx) ∧ w'.cell? ⟨w.heap.size, 3, none⟩ = some (.int .i64 x.tz) ∧ w'.cell? ⟨w.heap.size, 4, none⟩ = some (.int .i64 x.th) ∧ w'.cell? ⟨w.heap.size, 5, none⟩ = some (.int .i64 x.v1) ∧ w'.cell? ⟨w.heap.size, 6, none⟩ = some (.int .i64 x.v2) ∧ Below w.heap.size w w') (((go_split_ands; (repeat' apply And.intro) <;> first | (with_reducible assumption) | exact cell_later (by assumption) (by assumption) | exact frozen_after (by assumption) (by assumption) (by assumption) | exact below_then (by assumption) (by assumption) | exact below_alloc_top (by assumption) _ | exact cell_alloc_later (by assumption) _ | exact frozen_alloc_later (by assumption) (by assumption) _ | exact Below.drew (by assumption) | (simp [go_sem, World.cell?_alloc_past, *]; done))))
    (first
      | (go_at_call 25; refine (spotErr_any _ _ _).mono ?_; rintro e w' ⟨rfl, hb⟩)
      | (go_at_call 105; refine (firstOf_any _ [placeE x.fx x.fz, placeE x.tx x.tz] _ (by simp) (by first | exact cells_drew _ _ (by simp) _ _ | exact cells_new _ _ (by simp) _ _)).mono ?_; rintro e w' ⟨rfl, rfl⟩))
  go_split_ands
  rw [HE.out]
  go_wp2_with (first
    | (go_at_call 43; refine (within_any _ _ _ _).mono ?_; rintro e w' ⟨rfl, rfl⟩; rw [W1.out])
    | (go_at_call 43; refine (within_any _ _ _ _).mono ?_; rintro e w' ⟨rfl, rfl⟩; rw [W2.out])
    | fail)
  go_ret
  exact ⟨by rw [HV.out]; rfl, by first | (with_reducible assumption) | (with_reducible exact Below.drew (by assumption)) | (with_reducible exact below_alloc_top (by assumption) _)⟩
set_option maxRecDepth 100000 in
set_option maxHeartbeats 1000000 in
theorem refTurn_d (x : Tu) (he : fst [placeE x.fx x.fz, placeE x.tx x.tz] = 0) (w1 : inB x.th 2 20000 = true) (w2 : inB x.fz 0 (x.th - 1) = true) (w3 : inB x.tz 0 (x.th - 1) = false) (hv : tuE x = 22) (t0 : -20000 ≤ x.th - 1 ∨ inB x.th 2 20000 = false) (w : World) :
    Calls Try.prog 59 #[.agg #[.int .i64 x.fx, .int .i64 x.fz, .int .i64 x.tx, .int .i64 x.tz, .int .i64 x.th, .int .i64 x.v1, .int .i64 x.v2]] w fun e w' => e = .returned (.int .i64 (tuE x)) ∧ Below w.heap.size w w' := by
  have HE := Lib.hid he; have HV := Lib.hid hv; clear he hv t0
  have th0 := ((inB_iff _ _ _).1 w1).1; have th1 := ((inB_iff _ _ _).1 w1).2
  have W1 := Lib.hid w1
  have W2 := Lib.hid w2
  have W3 := Lib.hid w3
  clear w1 w2 w3
  go_enter Try.func59, Try.ntmps59
  go_wp2
  have hS : Below w.heap.size w (w.alloc (.cells #[.int .i64 x.fx, .int .i64 x.fz, .int .i64 x.tx, .int .i64 x.tz, .int .i64 x.th, .int .i64 x.v1, .int .i64 x.v2] 77)) := (by repeat (first | exact Below.refl _ _ | refine Below.drew ?_ | refine below_drewN ?_ _ | refine Below.setCell ?_ (by first | omega | (simp; done) | (simp; omega)) _ | refine Below.alloc ?_ (by first | omega | (simp; done) | (simp; omega)) _))
  go_region_held3 (fun w' => w'.cell? ⟨w.heap.size, 0, none⟩ = some (.int .i64 x.fx) ∧ w'.cell? ⟨w.heap.size, 1, none⟩ = some (.int .i64 x.fz) ∧ w'.cell? ⟨w.heap.size, 2, none⟩ = some (.int .i64 x.tx) ∧ w'.cell? ⟨w.heap.size, 3, none⟩ = some (.int .i64 x.tz) ∧ w'.cell? ⟨w.heap.size, 4, none⟩ = some (.int .i64 x.th) ∧ w'.cell? ⟨w.heap.size, 5, none⟩ = some (.int .i64 x.v1) ∧ w'.cell? ⟨w.heap.size, 6, none⟩ = some (.int .i64 x.v2) ∧ Below w.heap.size w w') (((go_split_ands; (repeat' apply And.intro) <;> first | (with_reducible assumption) | exact cell_later (by assumption) (by assumption) | exact frozen_after (by assumption) (by assumption) (by assumption) | exact below_then (by assumption) (by assumption) | exact below_alloc_top (by assumption) _ | exact cell_alloc_later (by assumption) _ | exact frozen_alloc_later (by assumption) (by assumption) _ | exact Below.drew (by assumption) | (simp [go_sem, World.cell?_alloc_past, *]; done))))
    (first
      | (go_at_call 25; refine (spotErr_any _ _ _).mono ?_; rintro e w' ⟨rfl, hb⟩)
      | (go_at_call 105; refine (firstOf_any _ [placeE x.fx x.fz, placeE x.tx x.tz] _ (by simp) (by first | exact cells_drew _ _ (by simp) _ _ | exact cells_new _ _ (by simp) _ _)).mono ?_; rintro e w' ⟨rfl, rfl⟩))
  go_split_ands
  rw [HE.out]
  go_wp2_with (first
    | (go_at_call 43; refine (within_any _ _ _ _).mono ?_; rintro e w' ⟨rfl, rfl⟩; rw [W1.out])
    | (go_at_call 43; refine (within_any _ _ _ _).mono ?_; rintro e w' ⟨rfl, rfl⟩; rw [W2.out])
    | (go_at_call 43; refine (within_any _ _ _ _).mono ?_; rintro e w' ⟨rfl, rfl⟩; rw [W3.out])
    | fail)
  go_ret
  exact ⟨by rw [HV.out]; rfl, by first | (with_reducible assumption) | (with_reducible exact Below.drew (by assumption)) | (with_reducible exact below_alloc_top (by assumption) _)⟩
set_option maxRecDepth 100000 in
set_option maxHeartbeats 1000000 in
theorem refTurn_e (x : Tu) (he : fst [placeE x.fx x.fz, placeE x.tx x.tz] = 0) (w1 : inB x.th 2 20000 = true) (w2 : inB x.fz 0 (x.th - 1) = true) (w3 : inB x.tz 0 (x.th - 1) = true) (hv : tuE x = fst [unl (inB x.v1 500 10000) 2, unl (inB x.v2 500 10000) 2]) (w : World) :
    Calls Try.prog 59 #[.agg #[.int .i64 x.fx, .int .i64 x.fz, .int .i64 x.tx, .int .i64 x.tz, .int .i64 x.th, .int .i64 x.v1, .int .i64 x.v2]] w fun e w' => e = .returned (.int .i64 (tuE x)) ∧ Below w.heap.size w w' := by
  have HE := Lib.hid he; have HV := Lib.hid hv; clear he hv
  have th0 := ((inB_iff _ _ _).1 w1).1; have th1 := ((inB_iff _ _ _).1 w1).2
  have W1 := Lib.hid w1
  have W2 := Lib.hid w2
  have W3 := Lib.hid w3
  clear w1 w2 w3
  go_enter Try.func59, Try.ntmps59
  go_wp2
  have hS : Below w.heap.size w (w.alloc (.cells #[.int .i64 x.fx, .int .i64 x.fz, .int .i64 x.tx, .int .i64 x.tz, .int .i64 x.th, .int .i64 x.v1, .int .i64 x.v2] 77)) := (by repeat (first | exact Below.refl _ _ | refine Below.drew ?_ | refine below_drewN ?_ _ | refine Below.setCell ?_ (by first | omega | (simp; done) | (simp; omega)) _ | refine Below.alloc ?_ (by first | omega | (simp; done) | (simp; omega)) _))
  go_region_held3 (fun w' => w'.cell? ⟨w.heap.size, 0, none⟩ = some (.int .i64 x.fx) ∧ w'.cell? ⟨w.heap.size, 1, none⟩ = some (.int .i64 x.fz) ∧ w'.cell? ⟨w.heap.size, 2, none⟩ = some (.int .i64 x.tx) ∧ w'.cell? ⟨w.heap.size, 3, none⟩ = some (.int .i64 x.tz) ∧ w'.cell? ⟨w.heap.size, 4, none⟩ = some (.int .i64 x.th) ∧ w'.cell? ⟨w.heap.size, 5, none⟩ = some (.int .i64 x.v1) ∧ w'.cell? ⟨w.heap.size, 6, none⟩ = some (.int .i64 x.v2) ∧ Below w.heap.size w w') (((go_split_ands; (repeat' apply And.intro) <;> first | (with_reducible assumption) | exact cell_later (by assumption) (by assumption) | exact frozen_after (by assumption) (by assumption) (by assumption) | exact below_then (by assumption) (by assumption) | exact below_alloc_top (by assumption) _ | exact cell_alloc_later (by assumption) _ | exact frozen_alloc_later (by assumption) (by assumption) _ | exact Below.drew (by assumption) | (simp [go_sem, World.cell?_alloc_past, *]; done))))
    (first
      | (go_at_call 25; refine (spotErr_any _ _ _).mono ?_; rintro e w' ⟨rfl, hb⟩)
      | (go_at_call 105; refine (firstOf_any _ [placeE x.fx x.fz, placeE x.tx x.tz] _ (by simp) (by first | exact cells_drew _ _ (by simp) _ _ | exact cells_new _ _ (by simp) _ _)).mono ?_; rintro e w' ⟨rfl, rfl⟩))
  go_split_ands
  rw [HE.out]
  go_wp2_with (first
    | (go_at_call 43; refine (within_any _ _ _ _).mono ?_; rintro e w' ⟨rfl, rfl⟩; rw [W1.out])
    | (go_at_call 43; refine (within_any _ _ _ _).mono ?_; rintro e w' ⟨rfl, rfl⟩; rw [W2.out])
    | (go_at_call 43; refine (within_any _ _ _ _).mono ?_; rintro e w' ⟨rfl, rfl⟩; rw [W3.out])
    | fail)
  go_region_held3 (fun w' => w'.cell? ⟨w.heap.size, 0, none⟩ = some (.int .i64 x.fx) ∧ w'.cell? ⟨w.heap.size, 1, none⟩ = some (.int .i64 x.fz) ∧ w'.cell? ⟨w.heap.size, 2, none⟩ = some (.int .i64 x.tx) ∧ w'.cell? ⟨w.heap.size, 3, none⟩ = some (.int .i64 x.tz) ∧ w'.cell? ⟨w.heap.size, 4, none⟩ = some (.int .i64 x.th) ∧ w'.cell? ⟨w.heap.size, 5, none⟩ = some (.int .i64 x.v1) ∧ w'.cell? ⟨w.heap.size, 6, none⟩ = some (.int .i64 x.v2) ∧ Below w.heap.size w w') (((go_split_ands; (repeat' apply And.intro) <;> first | (with_reducible assumption) | exact cell_later (by assumption) (by assumption) | exact frozen_after (by assumption) (by assumption) (by assumption) | exact below_then (by assumption) (by assumption) | exact below_alloc_top (by assumption) _ | exact cell_alloc_later (by assumption) _ | exact frozen_alloc_later (by assumption) (by assumption) _ | exact Below.drew (by assumption) | (simp [go_sem, World.cell?_alloc_past, *]; done))))
    (first
      | (go_at_call 27; refine (speedErr_any _ _).mono ?_; rintro e w' ⟨rfl, rfl⟩)
      | (go_at_call 105; refine (firstOf_any _ [unl (inB x.v1 500 10000) 2, unl (inB x.v2 500 10000) 2] _ (by simp) (by first | exact cells_drew _ _ (by simp) _ _ | exact cells_new _ _ (by simp) _ _)).mono ?_; rintro e w' ⟨rfl, rfl⟩))
  go_split_ands
  go_wp2
  go_ret
  exact ⟨by rw [HV.out]; rfl, by first | (with_reducible assumption) | (with_reducible exact Below.drew (by assumption)) | (with_reducible exact below_alloc_top (by assumption) _)⟩
theorem refTurnErr_any (x : Tu) (w : World) :
    Calls Try.prog 59 #[.agg #[.int .i64 x.fx, .int .i64 x.fz, .int .i64 x.tx, .int .i64 x.tz, .int .i64 x.th, .int .i64 x.v1, .int .i64 x.v2]] w fun e w' => e = .returned (.int .i64 (tuE x)) ∧ Below w.heap.size w w' := by
  by_cases h : fst [placeE x.fx x.fz, placeE x.tx x.tz] = 0
  · have hv : tuE x = fst [unl (inB x.th 2 20000) 2, unl (tuB x.fz x.th) 22, unl (tuB x.tz x.th) 22, unl (inB x.v1 500 10000) 2, unl (inB x.v2 500 10000) 2] := by unfold tuE; exact fst_two_zero _ _ _ h
    cases hw : inB x.th 2 20000
    · exact refTurn_b x h hw (by rw [hv, hw]; rfl) (.inr hw) w
    · have t2 := ((inB_iff _ _ _).1 hw).1
      have e1 : tuB x.fz x.th = inB x.fz 0 (x.th - 1) := Bool.eq_iff_iff.2 (by rw [tuB_iff _ _ t2, inB_iff]; omega)
      have e2 : tuB x.tz x.th = inB x.tz 0 (x.th - 1) := Bool.eq_iff_iff.2 (by rw [tuB_iff _ _ t2, inB_iff]; omega)
      rw [hw, e1, e2] at hv
      cases h2 : inB x.fz 0 (x.th - 1)
      · exact refTurn_c x h hw h2 (by rw [hv, h2]; rfl) (.inl (by omega)) w
      · cases h3 : inB x.tz 0 (x.th - 1)
        · exact refTurn_d x h hw h2 h3 (by rw [hv, h2, h3]; rfl) (.inl (by omega)) w
        · exact refTurn_e x h hw h2 h3 (by rw [hv, h2, h3]; rfl) w
  · exact refTurn_a x _ h rfl (by unfold tuE; exact fst_two_more _ _ _ h) w
set_option maxRecDepth 100000 in
set_option maxHeartbeats 1000000 in
theorem refTurned_any (x : Tu) (o : x.ok) (w : World) :
    Calls Try.prog 60 #[.agg #[.int .i64 x.fx, .int .i64 x.fz, .int .i64 x.tx, .int .i64 x.tz, .int .i64 x.th, .int .i64 x.v1, .int .i64 x.v2]] w fun e w' => e = .returned (.agg #[.int .i64 x.cr.lLo, .int .i64 x.cr.lHi]) ∧ Below w.heap.size w w' := by
  have HL : Hid (∀ w, Calls Try.prog 41 #[.agg #[.int .i64 x.fx, .int .i64 (x.th - x.fz), .int .i64 x.v1, .int .i64 x.tx, .int .i64 (x.th - x.tz), .int .i64 x.v2]] w fun e w' => e = .returned (.agg #[.int .i64 x.cr.lLo, .int .i64 x.cr.lHi]) ∧ Below w.heap.size w w') := Lib.hid (fun w => refLeast_any x.cr (tu_cr_ok x o) w)
  obtain ⟨a1, a2, b1, b2, c1, c2, d1, d2, e1, e2, f1, f2, g1, g2⟩ := o
  generalize x.cr.lLo = lo at *
  generalize x.cr.lHi = hi at *
  clear a1 a2 c1 c2 f1 f2 g1 g2
  go_enter Try.func60, Try.ntmps60
  go_wp2_with fail
  refine (HL.out _).mono ?_
  rintro e w1 ⟨rfl, hb1⟩
  have qw10 : w1.cell? ⟨w.heap.size + 1, 0, none⟩ = some (.int .i64 0) := cell_later hb1 (by simp [go_sem])
  have qw11 : w1.cell? ⟨w.heap.size + 1, 1, none⟩ = some (.int .i64 0) := cell_later hb1 (by simp [go_sem])
  have qw1f0 : w1.frozen? ⟨w.heap.size + 1, 0, none⟩ = false := frozen_after hb1 (v := .int .i64 0) (by simp [go_sem]) (by simp [go_sem])
  have qw1f1 : w1.frozen? ⟨w.heap.size + 1, 1, none⟩ = false := frozen_after hb1 (v := .int .i64 0) (by simp [go_sem]) (by simp [go_sem])
  have zqw1_0 := World.block_lt_of_cell? _ _ qw10
  dsimp only at zqw1_0
  have H1 : Hid (Below w.heap.size w w1) := Lib.hid (below_after (by repeat (first | exact Below.refl _ _ | refine Below.drew ?_ | refine below_drewN ?_ _ | refine Below.setCell ?_ (by first | omega | (simp; done) | (simp; omega)) _ | refine Below.alloc ?_ (by first | omega | (simp; done) | (simp; omega)) _)) hb1 (by first | omega | (simp; done) | (simp; omega))); clear hb1
  go_wp2
  exact bodyPost_ret (v := .agg #[.int .i64 lo, .int .i64 hi]) (by simp [results, Try.results60, go_sem, World.cell?_alloc_past, *]) rfl ⟨rfl, (by (repeat (first | (with_reducible exact H1.out) | (with_reducible refine Below.setCell ?_ ?_ _) | (with_reducible refine below_alloc_top ?_ _) | (with_reducible refine Below.drew ?_))); all_goals (first | omega | (simp; done) | (simp; omega)))⟩
end Go.Proofs.Ytdicndakelgoeaa
