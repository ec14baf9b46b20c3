/- modes -/
import Derived.Test.YtnckfbejgkdhhaaGreatDoorA9
namespace Go.Proofs.YtnckfbejgkdhhaaGreatDoor
open Go.RowKit RayM
set_option linter.unusedSimpArgs false
set_option linter.unusedVariables false

theorem below_alloc_top {w w0 : World} (h : Below w.heap.size w w0) (o : Obj) : Below w.heap.size w (w0.alloc o) := h.alloc h.size o
theorem cell_alloc_later {w : World} {a : Addr} {v : Value} (h : w.cell? a = some v) (o : Obj) : (w.alloc o).cell? a = some v := by
  rw [World.cell?_alloc_lt _ _ _ (World.block_lt_of_cell? _ _ h)]; exact h
theorem frozen_alloc_later {w : World} {a : Addr} {v : Value} (h : w.cell? a = some v) (hf : w.frozen? a = false) (o : Obj) : (w.alloc o).frozen? a = false := by
  exact frozen_after ((Below.refl _ _).alloc (Nat.le_refl _) o) h hf
structure Mo where
  wd : Int
  mt : Int
  sk : Int
  th : Int
structure Mo.ok (m : Mo) : Prop where
  a1 : 500 ≤ m.wd
  a2 : m.wd ≤ 10000
  b1 : 500 ≤ m.mt
  b2 : m.mt ≤ 10000
  c1 : 0 ≤ m.sk
  c2 : m.sk ≤ 4
  d1 : 2 ≤ m.th
  d2 : m.th ≤ 20000
def moE (m : Mo) : Int := fst [unl (inB m.wd 500 10000) 2, unl (inB m.mt 500 10000) 2, unl (inB m.sk 0 4) 2, unl (inB m.th 2 20000) 2]
def dpB (z t : Int) : Bool := decide (0 < z) && decide (z < t)
theorem unl_zero (b : Bool) (e : Int) (he : e ≠ 0) : unl b e = 0 ↔ b = true := by unfold unl; cases b <;> simp [he]
theorem moE_ok (m : Mo) : moE m = 0 ↔ m.ok := by
  unfold moE
  rw [fst_zero]
  simp only [List.mem_cons, List.not_mem_nil, or_false, forall_eq_or_imp, forall_eq, unl_inB _ _ _ _ (show (2 : Int) ≠ 0 by decide)]
  exact ⟨fun ⟨⟨a, b⟩, ⟨c, d⟩, ⟨e, f⟩, ⟨g, i⟩⟩ => ⟨a, b, c, d, e, f, g, i⟩, fun ⟨a, b, c, d, e, f, g, i⟩ => ⟨⟨a, b⟩, ⟨c, d⟩, ⟨e, f⟩, ⟨g, i⟩⟩⟩
theorem moE_two (m : Mo) : moE m = 0 ∨ moE m = 2 := by
  refine fst_two _ fun x hx => ?_
  simp only [List.mem_cons, List.not_mem_nil, or_false] at hx
  rcases hx with h | h | h | h <;> (rw [h]; exact unl_cases _ _)
def Mo.unf (m : Mo) (z : Int) : Int := if m.sk % 2 = 0 then m.sk * m.th + z else m.sk * m.th + (m.th - z)
theorem unf_bounds (m : Mo) (o : m.ok) (z : Int) (h0 : 0 < z) (h1 : z < m.th) : 1 ≤ m.unf z ∧ m.unf z ≤ 100000 ∧ 0 ≤ m.sk * m.th ∧ m.sk * m.th ≤ 80000 := by
  have k0 := Int.mul_nonneg o.c1 (show 0 ≤ m.th by have := o.d1; omega)
  have k1 := mul_le m.sk m.th 4 20000 o.c1 (by have := o.d1; omega) o.c2 o.d2
  have := o.d2
  unfold Mo.unf
  split <;> omega
structure Wy where
  m : Mo
  fx : Int
  fz : Int
  tx : Int
  tz : Int
def waE (x : Wy) : Int := fst [placeE x.fx x.fz, placeE x.tx x.tz, unl (decide (x.fz < 0)) 15, unl (dpB x.tz x.m.th) 22]
def wyE (x : Wy) : Int := fst [moE x.m, waE x]
structure Wy.ok (x : Wy) : Prop where
  m : x.m.ok
  a1 : -100000 ≤ x.fx
  a2 : x.fx ≤ 100000
  b1 : -100000 ≤ x.fz
  b2 : x.fz < 0
  c1 : -100000 ≤ x.tx
  c2 : x.tx ≤ 100000
  d1 : 0 < x.tz
  d2 : x.tz < x.m.th
theorem placeE_zero (x z : Int) : placeE x z = 0 ↔ (-100000 ≤ x ∧ x ≤ 100000) ∧ (-100000 ≤ z ∧ z ≤ 100000) := by
  unfold placeE
  rw [fst_zero]
  simp only [List.mem_cons, List.not_mem_nil, or_false, forall_eq_or_imp, forall_eq, unl_inB _ _ _ _ (show (2 : Int) ≠ 0 by decide)]
theorem wyE_ok (x : Wy) : wyE x = 0 ↔ x.ok := by
  unfold wyE waE
  rw [fst_zero]
  simp only [List.mem_cons, List.not_mem_nil, or_false, forall_eq_or_imp, forall_eq]
  rw [fst_zero]
  simp only [List.mem_cons, List.not_mem_nil, or_false, forall_eq_or_imp, forall_eq, moE_ok, placeE_zero, unl_zero _ _ (show (15 : Int) ≠ 0 by decide), unl_zero _ _ (show (22 : Int) ≠ 0 by decide), dpB, Bool.and_eq_true, decide_eq_true_eq]
  constructor
  · rintro ⟨o, ⟨⟨a, b⟩, ⟨c, d⟩⟩, ⟨⟨e, f⟩, ⟨g, h⟩⟩, i, j, k⟩
    exact ⟨o, a, b, c, i, e, f, j, k⟩
  · rintro ⟨o, a, b, c, i, e, f, j, k⟩
    have := o.d2
    exact ⟨o, ⟨⟨a, b⟩, ⟨c, by omega⟩⟩, ⟨⟨e, f⟩, ⟨by omega, by omega⟩⟩, i, j, k⟩
/-- the crossing of a way -/
def Wy.cr (x : Wy) : Cr := ⟨x.fx, -x.fz, x.m.wd, x.tx, x.m.unf x.tz, x.m.mt⟩
theorem cr_ok (x : Wy) (o : x.ok) : x.cr.ok := by
  obtain ⟨u1, u2, u3, u4⟩ := unf_bounds x.m o.m x.tz o.d1 o.d2
  obtain ⟨m, a, b, c, i, e, f, j, k⟩ := o
  exact ⟨a, b, e, f, by show 1 ≤ -x.fz; omega, by show -x.fz ≤ 100000; omega, u1, u2, m.a1, m.a2, m.b1, m.b2⟩

set_option maxRecDepth 100000 in
set_option maxHeartbeats 1000000 in
theorem thickError_any (v : Int) (w : World) :
    Calls Tryz.prog 87 #[.int .i64 v] w fun e w' => e = .returned (.int .i64 (unl (inB v 2 20000) 2)) ∧ w = w' := by
  go_enter Tryz.func87, Tryz.ntmps87
  go_wp2_with (first | (go_at_call 34; refine (isWithin_any _ _ _ _).mono ?_; rintro e w' ⟨rfl, rfl⟩) | (go_at_call 23; refine (unless_any _ _ _).mono ?_; rintro e w' ⟨rfl, rfl⟩))
  go_ret
  exact ⟨rfl, rfl⟩
set_option maxRecDepth 100000 in
set_option maxHeartbeats 1000000 in
theorem depthError_any (z t : Int) (w : World) :
    Calls Tryz.prog 123 #[.int .i64 z, .int .i64 t] w fun e w' => e = .returned (.int .i64 (unl (dpB z t) 22)) ∧ w = w' := by
  by_cases h1 : 0 < z
  · by_cases h2 : z < t
    · have hd : dpB z t = true := by simp [dpB, h1, h2]
      rw [hd]; clear hd
      go_enter Tryz.func123, Tryz.ntmps123
      go_wp2_with (go_at_call 23; refine (unless_any _ _ _).mono ?_; rintro e w' ⟨rfl, rfl⟩)
      go_ret
      exact ⟨rfl, rfl⟩
    · have hd : dpB z t = false := by simp [dpB, h1]; omega
      rw [hd]; clear hd
      go_enter Tryz.func123, Tryz.ntmps123
      go_wp2_with (go_at_call 23; refine (unless_any _ _ _).mono ?_; rintro e w' ⟨rfl, rfl⟩)
      go_ret
      exact ⟨rfl, rfl⟩
  · have hd : dpB z t = false := by simp [dpB]; omega
    rw [hd]; clear hd
    go_enter Tryz.func123, Tryz.ntmps123
    go_wp2_with (go_at_call 23; refine (unless_any _ _ _).mono ?_; rintro e w' ⟨rfl, rfl⟩)
    go_ret
    exact ⟨rfl, rfl⟩
set_option maxRecDepth 100000 in
set_option maxHeartbeats 1000000 in
/-- CheckMode -/
theorem checkMode_any (m : Mo) (w : World) :
    Calls Tryz.prog 68 #[.agg #[.int .i64 m.wd, .int .i64 m.mt, .int .i64 m.sk, .int .i64 m.th]] w fun e w' => e = .returned (.int .i64 (moE m)) ∧ Below w.heap.size w w' := by
  go_enter Tryz.func68, Tryz.ntmps68
  go_wp2
  go_region_held3 (fun w' => w'.cell? ⟨w.heap.size, 0, none⟩ = some (.int .i64 m.wd) ∧ w'.cell? ⟨w.heap.size, 1, none⟩ = some (.int .i64 m.mt) ∧ w'.cell? ⟨w.heap.size, 2, none⟩ = some (.int .i64 m.sk) ∧ w'.cell? ⟨w.heap.size, 3, none⟩ = some (.int .i64 m.th)) (simp [go_sem, World.cell?_alloc_past])
    (first
      | (go_at_call 34; refine (isWithin_any _ _ _ _).mono ?_; rintro e w' ⟨rfl, rfl⟩)
      | (go_at_call 23; refine (unless_any _ _ _).mono ?_; rintro e w' ⟨rfl, rfl⟩)
      | (go_at_call 52; refine (speedError_any _ _).mono ?_; rintro e w' ⟨rfl, rfl⟩)
      | (go_at_call 87; refine (thickError_any _ _).mono ?_; rintro e w' ⟨rfl, rfl⟩)
      | (go_at_call 22; refine (firstError_any _ [unl (inB m.wd 500 10000) 2, unl (inB m.mt 500 10000) 2, unl (inB m.sk 0 4) 2, unl (inB m.th 2 20000) 2] _ (by simp) (by first | exact cells_drew _ _ (by simp) _ _ | exact cells_new _ _ (by simp) _ _)).mono ?_; rintro e w' ⟨rfl, rfl⟩))
  go_wp2
  go_ret
  exact ⟨rfl, (by repeat (first | exact Below.refl _ _ | refine Below.drew ?_ | refine below_drewN ?_ _ | refine Below.setCell ?_ (by first | omega | (simp; done) | (simp; omega)) _ | refine Below.alloc ?_ (by first | omega | (simp; done) | (simp; omega)) _))⟩
set_option maxRecDepth 100000 in
set_option maxHeartbeats 1000000 in
/-- unfoldedDepth -/
theorem unfoldedDepth_any (m : Mo) (o : m.ok) (z : Int) (w : World) (h0 : 0 < z) (h1 : z < m.th) :
    Calls Tryz.prog 111 #[.agg #[.int .i64 m.wd, .int .i64 m.mt, .int .i64 m.sk, .int .i64 m.th], .int .i64 z] w fun e w' => e = .returned (.int .i64 (m.unf z)) ∧ w.alloc (.cells #[.int .i64 m.wd, .int .i64 m.mt, .int .i64 m.sk, .int .i64 m.th] 40) = w' := by
  obtain ⟨u1, u2, u3, u4⟩ := unf_bounds m o z h0 h1
  have hu : m.unf z = if m.sk % 2 = 0 then m.sk * m.th + z else m.sk * m.th + (m.th - z) := rfl
  have HU := Lib.hid hu
  obtain ⟨a1, a2, b1, b2, c1, c2, d1, d2⟩ := o
  clear hu u1 u2 a1 a2 b1 b2
  by_cases hp : m.sk % 2 = 0
  · have n0 : (m.sk % 2 != 0) = false := by simp [hp]
    have HP := Lib.hid hp; clear hp
    go_enter Tryz.func111, Tryz.ntmps111
    go_wp2
    go_ret
    exact ⟨by rw [HU.out, if_pos HP.out]; rfl, rfl⟩
  · have n0 : (m.sk % 2 != 0) = true := by simp [hp]
    have HP := Lib.hid hp; clear hp
    go_enter Tryz.func111, Tryz.ntmps111
    go_wp2
    go_ret
    exact ⟨by rw [HU.out, if_neg HP.out]; rfl, rfl⟩

set_option maxRecDepth 100000 in
set_option maxHeartbeats 1000000 in
/-- wayError -/
theorem wayError_any (x : Wy) (w : World) :
    Calls Tryz.prog 110 #[.agg #[.int .i64 x.m.wd, .int .i64 x.m.mt, .int .i64 x.m.sk, .int .i64 x.m.th], .agg #[.int .i64 x.fx, .int .i64 x.fz], .agg #[.int .i64 x.tx, .int .i64 x.tz]] w fun e w' => e = .returned (.int .i64 (waE x)) ∧ Below w.heap.size w w' := by
  go_enter Tryz.func110, Tryz.ntmps110
  go_wp2
  have hS : Below w.heap.size w (((w.alloc (.cells #[.int .i64 x.m.wd, .int .i64 x.m.mt, .int .i64 x.m.sk, .int .i64 x.m.th] 40)).alloc (.cells #[.int .i64 x.fx, .int .i64 x.fz] 45)).alloc (.cells #[.int .i64 x.tx, .int .i64 x.tz] 45)) := (by repeat (first | exact Below.refl _ _ | refine Below.drew ?_ | refine below_drewN ?_ _ | refine Below.setCell ?_ (by first | omega | (simp; done) | (simp; omega)) _ | refine Below.alloc ?_ (by first | omega | (simp; done) | (simp; omega)) _))
  go_region_held3 (fun w' => w'.cell? ⟨w.heap.size, 0, none⟩ = some (.int .i64 x.m.wd) ∧ w'.cell? ⟨w.heap.size, 1, none⟩ = some (.int .i64 x.m.mt) ∧ w'.cell? ⟨w.heap.size, 2, none⟩ = some (.int .i64 x.m.sk) ∧ w'.cell? ⟨w.heap.size, 3, none⟩ = some (.int .i64 x.m.th) ∧ w'.cell? ⟨w.heap.size + 1, 0, none⟩ = some (.int .i64 x.fx) ∧ w'.cell? ⟨w.heap.size + 1, 1, none⟩ = some (.int .i64 x.fz) ∧ w'.cell? ⟨w.heap.size + 1 + 1, 0, none⟩ = some (.int .i64 x.tx) ∧ w'.cell? ⟨w.heap.size + 1 + 1, 1, none⟩ = some (.int .i64 x.tz) ∧ Below w.heap.size w w') ((go_split_ands; (repeat' apply And.intro) <;> first | assumption | exact cell_later (by assumption) (by assumption) | exact frozen_after (by assumption) (by assumption) (by assumption) | exact below_then (by assumption) (by assumption) | exact below_alloc_top (by assumption) _ | exact cell_alloc_later (by assumption) _ | exact frozen_alloc_later (by assumption) (by assumption) _ | exact Below.drew (by assumption) | (simp [go_sem, World.cell?_alloc_past, *]; done)))
    (first
      | (go_at_call 86; refine (placeError_any _ _ _).mono ?_; rintro e w' ⟨rfl, hb⟩)
      | (go_at_call 23; refine (unless_any _ _ _).mono ?_; rintro e w' ⟨rfl, rfl⟩)
      | (go_at_call 123; refine (depthError_any _ _ _).mono ?_; rintro e w' ⟨rfl, rfl⟩)
      | (go_at_call 22; refine (firstError_any _ [placeE x.fx x.fz, placeE x.tx x.tz, unl (decide (x.fz < 0)) 15, unl (dpB x.tz x.m.th) 22] _ (by simp) (by first | exact cells_drew _ _ (by simp) _ _ | exact cells_new _ _ (by simp) _ _)).mono ?_; rintro e w' ⟨rfl, rfl⟩))
  go_wp2
  go_ret
  exact ⟨rfl, by go_split_ands; assumption⟩
end Go.Proofs.YtnckfbejgkdhhaaGreatDoor
