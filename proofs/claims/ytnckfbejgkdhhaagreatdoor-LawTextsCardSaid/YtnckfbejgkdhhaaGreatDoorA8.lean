/- the least time of a crossing -/
import Derived.Test.YtnckfbejgkdhhaaGreatDoorA7
import Derived.Deep.RegionWith
namespace Go.Proofs.YtnckfbejgkdhhaaGreatDoor
open Go.RowKit RayM
set_option linter.unusedSimpArgs false
set_option linter.unusedVariables false

theorem search_int (c : Cr) (o : c.ok) (bc bf : Nat) (w : World) (hc : CrAt c bc w) (hf : w.cell? ⟨bf, 0, none⟩ = some (.int .i64 c.lo)) :
    Calls Tryz.prog 124 #[.int .i64 (c.hi - c.lo), .func (.func 125) #[] #[.pointer (some ⟨bc, 0, none⟩), .pointer (some ⟨bf, 0, none⟩)]] w fun e w' => e = .returned (.int .i64 (c.k - c.lo)) ∧ Below w.heap.size w w' := by
  have h : c.lo ≤ c.hi := by unfold Cr.lo Cr.hi; omega
  obtain ⟨n, hn⟩ := Int.eq_ofNat_of_zero_le (show 0 ≤ c.hi - c.lo by omega)
  rw [hn]
  exact search_any c o n bc bf w hc hf (by omega)

theorem k_bounds (c : Cr) (o : c.ok) : c.lo ≤ c.k ∧ c.k ≤ c.hi ∧ -100000 ≤ c.lo ∧ c.lo ≤ 100000 ∧ -100000 ≤ c.hi ∧ c.hi ≤ 100000 := by
  have h := k_is c o
  have := h.a; have := h.b
  have := o.a1; have := o.a2; have := o.b1; have := o.b2
  unfold Cr.lo Cr.hi at *
  omega

set_option maxRecDepth 100000 in
set_option maxHeartbeats 1000000 in
/-- c.fastest() -/
theorem fastest_any (c : Cr) (o : c.ok) (w : World) :
    Calls Tryz.prog 112 #[.agg #[.int .i64 c.x1, .int .i64 c.h1, .int .i64 c.x2, .int .i64 c.h2, .int .i64 c.v1, .int .i64 c.v2]] w fun e w' => e = .returned (.int .i64 c.k) ∧ Below w.heap.size w w' := by
  obtain ⟨k1, k2, k3, k4, k5, k6⟩ := k_bounds c o
  have e1 := Lib.hid (show IntKind.i64.wrap (c.hi - c.lo) = c.hi - c.lo from IntWalk.i64_in _ (by omega))
  have e2 := Lib.hid (show IntKind.i64.wrap (c.lo + (c.k - c.lo)) = c.k from by rw [IntWalk.i64_in _ (by omega)]; omega)
  go_enter Tryz.func112, Tryz.ntmps112
  go_wp2_with (go_at_call 114; refine (reach_any c _).mono ?_; rintro e w1 ⟨rfl, hb1⟩)
  have qw10 : w1.cell? ⟨w.heap.size, 0, none⟩ = some (.int .i64 c.x1) := cell_later hb1 (by simp [go_sem])
  have qw11 : w1.cell? ⟨w.heap.size, 1, none⟩ = some (.int .i64 c.h1) := cell_later hb1 (by simp [go_sem])
  have qw12 : w1.cell? ⟨w.heap.size, 2, none⟩ = some (.int .i64 c.x2) := cell_later hb1 (by simp [go_sem])
  have qw13 : w1.cell? ⟨w.heap.size, 3, none⟩ = some (.int .i64 c.h2) := cell_later hb1 (by simp [go_sem])
  have qw14 : w1.cell? ⟨w.heap.size, 4, none⟩ = some (.int .i64 c.v1) := cell_later hb1 (by simp [go_sem])
  have qw15 : w1.cell? ⟨w.heap.size, 5, none⟩ = some (.int .i64 c.v2) := cell_later hb1 (by simp [go_sem])
  have zw1 := hb1.size
  try simp at zw1
  have zw10 : w.heap.size < w1.heap.size := by omega
  have HB1 : Hid (Below w.heap.size w w1) := below_after (by repeat (first | exact Below.refl _ _ | refine Below.drew ?_ | refine below_drewN ?_ _ | refine Below.setCell ?_ (by first | omega | (simp; done) | (simp; omega)) _ | refine Below.alloc ?_ (by first | omega | (simp; done) | (simp; omega)) _)) hb1 (by simp)
  clear hb1
  go_wp2
  have hS := HB1.out.alloc (by omega) (.cells #[.int .i64 c.lo] 3)
  have e3 := e1.out; have e4 := e2.out
  go_region_held3 (fun w' => w'.cell? ⟨w.heap.size, 0, none⟩ = some (.int .i64 c.x1) ∧ w'.cell? ⟨w.heap.size, 1, none⟩ = some (.int .i64 c.h1) ∧ w'.cell? ⟨w.heap.size, 2, none⟩ = some (.int .i64 c.x2) ∧ w'.cell? ⟨w.heap.size, 3, none⟩ = some (.int .i64 c.h2) ∧ w'.cell? ⟨w.heap.size, 4, none⟩ = some (.int .i64 c.v1) ∧ w'.cell? ⟨w.heap.size, 5, none⟩ = some (.int .i64 c.v2) ∧ w'.cell? ⟨w1.heap.size, 0, none⟩ = some (.int .i64 c.lo) ∧ Below w.heap.size w w') ((go_split_ands; (repeat' apply And.intro) <;> first | assumption | exact cell_later (by assumption) (by assumption) | exact frozen_after (by assumption) (by assumption) (by assumption) | exact below_then (by assumption) (by assumption) | exact Below.setCell (Below.setCell (by assumption) (by simp) _) (by simp) _ | exact Below.drew (by assumption) | (simp [go_sem, World.cell?_alloc_past, *]; done)))
    ((go_split_ands; go_at_call 124; refine (search_int c o _ _ _ ⟨by assumption, by assumption, by assumption, by assumption, by assumption, by assumption⟩ (by assumption)).mono ?_; rintro e w' ⟨rfl, hb⟩))
  clear e3 e4
  go_wp2
  go_ret
  exact ⟨rfl, by go_split_ands; assumption⟩
set_option maxRecDepth 100000 in
set_option maxHeartbeats 1000000 in
/-- c.leastTime() -/
theorem leastTime_in (c : Cr) (o : c.ok) (w : World) (hk : c.k < c.hi) :
    Calls Tryz.prog 90 #[.agg #[.int .i64 c.x1, .int .i64 c.h1, .int .i64 c.x2, .int .i64 c.h2, .int .i64 c.v1, .int .i64 c.v2]] w fun e w' => e = .returned (.agg #[.int .i64 c.lLo, .int .i64 c.lHi]) ∧ Below w.heap.size w w' := by
  obtain ⟨k1, k2, k3, k4, k5, k6⟩ := k_bounds c o
  have hlo : c.lLo = max (min (c.tLo c.k) (c.tLo (c.k + 1)) - c.bd) 0 := by unfold Cr.lLo; rw [if_pos hk]
  have hhi : c.lHi = min (c.tHi c.k) (c.tHi (c.k + 1)) := by unfold Cr.lHi; rw [if_pos hk]
  obtain ⟨b1, b2⟩ := bd_bounds c o
  obtain ⟨t1, t2, t3, t4, t5⟩ := t_bounds c o c.k (by omega) (by omega)
  obtain ⟨s1, s2, s3, s4, s5⟩ := t_bounds c o (c.k + 1) (by omega) (by omega)
  have HLO := Lib.hid hlo; have HHI := Lib.hid hhi
  clear hlo hhi
  go_enter Tryz.func90, Tryz.ntmps90
  go_wp2_with fail
  refine (fastest_any c o _).mono ?_
  rintro e w1 ⟨rfl, hb1⟩
  have qw10 : w1.cell? ⟨w.heap.size, 0, none⟩ = some (.int .i64 c.x1) := cell_later hb1 (by simp [go_sem])
  have qw11 : w1.cell? ⟨w.heap.size, 1, none⟩ = some (.int .i64 c.h1) := cell_later hb1 (by simp [go_sem])
  have qw12 : w1.cell? ⟨w.heap.size, 2, none⟩ = some (.int .i64 c.x2) := cell_later hb1 (by simp [go_sem])
  have qw13 : w1.cell? ⟨w.heap.size, 3, none⟩ = some (.int .i64 c.h2) := cell_later hb1 (by simp [go_sem])
  have qw14 : w1.cell? ⟨w.heap.size, 4, none⟩ = some (.int .i64 c.v1) := cell_later hb1 (by simp [go_sem])
  have qw15 : w1.cell? ⟨w.heap.size, 5, none⟩ = some (.int .i64 c.v2) := cell_later hb1 (by simp [go_sem])
  have qw16 : w1.cell? ⟨w.heap.size + 1, 0, none⟩ = some (.int .i64 0) := cell_later hb1 (by simp [go_sem])
  have qw17 : w1.cell? ⟨w.heap.size + 1, 1, none⟩ = some (.int .i64 0) := cell_later hb1 (by simp [go_sem])
  have qw1f0 : w1.frozen? ⟨w.heap.size + 1, 0, none⟩ = false := frozen_later hb1 (by first | omega | (simp; done) | (simp; omega)) (by simp [go_sem])
  have qw1f1 : w1.frozen? ⟨w.heap.size + 1, 1, none⟩ = false := frozen_later hb1 (by first | omega | (simp; done) | (simp; omega)) (by simp [go_sem])
  have zw1 := hb1.size
  try simp at zw1
  have zw10 : w.heap.size < w1.heap.size := by omega
  have zw11 : w.heap.size + 1 < w1.heap.size := by omega
  have HB1 : Hid (Below w.heap.size w w1) := below_after (by repeat (first | exact Below.refl _ _ | refine Below.drew ?_ | refine below_drewN ?_ _ | refine Below.setCell ?_ (by first | omega | (simp; done) | (simp; omega)) _ | refine Below.alloc ?_ (by first | omega | (simp; done) | (simp; omega)) _)) hb1 (by simp; omega)
  clear hb1
  go_wp2_with fail
  refine (timeAt_any c o c.k _ (by omega) (by omega)).mono ?_
  rintro e w2 ⟨rfl, hb2⟩
  have qw20 : w2.cell? ⟨w.heap.size, 0, none⟩ = some (.int .i64 c.x1) := cell_later hb2 (by simp [go_sem, *])
  have qw21 : w2.cell? ⟨w.heap.size, 1, none⟩ = some (.int .i64 c.h1) := cell_later hb2 (by simp [go_sem, *])
  have qw22 : w2.cell? ⟨w.heap.size, 2, none⟩ = some (.int .i64 c.x2) := cell_later hb2 (by simp [go_sem, *])
  have qw23 : w2.cell? ⟨w.heap.size, 3, none⟩ = some (.int .i64 c.h2) := cell_later hb2 (by simp [go_sem, *])
  have qw24 : w2.cell? ⟨w.heap.size, 4, none⟩ = some (.int .i64 c.v1) := cell_later hb2 (by simp [go_sem, *])
  have qw25 : w2.cell? ⟨w.heap.size, 5, none⟩ = some (.int .i64 c.v2) := cell_later hb2 (by simp [go_sem, *])
  have qw26 : w2.cell? ⟨w.heap.size + 1, 0, none⟩ = some (.int .i64 0) := cell_later hb2 (by simp [go_sem, *])
  have qw27 : w2.cell? ⟨w.heap.size + 1, 1, none⟩ = some (.int .i64 0) := cell_later hb2 (by simp [go_sem, *])
  have qw2f0 : w2.frozen? ⟨w.heap.size + 1, 0, none⟩ = false := frozen_later hb2 (by first | omega | (simp; done) | (simp; omega)) (by simp [go_sem, *])
  have qw2f1 : w2.frozen? ⟨w.heap.size + 1, 1, none⟩ = false := frozen_later hb2 (by first | omega | (simp; done) | (simp; omega)) (by simp [go_sem, *])
  have zw2 := hb2.size
  try simp at zw2
  have zw20 : w.heap.size < w2.heap.size := by omega
  have zw21 : w.heap.size + 1 < w2.heap.size := by omega
  have HB2 : Hid (Below w.heap.size w w2) := below_then HB1.out hb2
  clear hb2
  go_wp2_with fail
  refine (reach_any c _).mono ?_
  rintro e w3 ⟨rfl, hb3⟩
  have qw30 : w3.cell? ⟨w.heap.size, 0, none⟩ = some (.int .i64 c.x1) := cell_later hb3 (by simp [go_sem, *])
  have qw31 : w3.cell? ⟨w.heap.size, 1, none⟩ = some (.int .i64 c.h1) := cell_later hb3 (by simp [go_sem, *])
  have qw32 : w3.cell? ⟨w.heap.size, 2, none⟩ = some (.int .i64 c.x2) := cell_later hb3 (by simp [go_sem, *])
  have qw33 : w3.cell? ⟨w.heap.size, 3, none⟩ = some (.int .i64 c.h2) := cell_later hb3 (by simp [go_sem, *])
  have qw34 : w3.cell? ⟨w.heap.size, 4, none⟩ = some (.int .i64 c.v1) := cell_later hb3 (by simp [go_sem, *])
  have qw35 : w3.cell? ⟨w.heap.size, 5, none⟩ = some (.int .i64 c.v2) := cell_later hb3 (by simp [go_sem, *])
  have qw36 : w3.cell? ⟨w.heap.size + 1, 0, none⟩ = some (.int .i64 0) := cell_later hb3 (by simp [go_sem, *])
  have qw37 : w3.cell? ⟨w.heap.size + 1, 1, none⟩ = some (.int .i64 0) := cell_later hb3 (by simp [go_sem, *])
  have qw38 : w3.cell? ⟨w2.heap.size, 0, none⟩ = some (.int .i64 (c.tLo c.k)) := cell_later hb3 (by simp [go_sem, *])
  have qw39 : w3.cell? ⟨w2.heap.size, 1, none⟩ = some (.int .i64 (c.tHi c.k)) := cell_later hb3 (by simp [go_sem, *])
  have qw3f0 : w3.frozen? ⟨w.heap.size + 1, 0, none⟩ = false := frozen_later hb3 (by first | omega | (simp; done) | (simp; omega)) (by simp [go_sem, *])
  have qw3f1 : w3.frozen? ⟨w.heap.size + 1, 1, none⟩ = false := frozen_later hb3 (by first | omega | (simp; done) | (simp; omega)) (by simp [go_sem, *])
  have qw3f2 : w3.frozen? ⟨w2.heap.size, 0, none⟩ = false := frozen_later hb3 (by first | omega | (simp; done) | (simp; omega)) (by simp [go_sem, *])
  have qw3f3 : w3.frozen? ⟨w2.heap.size, 1, none⟩ = false := frozen_later hb3 (by first | omega | (simp; done) | (simp; omega)) (by simp [go_sem, *])
  have zw3 := hb3.size
  try simp at zw3
  have zw30 : w.heap.size < w3.heap.size := by omega
  have zw31 : w.heap.size + 1 < w3.heap.size := by omega
  have zw32 : w2.heap.size < w3.heap.size := by omega
  have HB3 : Hid (Below w.heap.size w w3) := below_after (HB2.out.alloc (by omega) _) hb3 (by simp; omega)
  clear hb3
  go_wp2_with fail
  refine (timeAt_any c o (c.k + 1) _ (by omega) (by omega)).mono ?_
  rintro e w4 ⟨rfl, hb4⟩
  have qw40 : w4.cell? ⟨w.heap.size, 0, none⟩ = some (.int .i64 c.x1) := cell_later hb4 (by simp [go_sem, *])
  have qw41 : w4.cell? ⟨w.heap.size, 1, none⟩ = some (.int .i64 c.h1) := cell_later hb4 (by simp [go_sem, *])
  have qw42 : w4.cell? ⟨w.heap.size, 2, none⟩ = some (.int .i64 c.x2) := cell_later hb4 (by simp [go_sem, *])
  have qw43 : w4.cell? ⟨w.heap.size, 3, none⟩ = some (.int .i64 c.h2) := cell_later hb4 (by simp [go_sem, *])
  have qw44 : w4.cell? ⟨w.heap.size, 4, none⟩ = some (.int .i64 c.v1) := cell_later hb4 (by simp [go_sem, *])
  have qw45 : w4.cell? ⟨w.heap.size, 5, none⟩ = some (.int .i64 c.v2) := cell_later hb4 (by simp [go_sem, *])
  have qw46 : w4.cell? ⟨w.heap.size + 1, 0, none⟩ = some (.int .i64 0) := cell_later hb4 (by simp [go_sem, *])
  have qw47 : w4.cell? ⟨w.heap.size + 1, 1, none⟩ = some (.int .i64 0) := cell_later hb4 (by simp [go_sem, *])
  have qw48 : w4.cell? ⟨w2.heap.size, 0, none⟩ = some (.int .i64 (c.tLo c.k)) := cell_later hb4 (by simp [go_sem, *])
  have qw49 : w4.cell? ⟨w2.heap.size, 1, none⟩ = some (.int .i64 (c.tHi c.k)) := cell_later hb4 (by simp [go_sem, *])
  have qw4f0 : w4.frozen? ⟨w.heap.size + 1, 0, none⟩ = false := frozen_later hb4 (by first | omega | (simp; done) | (simp; omega)) (by simp [go_sem, *])
  have qw4f1 : w4.frozen? ⟨w.heap.size + 1, 1, none⟩ = false := frozen_later hb4 (by first | omega | (simp; done) | (simp; omega)) (by simp [go_sem, *])
  have qw4f2 : w4.frozen? ⟨w2.heap.size, 0, none⟩ = false := frozen_later hb4 (by first | omega | (simp; done) | (simp; omega)) (by simp [go_sem, *])
  have qw4f3 : w4.frozen? ⟨w2.heap.size, 1, none⟩ = false := frozen_later hb4 (by first | omega | (simp; done) | (simp; omega)) (by simp [go_sem, *])
  have zw4 := hb4.size
  try simp at zw4
  have zw40 : w.heap.size < w4.heap.size := by omega
  have zw41 : w.heap.size + 1 < w4.heap.size := by omega
  have zw42 : w2.heap.size < w4.heap.size := by omega
  have HB4 : Hid (Below w.heap.size w w4) := below_then HB3.out hb4
  clear hb4
  go_wp2_with fail
  obtain ⟨X, hX⟩ : ∃ X : World, X = ((w4.setCell ⟨w2.heap.size, 0, none⟩ (.int .i64 (min (c.tLo c.k) (c.tLo (c.k + 1))))).setCell ⟨w2.heap.size, 1, none⟩ (.int .i64 (min (c.tHi c.k) (c.tHi (c.k + 1))))).alloc (.cells #[.int .i64 (c.tLo (c.k + 1)), .int .i64 (c.tHi (c.k + 1))] 47) := ⟨_, rfl⟩
  rw [← hX]
  have x0 : X.cell? ⟨w.heap.size, 0, none⟩ = some (.int .i64 c.x1) := by rw [hX]; simp [go_sem, World.cell?_alloc_past, *]
  have x1 : X.cell? ⟨w.heap.size, 1, none⟩ = some (.int .i64 c.h1) := by rw [hX]; simp [go_sem, World.cell?_alloc_past, *]
  have x2 : X.cell? ⟨w.heap.size, 2, none⟩ = some (.int .i64 c.x2) := by rw [hX]; simp [go_sem, World.cell?_alloc_past, *]
  have x3 : X.cell? ⟨w.heap.size, 3, none⟩ = some (.int .i64 c.h2) := by rw [hX]; simp [go_sem, World.cell?_alloc_past, *]
  have x4 : X.cell? ⟨w.heap.size, 4, none⟩ = some (.int .i64 c.v1) := by rw [hX]; simp [go_sem, World.cell?_alloc_past, *]
  have x5 : X.cell? ⟨w.heap.size, 5, none⟩ = some (.int .i64 c.v2) := by rw [hX]; simp [go_sem, World.cell?_alloc_past, *]
  have x6 : X.cell? ⟨w.heap.size + 1, 0, none⟩ = some (.int .i64 0) := by rw [hX]; simp [go_sem, World.cell?_alloc_past, *]
  have x7 : X.cell? ⟨w.heap.size + 1, 1, none⟩ = some (.int .i64 0) := by rw [hX]; simp [go_sem, World.cell?_alloc_past, *]
  have x8 : X.cell? ⟨w2.heap.size, 0, none⟩ = some (.int .i64 (min (c.tLo c.k) (c.tLo (c.k + 1)))) := by rw [hX]; simp [go_sem, World.cell?_alloc_past, *]
  have x9 : X.cell? ⟨w2.heap.size, 1, none⟩ = some (.int .i64 (min (c.tHi c.k) (c.tHi (c.k + 1)))) := by rw [hX]; simp [go_sem, World.cell?_alloc_past, *]
  have xf0 : X.frozen? ⟨w.heap.size + 1, 0, none⟩ = false := by rw [hX]; simp [go_sem, World.frozen?_alloc_past, *]
  have xf1 : X.frozen? ⟨w.heap.size + 1, 1, none⟩ = false := by rw [hX]; simp [go_sem, World.frozen?_alloc_past, *]
  have xf2 : X.frozen? ⟨w2.heap.size, 0, none⟩ = false := by rw [hX]; simp [go_sem, World.frozen?_alloc_past, *]
  have xf3 : X.frozen? ⟨w2.heap.size, 1, none⟩ = false := by rw [hX]; simp [go_sem, World.frozen?_alloc_past, *]
  have xz : w.heap.size + 1 < X.heap.size ∧ w2.heap.size < X.heap.size := by rw [hX]; constructor <;> first | omega | (simp; done) | (simp; omega)
  have hBX : Below w.heap.size w X := by rw [hX]; exact ((HB4.out.setCell (by simp; omega) _).setCell (by simp; omega) _).alloc (by simp [World.setCell]; omega) _
  have HBX := Lib.hid hBX
  clear hX hBX
  have e1 : IntKind.i64.wrap (min (c.tLo c.k) (c.tLo (c.k + 1)) - c.bd) = min (c.tLo c.k) (c.tLo (c.k + 1)) - c.bd := IntWalk.i64_in _ (by omega)
  go_region_with ((go_at_call 115; refine (bound_any c o _).mono ?_; rintro e w5 ⟨rfl, hb5⟩; have f0 : w5.cell? ⟨w.heap.size + 1, 0, none⟩ = some (.int .i64 0) := cell_later hb5 (by simp [go_sem, x6]); have f1 : w5.cell? ⟨w.heap.size + 1, 1, none⟩ = some (.int .i64 0) := cell_later hb5 (by simp [go_sem, x7]); have f2 : w5.cell? ⟨w2.heap.size, 0, none⟩ = some (.int .i64 (min (c.tLo c.k) (c.tLo (c.k + 1)))) := cell_later hb5 (by simp [go_sem, x8]); have f3 : w5.cell? ⟨w2.heap.size, 1, none⟩ = some (.int .i64 (min (c.tHi c.k) (c.tHi (c.k + 1)))) := cell_later hb5 (by simp [go_sem, x9]); have g0 : w5.frozen? ⟨w.heap.size + 1, 0, none⟩ = false := frozen_after hb5 (show _ = some (.int .i64 0) by simp [go_sem, x6]) (by simp [go_sem, xf0]); have g1 : w5.frozen? ⟨w.heap.size + 1, 1, none⟩ = false := frozen_after hb5 (show _ = some (.int .i64 0) by simp [go_sem, x7]) (by simp [go_sem, xf1]); have g2 : w5.frozen? ⟨w2.heap.size, 0, none⟩ = false := frozen_after hb5 (show _ = some (.int .i64 (min (c.tLo c.k) (c.tLo (c.k + 1)))) by simp [go_sem, x8]) (by simp [go_sem, xf2]); have g3 : w5.frozen? ⟨w2.heap.size, 1, none⟩ = false := frozen_after hb5 (show _ = some (.int .i64 (min (c.tHi c.k) (c.tHi (c.k + 1)))) by simp [go_sem, x9]) (by simp [go_sem, xf3]); have HB5 : Hid (Below w.heap.size w w5) := below_then (by first | exact HBX.out | exact HBX.out.drew) hb5; clear hb5))
  all_goals
    clear e1
    have ne1 : w2.heap.size ≠ w.heap.size + 1 := by omega
    have ne2 : w.heap.size + 1 ≠ w2.heap.size := by omega
    go_wp2
    exact bodyPost_ret (v := .agg #[.int .i64 (max (min (c.tLo c.k) (c.tLo (c.k + 1)) - c.bd) 0), .int .i64 (min (c.tHi c.k) (c.tHi (c.k + 1)))]) (by simp [results, Tryz.results90, go_sem, f0, f1, f2, f3, ne1, ne2]) rfl ⟨by rw [HLO.out, HHI.out], (by repeat (first | exact HB5.out | refine Below.drew ?_ | refine Below.setCell ?_ (by first | omega | (simp; done) | (simp; omega)) _ | refine Below.alloc ?_ (by first | omega | (simp; done) | (simp; omega)) _))⟩

set_option maxRecDepth 100000 in
set_option maxHeartbeats 1000000 in
/-- c.leastTime() -/
theorem leastTime_end (c : Cr) (o : c.ok) (w : World) (hk : ¬ c.k < c.hi) :
    Calls Tryz.prog 90 #[.agg #[.int .i64 c.x1, .int .i64 c.h1, .int .i64 c.x2, .int .i64 c.h2, .int .i64 c.v1, .int .i64 c.v2]] w fun e w' => e = .returned (.agg #[.int .i64 c.lLo, .int .i64 c.lHi]) ∧ Below w.heap.size w w' := by
  obtain ⟨k1, k2, k3, k4, k5, k6⟩ := k_bounds c o
  have hlo : c.lLo = max (c.tLo c.k - c.bd) 0 := by unfold Cr.lLo; rw [if_neg hk]
  have hhi : c.lHi = c.tHi c.k := by unfold Cr.lHi; rw [if_neg hk]
  obtain ⟨b1, b2⟩ := bd_bounds c o
  obtain ⟨t1, t2, t3, t4, t5⟩ := t_bounds c o c.k (by omega) (by omega)
  obtain ⟨s1, s2, s3, s4, s5⟩ := t_bounds c o (c.k + 1) (by omega) (by omega)
  have HLO := Lib.hid hlo; have HHI := Lib.hid hhi
  clear hlo hhi
  go_enter Tryz.func90, Tryz.ntmps90
  go_wp2_with fail
  refine (fastest_any c o _).mono ?_
  rintro e w1 ⟨rfl, hb1⟩
  have qw10 : w1.cell? ⟨w.heap.size, 0, none⟩ = some (.int .i64 c.x1) := cell_later hb1 (by simp [go_sem])
  have qw11 : w1.cell? ⟨w.heap.size, 1, none⟩ = some (.int .i64 c.h1) := cell_later hb1 (by simp [go_sem])
  have qw12 : w1.cell? ⟨w.heap.size, 2, none⟩ = some (.int .i64 c.x2) := cell_later hb1 (by simp [go_sem])
  have qw13 : w1.cell? ⟨w.heap.size, 3, none⟩ = some (.int .i64 c.h2) := cell_later hb1 (by simp [go_sem])
  have qw14 : w1.cell? ⟨w.heap.size, 4, none⟩ = some (.int .i64 c.v1) := cell_later hb1 (by simp [go_sem])
  have qw15 : w1.cell? ⟨w.heap.size, 5, none⟩ = some (.int .i64 c.v2) := cell_later hb1 (by simp [go_sem])
  have qw16 : w1.cell? ⟨w.heap.size + 1, 0, none⟩ = some (.int .i64 0) := cell_later hb1 (by simp [go_sem])
  have qw17 : w1.cell? ⟨w.heap.size + 1, 1, none⟩ = some (.int .i64 0) := cell_later hb1 (by simp [go_sem])
  have qw1f0 : w1.frozen? ⟨w.heap.size + 1, 0, none⟩ = false := frozen_later hb1 (by first | omega | (simp; done) | (simp; omega)) (by simp [go_sem])
  have qw1f1 : w1.frozen? ⟨w.heap.size + 1, 1, none⟩ = false := frozen_later hb1 (by first | omega | (simp; done) | (simp; omega)) (by simp [go_sem])
  have zw1 := hb1.size
  try simp at zw1
  have zw10 : w.heap.size < w1.heap.size := by omega
  have zw11 : w.heap.size + 1 < w1.heap.size := by omega
  have HB1 : Hid (Below w.heap.size w w1) := below_after (by repeat (first | exact Below.refl _ _ | refine Below.drew ?_ | refine below_drewN ?_ _ | refine Below.setCell ?_ (by first | omega | (simp; done) | (simp; omega)) _ | refine Below.alloc ?_ (by first | omega | (simp; done) | (simp; omega)) _)) hb1 (by simp; omega)
  clear hb1
  go_wp2_with fail
  refine (timeAt_any c o c.k _ (by omega) (by omega)).mono ?_
  rintro e w2 ⟨rfl, hb2⟩
  have qw20 : w2.cell? ⟨w.heap.size, 0, none⟩ = some (.int .i64 c.x1) := cell_later hb2 (by simp [go_sem, *])
  have qw21 : w2.cell? ⟨w.heap.size, 1, none⟩ = some (.int .i64 c.h1) := cell_later hb2 (by simp [go_sem, *])
  have qw22 : w2.cell? ⟨w.heap.size, 2, none⟩ = some (.int .i64 c.x2) := cell_later hb2 (by simp [go_sem, *])
  have qw23 : w2.cell? ⟨w.heap.size, 3, none⟩ = some (.int .i64 c.h2) := cell_later hb2 (by simp [go_sem, *])
  have qw24 : w2.cell? ⟨w.heap.size, 4, none⟩ = some (.int .i64 c.v1) := cell_later hb2 (by simp [go_sem, *])
  have qw25 : w2.cell? ⟨w.heap.size, 5, none⟩ = some (.int .i64 c.v2) := cell_later hb2 (by simp [go_sem, *])
  have qw26 : w2.cell? ⟨w.heap.size + 1, 0, none⟩ = some (.int .i64 0) := cell_later hb2 (by simp [go_sem, *])
  have qw27 : w2.cell? ⟨w.heap.size + 1, 1, none⟩ = some (.int .i64 0) := cell_later hb2 (by simp [go_sem, *])
  have qw2f0 : w2.frozen? ⟨w.heap.size + 1, 0, none⟩ = false := frozen_later hb2 (by first | omega | (simp; done) | (simp; omega)) (by simp [go_sem, *])
  have qw2f1 : w2.frozen? ⟨w.heap.size + 1, 1, none⟩ = false := frozen_later hb2 (by first | omega | (simp; done) | (simp; omega)) (by simp [go_sem, *])
  have zw2 := hb2.size
  try simp at zw2
  have zw20 : w.heap.size < w2.heap.size := by omega
  have zw21 : w.heap.size + 1 < w2.heap.size := by omega
  have HB2 : Hid (Below w.heap.size w w2) := below_then HB1.out hb2
  clear hb2
  go_wp2_with fail
  refine (reach_any c _).mono ?_
  rintro e w3 ⟨rfl, hb3⟩
  have qw30 : w3.cell? ⟨w.heap.size, 0, none⟩ = some (.int .i64 c.x1) := cell_later hb3 (by simp [go_sem, *])
  have qw31 : w3.cell? ⟨w.heap.size, 1, none⟩ = some (.int .i64 c.h1) := cell_later hb3 (by simp [go_sem, *])
  have qw32 : w3.cell? ⟨w.heap.size, 2, none⟩ = some (.int .i64 c.x2) := cell_later hb3 (by simp [go_sem, *])
  have qw33 : w3.cell? ⟨w.heap.size, 3, none⟩ = some (.int .i64 c.h2) := cell_later hb3 (by simp [go_sem, *])
  have qw34 : w3.cell? ⟨w.heap.size, 4, none⟩ = some (.int .i64 c.v1) := cell_later hb3 (by simp [go_sem, *])
  have qw35 : w3.cell? ⟨w.heap.size, 5, none⟩ = some (.int .i64 c.v2) := cell_later hb3 (by simp [go_sem, *])
  have qw36 : w3.cell? ⟨w.heap.size + 1, 0, none⟩ = some (.int .i64 0) := cell_later hb3 (by simp [go_sem, *])
  have qw37 : w3.cell? ⟨w.heap.size + 1, 1, none⟩ = some (.int .i64 0) := cell_later hb3 (by simp [go_sem, *])
  have qw38 : w3.cell? ⟨w2.heap.size, 0, none⟩ = some (.int .i64 (c.tLo c.k)) := cell_later hb3 (by simp [go_sem, *])
  have qw39 : w3.cell? ⟨w2.heap.size, 1, none⟩ = some (.int .i64 (c.tHi c.k)) := cell_later hb3 (by simp [go_sem, *])
  have qw3f0 : w3.frozen? ⟨w.heap.size + 1, 0, none⟩ = false := frozen_later hb3 (by first | omega | (simp; done) | (simp; omega)) (by simp [go_sem, *])
  have qw3f1 : w3.frozen? ⟨w.heap.size + 1, 1, none⟩ = false := frozen_later hb3 (by first | omega | (simp; done) | (simp; omega)) (by simp [go_sem, *])
  have qw3f2 : w3.frozen? ⟨w2.heap.size, 0, none⟩ = false := frozen_later hb3 (by first | omega | (simp; done) | (simp; omega)) (by simp [go_sem, *])
  have qw3f3 : w3.frozen? ⟨w2.heap.size, 1, none⟩ = false := frozen_later hb3 (by first | omega | (simp; done) | (simp; omega)) (by simp [go_sem, *])
  have zw3 := hb3.size
  try simp at zw3
  have zw30 : w.heap.size < w3.heap.size := by omega
  have zw31 : w.heap.size + 1 < w3.heap.size := by omega
  have zw32 : w2.heap.size < w3.heap.size := by omega
  have HB3 : Hid (Below w.heap.size w w3) := below_after (HB2.out.alloc (by omega) _) hb3 (by simp; omega)
  clear hb3
  go_wp2_with fail
  obtain ⟨X, hX⟩ : ∃ X : World, X = w3 := ⟨_, rfl⟩
  rw [← hX]
  have x0 : X.cell? ⟨w.heap.size, 0, none⟩ = some (.int .i64 c.x1) := by rw [hX]; simp [go_sem, World.cell?_alloc_past, *]
  have x1 : X.cell? ⟨w.heap.size, 1, none⟩ = some (.int .i64 c.h1) := by rw [hX]; simp [go_sem, World.cell?_alloc_past, *]
  have x2 : X.cell? ⟨w.heap.size, 2, none⟩ = some (.int .i64 c.x2) := by rw [hX]; simp [go_sem, World.cell?_alloc_past, *]
  have x3 : X.cell? ⟨w.heap.size, 3, none⟩ = some (.int .i64 c.h2) := by rw [hX]; simp [go_sem, World.cell?_alloc_past, *]
  have x4 : X.cell? ⟨w.heap.size, 4, none⟩ = some (.int .i64 c.v1) := by rw [hX]; simp [go_sem, World.cell?_alloc_past, *]
  have x5 : X.cell? ⟨w.heap.size, 5, none⟩ = some (.int .i64 c.v2) := by rw [hX]; simp [go_sem, World.cell?_alloc_past, *]
  have x6 : X.cell? ⟨w.heap.size + 1, 0, none⟩ = some (.int .i64 0) := by rw [hX]; simp [go_sem, World.cell?_alloc_past, *]
  have x7 : X.cell? ⟨w.heap.size + 1, 1, none⟩ = some (.int .i64 0) := by rw [hX]; simp [go_sem, World.cell?_alloc_past, *]
  have x8 : X.cell? ⟨w2.heap.size, 0, none⟩ = some (.int .i64 (c.tLo c.k)) := by rw [hX]; simp [go_sem, World.cell?_alloc_past, *]
  have x9 : X.cell? ⟨w2.heap.size, 1, none⟩ = some (.int .i64 (c.tHi c.k)) := by rw [hX]; simp [go_sem, World.cell?_alloc_past, *]
  have xf0 : X.frozen? ⟨w.heap.size + 1, 0, none⟩ = false := by rw [hX]; simp [go_sem, World.frozen?_alloc_past, *]
  have xf1 : X.frozen? ⟨w.heap.size + 1, 1, none⟩ = false := by rw [hX]; simp [go_sem, World.frozen?_alloc_past, *]
  have xf2 : X.frozen? ⟨w2.heap.size, 0, none⟩ = false := by rw [hX]; simp [go_sem, World.frozen?_alloc_past, *]
  have xf3 : X.frozen? ⟨w2.heap.size, 1, none⟩ = false := by rw [hX]; simp [go_sem, World.frozen?_alloc_past, *]
  have xz : w.heap.size + 1 < X.heap.size ∧ w2.heap.size < X.heap.size := by rw [hX]; constructor <;> first | omega | (simp; done) | (simp; omega)
  have hBX : Below w.heap.size w X := by rw [hX]; exact HB3.out
  have HBX := Lib.hid hBX
  clear hX hBX
  have e1 : IntKind.i64.wrap (c.tLo c.k - c.bd) = c.tLo c.k - c.bd := IntWalk.i64_in _ (by omega)
  go_region_with ((go_at_call 115; refine (bound_any c o _).mono ?_; rintro e w5 ⟨rfl, hb5⟩; have f0 : w5.cell? ⟨w.heap.size + 1, 0, none⟩ = some (.int .i64 0) := cell_later hb5 (by simp [go_sem, x6]); have f1 : w5.cell? ⟨w.heap.size + 1, 1, none⟩ = some (.int .i64 0) := cell_later hb5 (by simp [go_sem, x7]); have f2 : w5.cell? ⟨w2.heap.size, 0, none⟩ = some (.int .i64 (c.tLo c.k)) := cell_later hb5 (by simp [go_sem, x8]); have f3 : w5.cell? ⟨w2.heap.size, 1, none⟩ = some (.int .i64 (c.tHi c.k)) := cell_later hb5 (by simp [go_sem, x9]); have g0 : w5.frozen? ⟨w.heap.size + 1, 0, none⟩ = false := frozen_after hb5 (show _ = some (.int .i64 0) by simp [go_sem, x6]) (by simp [go_sem, xf0]); have g1 : w5.frozen? ⟨w.heap.size + 1, 1, none⟩ = false := frozen_after hb5 (show _ = some (.int .i64 0) by simp [go_sem, x7]) (by simp [go_sem, xf1]); have g2 : w5.frozen? ⟨w2.heap.size, 0, none⟩ = false := frozen_after hb5 (show _ = some (.int .i64 (c.tLo c.k)) by simp [go_sem, x8]) (by simp [go_sem, xf2]); have g3 : w5.frozen? ⟨w2.heap.size, 1, none⟩ = false := frozen_after hb5 (show _ = some (.int .i64 (c.tHi c.k)) by simp [go_sem, x9]) (by simp [go_sem, xf3]); have HB5 : Hid (Below w.heap.size w w5) := below_then (by first | exact HBX.out | exact HBX.out.drew) hb5; clear hb5))
  all_goals
    clear e1
    have ne1 : w2.heap.size ≠ w.heap.size + 1 := by omega
    have ne2 : w.heap.size + 1 ≠ w2.heap.size := by omega
    go_wp2
    exact bodyPost_ret (v := .agg #[.int .i64 (max (c.tLo c.k - c.bd) 0), .int .i64 (c.tHi c.k)]) (by simp [results, Tryz.results90, go_sem, f0, f1, f2, f3, ne1, ne2]) rfl ⟨by rw [HLO.out, HHI.out], (by repeat (first | exact HB5.out | refine Below.drew ?_ | refine Below.setCell ?_ (by first | omega | (simp; done) | (simp; omega)) _ | refine Below.alloc ?_ (by first | omega | (simp; done) | (simp; omega)) _))⟩
end Go.Proofs.YtnckfbejgkdhhaaGreatDoor
