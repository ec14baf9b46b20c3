/- near fields -/
import Derived.Test.YtnckfbejgkdhhaaGreatDoorV12
namespace Go.Proofs.YtnckfbejgkdhhaaGreatDoor
open Go.RowKit Go.Shelf RayM
set_option linter.unusedSimpArgs false
set_option linter.unusedVariables false

/-- the error of a speed and a frequency; of a near field, and the near field -/
def wvE (s k : Int) : Int := fst [unl (inB s 500 10000) 2, unl (inB k 1 50000) 2]
def nfE (x s k : Int) : Int := fst [unl (inB x 0 10000) 2, wvE s k]
def nfLo (x s k : Int) : Int := if nfE x s k = 0 then x * x * k / (400 * s) else 0
def nfHi (x s k : Int) : Int := if nfE x s k = 0 then cdiv (x * x * k) (400 * s) else 0
theorem wvE_zero (s k : Int) : wvE s k = 0 ↔ (500 ≤ s ∧ s ≤ 10000) ∧ (1 ≤ k ∧ k ≤ 50000) := by
  unfold wvE
  rw [fst_zero]
  simp only [List.mem_cons, List.not_mem_nil, or_false, forall_eq_or_imp, forall_eq, unl_inB _ _ _ _ (show (2 : Int) ≠ 0 by decide)]
theorem nfE_zero (x s k : Int) : nfE x s k = 0 ↔ (0 ≤ x ∧ x ≤ 10000) ∧ wvE s k = 0 := by
  unfold nfE
  rw [fst_zero]
  simp only [List.mem_cons, List.not_mem_nil, or_false, forall_eq_or_imp, forall_eq, unl_inB _ _ _ _ (show (2 : Int) ≠ 0 by decide)]
/-- a smaller aperture has a near field that ends no later -/
theorem cdiv_mono (a b c : Int) (hc : 0 < c) (h : a ≤ b) : cdiv a c ≤ cdiv b c := by
  unfold cdiv
  have := Int.ediv_le_ediv hc (show -b ≤ -a by omega)
  omega
theorem near_mono (x y s k : Int) (hx : nfE x s k = 0) (y0 : 0 ≤ y) (yx : y ≤ x) : nfE y s k = 0 ∧ nfLo y s k ≤ nfLo x s k ∧ nfHi y s k ≤ nfHi x s k := by
  obtain ⟨⟨x0, x1⟩, hw⟩ := (nfE_zero x s k).1 hx
  obtain ⟨⟨s0, s1⟩, ⟨k0, k1⟩⟩ := (wvE_zero s k).1 hw
  have hy : nfE y s k = 0 := (nfE_zero y s k).2 ⟨⟨y0, by omega⟩, hw⟩
  have m1 : y * y ≤ x * x := Int.mul_le_mul yx yx y0 x0
  have m2 : y * y * k ≤ x * x * k := Int.mul_le_mul_of_nonneg_right m1 (by omega)
  refine ⟨hy, ?_, ?_⟩
  · unfold nfLo; rw [if_pos hx, if_pos hy]
    exact Int.ediv_le_ediv (by omega) m2
  · unfold nfHi; rw [if_pos hx, if_pos hy]
    exact cdiv_mono _ _ _ (by omega) m2
set_option maxRecDepth 100000 in
set_option maxHeartbeats 1000000 in
theorem waveErr_any (s k : Int) (w : World) :
    Calls Tryz.prog 35 #[.int .i64 s, .int .i64 k] w fun e w' => e = .returned (.int .i64 (wvE s k)) ∧ Below w.heap.size w w' := by
  unfold wvE
  go_enter Tryz.func35, Tryz.ntmps35
  go_wp2_with (first | (go_at_call 52; (with_reducible refine (speedError_any _ _).mono ?_); rintro e w' ⟨rfl, rfl⟩) | (go_at_call 34; (with_reducible refine (isWithin_any _ _ _ _).mono ?_); rintro e w' ⟨rfl, rfl⟩) | (go_at_call 22; refine (firstError_any _ [unl (inB s 500 10000) 2, unl (inB k 1 50000) 2] _ (by simp) (by first | exact cells_drew _ _ (by simp) _ _ | exact cells_new _ _ (by simp) _ _)).mono ?_; rintro e w' ⟨rfl, rfl⟩))
  go_ret
  exact ⟨rfl, (by repeat (first | exact Below.refl _ _ | refine Below.drew ?_ | refine below_drewN ?_ _ | refine Below.setCell ?_ (by first | omega | (simp; done) | (simp; omega)) _ | refine Below.alloc ?_ (by first | omega | (simp; done) | (simp; omega)) _))⟩
set_option maxRecDepth 100000 in
set_option maxHeartbeats 1000000 in
theorem enclosed_any (a b : Int) (w : World) (ha : -4611686018427387904 ≤ a) (ha' : a < 4611686018427387904) (hb : 1 ≤ b) (hb' : b < 4611686018427387904) :
    Calls Tryz.prog 36 #[.int .i64 a, .int .i64 b] w fun e w' => e = .returned (.agg #[.int .i64 (a / b), .int .i64 (cdiv a b)]) ∧ Below w.heap.size w w' := by
  have DN := Lib.hid (fun w => down_any a b w ha ha' hb hb')
  have UP := Lib.hid (fun w => up_any a b w ha ha' hb hb')
  generalize a / b = q at *
  generalize cdiv a b = r at *
  clear ha ha' hb hb'
  go_enter Tryz.func36, Tryz.ntmps36
  go_wp2_with (first | (go_at_call 53; (with_reducible refine (DN.out _).mono ?_); rintro e w' ⟨rfl, rfl⟩) | (go_at_call 54; (with_reducible refine (UP.out _).mono ?_); rintro e w' ⟨rfl, rfl⟩))
  exact bodyPost_ret (v := .agg #[.int .i64 q, .int .i64 r]) (by simp [results, Tryz.results36, go_sem, World.cell?_alloc_past, *]) rfl ⟨rfl, (Below.refl _ _).alloc (Nat.le_refl _) _⟩
set_option maxRecDepth 100000 in
set_option maxHeartbeats 1000000 in
theorem nearField_any (x s k : Int) (w : World) :
    Calls Tryz.prog 16 #[.int .i64 x, .int .i64 s, .int .i64 k] w fun e w' => e = .returned (.tuple #[.agg #[.int .i64 (nfLo x s k), .int .i64 (nfHi x s k)], .int .i64 (nfE x s k)]) ∧ Below w.heap.size w w' := by
  have HW := Lib.hid (fun w => waveErr_any s k w)
  by_cases hE : nfE x s k = 0
  · obtain ⟨⟨x0, x1⟩, hw⟩ := (nfE_zero x s k).1 hE
    obtain ⟨⟨s0, s1⟩, ⟨k0, k1⟩⟩ := (wvE_zero s k).1 hw
    have e1 : nfLo x s k = x * x * k / (400 * s) := by unfold nfLo; rw [if_pos hE]
    have e2 : nfHi x s k = cdiv (x * x * k) (400 * s) := by unfold nfHi; rw [if_pos hE]
    have e3 : fst [unl (inB x 0 10000) 2, wvE s k] = 0 := hE
    rw [hE, e1, e2]
    generalize wvE s k = u1 at *
    have n0 : (fst [unl (inB x 0 10000) 2, u1] != 0) = false := by rw [e3]; rfl
    have m0 : 0 ≤ x * x := Int.mul_nonneg x0 x0
    have m1 : x * x ≤ 10000 * 10000 := Int.mul_le_mul x1 x1 x0 (by omega)
    have m2 : 0 ≤ x * x * k := Int.mul_nonneg m0 (by omega)
    have m3 : x * x * k ≤ 100000000 * 50000 := Int.mul_le_mul (by omega) k1 (by omega) (by omega)
    have v1 : IntKind.i64.wrap (x * x) = x * x := IntWalk.i64_in _ (by omega)
    have v2 : IntKind.i64.wrap (x * x * k) = x * x * k := IntWalk.i64_in _ (by omega)
    have v3 : IntKind.i64.wrap (400 * s) = 400 * s := IntWalk.i64_in _ (by omega)
    have EN := Lib.hid (fun w => enclosed_any (x * x * k) (400 * s) w (by omega) (by omega) (by omega) (by omega))
    have q1 := Int.ediv_le_self (400 * s) m2
    have q2 : 0 ≤ x * x * k / (400 * s) := Int.ediv_nonneg m2 (by omega)
    clear hE hw e1 e2 e3
    go_enter Tryz.func16, Tryz.ntmps16
    go_wp2_with (go_at_call 34; (with_reducible refine (isWithin_any _ _ _ _).mono ?_); rintro e w' ⟨rfl, rfl⟩)
    refine (HW.out _).mono ?_
    rintro e w1 ⟨rfl, hb1⟩
    have qw10 : w1.cell? ⟨w.heap.size, 0, none⟩ = some (.int .i64 0) := cell_later hb1 (by simp [go_sem])
    have qw11 : w1.cell? ⟨w.heap.size, 1, none⟩ = some (.int .i64 0) := cell_later hb1 (by simp [go_sem])
    have qw1f0 : w1.frozen? ⟨w.heap.size, 0, none⟩ = false := frozen_after hb1 (v := .int .i64 0) (by simp [go_sem]) (by simp [go_sem])
    have qw1f1 : w1.frozen? ⟨w.heap.size, 1, none⟩ = false := frozen_after hb1 (v := .int .i64 0) (by simp [go_sem]) (by simp [go_sem])
    have zqw1_0 := World.block_lt_of_cell? _ _ qw10
    dsimp only at zqw1_0
    have H1 : Hid (Below w.heap.size w w1) := Lib.hid (below_after (by repeat (first | exact Below.refl _ _ | refine Below.drew ?_ | refine below_drewN ?_ _ | refine Below.setCell ?_ (by first | omega | (simp; done) | (simp; omega)) _ | refine Below.alloc ?_ (by first | omega | (simp; done) | (simp; omega)) _)) hb1 (by first | omega | (simp; done) | (simp; omega))); clear hb1
    go_upto_region 5 with (go_at_call 22; refine (firstError_any _ [unl (inB x 0 10000) 2, u1] _ (by simp) (by first | exact cells_drew _ _ (by simp) _ _ | exact cells_new _ _ (by simp) _ _)).mono ?_; rintro e w' ⟨rfl, rfl⟩)
    generalize hW2 : w1.alloc (.cells #[.int .i64 (unl (inB x 0 10000) 2), .int .i64 u1] 29) = w2 at *
    have b2 : Below w1.heap.size w1 w2 := by rw [← hW2]; exact (Below.refl _ _).alloc (Nat.le_refl _) _
    have c0 : w2.cell? ⟨w.heap.size, 0, none⟩ = some (.int .i64 0) := cell_later b2 qw10
    have c1 : w2.cell? ⟨w.heap.size, 1, none⟩ = some (.int .i64 0) := cell_later b2 qw11
    have f0 : w2.frozen? ⟨w.heap.size, 0, none⟩ = false := frozen_after b2 qw10 qw1f0
    have f1 : w2.frozen? ⟨w.heap.size, 1, none⟩ = false := frozen_after b2 qw11 qw1f1
    have H2 : Hid (Below w.heap.size w w2) := Lib.hid (below_then H1.out b2)
    clear hW2 b2 qw10 qw11 qw1f0 qw1f1
    refine (EN.out _).mono ?_
    rintro e w3 ⟨rfl, hb3⟩
    have d0 := cell_later hb3 c0; have d1 := cell_later hb3 c1
    have g0 := frozen_after hb3 c0 f0; have g1 := frozen_after hb3 c1 f1
    have H3 : Hid (Below w.heap.size w w3) := Lib.hid (below_then H2.out hb3)
    clear hb3 c0 c1 f0 f1
    go_wp2
    exact bodyPost_ret (v := .tuple #[.agg #[.int .i64 (x * x * k / (400 * s)), .int .i64 (cdiv (x * x * k) (400 * s))], .int .i64 (0)]) (by simp [results, Tryz.results16, go_sem, World.cell?_alloc_past, *]) rfl ⟨rfl, (by (repeat (first | (with_reducible exact H3.out) | (with_reducible refine Below.setCell ?_ ?_ _) | (with_reducible refine below_alloc_top ?_ _) | (with_reducible refine Below.drew ?_))); all_goals (first | omega | (simp; done) | (simp; omega)))⟩
  · have e1 : nfLo x s k = 0 := by unfold nfLo; rw [if_neg hE]
    have e2 : nfHi x s k = 0 := by unfold nfHi; rw [if_neg hE]
    have e3 : nfE x s k = fst [unl (inB x 0 10000) 2, wvE s k] := rfl
    rw [e1, e2]
    rw [e3] at hE ⊢
    generalize wvE s k = u1 at *
    have n0 : (fst [unl (inB x 0 10000) 2, u1] != 0) = true := by simpa using hE
    clear hE e1 e2 e3
    go_enter Tryz.func16, Tryz.ntmps16
    go_wp2_with (go_at_call 34; (with_reducible refine (isWithin_any _ _ _ _).mono ?_); rintro e w' ⟨rfl, rfl⟩)
    refine (HW.out _).mono ?_
    rintro e w1 ⟨rfl, hb1⟩
    have qw10 : w1.cell? ⟨w.heap.size, 0, none⟩ = some (.int .i64 0) := cell_later hb1 (by simp [go_sem])
    have qw11 : w1.cell? ⟨w.heap.size, 1, none⟩ = some (.int .i64 0) := cell_later hb1 (by simp [go_sem])
    have qw1f0 : w1.frozen? ⟨w.heap.size, 0, none⟩ = false := frozen_after hb1 (v := .int .i64 0) (by simp [go_sem]) (by simp [go_sem])
    have qw1f1 : w1.frozen? ⟨w.heap.size, 1, none⟩ = false := frozen_after hb1 (v := .int .i64 0) (by simp [go_sem]) (by simp [go_sem])
    have zqw1_0 := World.block_lt_of_cell? _ _ qw10
    dsimp only at zqw1_0
    have H1 : Hid (Below w.heap.size w w1) := Lib.hid (below_after (by repeat (first | exact Below.refl _ _ | refine Below.drew ?_ | refine below_drewN ?_ _ | refine Below.setCell ?_ (by first | omega | (simp; done) | (simp; omega)) _ | refine Below.alloc ?_ (by first | omega | (simp; done) | (simp; omega)) _)) hb1 (by first | omega | (simp; done) | (simp; omega))); clear hb1
    go_wp2_with (go_at_call 22; refine (firstError_any _ [unl (inB x 0 10000) 2, u1] _ (by simp) (by first | exact cells_drew _ _ (by simp) _ _ | exact cells_new _ _ (by simp) _ _)).mono ?_; rintro e w' ⟨rfl, rfl⟩)
    exact bodyPost_ret (v := .tuple #[.agg #[.int .i64 (0), .int .i64 (0)], .int .i64 (fst [unl (inB x 0 10000) 2, u1])]) (by simp [results, Tryz.results16, go_sem, World.cell?_alloc_past, *]) rfl ⟨rfl, (by (repeat (first | (with_reducible exact H1.out) | (with_reducible refine Below.setCell ?_ ?_ _) | (with_reducible refine below_alloc_top ?_ _) | (with_reducible refine Below.drew ?_))); all_goals (first | omega | (simp; done) | (simp; omega)))⟩
end Go.Proofs.YtnckfbejgkdhhaaGreatDoor
