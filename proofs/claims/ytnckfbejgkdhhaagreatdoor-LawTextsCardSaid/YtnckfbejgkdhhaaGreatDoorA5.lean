/- slopes -/
import Derived.Test.YtnckfbejgkdhhaaGreatDoorA4
namespace Go.Proofs.YtnckfbejgkdhhaaGreatDoor
open Go.RowKit RayM
set_option linter.unusedSimpArgs false
set_option linter.unusedVariables false

theorem sg_turn (X Y : Int) : -(sg X Y) = sg Y X := by
  have h1 := sg_cases X Y
  have h2 := sg_cases Y X
  omega
theorem sg_neg (X Y : Int) : wrap64 (-(sg X Y)) = sg Y X := by
  have h := sg_cases X Y
  rw [← sg_turn X Y]
  exact IntWalk.wrap64_in _ ⟨by omega, by omega⟩
/-- bounds of what the slope multiplies -/
theorem slope_bounds (a v b h : Int) (a0 : -200000 ≤ a) (a1 : a ≤ 200000) (v0 : 500 ≤ v) (v1 : v ≤ 10000) (b0 : -200000 ≤ b) (b1 : b ≤ 200000) (h0 : 1 ≤ h) (h1 : h ≤ 100000) :
    (0 ≤ a * a ∧ a * a ≤ 40000000000) ∧ (0 ≤ a * a * v ∧ a * a * v ≤ 400000000000000) ∧ (0 ≤ a * a * v * v ∧ a * a * v * v ≤ 4000000000000000000) ∧ (0 ≤ b * b ∧ b * b ≤ 40000000000) ∧ (0 ≤ h * h ∧ h * h ≤ 10000000000) := by
  have sqb : ∀ x : Int, -200000 ≤ x → x ≤ 200000 → 0 ≤ x * x ∧ x * x ≤ 40000000000 := by
    intro x h0 h1
    refine ⟨sq_nonneg x, ?_⟩
    rcases Int.le_total 0 x with h | h
    · exact sq_le x 200000 h h1
    · have := sq_le (-x) 200000 (by omega) (by omega); rw [Int.neg_mul_neg] at this; exact this
  have k1 := sqb a a0 a1
  have k2 := mul_le (a * a) v 40000000000 10000 k1.1 (by omega) k1.2 v1
  have k3 := Int.mul_nonneg k1.1 (show 0 ≤ v by omega)
  have k4 := mul_le (a * a * v) v 400000000000000 10000 k3 (by omega) (by omega) v1
  have k5 := Int.mul_nonneg k3 (show 0 ≤ v by omega)
  have k6 := sqb b b0 b1
  exact ⟨k1, ⟨k3, by omega⟩, ⟨k5, by omega⟩, k6, sq_nonneg h, sq_le h 100000 (by omega) h1⟩

set_option maxHeartbeats 4000000 in
theorem slope_any (c : Cr) (o : c.ok) (t : Int) (w : World) (t0 : -100000 ≤ t) (t1 : t ≤ 100000) :
    Calls Tryz.prog 126 #[.agg #[.int .i64 c.x1, .int .i64 c.h1, .int .i64 c.x2, .int .i64 c.h2, .int .i64 c.v1, .int .i64 c.v2], .int .i64 t] w fun e w' => e = .returned (.int .i64 (c.slope t)) ∧ Below w.heap.size w w' := by
  have hs : c.slope t = if c.x2 < c.x1 then sg (c.S t) (c.F t) else sg (c.F t) (c.S t) := rfl
  have hF : c.F t = (t - c.x1) * (t - c.x1) * c.v2 * c.v2 * ((c.x2 - t) * (c.x2 - t) + c.h2 * c.h2) := rfl
  have hS : c.S t = (c.x2 - t) * (c.x2 - t) * c.v1 * c.v1 * ((t - c.x1) * (t - c.x1) + c.h1 * c.h1) := rfl
  obtain ⟨x1, h1, v1, x2, h2, v2⟩ := c
  obtain ⟨p1, p2, p3, p4, p5, p6, p7, p8, p9, p10, p11, p12⟩ := o
  dsimp only at *
  obtain ⟨⟨k1, k2⟩, ⟨k3, k4⟩, ⟨k5, k6⟩, ⟨k7, k8⟩, ⟨k9, k10⟩⟩ := slope_bounds (t - x1) v2 (x2 - t) h2 (by omega) (by omega) p11 p12 (by omega) (by omega) p7 p8
  obtain ⟨⟨j1, j2⟩, ⟨j3, j4⟩, ⟨j5, j6⟩, ⟨j7, j8⟩, ⟨j9, j10⟩⟩ := slope_bounds (x2 - t) v1 (t - x1) h1 (by omega) (by omega) p9 p10 (by omega) (by omega) p5 p6
  generalize Cr.slope _ t = sl at *
  generalize Cr.F _ t = F at *
  generalize Cr.S _ t = S at *
  have HF := Lib.hid hF
  have HS := Lib.hid hS
  have HL := Lib.hid hs
  clear hF hS hs
  have HC := Lib.hid (fun w => compareProducts_any ((t - x1) * (t - x1) * v2 * v2) ((x2 - t) * (x2 - t) + h2 * h2) ((x2 - t) * (x2 - t) * v1 * v1) ((t - x1) * (t - x1) + h1 * h1) w (by omega) (by omega) (by omega) (by omega) (by omega) (by omega) (by omega) (by omega))
  rw [← HF.out, ← HS.out] at HC
  have SN := Lib.hid (sg_neg F S)
  by_cases hx : x2 < x1
  · have sl1 := HL.out
    rw [if_pos hx] at sl1
    have SL := Lib.hid sl1; clear sl1 HL
    go_enter Tryz.func126, Tryz.ntmps126
    go_wp2
    go_quiet (fail)
    go_wp2_with fail
    refine (HC.out _).mono ?_
    rintro e w1 ⟨rfl, hb⟩
    have hc0 := cell_later hb (a := ⟨w.heap.size, 0, none⟩) (v := .int .i64 x1) (by simp [go_sem])
    have hc2 := cell_later hb (a := ⟨w.heap.size, 2, none⟩) (v := .int .i64 x2) (by simp [go_sem])
    have H1 : Hid (Below w.heap.size w w1) := Lib.hid (Below.trans (by repeat (first | exact Below.refl _ _ | refine Below.drew ?_ | refine below_drewN ?_ _ | refine Below.setCell ?_ (by first | omega | (simp; done) | (simp; omega)) _ | refine Below.alloc ?_ (by first | omega | (simp; done) | (simp; omega)) _)) (hb.mono (by first | omega | (simp; done) | (simp; omega))))
    clear hb
    generalize sg F S = sv at *
    go_wp2
    go_ret
    exact ⟨by rw [SL.out, ← SN.out]; rfl, H1.out⟩
  · have sl1 := HL.out
    rw [if_neg hx] at sl1
    have SL := Lib.hid sl1; clear sl1 HL
    go_enter Tryz.func126, Tryz.ntmps126
    go_wp2
    go_quiet (fail)
    go_wp2_with fail
    refine (HC.out _).mono ?_
    rintro e w1 ⟨rfl, hb⟩
    have hc0 := cell_later hb (a := ⟨w.heap.size, 0, none⟩) (v := .int .i64 x1) (by simp [go_sem])
    have hc2 := cell_later hb (a := ⟨w.heap.size, 2, none⟩) (v := .int .i64 x2) (by simp [go_sem])
    have H1 : Hid (Below w.heap.size w w1) := Lib.hid (Below.trans (by repeat (first | exact Below.refl _ _ | refine Below.drew ?_ | refine below_drewN ?_ _ | refine Below.setCell ?_ (by first | omega | (simp; done) | (simp; omega)) _ | refine Below.alloc ?_ (by first | omega | (simp; done) | (simp; omega)) _)) (hb.mono (by first | omega | (simp; done) | (simp; omega))))
    clear hb
    go_wp2
    go_ret
    exact ⟨by rw [SL.out]; rfl, H1.out⟩
end Go.Proofs.YtnckfbejgkdhhaaGreatDoor
