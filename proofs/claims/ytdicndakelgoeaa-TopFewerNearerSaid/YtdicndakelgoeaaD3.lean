/- RaySymmetric: the walk -/
import Derived.Test.YtdicndakelgoeaaC1
import Derived.Test.YtdicndakelgoeaaM2
namespace Go.Proofs.RayM
set_option linter.unusedVariables false
theorem lHi_at (c : Cr) (o : c.ok) : ∃ t, c.lo ≤ t ∧ t ≤ c.hi ∧ c.lHi = c.tHi t := by
  have hk := k_is c o
  have := hk.a; have := hk.b
  unfold Cr.lHi
  split
  · by_cases h : c.tHi c.k ≤ c.tHi (c.k + 1)
    · exact ⟨c.k, by omega, by omega, by omega⟩
    · exact ⟨c.k + 1, by omega, by omega, by omega⟩
  · exact ⟨c.k, by omega, by omega, rfl⟩
theorem lLo_lHi (c : Cr) (o : c.ok) : c.lLo ≤ c.lHi := by
  obtain ⟨t, h1, h2, h3⟩ := lHi_at c o
  rw [h3]; exact least_is c o t h1 h2
theorem sqL_neg_left (x z : Int) : sqL (-x) z = sqL x z := by unfold sqL; rw [Int.neg_mul_neg]
theorem legHi_neg (x z v : Int) : legHi (-x) z v = legHi x z v := by unfold legHi; rw [sqL_neg_left]
theorem legLo_neg (x z v : Int) : legLo (-x) z v = legLo x z v := by unfold legLo; rw [sqL_neg_left]
/-- two crossings whose times are those of one another meet -/
theorem meet_of (c d : Cr) (o : c.ok) (p : d.ok) (f : Int → Int) (h1 : ∀ t, d.lo ≤ t → t ≤ d.hi → c.lo ≤ f t ∧ f t ≤ c.hi ∧ d.tHi t = c.tHi (f t)) : c.lLo ≤ d.lHi := by
  obtain ⟨t, a, b, e⟩ := lHi_at d p
  obtain ⟨a', b', e'⟩ := h1 t a b
  rw [e, e']; exact least_is c o _ a' b'
def Cr.swap (c : Cr) : Cr := ⟨c.x2, c.h2, c.v2, c.x1, c.h1, c.v1⟩
def Cr.mirror (c : Cr) : Cr := ⟨-c.x1, c.h1, c.v1, -c.x2, c.h2, c.v2⟩
def Cr.shift (c : Cr) (y : Int) : Cr := ⟨c.x1 + y, c.h1, c.v1, c.x2 + y, c.h2, c.v2⟩
theorem swap_ok (c : Cr) (o : c.ok) : c.swap.ok := ⟨o.b1, o.b2, o.a1, o.a2, o.d1, o.d2, o.c1, o.c2, o.f1, o.f2, o.e1, o.e2⟩
theorem mirror_ok (c : Cr) (o : c.ok) : c.mirror.ok := ⟨by have := o.a2; show -100000 ≤ -c.x1; omega, by have := o.a1; show -c.x1 ≤ 100000; omega, by have := o.b2; show -100000 ≤ -c.x2; omega, by have := o.b1; show -c.x2 ≤ 100000; omega, o.c1, o.c2, o.d1, o.d2, o.e1, o.e2, o.f1, o.f2⟩
theorem swap_hi (c : Cr) (t : Int) : c.swap.tHi t = c.tHi t := by
  unfold Cr.swap Cr.tHi
  dsimp only
  rw [← legHi_neg (t - c.x2), ← legHi_neg (c.x1 - t), Int.neg_sub, Int.neg_sub]; omega
theorem mirror_hi (c : Cr) (t : Int) : c.mirror.tHi t = c.tHi (-t) := by
  unfold Cr.mirror Cr.tHi
  dsimp only
  rw [← legHi_neg (t - -c.x1), ← legHi_neg (-c.x2 - t)]
  rw [show -(t - -c.x1) = -t - c.x1 by omega, show -(-c.x2 - t) = c.x2 - -t by omega]
theorem swap_meets (c : Cr) (o : c.ok) : max c.lLo c.swap.lLo ≤ min c.lHi c.swap.lHi := by
  have h1 := lLo_lHi c o
  have h2 := lLo_lHi _ (swap_ok c o)
  have h3 := meet_of c c.swap o (swap_ok c o) id (fun t a b => ⟨by unfold Cr.swap Cr.lo at *; dsimp only [id] at *; omega, by unfold Cr.swap Cr.hi at *; dsimp only [id] at *; omega, swap_hi c t⟩)
  have h4 := meet_of c.swap c (swap_ok c o) o id (fun t a b => ⟨by unfold Cr.swap Cr.lo at *; dsimp only [id] at *; omega, by unfold Cr.swap Cr.hi at *; dsimp only [id] at *; omega, (swap_hi c t).symm⟩)
  omega
theorem mirror_meets (c : Cr) (o : c.ok) : max c.lLo c.mirror.lLo ≤ min c.lHi c.mirror.lHi := by
  have h1 := lLo_lHi c o
  have h2 := lLo_lHi _ (mirror_ok c o)
  have h3 := meet_of c c.mirror o (mirror_ok c o) (fun t => -t) (fun t a b => ⟨by unfold Cr.mirror Cr.hi Cr.lo at *; dsimp only at *; omega, by unfold Cr.mirror Cr.lo Cr.hi at *; dsimp only at *; omega, mirror_hi c t⟩)
  have h4 := meet_of c.mirror c (mirror_ok c o) o (fun t => -t) (fun t a b => ⟨by unfold Cr.mirror Cr.hi Cr.lo at *; dsimp only at *; omega, by unfold Cr.mirror Cr.lo Cr.hi at *; dsimp only at *; omega, by rw [mirror_hi c (-t), Int.neg_neg]⟩)
  omega
theorem shift_slope (c : Cr) (y t : Int) : (c.shift y).slope (t + y) = c.slope t := by
  unfold Cr.slope Cr.F Cr.S Cr.shift
  dsimp only
  rw [show t + y - (c.x1 + y) = t - c.x1 by omega, show c.x2 + y - (t + y) = c.x2 - t by omega]
  by_cases h : c.x2 < c.x1
  · rw [if_pos h, if_pos (by omega)]
  · rw [if_neg h, if_neg (by omega)]
theorem shift_k (c : Cr) (y : Int) (o : c.ok) (p : (c.shift y).ok) : (c.shift y).k = c.k + y := by
  have h := k_is c o
  refine (k_is _ p).unique ⟨by have := h.a; unfold Cr.shift Cr.lo at *; dsimp only; omega, by have := h.b; unfold Cr.shift Cr.hi at *; dsimp only; omega, fun t a b => ?_, fun t a b => ?_⟩
  · have := h.p (t - y) (by unfold Cr.shift Cr.lo at *; dsimp only at a; omega) (by omega)
    rw [← shift_slope c y, show t - y + y = t by omega] at this; exact this
  · have := h.q (t - y) (by omega) (by unfold Cr.shift Cr.hi at *; dsimp only at b; omega)
    rw [← shift_slope c y, show t - y + y = t by omega] at this; exact this
theorem shift_tLo (c : Cr) (y t : Int) : (c.shift y).tLo (t + y) = c.tLo t := by
  unfold Cr.tLo Cr.shift; dsimp only
  rw [show t + y - (c.x1 + y) = t - c.x1 by omega, show c.x2 + y - (t + y) = c.x2 - t by omega]
theorem shift_tHi (c : Cr) (y t : Int) : (c.shift y).tHi (t + y) = c.tHi t := by
  unfold Cr.tHi Cr.shift; dsimp only
  rw [show t + y - (c.x1 + y) = t - c.x1 by omega, show c.x2 + y - (t + y) = c.x2 - t by omega]
theorem shift_least (c : Cr) (y : Int) (o : c.ok) (p : (c.shift y).ok) : (c.shift y).lLo = c.lLo ∧ (c.shift y).lHi = c.lHi := by
  have hk := shift_k c y o p
  have hh : (c.shift y).hi = c.hi + y := by unfold Cr.shift Cr.hi; dsimp only; omega
  have hb : (c.shift y).bd = c.bd := rfl
  unfold Cr.lLo Cr.lHi
  rw [hk, hh, hb, shift_tLo, shift_tHi, show c.k + y + 1 = c.k + 1 + y by omega, shift_tLo, shift_tHi]
  by_cases h : c.k < c.hi
  · rw [if_pos h, if_pos h, if_pos (by omega), if_pos (by omega)]; exact ⟨rfl, rfl⟩
  · rw [if_neg h, if_neg h, if_neg (by omega), if_neg (by omega)]; exact ⟨rfl, rfl⟩
end Go.Proofs.RayM
namespace Go.Proofs.Ytdicndakelgoeaa
open Go.RowKit RayM
set_option linter.unusedSimpArgs false
set_option linter.unusedVariables false
set_option maxRecDepth 100000 in
set_option maxHeartbeats 1000000 in
theorem meets_true (a b c d : Int) (w : World) (h : max a c ≤ min b d) :
    Calls Try.prog 42 #[.agg #[.int .i64 a, .int .i64 b], .agg #[.int .i64 c, .int .i64 d]] w fun e w' => e = .returned (.bool true) ∧ Below w.heap.size w w' := by
  go_enter Try.func42, Try.ntmps42
  go_wp2
  go_ret
  exact ⟨by first | rfl | simp [h] | (simp; omega), (by repeat (first | exact Below.refl _ _ | refine Below.drew ?_ | refine below_drewN ?_ _ | refine Below.setCell ?_ (by first | omega | (simp; done) | (simp; omega)) _ | refine Below.alloc ?_ (by first | omega | (simp; done) | (simp; omega)) _))⟩
set_option maxRecDepth 100000 in
set_option maxHeartbeats 1000000 in
theorem symm_bad (c : Cr) (o : ¬ c.ok) (y : Int) (w : World) :
    Calls Try.prog 7 #[.agg #[.int .i64 c.x1, .int .i64 c.h1, .int .i64 c.v1, .int .i64 c.x2, .int .i64 c.h2, .int .i64 c.v2], .int .i64 y] w fun e w' => e = .returned (.bool true) ∧ Below w.heap.size w w' := by
  have HL := Lib.hid (fun w => least_bad c o w)
  go_enter Try.func7, Try.ntmps7
  go_wp2_with fail
  refine (awake_any _).mono ?_
  rintro e w1 ⟨rfl, hb1⟩
  have qw10 : w1.cell? ⟨w.heap.size, 0, none⟩ = some (.int .i64 c.x1) := cell_later hb1 (by simp [go_sem])
  have qw11 : w1.cell? ⟨w.heap.size, 1, none⟩ = some (.int .i64 c.h1) := cell_later hb1 (by simp [go_sem])
  have qw12 : w1.cell? ⟨w.heap.size, 2, none⟩ = some (.int .i64 c.v1) := cell_later hb1 (by simp [go_sem])
  have qw13 : w1.cell? ⟨w.heap.size, 3, none⟩ = some (.int .i64 c.x2) := cell_later hb1 (by simp [go_sem])
  have qw14 : w1.cell? ⟨w.heap.size, 4, none⟩ = some (.int .i64 c.h2) := cell_later hb1 (by simp [go_sem])
  have qw15 : w1.cell? ⟨w.heap.size, 5, none⟩ = some (.int .i64 c.v2) := cell_later hb1 (by simp [go_sem])
  have zqw1_0 := World.block_lt_of_cell? _ _ qw10
  dsimp only at zqw1_0
  have H1 := Lib.hid (below_after (by repeat (first | exact Below.refl _ _ | refine Below.drew ?_ | refine below_drewN ?_ _ | refine Below.setCell ?_ (by first | omega | (simp; done) | (simp; omega)) _ | refine Below.alloc ?_ (by first | omega | (simp; done) | (simp; omega)) _)) hb1 (by first | omega | (simp; done) | (simp; omega)) : Below w.heap.size w w1); clear hb1
  go_wp2_with fail
  refine (HL.out _).mono ?_
  rintro e w2 ⟨rfl, hb2⟩
  have qw20 : w2.cell? ⟨w.heap.size, 0, none⟩ = some (.int .i64 c.x1) := cell_later hb2 (by simp [go_sem, *])
  have qw21 : w2.cell? ⟨w.heap.size, 1, none⟩ = some (.int .i64 c.h1) := cell_later hb2 (by simp [go_sem, *])
  have qw22 : w2.cell? ⟨w.heap.size, 2, none⟩ = some (.int .i64 c.v1) := cell_later hb2 (by simp [go_sem, *])
  have qw23 : w2.cell? ⟨w.heap.size, 3, none⟩ = some (.int .i64 c.x2) := cell_later hb2 (by simp [go_sem, *])
  have qw24 : w2.cell? ⟨w.heap.size, 4, none⟩ = some (.int .i64 c.h2) := cell_later hb2 (by simp [go_sem, *])
  have qw25 : w2.cell? ⟨w.heap.size, 5, none⟩ = some (.int .i64 c.v2) := cell_later hb2 (by simp [go_sem, *])
  have zqw2_0 := World.block_lt_of_cell? _ _ qw20
  dsimp only at zqw2_0
  have H2 := Lib.hid (below_then H1.out hb2); clear hb2
  go_wp2
  go_ret
  exact ⟨rfl, (by (repeat (first | (with_reducible exact H2.out) | (with_reducible refine Below.setCell ?_ ?_ _) | (with_reducible refine below_alloc_top ?_ _) | (with_reducible refine Below.drew ?_))); all_goals (first | omega | (simp; done) | (simp; omega)))⟩
set_option maxRecDepth 100000 in
set_option maxHeartbeats 1000000 in
theorem symm_far (c : Cr) (o : c.ok) (y : Int) (w : World) (h : inB y (-10000) 10000 = false) :
    Calls Try.prog 7 #[.agg #[.int .i64 c.x1, .int .i64 c.h1, .int .i64 c.v1, .int .i64 c.x2, .int .i64 c.h2, .int .i64 c.v2], .int .i64 y] w fun e w' => e = .returned (.bool true) ∧ Below w.heap.size w w' := by
  have HL := Lib.hid (fun w => least_ok c o w)
  have HS := Lib.hid (fun w => least_ok c.swap (swap_ok c o) w)
  have HM := Lib.hid (fun w => least_ok c.mirror (mirror_ok c o) w)
  have M1 := Lib.hid (fun w => meets_true _ _ _ _ w (swap_meets c o))
  have M2 := Lib.hid (fun w => meets_true _ _ _ _ w (mirror_meets c o))
  generalize c.swap.lLo = sl at *
  generalize c.swap.lHi = sh at *
  generalize c.mirror.lLo = ml at *
  generalize c.mirror.lHi = mh at *
  dsimp only [Cr.swap, Cr.mirror] at HS HM
  have a1 := o.a1; have a2 := o.a2; have a3 := o.b1; have a4 := o.b2
  have HW := Lib.hid (fun w => within_any y (-10000) 10000 w)
  rw [h] at HW
  clear h
  generalize c.lLo = lo at *
  generalize c.lHi = hi at *
  go_enter Try.func7, Try.ntmps7
  go_wp2_with fail
  refine (awake_any _).mono ?_
  rintro e w1 ⟨rfl, hb1⟩
  have qw10 : w1.cell? ⟨w.heap.size, 0, none⟩ = some (.int .i64 c.x1) := cell_later hb1 (by simp [go_sem])
  have qw11 : w1.cell? ⟨w.heap.size, 1, none⟩ = some (.int .i64 c.h1) := cell_later hb1 (by simp [go_sem])
  have qw12 : w1.cell? ⟨w.heap.size, 2, none⟩ = some (.int .i64 c.v1) := cell_later hb1 (by simp [go_sem])
  have qw13 : w1.cell? ⟨w.heap.size, 3, none⟩ = some (.int .i64 c.x2) := cell_later hb1 (by simp [go_sem])
  have qw14 : w1.cell? ⟨w.heap.size, 4, none⟩ = some (.int .i64 c.h2) := cell_later hb1 (by simp [go_sem])
  have qw15 : w1.cell? ⟨w.heap.size, 5, none⟩ = some (.int .i64 c.v2) := cell_later hb1 (by simp [go_sem])
  have zqw1_0 := World.block_lt_of_cell? _ _ qw10
  dsimp only at zqw1_0
  have H1 := Lib.hid (below_after (by repeat (first | exact Below.refl _ _ | refine Below.drew ?_ | refine below_drewN ?_ _ | refine Below.setCell ?_ (by first | omega | (simp; done) | (simp; omega)) _ | refine Below.alloc ?_ (by first | omega | (simp; done) | (simp; omega)) _)) hb1 (by first | omega | (simp; done) | (simp; omega)) : Below w.heap.size w w1); clear hb1
  go_wp2_with fail
  refine (HL.out _).mono ?_
  rintro e w2 ⟨rfl, hb2⟩
  have qw20 : w2.cell? ⟨w.heap.size, 0, none⟩ = some (.int .i64 c.x1) := cell_later hb2 (by simp [go_sem, *])
  have qw21 : w2.cell? ⟨w.heap.size, 1, none⟩ = some (.int .i64 c.h1) := cell_later hb2 (by simp [go_sem, *])
  have qw22 : w2.cell? ⟨w.heap.size, 2, none⟩ = some (.int .i64 c.v1) := cell_later hb2 (by simp [go_sem, *])
  have qw23 : w2.cell? ⟨w.heap.size, 3, none⟩ = some (.int .i64 c.x2) := cell_later hb2 (by simp [go_sem, *])
  have qw24 : w2.cell? ⟨w.heap.size, 4, none⟩ = some (.int .i64 c.h2) := cell_later hb2 (by simp [go_sem, *])
  have qw25 : w2.cell? ⟨w.heap.size, 5, none⟩ = some (.int .i64 c.v2) := cell_later hb2 (by simp [go_sem, *])
  have zqw2_0 := World.block_lt_of_cell? _ _ qw20
  dsimp only at zqw2_0
  have H2 := Lib.hid (below_then H1.out hb2); clear hb2
  go_wp2_with fail
  refine (HS.out _).mono ?_
  rintro e w3 ⟨rfl, hb3⟩
  have qw30 : w3.cell? ⟨w.heap.size, 0, none⟩ = some (.int .i64 c.x1) := cell_later hb3 (by simp [go_sem, *])
  have qw31 : w3.cell? ⟨w.heap.size, 1, none⟩ = some (.int .i64 c.h1) := cell_later hb3 (by simp [go_sem, *])
  have qw32 : w3.cell? ⟨w.heap.size, 2, none⟩ = some (.int .i64 c.v1) := cell_later hb3 (by simp [go_sem, *])
  have qw33 : w3.cell? ⟨w.heap.size, 3, none⟩ = some (.int .i64 c.x2) := cell_later hb3 (by simp [go_sem, *])
  have qw34 : w3.cell? ⟨w.heap.size, 4, none⟩ = some (.int .i64 c.h2) := cell_later hb3 (by simp [go_sem, *])
  have qw35 : w3.cell? ⟨w.heap.size, 5, none⟩ = some (.int .i64 c.v2) := cell_later hb3 (by simp [go_sem, *])
  have qw36 : w3.cell? ⟨w2.heap.size, 0, none⟩ = some (.int .i64 lo) := cell_later hb3 (by simp [go_sem, *])
  have qw37 : w3.cell? ⟨w2.heap.size, 1, none⟩ = some (.int .i64 hi) := cell_later hb3 (by simp [go_sem, *])
  have zqw3_0 := World.block_lt_of_cell? _ _ qw30
  dsimp only at zqw3_0
  have zqw3_6 := World.block_lt_of_cell? _ _ qw36
  dsimp only at zqw3_6
  have H3 := Lib.hid (below_then (below_alloc_top H2.out _) hb3); clear hb3
  go_wp2_with fail
  refine (HM.out _).mono ?_
  rintro e w4 ⟨rfl, hb4⟩
  have qw40 : w4.cell? ⟨w.heap.size, 0, none⟩ = some (.int .i64 c.x1) := cell_later hb4 (by simp [go_sem, *])
  have qw41 : w4.cell? ⟨w.heap.size, 1, none⟩ = some (.int .i64 c.h1) := cell_later hb4 (by simp [go_sem, *])
  have qw42 : w4.cell? ⟨w.heap.size, 2, none⟩ = some (.int .i64 c.v1) := cell_later hb4 (by simp [go_sem, *])
  have qw43 : w4.cell? ⟨w.heap.size, 3, none⟩ = some (.int .i64 c.x2) := cell_later hb4 (by simp [go_sem, *])
  have qw44 : w4.cell? ⟨w.heap.size, 4, none⟩ = some (.int .i64 c.h2) := cell_later hb4 (by simp [go_sem, *])
  have qw45 : w4.cell? ⟨w.heap.size, 5, none⟩ = some (.int .i64 c.v2) := cell_later hb4 (by simp [go_sem, *])
  have qw46 : w4.cell? ⟨w2.heap.size, 0, none⟩ = some (.int .i64 lo) := cell_later hb4 (by simp [go_sem, *])
  have qw47 : w4.cell? ⟨w2.heap.size, 1, none⟩ = some (.int .i64 hi) := cell_later hb4 (by simp [go_sem, *])
  have qw48 : w4.cell? ⟨w3.heap.size, 0, none⟩ = some (.int .i64 sl) := cell_later hb4 (by simp [go_sem, *])
  have qw49 : w4.cell? ⟨w3.heap.size, 1, none⟩ = some (.int .i64 sh) := cell_later hb4 (by simp [go_sem, *])
  have zqw4_0 := World.block_lt_of_cell? _ _ qw40
  dsimp only at zqw4_0
  have zqw4_6 := World.block_lt_of_cell? _ _ qw46
  dsimp only at zqw4_6
  have zqw4_8 := World.block_lt_of_cell? _ _ qw48
  dsimp only at zqw4_8
  have H4 := Lib.hid (below_then (below_alloc_top H3.out _) hb4); clear hb4
  go_wp2_with fail
  refine (M1.out _).mono ?_
  rintro e w5 ⟨rfl, hb5⟩
  have qw50 : w5.cell? ⟨w.heap.size, 0, none⟩ = some (.int .i64 c.x1) := cell_later hb5 (by simp [go_sem, *])
  have qw51 : w5.cell? ⟨w.heap.size, 1, none⟩ = some (.int .i64 c.h1) := cell_later hb5 (by simp [go_sem, *])
  have qw52 : w5.cell? ⟨w.heap.size, 2, none⟩ = some (.int .i64 c.v1) := cell_later hb5 (by simp [go_sem, *])
  have qw53 : w5.cell? ⟨w.heap.size, 3, none⟩ = some (.int .i64 c.x2) := cell_later hb5 (by simp [go_sem, *])
  have qw54 : w5.cell? ⟨w.heap.size, 4, none⟩ = some (.int .i64 c.h2) := cell_later hb5 (by simp [go_sem, *])
  have qw55 : w5.cell? ⟨w.heap.size, 5, none⟩ = some (.int .i64 c.v2) := cell_later hb5 (by simp [go_sem, *])
  have qw56 : w5.cell? ⟨w2.heap.size, 0, none⟩ = some (.int .i64 lo) := cell_later hb5 (by simp [go_sem, *])
  have qw57 : w5.cell? ⟨w2.heap.size, 1, none⟩ = some (.int .i64 hi) := cell_later hb5 (by simp [go_sem, *])
  have qw58 : w5.cell? ⟨w3.heap.size, 0, none⟩ = some (.int .i64 sl) := cell_later hb5 (by simp [go_sem, *])
  have qw59 : w5.cell? ⟨w3.heap.size, 1, none⟩ = some (.int .i64 sh) := cell_later hb5 (by simp [go_sem, *])
  have qw510 : w5.cell? ⟨w4.heap.size, 0, none⟩ = some (.int .i64 ml) := cell_later hb5 (by simp [go_sem, *])
  have qw511 : w5.cell? ⟨w4.heap.size, 1, none⟩ = some (.int .i64 mh) := cell_later hb5 (by simp [go_sem, *])
  have zqw5_0 := World.block_lt_of_cell? _ _ qw50
  dsimp only at zqw5_0
  have zqw5_6 := World.block_lt_of_cell? _ _ qw56
  dsimp only at zqw5_6
  have zqw5_8 := World.block_lt_of_cell? _ _ qw58
  dsimp only at zqw5_8
  have zqw5_10 := World.block_lt_of_cell? _ _ qw510
  dsimp only at zqw5_10
  have H5 := Lib.hid (below_then (below_alloc_top H4.out _) hb5); clear hb5
  go_wp2_with fail
  refine (M2.out _).mono ?_
  rintro e w6 ⟨rfl, hb6⟩
  have qw60 : w6.cell? ⟨w.heap.size, 0, none⟩ = some (.int .i64 c.x1) := cell_later hb6 (by simp [go_sem, *])
  have qw61 : w6.cell? ⟨w.heap.size, 1, none⟩ = some (.int .i64 c.h1) := cell_later hb6 (by simp [go_sem, *])
  have qw62 : w6.cell? ⟨w.heap.size, 2, none⟩ = some (.int .i64 c.v1) := cell_later hb6 (by simp [go_sem, *])
  have qw63 : w6.cell? ⟨w.heap.size, 3, none⟩ = some (.int .i64 c.x2) := cell_later hb6 (by simp [go_sem, *])
  have qw64 : w6.cell? ⟨w.heap.size, 4, none⟩ = some (.int .i64 c.h2) := cell_later hb6 (by simp [go_sem, *])
  have qw65 : w6.cell? ⟨w.heap.size, 5, none⟩ = some (.int .i64 c.v2) := cell_later hb6 (by simp [go_sem, *])
  have qw66 : w6.cell? ⟨w2.heap.size, 0, none⟩ = some (.int .i64 lo) := cell_later hb6 (by simp [go_sem, *])
  have qw67 : w6.cell? ⟨w2.heap.size, 1, none⟩ = some (.int .i64 hi) := cell_later hb6 (by simp [go_sem, *])
  have qw68 : w6.cell? ⟨w3.heap.size, 0, none⟩ = some (.int .i64 sl) := cell_later hb6 (by simp [go_sem, *])
  have qw69 : w6.cell? ⟨w3.heap.size, 1, none⟩ = some (.int .i64 sh) := cell_later hb6 (by simp [go_sem, *])
  have qw610 : w6.cell? ⟨w4.heap.size, 0, none⟩ = some (.int .i64 ml) := cell_later hb6 (by simp [go_sem, *])
  have qw611 : w6.cell? ⟨w4.heap.size, 1, none⟩ = some (.int .i64 mh) := cell_later hb6 (by simp [go_sem, *])
  have zqw6_0 := World.block_lt_of_cell? _ _ qw60
  dsimp only at zqw6_0
  have zqw6_6 := World.block_lt_of_cell? _ _ qw66
  dsimp only at zqw6_6
  have zqw6_8 := World.block_lt_of_cell? _ _ qw68
  dsimp only at zqw6_8
  have zqw6_10 := World.block_lt_of_cell? _ _ qw610
  dsimp only at zqw6_10
  have H6 := Lib.hid (below_then H5.out hb6); clear hb6
  go_wp2_with fail
  refine (HW.out _).mono ?_
  rintro e w7 ⟨rfl, rfl⟩
  go_wp2
  go_ret
  exact ⟨rfl, (by (repeat (first | (with_reducible exact H6.out) | (with_reducible refine Below.setCell ?_ ?_ _) | (with_reducible refine below_alloc_top ?_ _) | (with_reducible refine Below.drew ?_))); all_goals (first | omega | (simp; done) | (simp; omega)))⟩
set_option maxRecDepth 100000 in
set_option maxHeartbeats 1000000 in
theorem symm_near (c : Cr) (o : c.ok) (y : Int) (w : World) (y0 : -10000 ≤ y) (y1 : y ≤ 10000) (p : (c.shift y).ok) :
    Calls Try.prog 7 #[.agg #[.int .i64 c.x1, .int .i64 c.h1, .int .i64 c.v1, .int .i64 c.x2, .int .i64 c.h2, .int .i64 c.v2], .int .i64 y] w fun e w' => e = .returned (.bool true) ∧ Below w.heap.size w w' := by
  have HL := Lib.hid (fun w => least_ok c o w)
  have HS := Lib.hid (fun w => least_ok c.swap (swap_ok c o) w)
  have HM := Lib.hid (fun w => least_ok c.mirror (mirror_ok c o) w)
  have M1 := Lib.hid (fun w => meets_true _ _ _ _ w (swap_meets c o))
  have M2 := Lib.hid (fun w => meets_true _ _ _ _ w (mirror_meets c o))
  generalize c.swap.lLo = sl at *
  generalize c.swap.lHi = sh at *
  generalize c.mirror.lLo = ml at *
  generalize c.mirror.lHi = mh at *
  dsimp only [Cr.swap, Cr.mirror] at HS HM
  have a1 := o.a1; have a2 := o.a2; have a3 := o.b1; have a4 := o.b2
  have HW := Lib.hid (fun w => within_any y (-10000) 10000 w)
  rw [(inB_iff _ _ _).2 ⟨y0, y1⟩] at HW
  have HY := Lib.hid (fun w => least_ok (c.shift y) p w)
  rw [(shift_least c y o p).1, (shift_least c y o p).2] at HY
  dsimp only [Cr.shift] at HY
  generalize c.lLo = lo at *
  generalize c.lHi = hi at *
  go_enter Try.func7, Try.ntmps7
  go_wp2_with fail
  refine (awake_any _).mono ?_
  rintro e w1 ⟨rfl, hb1⟩
  have qw10 : w1.cell? ⟨w.heap.size, 0, none⟩ = some (.int .i64 c.x1) := cell_later hb1 (by simp [go_sem])
  have qw11 : w1.cell? ⟨w.heap.size, 1, none⟩ = some (.int .i64 c.h1) := cell_later hb1 (by simp [go_sem])
  have qw12 : w1.cell? ⟨w.heap.size, 2, none⟩ = some (.int .i64 c.v1) := cell_later hb1 (by simp [go_sem])
  have qw13 : w1.cell? ⟨w.heap.size, 3, none⟩ = some (.int .i64 c.x2) := cell_later hb1 (by simp [go_sem])
  have qw14 : w1.cell? ⟨w.heap.size, 4, none⟩ = some (.int .i64 c.h2) := cell_later hb1 (by simp [go_sem])
  have qw15 : w1.cell? ⟨w.heap.size, 5, none⟩ = some (.int .i64 c.v2) := cell_later hb1 (by simp [go_sem])
  have zqw1_0 := World.block_lt_of_cell? _ _ qw10
  dsimp only at zqw1_0
  have H1 := Lib.hid (below_after (by repeat (first | exact Below.refl _ _ | refine Below.drew ?_ | refine below_drewN ?_ _ | refine Below.setCell ?_ (by first | omega | (simp; done) | (simp; omega)) _ | refine Below.alloc ?_ (by first | omega | (simp; done) | (simp; omega)) _)) hb1 (by first | omega | (simp; done) | (simp; omega)) : Below w.heap.size w w1); clear hb1
  go_wp2_with fail
  refine (HL.out _).mono ?_
  rintro e w2 ⟨rfl, hb2⟩
  have qw20 : w2.cell? ⟨w.heap.size, 0, none⟩ = some (.int .i64 c.x1) := cell_later hb2 (by simp [go_sem, *])
  have qw21 : w2.cell? ⟨w.heap.size, 1, none⟩ = some (.int .i64 c.h1) := cell_later hb2 (by simp [go_sem, *])
  have qw22 : w2.cell? ⟨w.heap.size, 2, none⟩ = some (.int .i64 c.v1) := cell_later hb2 (by simp [go_sem, *])
  have qw23 : w2.cell? ⟨w.heap.size, 3, none⟩ = some (.int .i64 c.x2) := cell_later hb2 (by simp [go_sem, *])
  have qw24 : w2.cell? ⟨w.heap.size, 4, none⟩ = some (.int .i64 c.h2) := cell_later hb2 (by simp [go_sem, *])
  have qw25 : w2.cell? ⟨w.heap.size, 5, none⟩ = some (.int .i64 c.v2) := cell_later hb2 (by simp [go_sem, *])
  have zqw2_0 := World.block_lt_of_cell? _ _ qw20
  dsimp only at zqw2_0
  have H2 := Lib.hid (below_then H1.out hb2); clear hb2
  go_wp2_with fail
  refine (HS.out _).mono ?_
  rintro e w3 ⟨rfl, hb3⟩
  have qw30 : w3.cell? ⟨w.heap.size, 0, none⟩ = some (.int .i64 c.x1) := cell_later hb3 (by simp [go_sem, *])
  have qw31 : w3.cell? ⟨w.heap.size, 1, none⟩ = some (.int .i64 c.h1) := cell_later hb3 (by simp [go_sem, *])
  have qw32 : w3.cell? ⟨w.heap.size, 2, none⟩ = some (.int .i64 c.v1) := cell_later hb3 (by simp [go_sem, *])
  have qw33 : w3.cell? ⟨w.heap.size, 3, none⟩ = some (.int .i64 c.x2) := cell_later hb3 (by simp [go_sem, *])
  have qw34 : w3.cell? ⟨w.heap.size, 4, none⟩ = some (.int .i64 c.h2) := cell_later hb3 (by simp [go_sem, *])
  have qw35 : w3.cell? ⟨w.heap.size, 5, none⟩ = some (.int .i64 c.v2) := cell_later hb3 (by simp [go_sem, *])
  have qw36 : w3.cell? ⟨w2.heap.size, 0, none⟩ = some (.int .i64 lo) := cell_later hb3 (by simp [go_sem, *])
  have qw37 : w3.cell? ⟨w2.heap.size, 1, none⟩ = some (.int .i64 hi) := cell_later hb3 (by simp [go_sem, *])
  have zqw3_0 := World.block_lt_of_cell? _ _ qw30
  dsimp only at zqw3_0
  have zqw3_6 := World.block_lt_of_cell? _ _ qw36
  dsimp only at zqw3_6
  have H3 := Lib.hid (below_then (below_alloc_top H2.out _) hb3); clear hb3
  go_wp2_with fail
  refine (HM.out _).mono ?_
  rintro e w4 ⟨rfl, hb4⟩
  have qw40 : w4.cell? ⟨w.heap.size, 0, none⟩ = some (.int .i64 c.x1) := cell_later hb4 (by simp [go_sem, *])
  have qw41 : w4.cell? ⟨w.heap.size, 1, none⟩ = some (.int .i64 c.h1) := cell_later hb4 (by simp [go_sem, *])
  have qw42 : w4.cell? ⟨w.heap.size, 2, none⟩ = some (.int .i64 c.v1) := cell_later hb4 (by simp [go_sem, *])
  have qw43 : w4.cell? ⟨w.heap.size, 3, none⟩ = some (.int .i64 c.x2) := cell_later hb4 (by simp [go_sem, *])
  have qw44 : w4.cell? ⟨w.heap.size, 4, none⟩ = some (.int .i64 c.h2) := cell_later hb4 (by simp [go_sem, *])
  have qw45 : w4.cell? ⟨w.heap.size, 5, none⟩ = some (.int .i64 c.v2) := cell_later hb4 (by simp [go_sem, *])
  have qw46 : w4.cell? ⟨w2.heap.size, 0, none⟩ = some (.int .i64 lo) := cell_later hb4 (by simp [go_sem, *])
  have qw47 : w4.cell? ⟨w2.heap.size, 1, none⟩ = some (.int .i64 hi) := cell_later hb4 (by simp [go_sem, *])
  have qw48 : w4.cell? ⟨w3.heap.size, 0, none⟩ = some (.int .i64 sl) := cell_later hb4 (by simp [go_sem, *])
  have qw49 : w4.cell? ⟨w3.heap.size, 1, none⟩ = some (.int .i64 sh) := cell_later hb4 (by simp [go_sem, *])
  have zqw4_0 := World.block_lt_of_cell? _ _ qw40
  dsimp only at zqw4_0
  have zqw4_6 := World.block_lt_of_cell? _ _ qw46
  dsimp only at zqw4_6
  have zqw4_8 := World.block_lt_of_cell? _ _ qw48
  dsimp only at zqw4_8
  have H4 := Lib.hid (below_then (below_alloc_top H3.out _) hb4); clear hb4
  go_wp2_with fail
  refine (M1.out _).mono ?_
  rintro e w5 ⟨rfl, hb5⟩
  have qw50 : w5.cell? ⟨w.heap.size, 0, none⟩ = some (.int .i64 c.x1) := cell_later hb5 (by simp [go_sem, *])
  have qw51 : w5.cell? ⟨w.heap.size, 1, none⟩ = some (.int .i64 c.h1) := cell_later hb5 (by simp [go_sem, *])
  have qw52 : w5.cell? ⟨w.heap.size, 2, none⟩ = some (.int .i64 c.v1) := cell_later hb5 (by simp [go_sem, *])
  have qw53 : w5.cell? ⟨w.heap.size, 3, none⟩ = some (.int .i64 c.x2) := cell_later hb5 (by simp [go_sem, *])
  have qw54 : w5.cell? ⟨w.heap.size, 4, none⟩ = some (.int .i64 c.h2) := cell_later hb5 (by simp [go_sem, *])
  have qw55 : w5.cell? ⟨w.heap.size, 5, none⟩ = some (.int .i64 c.v2) := cell_later hb5 (by simp [go_sem, *])
  have qw56 : w5.cell? ⟨w2.heap.size, 0, none⟩ = some (.int .i64 lo) := cell_later hb5 (by simp [go_sem, *])
  have qw57 : w5.cell? ⟨w2.heap.size, 1, none⟩ = some (.int .i64 hi) := cell_later hb5 (by simp [go_sem, *])
  have qw58 : w5.cell? ⟨w3.heap.size, 0, none⟩ = some (.int .i64 sl) := cell_later hb5 (by simp [go_sem, *])
  have qw59 : w5.cell? ⟨w3.heap.size, 1, none⟩ = some (.int .i64 sh) := cell_later hb5 (by simp [go_sem, *])
  have qw510 : w5.cell? ⟨w4.heap.size, 0, none⟩ = some (.int .i64 ml) := cell_later hb5 (by simp [go_sem, *])
  have qw511 : w5.cell? ⟨w4.heap.size, 1, none⟩ = some (.int .i64 mh) := cell_later hb5 (by simp [go_sem, *])
  have zqw5_0 := World.block_lt_of_cell? _ _ qw50
  dsimp only at zqw5_0
  have zqw5_6 := World.block_lt_of_cell? _ _ qw56
  dsimp only at zqw5_6
  have zqw5_8 := World.block_lt_of_cell? _ _ qw58
  dsimp only at zqw5_8
  have zqw5_10 := World.block_lt_of_cell? _ _ qw510
  dsimp only at zqw5_10
  have H5 := Lib.hid (below_then (below_alloc_top H4.out _) hb5); clear hb5
  go_wp2_with fail
  refine (M2.out _).mono ?_
  rintro e w6 ⟨rfl, hb6⟩
  have qw60 : w6.cell? ⟨w.heap.size, 0, none⟩ = some (.int .i64 c.x1) := cell_later hb6 (by simp [go_sem, *])
  have qw61 : w6.cell? ⟨w.heap.size, 1, none⟩ = some (.int .i64 c.h1) := cell_later hb6 (by simp [go_sem, *])
  have qw62 : w6.cell? ⟨w.heap.size, 2, none⟩ = some (.int .i64 c.v1) := cell_later hb6 (by simp [go_sem, *])
  have qw63 : w6.cell? ⟨w.heap.size, 3, none⟩ = some (.int .i64 c.x2) := cell_later hb6 (by simp [go_sem, *])
  have qw64 : w6.cell? ⟨w.heap.size, 4, none⟩ = some (.int .i64 c.h2) := cell_later hb6 (by simp [go_sem, *])
  have qw65 : w6.cell? ⟨w.heap.size, 5, none⟩ = some (.int .i64 c.v2) := cell_later hb6 (by simp [go_sem, *])
  have qw66 : w6.cell? ⟨w2.heap.size, 0, none⟩ = some (.int .i64 lo) := cell_later hb6 (by simp [go_sem, *])
  have qw67 : w6.cell? ⟨w2.heap.size, 1, none⟩ = some (.int .i64 hi) := cell_later hb6 (by simp [go_sem, *])
  have qw68 : w6.cell? ⟨w3.heap.size, 0, none⟩ = some (.int .i64 sl) := cell_later hb6 (by simp [go_sem, *])
  have qw69 : w6.cell? ⟨w3.heap.size, 1, none⟩ = some (.int .i64 sh) := cell_later hb6 (by simp [go_sem, *])
  have qw610 : w6.cell? ⟨w4.heap.size, 0, none⟩ = some (.int .i64 ml) := cell_later hb6 (by simp [go_sem, *])
  have qw611 : w6.cell? ⟨w4.heap.size, 1, none⟩ = some (.int .i64 mh) := cell_later hb6 (by simp [go_sem, *])
  have zqw6_0 := World.block_lt_of_cell? _ _ qw60
  dsimp only at zqw6_0
  have zqw6_6 := World.block_lt_of_cell? _ _ qw66
  dsimp only at zqw6_6
  have zqw6_8 := World.block_lt_of_cell? _ _ qw68
  dsimp only at zqw6_8
  have zqw6_10 := World.block_lt_of_cell? _ _ qw610
  dsimp only at zqw6_10
  have H6 := Lib.hid (below_then H5.out hb6); clear hb6
  go_wp2_with fail
  refine (HW.out _).mono ?_
  rintro e w7 ⟨rfl, rfl⟩
  go_wp2_with fail
  refine (HY.out _).mono ?_
  rintro e w8 ⟨rfl, hb8⟩
  have qw80 : w8.cell? ⟨w2.heap.size, 0, none⟩ = some (.int .i64 lo) := cell_later hb8 (by simp [go_sem, *])
  have qw81 : w8.cell? ⟨w2.heap.size, 1, none⟩ = some (.int .i64 hi) := cell_later hb8 (by simp [go_sem, *])
  have zqw8_0 := World.block_lt_of_cell? _ _ qw80
  dsimp only at zqw8_0
  have H8 := Lib.hid (below_then H6.out hb8); clear hb8
  go_wp2
  go_ret
  exact ⟨rfl, (by (repeat (first | (with_reducible exact H8.out) | (with_reducible refine Below.setCell ?_ ?_ _) | (with_reducible refine below_alloc_top ?_ _) | (with_reducible refine Below.drew ?_))); all_goals (first | omega | (simp; done) | (simp; omega)))⟩
set_option maxRecDepth 100000 in
set_option maxHeartbeats 1000000 in
theorem symm_out (c : Cr) (o : c.ok) (y : Int) (w : World) (y0 : -10000 ≤ y) (y1 : y ≤ 10000) (p : ¬ (c.shift y).ok) :
    Calls Try.prog 7 #[.agg #[.int .i64 c.x1, .int .i64 c.h1, .int .i64 c.v1, .int .i64 c.x2, .int .i64 c.h2, .int .i64 c.v2], .int .i64 y] w fun e w' => e = .returned (.bool true) ∧ Below w.heap.size w w' := by
  have HL := Lib.hid (fun w => least_ok c o w)
  have HS := Lib.hid (fun w => least_ok c.swap (swap_ok c o) w)
  have HM := Lib.hid (fun w => least_ok c.mirror (mirror_ok c o) w)
  have M1 := Lib.hid (fun w => meets_true _ _ _ _ w (swap_meets c o))
  have M2 := Lib.hid (fun w => meets_true _ _ _ _ w (mirror_meets c o))
  generalize c.swap.lLo = sl at *
  generalize c.swap.lHi = sh at *
  generalize c.mirror.lLo = ml at *
  generalize c.mirror.lHi = mh at *
  dsimp only [Cr.swap, Cr.mirror] at HS HM
  have a1 := o.a1; have a2 := o.a2; have a3 := o.b1; have a4 := o.b2
  have HW := Lib.hid (fun w => within_any y (-10000) 10000 w)
  rw [(inB_iff _ _ _).2 ⟨y0, y1⟩] at HW
  have HY := Lib.hid (fun w => least_bad (c.shift y) p w)
  dsimp only [Cr.shift] at HY
  generalize c.lLo = lo at *
  generalize c.lHi = hi at *
  go_enter Try.func7, Try.ntmps7
  go_wp2_with fail
  refine (awake_any _).mono ?_
  rintro e w1 ⟨rfl, hb1⟩
  have qw10 : w1.cell? ⟨w.heap.size, 0, none⟩ = some (.int .i64 c.x1) := cell_later hb1 (by simp [go_sem])
  have qw11 : w1.cell? ⟨w.heap.size, 1, none⟩ = some (.int .i64 c.h1) := cell_later hb1 (by simp [go_sem])
  have qw12 : w1.cell? ⟨w.heap.size, 2, none⟩ = some (.int .i64 c.v1) := cell_later hb1 (by simp [go_sem])
  have qw13 : w1.cell? ⟨w.heap.size, 3, none⟩ = some (.int .i64 c.x2) := cell_later hb1 (by simp [go_sem])
  have qw14 : w1.cell? ⟨w.heap.size, 4, none⟩ = some (.int .i64 c.h2) := cell_later hb1 (by simp [go_sem])
  have qw15 : w1.cell? ⟨w.heap.size, 5, none⟩ = some (.int .i64 c.v2) := cell_later hb1 (by simp [go_sem])
  have zqw1_0 := World.block_lt_of_cell? _ _ qw10
  dsimp only at zqw1_0
  have H1 := Lib.hid (below_after (by repeat (first | exact Below.refl _ _ | refine Below.drew ?_ | refine below_drewN ?_ _ | refine Below.setCell ?_ (by first | omega | (simp; done) | (simp; omega)) _ | refine Below.alloc ?_ (by first | omega | (simp; done) | (simp; omega)) _)) hb1 (by first | omega | (simp; done) | (simp; omega)) : Below w.heap.size w w1); clear hb1
  go_wp2_with fail
  refine (HL.out _).mono ?_
  rintro e w2 ⟨rfl, hb2⟩
  have qw20 : w2.cell? ⟨w.heap.size, 0, none⟩ = some (.int .i64 c.x1) := cell_later hb2 (by simp [go_sem, *])
  have qw21 : w2.cell? ⟨w.heap.size, 1, none⟩ = some (.int .i64 c.h1) := cell_later hb2 (by simp [go_sem, *])
  have qw22 : w2.cell? ⟨w.heap.size, 2, none⟩ = some (.int .i64 c.v1) := cell_later hb2 (by simp [go_sem, *])
  have qw23 : w2.cell? ⟨w.heap.size, 3, none⟩ = some (.int .i64 c.x2) := cell_later hb2 (by simp [go_sem, *])
  have qw24 : w2.cell? ⟨w.heap.size, 4, none⟩ = some (.int .i64 c.h2) := cell_later hb2 (by simp [go_sem, *])
  have qw25 : w2.cell? ⟨w.heap.size, 5, none⟩ = some (.int .i64 c.v2) := cell_later hb2 (by simp [go_sem, *])
  have zqw2_0 := World.block_lt_of_cell? _ _ qw20
  dsimp only at zqw2_0
  have H2 := Lib.hid (below_then H1.out hb2); clear hb2
  go_wp2_with fail
  refine (HS.out _).mono ?_
  rintro e w3 ⟨rfl, hb3⟩
  have qw30 : w3.cell? ⟨w.heap.size, 0, none⟩ = some (.int .i64 c.x1) := cell_later hb3 (by simp [go_sem, *])
  have qw31 : w3.cell? ⟨w.heap.size, 1, none⟩ = some (.int .i64 c.h1) := cell_later hb3 (by simp [go_sem, *])
  have qw32 : w3.cell? ⟨w.heap.size, 2, none⟩ = some (.int .i64 c.v1) := cell_later hb3 (by simp [go_sem, *])
  have qw33 : w3.cell? ⟨w.heap.size, 3, none⟩ = some (.int .i64 c.x2) := cell_later hb3 (by simp [go_sem, *])
  have qw34 : w3.cell? ⟨w.heap.size, 4, none⟩ = some (.int .i64 c.h2) := cell_later hb3 (by simp [go_sem, *])
  have qw35 : w3.cell? ⟨w.heap.size, 5, none⟩ = some (.int .i64 c.v2) := cell_later hb3 (by simp [go_sem, *])
  have qw36 : w3.cell? ⟨w2.heap.size, 0, none⟩ = some (.int .i64 lo) := cell_later hb3 (by simp [go_sem, *])
  have qw37 : w3.cell? ⟨w2.heap.size, 1, none⟩ = some (.int .i64 hi) := cell_later hb3 (by simp [go_sem, *])
  have zqw3_0 := World.block_lt_of_cell? _ _ qw30
  dsimp only at zqw3_0
  have zqw3_6 := World.block_lt_of_cell? _ _ qw36
  dsimp only at zqw3_6
  have H3 := Lib.hid (below_then (below_alloc_top H2.out _) hb3); clear hb3
  go_wp2_with fail
  refine (HM.out _).mono ?_
  rintro e w4 ⟨rfl, hb4⟩
  have qw40 : w4.cell? ⟨w.heap.size, 0, none⟩ = some (.int .i64 c.x1) := cell_later hb4 (by simp [go_sem, *])
  have qw41 : w4.cell? ⟨w.heap.size, 1, none⟩ = some (.int .i64 c.h1) := cell_later hb4 (by simp [go_sem, *])
  have qw42 : w4.cell? ⟨w.heap.size, 2, none⟩ = some (.int .i64 c.v1) := cell_later hb4 (by simp [go_sem, *])
  have qw43 : w4.cell? ⟨w.heap.size, 3, none⟩ = some (.int .i64 c.x2) := cell_later hb4 (by simp [go_sem, *])
  have qw44 : w4.cell? ⟨w.heap.size, 4, none⟩ = some (.int .i64 c.h2) := cell_later hb4 (by simp [go_sem, *])
  have qw45 : w4.cell? ⟨w.heap.size, 5, none⟩ = some (.int .i64 c.v2) := cell_later hb4 (by simp [go_sem, *])
  have qw46 : w4.cell? ⟨w2.heap.size, 0, none⟩ = some (.int .i64 lo) := cell_later hb4 (by simp [go_sem, *])
  have qw47 : w4.cell? ⟨w2.heap.size, 1, none⟩ = some (.int .i64 hi) := cell_later hb4 (by simp [go_sem, *])
  have qw48 : w4.cell? ⟨w3.heap.size, 0, none⟩ = some (.int .i64 sl) := cell_later hb4 (by simp [go_sem, *])
  have qw49 : w4.cell? ⟨w3.heap.size, 1, none⟩ = some (.int .i64 sh) := cell_later hb4 (by simp [go_sem, *])
  have zqw4_0 := World.block_lt_of_cell? _ _ qw40
  dsimp only at zqw4_0
  have zqw4_6 := World.block_lt_of_cell? _ _ qw46
  dsimp only at zqw4_6
  have zqw4_8 := World.block_lt_of_cell? _ _ qw48
  dsimp only at zqw4_8
  have H4 := Lib.hid (below_then (below_alloc_top H3.out _) hb4); clear hb4
  go_wp2_with fail
  refine (M1.out _).mono ?_
  rintro e w5 ⟨rfl, hb5⟩
  have qw50 : w5.cell? ⟨w.heap.size, 0, none⟩ = some (.int .i64 c.x1) := cell_later hb5 (by simp [go_sem, *])
  have qw51 : w5.cell? ⟨w.heap.size, 1, none⟩ = some (.int .i64 c.h1) := cell_later hb5 (by simp [go_sem, *])
  have qw52 : w5.cell? ⟨w.heap.size, 2, none⟩ = some (.int .i64 c.v1) := cell_later hb5 (by simp [go_sem, *])
  have qw53 : w5.cell? ⟨w.heap.size, 3, none⟩ = some (.int .i64 c.x2) := cell_later hb5 (by simp [go_sem, *])
  have qw54 : w5.cell? ⟨w.heap.size, 4, none⟩ = some (.int .i64 c.h2) := cell_later hb5 (by simp [go_sem, *])
  have qw55 : w5.cell? ⟨w.heap.size, 5, none⟩ = some (.int .i64 c.v2) := cell_later hb5 (by simp [go_sem, *])
  have qw56 : w5.cell? ⟨w2.heap.size, 0, none⟩ = some (.int .i64 lo) := cell_later hb5 (by simp [go_sem, *])
  have qw57 : w5.cell? ⟨w2.heap.size, 1, none⟩ = some (.int .i64 hi) := cell_later hb5 (by simp [go_sem, *])
  have qw58 : w5.cell? ⟨w3.heap.size, 0, none⟩ = some (.int .i64 sl) := cell_later hb5 (by simp [go_sem, *])
  have qw59 : w5.cell? ⟨w3.heap.size, 1, none⟩ = some (.int .i64 sh) := cell_later hb5 (by simp [go_sem, *])
  have qw510 : w5.cell? ⟨w4.heap.size, 0, none⟩ = some (.int .i64 ml) := cell_later hb5 (by simp [go_sem, *])
  have qw511 : w5.cell? ⟨w4.heap.size, 1, none⟩ = some (.int .i64 mh) := cell_later hb5 (by simp [go_sem, *])
  have zqw5_0 := World.block_lt_of_cell? _ _ qw50
  dsimp only at zqw5_0
  have zqw5_6 := World.block_lt_of_cell? _ _ qw56
  dsimp only at zqw5_6
  have zqw5_8 := World.block_lt_of_cell? _ _ qw58
  dsimp only at zqw5_8
  have zqw5_10 := World.block_lt_of_cell? _ _ qw510
  dsimp only at zqw5_10
  have H5 := Lib.hid (below_then (below_alloc_top H4.out _) hb5); clear hb5
  go_wp2_with fail
  refine (M2.out _).mono ?_
  rintro e w6 ⟨rfl, hb6⟩
  have qw60 : w6.cell? ⟨w.heap.size, 0, none⟩ = some (.int .i64 c.x1) := cell_later hb6 (by simp [go_sem, *])
  have qw61 : w6.cell? ⟨w.heap.size, 1, none⟩ = some (.int .i64 c.h1) := cell_later hb6 (by simp [go_sem, *])
  have qw62 : w6.cell? ⟨w.heap.size, 2, none⟩ = some (.int .i64 c.v1) := cell_later hb6 (by simp [go_sem, *])
  have qw63 : w6.cell? ⟨w.heap.size, 3, none⟩ = some (.int .i64 c.x2) := cell_later hb6 (by simp [go_sem, *])
  have qw64 : w6.cell? ⟨w.heap.size, 4, none⟩ = some (.int .i64 c.h2) := cell_later hb6 (by simp [go_sem, *])
  have qw65 : w6.cell? ⟨w.heap.size, 5, none⟩ = some (.int .i64 c.v2) := cell_later hb6 (by simp [go_sem, *])
  have qw66 : w6.cell? ⟨w2.heap.size, 0, none⟩ = some (.int .i64 lo) := cell_later hb6 (by simp [go_sem, *])
  have qw67 : w6.cell? ⟨w2.heap.size, 1, none⟩ = some (.int .i64 hi) := cell_later hb6 (by simp [go_sem, *])
  have qw68 : w6.cell? ⟨w3.heap.size, 0, none⟩ = some (.int .i64 sl) := cell_later hb6 (by simp [go_sem, *])
  have qw69 : w6.cell? ⟨w3.heap.size, 1, none⟩ = some (.int .i64 sh) := cell_later hb6 (by simp [go_sem, *])
  have qw610 : w6.cell? ⟨w4.heap.size, 0, none⟩ = some (.int .i64 ml) := cell_later hb6 (by simp [go_sem, *])
  have qw611 : w6.cell? ⟨w4.heap.size, 1, none⟩ = some (.int .i64 mh) := cell_later hb6 (by simp [go_sem, *])
  have zqw6_0 := World.block_lt_of_cell? _ _ qw60
  dsimp only at zqw6_0
  have zqw6_6 := World.block_lt_of_cell? _ _ qw66
  dsimp only at zqw6_6
  have zqw6_8 := World.block_lt_of_cell? _ _ qw68
  dsimp only at zqw6_8
  have zqw6_10 := World.block_lt_of_cell? _ _ qw610
  dsimp only at zqw6_10
  have H6 := Lib.hid (below_then H5.out hb6); clear hb6
  go_wp2_with fail
  refine (HW.out _).mono ?_
  rintro e w7 ⟨rfl, rfl⟩
  go_wp2_with fail
  refine (HY.out _).mono ?_
  rintro e w8 ⟨rfl, hb8⟩
  have qw80 : w8.cell? ⟨w2.heap.size, 0, none⟩ = some (.int .i64 lo) := cell_later hb8 (by simp [go_sem, *])
  have qw81 : w8.cell? ⟨w2.heap.size, 1, none⟩ = some (.int .i64 hi) := cell_later hb8 (by simp [go_sem, *])
  have zqw8_0 := World.block_lt_of_cell? _ _ qw80
  dsimp only at zqw8_0
  have H8 := Lib.hid (below_then H6.out hb8); clear hb8
  go_wp2
  go_ret
  exact ⟨rfl, (by (repeat (first | (with_reducible exact H8.out) | (with_reducible refine Below.setCell ?_ ?_ _) | (with_reducible refine below_alloc_top ?_ _) | (with_reducible refine Below.drew ?_))); all_goals (first | omega | (simp; done) | (simp; omega)))⟩
theorem symm_any (c : Cr) (y : Int) (w : World) :
    Calls Try.prog 7 #[.agg #[.int .i64 c.x1, .int .i64 c.h1, .int .i64 c.v1, .int .i64 c.x2, .int .i64 c.h2, .int .i64 c.v2], .int .i64 y] w fun e w' => e = .returned (.bool true) ∧ Below w.heap.size w w' := by
  by_cases o : c.ok
  · by_cases h : inB y (-10000) 10000 = true
    · have k := (inB_iff _ _ _).1 h
      by_cases p : (c.shift y).ok
      · exact symm_near c o y w k.1 k.2 p
      · exact symm_out c o y w k.1 k.2 p
    · exact symm_far c o y w (by simpa using h)
  · exact symm_bad c o y w
end Go.Proofs.Ytdicndakelgoeaa
