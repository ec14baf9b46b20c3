/- TopNoFasterWay: the walk -/
import Derived.Test.YtdicndakelgoeaaF2
import Derived.Test.YtdicndakelgoeaaM3
import Derived.Test.YtdicndakelgoeaaC2
import Derived.RegionTactic
namespace Go.Proofs.Ytdicndakelgoeaa
open Go.RowKit RayM
set_option linter.unusedSimpArgs false
set_option linter.unusedVariables false

theorem legHi_zero (v : Int) (hv : 1 ≤ v) : legHi 0 0 v = 0 := by
  have e : rtU (sqL 0 0) = 0 := by decide +kernel
  unfold legHi
  rw [e]; unfold cdiv; simp
/-- one wall more -/
theorem nf_step (s p q th v all k F : Int) (j : Nat) (s0 : -100000 ≤ s) (s1 : s ≤ 100000) (p0 : -100000 ≤ p) (p1 : p ≤ 100000) (q0 : -100000 ≤ q) (q1 : q ≤ 100000) (j1 : j ≤ 4) (t0 : 2 ≤ th) (t1 : th ≤ 20000) (hv : 500 ≤ v)
    (h : F + legHi (p - s) ((j : Int) * th) v ≤ all) : F + legHi (q - s) (((j + 1 : Nat) : Int) * th) v ≤ all + legHi (q - p) th v := by
  have m0 : 0 ≤ (j : Int) * th := Int.mul_nonneg (by omega) (by omega)
  have m1 := mul_le (j : Int) th 4 20000 (by omega) (by omega) (by omega) t1
  have t := triangle (p - s) (q - p) ((j : Int) * th) th v (by omega) (by omega) (by omega) (by omega) (by omega) (by omega) (by omega) (by omega) hv
  rw [show p - s + (q - p) = q - s by omega] at t
  rw [show ((j + 1 : Nat) : Int) * th = (j : Int) * th + th by rw [show ((j + 1 : Nat) : Int) = (j : Int) + 1 by omega, Int.add_mul, Int.one_mul]]
  omega
/-- the last leg -/
theorem nf_end (x : Wy) (o : x.ok) (s p all : Int) (s0 : -50000 ≤ s) (s1 : s ≤ 50000) (p0 : -50000 ≤ p) (p1 : p ≤ 50000) (j : Nat) (hj : (j : Int) = x.m.sk)
    (h : legHi (s - x.fx) (-x.fz) x.m.wd + legHi (p - s) ((j : Int) * x.m.th) x.m.mt ≤ all) : x.cr.lLo ≤ all + legHi (x.tx - p) (x.tz - (if j % 2 = 0 then 0 else x.m.th)) x.m.mt := by
  have nw := nowhere x.cr (cr_ok x o) s (by omega) (by omega)
  have ht : x.cr.tHi s = legHi (s - x.fx) (-x.fz) x.m.wd + legHi (x.tx - s) (x.m.unf x.tz) x.m.mt := rfl
  have sk := o.m.c2; have d1 := o.d1; have d2 := o.d2; have t1 := o.m.d1; have t2 := o.m.d2; have c1 := o.c1; have c2 := o.c2
  have m0 : 0 ≤ (j : Int) * x.m.th := Int.mul_nonneg (by omega) (by omega)
  have m1 := mul_le (j : Int) x.m.th 4 20000 (by omega) (by omega) (by omega) t2
  by_cases hp : j % 2 = 0
  · rw [if_pos hp, Int.sub_zero]
    have hu : x.m.unf x.tz = (j : Int) * x.m.th + x.tz := by unfold Mo.unf; rw [if_pos (by omega), hj]
    have t := triangle (p - s) (x.tx - p) ((j : Int) * x.m.th) x.tz x.m.mt (by omega) (by omega) (by omega) (by omega) (by omega) (by omega) (by omega) (by omega) o.m.b1
    rw [show p - s + (x.tx - p) = x.tx - s by omega, ← hu] at t
    omega
  · rw [if_neg hp]
    have hu : x.m.unf x.tz = (j : Int) * x.m.th + (x.m.th - x.tz) := by unfold Mo.unf; rw [if_neg (by omega), hj]
    have t := triangle (p - s) (x.tx - p) ((j : Int) * x.m.th) (x.m.th - x.tz) x.m.mt (by omega) (by omega) (by omega) (by omega) (by omega) (by omega) (by omega) (by omega) o.m.b1
    rw [show p - s + (x.tx - p) = x.tx - s by omega, ← hu, show x.m.th - x.tz = -(x.tz - x.m.th) by omega, legHi_zneg] at t
    omega
structure NfI (x : Wy) (s a b c d lo hi : Int) (w wr : World) (b2 b3 : Nat) (j : Nat) (all p : Int) : Prop where
  x0 : wr.cell? ⟨w.heap.size, 0, none⟩ = some (.int .i64 x.m.wd)
  x1 : wr.cell? ⟨w.heap.size, 1, none⟩ = some (.int .i64 x.m.mt)
  x2 : wr.cell? ⟨w.heap.size, 2, none⟩ = some (.int .i64 x.m.sk)
  x3 : wr.cell? ⟨w.heap.size, 3, none⟩ = some (.int .i64 x.m.th)
  x4 : wr.cell? ⟨w.heap.size, 4, none⟩ = some (.int .i64 x.fx)
  x5 : wr.cell? ⟨w.heap.size, 5, none⟩ = some (.int .i64 x.fz)
  x6 : wr.cell? ⟨w.heap.size, 6, none⟩ = some (.int .i64 x.tx)
  x7 : wr.cell? ⟨w.heap.size, 7, none⟩ = some (.int .i64 x.tz)
  x8 : wr.cell? ⟨w.heap.size + 1, 0, none⟩ = some (.int .i64 a)
  x9 : wr.cell? ⟨w.heap.size + 1, 1, none⟩ = some (.int .i64 b)
  x10 : wr.cell? ⟨w.heap.size + 1, 2, none⟩ = some (.int .i64 c)
  x11 : wr.cell? ⟨w.heap.size + 1, 3, none⟩ = some (.int .i64 d)
  x12 : wr.cell? ⟨b2, 0, none⟩ = some (.int .i64 lo)
  x13 : wr.cell? ⟨b2, 1, none⟩ = some (.int .i64 hi)
  g0 : wr.cell? ⟨b2 + 1, 0, none⟩ = some (.int .i64 p)
  g1 : wr.cell? ⟨b2 + 1, 1, none⟩ = some (.int .i64 (if j % 2 = 0 then 0 else x.m.th))
  gf0 : wr.frozen? ⟨b2 + 1, 0, none⟩ = false
  gf1 : wr.frozen? ⟨b2 + 1, 1, none⟩ = false
  l : ∃ u v : Int, wr.cell? ⟨b3, 0, none⟩ = some (.int .i64 u) ∧ wr.cell? ⟨b3, 1, none⟩ = some (.int .i64 v)
  lf0 : wr.frozen? ⟨b3, 0, none⟩ = false
  lf1 : wr.frozen? ⟨b3, 1, none⟩ = false
  bel : Below w.heap.size w wr
  p0 : -50000 ≤ p
  p1 : p ≤ 50000
  all0 : 0 ≤ all
  all1 : all ≤ ((j : Int) + 1) * 5656854250000
  h : legHi (s - x.fx) (-x.fz) x.m.wd + legHi (p - s) ((j : Int) * x.m.th) x.m.mt ≤ all
set_option maxRecDepth 100000 in
set_option maxHeartbeats 1000000 in
theorem nf_bad (x : Wy) (s a b c d : Int) (h : wyE x ≠ 0) (w : World) :
    Calls Try.prog 17 #[.agg #[.int .i64 x.m.wd, .int .i64 x.m.mt, .int .i64 x.m.sk, .int .i64 x.m.th, .int .i64 x.fx, .int .i64 x.fz, .int .i64 x.tx, .int .i64 x.tz], .int .i64 s, .agg #[.int .i64 a, .int .i64 b, .int .i64 c, .int .i64 d]] w fun e w' => e = .returned (.bool true) ∧ Below w.heap.size w w' := by
  have HP := Lib.hid (fun w => leastOf_bad x h w)
  have n1 : (wyE x != 0) = true := by simpa using h
  generalize wyE x = r at *
  clear h
  go_enter Try.func17, Try.ntmps17
  go_wp2_with fail
  refine (rayed_any _).mono ?_
  rintro e w1 ⟨rfl, hb1⟩
  have qw10 : w1.cell? ⟨w.heap.size, 0, none⟩ = some (.int .i64 x.m.wd) := cell_later hb1 (by simp [go_sem])
  have qw11 : w1.cell? ⟨w.heap.size, 1, none⟩ = some (.int .i64 x.m.mt) := cell_later hb1 (by simp [go_sem])
  have qw12 : w1.cell? ⟨w.heap.size, 2, none⟩ = some (.int .i64 x.m.sk) := cell_later hb1 (by simp [go_sem])
  have qw13 : w1.cell? ⟨w.heap.size, 3, none⟩ = some (.int .i64 x.m.th) := cell_later hb1 (by simp [go_sem])
  have qw14 : w1.cell? ⟨w.heap.size, 4, none⟩ = some (.int .i64 x.fx) := cell_later hb1 (by simp [go_sem])
  have qw15 : w1.cell? ⟨w.heap.size, 5, none⟩ = some (.int .i64 x.fz) := cell_later hb1 (by simp [go_sem])
  have qw16 : w1.cell? ⟨w.heap.size, 6, none⟩ = some (.int .i64 x.tx) := cell_later hb1 (by simp [go_sem])
  have qw17 : w1.cell? ⟨w.heap.size, 7, none⟩ = some (.int .i64 x.tz) := cell_later hb1 (by simp [go_sem])
  have zqw1_0 := World.block_lt_of_cell? _ _ qw10
  dsimp only at zqw1_0
  have H1 : Hid (Below w.heap.size w w1) := Lib.hid (below_after (by repeat (first | exact Below.refl _ _ | refine Below.drew ?_ | refine below_drewN ?_ _ | refine Below.setCell ?_ (by first | omega | (simp; done) | (simp; omega)) _ | refine Below.alloc ?_ (by first | omega | (simp; done) | (simp; omega)) _)) hb1 (by first | omega | (simp; done) | (simp; omega))); clear hb1
  go_wp2_with fail
  refine (HP.out _).mono ?_
  rintro e w2 ⟨rfl, hb2⟩

  have H2 : Hid (Below w.heap.size w w2) := Lib.hid (below_then (by (repeat (first | (with_reducible exact H1.out) | (with_reducible refine Below.setCell ?_ ?_ _) | (with_reducible refine below_alloc_top ?_ _) | (with_reducible refine Below.drew ?_))); all_goals (first | omega | (simp; done) | (simp; omega))) hb2); clear hb2
  go_wp2
  go_ret
  exact ⟨rfl, (by (repeat (first | (with_reducible exact H2.out) | (with_reducible refine Below.setCell ?_ ?_ _) | (with_reducible refine below_alloc_top ?_ _) | (with_reducible refine Below.drew ?_))); all_goals (first | omega | (simp; done) | (simp; omega)))⟩
set_option maxRecDepth 100000 in
set_option maxHeartbeats 1000000 in
theorem nf_far (x : Wy) (s a b c d : Int) (o : x.ok) (h : inB s (-50000) 50000 = false) (w : World) :
    Calls Try.prog 17 #[.agg #[.int .i64 x.m.wd, .int .i64 x.m.mt, .int .i64 x.m.sk, .int .i64 x.m.th, .int .i64 x.fx, .int .i64 x.fz, .int .i64 x.tx, .int .i64 x.tz], .int .i64 s, .agg #[.int .i64 a, .int .i64 b, .int .i64 c, .int .i64 d]] w fun e w' => e = .returned (.bool true) ∧ Below w.heap.size w w' := by
  have HP := Lib.hid (fun w => leastOf_ok x o w)
  have HW := Lib.hid (fun w => within_any s (-50000) 50000 w)
  rw [h] at HW
  have HS := Lib.hid (fun w => within_any x.m.sk 0 4 w)
  rw [(inB_iff _ _ _).2 ⟨o.m.c1, o.m.c2⟩] at HS
  generalize x.cr.lLo = lo at *
  generalize x.cr.lHi = hi at *
  clear h o
  go_enter Try.func17, Try.ntmps17
  go_wp2_with fail
  refine (rayed_any _).mono ?_
  rintro e w1 ⟨rfl, hb1⟩
  have qw10 : w1.cell? ⟨w.heap.size, 0, none⟩ = some (.int .i64 x.m.wd) := cell_later hb1 (by simp [go_sem])
  have qw11 : w1.cell? ⟨w.heap.size, 1, none⟩ = some (.int .i64 x.m.mt) := cell_later hb1 (by simp [go_sem])
  have qw12 : w1.cell? ⟨w.heap.size, 2, none⟩ = some (.int .i64 x.m.sk) := cell_later hb1 (by simp [go_sem])
  have qw13 : w1.cell? ⟨w.heap.size, 3, none⟩ = some (.int .i64 x.m.th) := cell_later hb1 (by simp [go_sem])
  have qw14 : w1.cell? ⟨w.heap.size, 4, none⟩ = some (.int .i64 x.fx) := cell_later hb1 (by simp [go_sem])
  have qw15 : w1.cell? ⟨w.heap.size, 5, none⟩ = some (.int .i64 x.fz) := cell_later hb1 (by simp [go_sem])
  have qw16 : w1.cell? ⟨w.heap.size, 6, none⟩ = some (.int .i64 x.tx) := cell_later hb1 (by simp [go_sem])
  have qw17 : w1.cell? ⟨w.heap.size, 7, none⟩ = some (.int .i64 x.tz) := cell_later hb1 (by simp [go_sem])
  have zqw1_0 := World.block_lt_of_cell? _ _ qw10
  dsimp only at zqw1_0
  have H1 : Hid (Below w.heap.size w w1) := Lib.hid (below_after (by repeat (first | exact Below.refl _ _ | refine Below.drew ?_ | refine below_drewN ?_ _ | refine Below.setCell ?_ (by first | omega | (simp; done) | (simp; omega)) _ | refine Below.alloc ?_ (by first | omega | (simp; done) | (simp; omega)) _)) hb1 (by first | omega | (simp; done) | (simp; omega))); clear hb1
  go_wp2_with fail
  refine (HP.out _).mono ?_
  rintro e w2 ⟨rfl, hb2⟩
  have qw20 : w2.cell? ⟨w.heap.size, 0, none⟩ = some (.int .i64 x.m.wd) := cell_later hb2 (by simp [go_sem, World.cell?_alloc_past, World.frozen?_alloc_past, *])
  have qw21 : w2.cell? ⟨w.heap.size, 1, none⟩ = some (.int .i64 x.m.mt) := cell_later hb2 (by simp [go_sem, World.cell?_alloc_past, World.frozen?_alloc_past, *])
  have qw22 : w2.cell? ⟨w.heap.size, 2, none⟩ = some (.int .i64 x.m.sk) := cell_later hb2 (by simp [go_sem, World.cell?_alloc_past, World.frozen?_alloc_past, *])
  have qw23 : w2.cell? ⟨w.heap.size, 3, none⟩ = some (.int .i64 x.m.th) := cell_later hb2 (by simp [go_sem, World.cell?_alloc_past, World.frozen?_alloc_past, *])
  have qw24 : w2.cell? ⟨w.heap.size, 4, none⟩ = some (.int .i64 x.fx) := cell_later hb2 (by simp [go_sem, World.cell?_alloc_past, World.frozen?_alloc_past, *])
  have qw25 : w2.cell? ⟨w.heap.size, 5, none⟩ = some (.int .i64 x.fz) := cell_later hb2 (by simp [go_sem, World.cell?_alloc_past, World.frozen?_alloc_past, *])
  have qw26 : w2.cell? ⟨w.heap.size, 6, none⟩ = some (.int .i64 x.tx) := cell_later hb2 (by simp [go_sem, World.cell?_alloc_past, World.frozen?_alloc_past, *])
  have qw27 : w2.cell? ⟨w.heap.size, 7, none⟩ = some (.int .i64 x.tz) := cell_later hb2 (by simp [go_sem, World.cell?_alloc_past, World.frozen?_alloc_past, *])
  have zqw2_0 := World.block_lt_of_cell? _ _ qw20
  dsimp only at zqw2_0
  have H2 : Hid (Below w.heap.size w w2) := Lib.hid (below_then (by (repeat (first | (with_reducible exact H1.out) | (with_reducible refine Below.setCell ?_ ?_ _) | (with_reducible refine below_alloc_top ?_ _) | (with_reducible refine Below.drew ?_))); all_goals (first | omega | (simp; done) | (simp; omega))) hb2); clear hb2
  go_wp2_with (first
    | (go_at_call 43; (with_reducible refine (HW.out _).mono ?_); rintro e w' ⟨rfl, rfl⟩)
    | (go_at_call 43; (with_reducible refine (HS.out _).mono ?_); rintro e w' ⟨rfl, rfl⟩)
    | fail)
  go_ret
  exact ⟨rfl, (by (repeat (first | (with_reducible exact H2.out) | (with_reducible refine Below.setCell ?_ ?_ _) | (with_reducible refine below_alloc_top ?_ _) | (with_reducible refine Below.drew ?_))); all_goals (first | omega | (simp; done) | (simp; omega)))⟩
set_option maxRecDepth 100000 in
set_option maxHeartbeats 1000000 in
theorem nf_in (x : Wy) (s a b c d : Int) (o : x.ok) (s0 : -50000 ≤ s) (s1 : s ≤ 50000) (w : World) :
    Calls Try.prog 17 #[.agg #[.int .i64 x.m.wd, .int .i64 x.m.mt, .int .i64 x.m.sk, .int .i64 x.m.th, .int .i64 x.fx, .int .i64 x.fz, .int .i64 x.tx, .int .i64 x.tz], .int .i64 s, .agg #[.int .i64 a, .int .i64 b, .int .i64 c, .int .i64 d]] w fun e w' => e = .returned (.bool true) ∧ Below w.heap.size w w' := by
  have HP := Lib.hid (fun w => leastOf_ok x o w)
  have HW := Lib.hid (fun w => within_any s (-50000) 50000 w)
  rw [(inB_iff _ _ _).2 ⟨s0, s1⟩] at HW
  have HS := Lib.hid (fun w => within_any x.m.sk 0 4 w)
  rw [(inB_iff _ _ _).2 ⟨o.m.c1, o.m.c2⟩] at HS
  have HT := Lib.hid (fun w => timeOf_ok x.fx x.fz s 0 x.m.wd w ⟨o.a1, o.a2, o.b1, by have := o.b2; omega, by omega, by omega, by omega, by omega⟩ o.m.a1 o.m.a2)
  have TL : Hid (∀ (p q u v r : Int), toHi p q u v r = legHi (u - p) (v - q) r) := fun _ _ _ _ _ => rfl
  have LB := Lib.hid (leg_bounds (s - x.fx) (0 - x.fz) x.m.wd (by have := o.a2; omega) (by have := o.a1; omega) (by have := o.b2; omega) (by have := o.b1; omega) o.m.a1)
  rw [TL.out] at HT
  have ez : (0 : Int) - x.fz = -x.fz := by omega
  rw [ez] at HT LB
  clear ez
  have sk0 := o.m.c1; have sk4 := o.m.c2
  obtain ⟨sn, hsn⟩ := Int.eq_ofNat_of_zero_le sk0
  have HSN := Lib.hid hsn; clear hsn
  have OK := Lib.hid o; clear o
  generalize hlo : x.cr.lLo = lo at *
  have HLO := Lib.hid hlo; clear hlo
  generalize x.cr.lHi = hi at *
  generalize toLo x.fx x.fz s 0 x.m.wd = l0 at *
  go_enter Try.func17, Try.ntmps17
  go_wp2_with fail
  refine (rayed_any _).mono ?_
  rintro e w1 ⟨rfl, hb1⟩
  have qw10 : w1.cell? ⟨w.heap.size, 0, none⟩ = some (.int .i64 x.m.wd) := cell_later hb1 (by simp [go_sem])
  have qw11 : w1.cell? ⟨w.heap.size, 1, none⟩ = some (.int .i64 x.m.mt) := cell_later hb1 (by simp [go_sem])
  have qw12 : w1.cell? ⟨w.heap.size, 2, none⟩ = some (.int .i64 x.m.sk) := cell_later hb1 (by simp [go_sem])
  have qw13 : w1.cell? ⟨w.heap.size, 3, none⟩ = some (.int .i64 x.m.th) := cell_later hb1 (by simp [go_sem])
  have qw14 : w1.cell? ⟨w.heap.size, 4, none⟩ = some (.int .i64 x.fx) := cell_later hb1 (by simp [go_sem])
  have qw15 : w1.cell? ⟨w.heap.size, 5, none⟩ = some (.int .i64 x.fz) := cell_later hb1 (by simp [go_sem])
  have qw16 : w1.cell? ⟨w.heap.size, 6, none⟩ = some (.int .i64 x.tx) := cell_later hb1 (by simp [go_sem])
  have qw17 : w1.cell? ⟨w.heap.size, 7, none⟩ = some (.int .i64 x.tz) := cell_later hb1 (by simp [go_sem])
  have qw18 : w1.cell? ⟨w.heap.size + 1, 0, none⟩ = some (.int .i64 a) := cell_later hb1 (by simp [go_sem])
  have qw19 : w1.cell? ⟨w.heap.size + 1, 1, none⟩ = some (.int .i64 b) := cell_later hb1 (by simp [go_sem])
  have qw110 : w1.cell? ⟨w.heap.size + 1, 2, none⟩ = some (.int .i64 c) := cell_later hb1 (by simp [go_sem])
  have qw111 : w1.cell? ⟨w.heap.size + 1, 3, none⟩ = some (.int .i64 d) := cell_later hb1 (by simp [go_sem])
  have zqw1_0 := World.block_lt_of_cell? _ _ qw10
  dsimp only at zqw1_0
  have zqw1_8 := World.block_lt_of_cell? _ _ qw18
  dsimp only at zqw1_8
  have H1 : Hid (Below w.heap.size w w1) := Lib.hid (below_after (by repeat (first | exact Below.refl _ _ | refine Below.drew ?_ | refine below_drewN ?_ _ | refine Below.setCell ?_ (by first | omega | (simp; done) | (simp; omega)) _ | refine Below.alloc ?_ (by first | omega | (simp; done) | (simp; omega)) _)) hb1 (by first | omega | (simp; done) | (simp; omega))); clear hb1
  go_wp2_with fail
  refine (HP.out _).mono ?_
  rintro e w2 ⟨rfl, hb2⟩
  have qw20 : w2.cell? ⟨w.heap.size, 0, none⟩ = some (.int .i64 x.m.wd) := cell_later hb2 (by simp [go_sem, World.cell?_alloc_past, World.frozen?_alloc_past, *])
  have qw21 : w2.cell? ⟨w.heap.size, 1, none⟩ = some (.int .i64 x.m.mt) := cell_later hb2 (by simp [go_sem, World.cell?_alloc_past, World.frozen?_alloc_past, *])
  have qw22 : w2.cell? ⟨w.heap.size, 2, none⟩ = some (.int .i64 x.m.sk) := cell_later hb2 (by simp [go_sem, World.cell?_alloc_past, World.frozen?_alloc_past, *])
  have qw23 : w2.cell? ⟨w.heap.size, 3, none⟩ = some (.int .i64 x.m.th) := cell_later hb2 (by simp [go_sem, World.cell?_alloc_past, World.frozen?_alloc_past, *])
  have qw24 : w2.cell? ⟨w.heap.size, 4, none⟩ = some (.int .i64 x.fx) := cell_later hb2 (by simp [go_sem, World.cell?_alloc_past, World.frozen?_alloc_past, *])
  have qw25 : w2.cell? ⟨w.heap.size, 5, none⟩ = some (.int .i64 x.fz) := cell_later hb2 (by simp [go_sem, World.cell?_alloc_past, World.frozen?_alloc_past, *])
  have qw26 : w2.cell? ⟨w.heap.size, 6, none⟩ = some (.int .i64 x.tx) := cell_later hb2 (by simp [go_sem, World.cell?_alloc_past, World.frozen?_alloc_past, *])
  have qw27 : w2.cell? ⟨w.heap.size, 7, none⟩ = some (.int .i64 x.tz) := cell_later hb2 (by simp [go_sem, World.cell?_alloc_past, World.frozen?_alloc_past, *])
  have qw28 : w2.cell? ⟨w.heap.size + 1, 0, none⟩ = some (.int .i64 a) := cell_later hb2 (by simp [go_sem, World.cell?_alloc_past, World.frozen?_alloc_past, *])
  have qw29 : w2.cell? ⟨w.heap.size + 1, 1, none⟩ = some (.int .i64 b) := cell_later hb2 (by simp [go_sem, World.cell?_alloc_past, World.frozen?_alloc_past, *])
  have qw210 : w2.cell? ⟨w.heap.size + 1, 2, none⟩ = some (.int .i64 c) := cell_later hb2 (by simp [go_sem, World.cell?_alloc_past, World.frozen?_alloc_past, *])
  have qw211 : w2.cell? ⟨w.heap.size + 1, 3, none⟩ = some (.int .i64 d) := cell_later hb2 (by simp [go_sem, World.cell?_alloc_past, World.frozen?_alloc_past, *])
  have zqw2_0 := World.block_lt_of_cell? _ _ qw20
  dsimp only at zqw2_0
  have zqw2_8 := World.block_lt_of_cell? _ _ qw28
  dsimp only at zqw2_8
  have H2 : Hid (Below w.heap.size w w2) := Lib.hid (below_then (by (repeat (first | (with_reducible exact H1.out) | (with_reducible refine Below.setCell ?_ ?_ _) | (with_reducible refine below_alloc_top ?_ _) | (with_reducible refine Below.drew ?_))); all_goals (first | omega | (simp; done) | (simp; omega))) hb2); clear hb2
  go_wp2_with (first
    | (go_at_call 43; (with_reducible refine (HW.out _).mono ?_); rintro e w' ⟨rfl, rfl⟩)
    | (go_at_call 43; (with_reducible refine (HS.out _).mono ?_); rintro e w' ⟨rfl, rfl⟩)
    | fail)
  refine (HT.out _).mono ?_
  rintro e w3 ⟨rfl, hb3⟩
  have qw30 : w3.cell? ⟨w.heap.size, 0, none⟩ = some (.int .i64 x.m.wd) := cell_later hb3 (by simp [go_sem, World.cell?_alloc_past, World.frozen?_alloc_past, *])
  have qw31 : w3.cell? ⟨w.heap.size, 1, none⟩ = some (.int .i64 x.m.mt) := cell_later hb3 (by simp [go_sem, World.cell?_alloc_past, World.frozen?_alloc_past, *])
  have qw32 : w3.cell? ⟨w.heap.size, 2, none⟩ = some (.int .i64 x.m.sk) := cell_later hb3 (by simp [go_sem, World.cell?_alloc_past, World.frozen?_alloc_past, *])
  have qw33 : w3.cell? ⟨w.heap.size, 3, none⟩ = some (.int .i64 x.m.th) := cell_later hb3 (by simp [go_sem, World.cell?_alloc_past, World.frozen?_alloc_past, *])
  have qw34 : w3.cell? ⟨w.heap.size, 4, none⟩ = some (.int .i64 x.fx) := cell_later hb3 (by simp [go_sem, World.cell?_alloc_past, World.frozen?_alloc_past, *])
  have qw35 : w3.cell? ⟨w.heap.size, 5, none⟩ = some (.int .i64 x.fz) := cell_later hb3 (by simp [go_sem, World.cell?_alloc_past, World.frozen?_alloc_past, *])
  have qw36 : w3.cell? ⟨w.heap.size, 6, none⟩ = some (.int .i64 x.tx) := cell_later hb3 (by simp [go_sem, World.cell?_alloc_past, World.frozen?_alloc_past, *])
  have qw37 : w3.cell? ⟨w.heap.size, 7, none⟩ = some (.int .i64 x.tz) := cell_later hb3 (by simp [go_sem, World.cell?_alloc_past, World.frozen?_alloc_past, *])
  have qw38 : w3.cell? ⟨w.heap.size + 1, 0, none⟩ = some (.int .i64 a) := cell_later hb3 (by simp [go_sem, World.cell?_alloc_past, World.frozen?_alloc_past, *])
  have qw39 : w3.cell? ⟨w.heap.size + 1, 1, none⟩ = some (.int .i64 b) := cell_later hb3 (by simp [go_sem, World.cell?_alloc_past, World.frozen?_alloc_past, *])
  have qw310 : w3.cell? ⟨w.heap.size + 1, 2, none⟩ = some (.int .i64 c) := cell_later hb3 (by simp [go_sem, World.cell?_alloc_past, World.frozen?_alloc_past, *])
  have qw311 : w3.cell? ⟨w.heap.size + 1, 3, none⟩ = some (.int .i64 d) := cell_later hb3 (by simp [go_sem, World.cell?_alloc_past, World.frozen?_alloc_past, *])
  have qw312 : w3.cell? ⟨w2.heap.size, 0, none⟩ = some (.int .i64 lo) := cell_later hb3 (by simp [go_sem, World.cell?_alloc_past, World.frozen?_alloc_past, *])
  have qw313 : w3.cell? ⟨w2.heap.size, 1, none⟩ = some (.int .i64 hi) := cell_later hb3 (by simp [go_sem, World.cell?_alloc_past, World.frozen?_alloc_past, *])
  have qw314 : w3.cell? ⟨w2.heap.size + 1, 0, none⟩ = some (.int .i64 s) := cell_later hb3 (by simp [go_sem, World.cell?_alloc_past, World.frozen?_alloc_past, *])
  have qw315 : w3.cell? ⟨w2.heap.size + 1, 1, none⟩ = some (.int .i64 0) := cell_later hb3 (by simp [go_sem, World.cell?_alloc_past, World.frozen?_alloc_past, *])
  have qw3f0 : w3.frozen? ⟨w2.heap.size + 1, 0, none⟩ = false := frozen_after hb3 (v := .int .i64 s) (by simp [go_sem, World.cell?_alloc_past, World.frozen?_alloc_past, *]) (by simp [go_sem, World.cell?_alloc_past, World.frozen?_alloc_past, *])
  have qw3f1 : w3.frozen? ⟨w2.heap.size + 1, 1, none⟩ = false := frozen_after hb3 (v := .int .i64 0) (by simp [go_sem, World.cell?_alloc_past, World.frozen?_alloc_past, *]) (by simp [go_sem, World.cell?_alloc_past, World.frozen?_alloc_past, *])
  have zqw3_0 := World.block_lt_of_cell? _ _ qw30
  dsimp only at zqw3_0
  have zqw3_8 := World.block_lt_of_cell? _ _ qw38
  dsimp only at zqw3_8
  have zqw3_12 := World.block_lt_of_cell? _ _ qw312
  dsimp only at zqw3_12
  have zqw3_14 := World.block_lt_of_cell? _ _ qw314
  dsimp only at zqw3_14
  have H3 : Hid (Below w.heap.size w w3) := Lib.hid (below_then (by (repeat (first | (with_reducible exact H2.out) | (with_reducible refine Below.setCell ?_ ?_ _) | (with_reducible refine below_alloc_top ?_ _) | (with_reducible refine Below.drew ?_))); all_goals (first | omega | (simp; done) | (simp; omega))) hb3); clear hb3
  go_wp2
  go_loopw [12, 13] (fun al jv wr => ∃ (j : Nat) (all p : Int), j ≤ sn ∧ al = .int .i64 all ∧ jv = .int .i64 (j : Int) ∧ NfI x s a b c d lo hi w wr w2.heap.size w3.heap.size j all p) (fun _ jv _ => sn - (intOf jv).toNat)
  case atStart =>
    refine ⟨0, _, s, Nat.zero_le _, rfl, rfl, ?_⟩
    obtain ⟨b1, b2, b3, b4, b5⟩ := LB.out
    exact ⟨by simp [go_sem, World.cell?_alloc_past, *], by simp [go_sem, World.cell?_alloc_past, *], by simp [go_sem, World.cell?_alloc_past, *], by simp [go_sem, World.cell?_alloc_past, *], by simp [go_sem, World.cell?_alloc_past, *], by simp [go_sem, World.cell?_alloc_past, *], by simp [go_sem, World.cell?_alloc_past, *], by simp [go_sem, World.cell?_alloc_past, *], by simp [go_sem, World.cell?_alloc_past, *], by simp [go_sem, World.cell?_alloc_past, *], by simp [go_sem, World.cell?_alloc_past, *], by simp [go_sem, World.cell?_alloc_past, *], by simp [go_sem, World.cell?_alloc_past, *], by simp [go_sem, World.cell?_alloc_past, *], by simp [go_sem, World.cell?_alloc_past, World.frozen?_alloc_past, *], by simp [go_sem, World.cell?_alloc_past, World.frozen?_alloc_past, *], by simp [go_sem, World.cell?_alloc_past, World.frozen?_alloc_past, *], by simp [go_sem, World.cell?_alloc_past, World.frozen?_alloc_past, *], ⟨_, _, by simp [go_sem]; exact ⟨rfl, rfl⟩⟩, by simp [go_sem], by simp [go_sem], H3.out.alloc H3.out.size _, s0, s1, b3, by omega, by have := OK.out.m.b1; rw [show s - s = 0 by omega, show ((0 : Nat) : Int) * x.m.th = 0 by simp, legHi_zero _ (by omega)]; omega⟩
  case round =>
    obtain ⟨j, all, p, hj, rfl, rfl, inv⟩ := hrel
    have INV := Lib.hid inv
    obtain ⟨x0, x1, x2, x3, x4, x5, x6, x7, x8, x9, x10, x11, x12, x13, g0, g1, gf0, gf1, ⟨lu, lv, l0', l1'⟩, lf0, lf1, bel, p0, p1, all0, all1, hh⟩ := inv
    have HH := Lib.hid hh
    have zr0 := World.block_lt_of_cell? _ _ x0
    have zr1 := World.block_lt_of_cell? _ _ x8
    have zr2 := World.block_lt_of_cell? _ _ x12
    have zr3 := World.block_lt_of_cell? _ _ g0
    have zr4 := World.block_lt_of_cell? _ _ l0'
    dsimp only at zr0 zr1 zr2 zr3 zr4
    have BEL := Lib.hid bel
    clear hh bel
    have sk := HSN.out
    by_cases hlt : j < sn
    · have t1 : (j : Int) < x.m.sk := by omega
      have t2 : (j : Int) < 4 := by omega
      have j0 : (0 : Int) ≤ (j : Int) := Int.natCast_nonneg _
      obtain ⟨q, hq⟩ : ∃ q : Int, wr.cell? ⟨w.heap.size + 1, j, none⟩ = some (.int .i64 q) := by
        rcases (by omega : j = 0 ∨ j = 1 ∨ j = 2 ∨ j = 3) with rfl | rfl | rfl | rfl
        · exact ⟨a, x8⟩
        · exact ⟨b, x9⟩
        · exact ⟨c, x10⟩
        · exact ⟨d, x11⟩
      clear sk
      cases hin : inB q (-50000) 50000
      · have HQ := Lib.hid (fun w => within_any q (-50000) 50000 w)
        rw [hin] at HQ
        clear hin
        go_wp2_with (first | (go_at_call 43; (with_reducible refine (HQ.out _).mono ?_); rintro e w' ⟨rfl, rfl⟩) | fail)
        go_ret
        exact ⟨rfl, BEL.out⟩
      · have HQ := Lib.hid (fun w => within_any q (-50000) 50000 w)
        rw [hin] at HQ
        obtain ⟨q0, q1⟩ := (inB_iff _ _ _).1 hin
        clear hin
        obtain ⟨n0, n1⟩ : 2 ≤ x.m.th ∧ x.m.th ≤ 20000 := ⟨OK.out.m.d1, OK.out.m.d2⟩
        obtain ⟨v0, v1⟩ : 500 ≤ x.m.mt ∧ x.m.mt ≤ 10000 := ⟨OK.out.m.b1, OK.out.m.b2⟩
        have NS := Lib.hid (nf_step s p q x.m.th x.m.mt all 0 _ j (by omega) (by omega) (by omega) (by omega) (by omega) (by omega) (by omega) n0 n1 v0 HH.out)
        have LQ := Lib.hid (leg_bounds (q - p) x.m.th x.m.mt (by omega) (by omega) (by omega) (by omega) v0)
        by_cases hp : j % 2 = 0
        · rw [if_pos hp] at g1
          have rem0 : ((j : Int) % 2 == 0) = true := by simp; omega
          have par : ¬ (j + 1) % 2 = 0 := by omega
          have HT := Lib.hid (fun w => timeOf_ok p 0 q x.m.th x.m.mt w ⟨by omega, by omega, by omega, by omega, by omega, by omega, by omega, by omega⟩ v0 v1)
          rw [TL.out, Int.sub_zero] at HT
          generalize legHi (q - p) x.m.th x.m.mt = L at *
          generalize toLo p 0 q x.m.th x.m.mt = L0 at *
          have PAR := Lib.hid par; clear par hp
          go_wp2_with (first | (go_at_call 43; (with_reducible refine (HQ.out _).mono ?_); rintro e w' ⟨rfl, rfl⟩) | fail)
          refine (HT.out _).mono ?_
          rintro e w5 ⟨rfl, hb5⟩
          have qw50 : w5.cell? ⟨w.heap.size, 0, none⟩ = some (.int .i64 x.m.wd) := cell_later hb5 (by simp [go_sem, World.cell?_alloc_past, World.frozen?_alloc_past, *])
          have qw51 : w5.cell? ⟨w.heap.size, 1, none⟩ = some (.int .i64 x.m.mt) := cell_later hb5 (by simp [go_sem, World.cell?_alloc_past, World.frozen?_alloc_past, *])
          have qw52 : w5.cell? ⟨w.heap.size, 2, none⟩ = some (.int .i64 x.m.sk) := cell_later hb5 (by simp [go_sem, World.cell?_alloc_past, World.frozen?_alloc_past, *])
          have qw53 : w5.cell? ⟨w.heap.size, 3, none⟩ = some (.int .i64 x.m.th) := cell_later hb5 (by simp [go_sem, World.cell?_alloc_past, World.frozen?_alloc_past, *])
          have qw54 : w5.cell? ⟨w.heap.size, 4, none⟩ = some (.int .i64 x.fx) := cell_later hb5 (by simp [go_sem, World.cell?_alloc_past, World.frozen?_alloc_past, *])
          have qw55 : w5.cell? ⟨w.heap.size, 5, none⟩ = some (.int .i64 x.fz) := cell_later hb5 (by simp [go_sem, World.cell?_alloc_past, World.frozen?_alloc_past, *])
          have qw56 : w5.cell? ⟨w.heap.size, 6, none⟩ = some (.int .i64 x.tx) := cell_later hb5 (by simp [go_sem, World.cell?_alloc_past, World.frozen?_alloc_past, *])
          have qw57 : w5.cell? ⟨w.heap.size, 7, none⟩ = some (.int .i64 x.tz) := cell_later hb5 (by simp [go_sem, World.cell?_alloc_past, World.frozen?_alloc_past, *])
          have qw58 : w5.cell? ⟨w.heap.size + 1, 0, none⟩ = some (.int .i64 a) := cell_later hb5 (by simp [go_sem, World.cell?_alloc_past, World.frozen?_alloc_past, *])
          have qw59 : w5.cell? ⟨w.heap.size + 1, 1, none⟩ = some (.int .i64 b) := cell_later hb5 (by simp [go_sem, World.cell?_alloc_past, World.frozen?_alloc_past, *])
          have qw510 : w5.cell? ⟨w.heap.size + 1, 2, none⟩ = some (.int .i64 c) := cell_later hb5 (by simp [go_sem, World.cell?_alloc_past, World.frozen?_alloc_past, *])
          have qw511 : w5.cell? ⟨w.heap.size + 1, 3, none⟩ = some (.int .i64 d) := cell_later hb5 (by simp [go_sem, World.cell?_alloc_past, World.frozen?_alloc_past, *])
          have qw512 : w5.cell? ⟨w2.heap.size, 0, none⟩ = some (.int .i64 lo) := cell_later hb5 (by simp [go_sem, World.cell?_alloc_past, World.frozen?_alloc_past, *])
          have qw513 : w5.cell? ⟨w2.heap.size, 1, none⟩ = some (.int .i64 hi) := cell_later hb5 (by simp [go_sem, World.cell?_alloc_past, World.frozen?_alloc_past, *])
          have qw514 : w5.cell? ⟨w2.heap.size + 1, 0, none⟩ = some (.int .i64 p) := cell_later hb5 (by simp [go_sem, World.cell?_alloc_past, World.frozen?_alloc_past, *])
          have qw515 : w5.cell? ⟨w2.heap.size + 1, 1, none⟩ = some (.int .i64 0) := cell_later hb5 (by simp [go_sem, World.cell?_alloc_past, World.frozen?_alloc_past, *])
          have qw516 : w5.cell? ⟨w3.heap.size, 0, none⟩ = some (.int .i64 lu) := cell_later hb5 (by simp [go_sem, World.cell?_alloc_past, World.frozen?_alloc_past, *])
          have qw517 : w5.cell? ⟨w3.heap.size, 1, none⟩ = some (.int .i64 lv) := cell_later hb5 (by simp [go_sem, World.cell?_alloc_past, World.frozen?_alloc_past, *])
          have qw518 : w5.cell? ⟨wr.heap.size, 0, none⟩ = some (.int .i64 q) := cell_later hb5 (by simp [go_sem, World.cell?_alloc_past, World.frozen?_alloc_past, *])
          have qw519 : w5.cell? ⟨wr.heap.size, 1, none⟩ = some (.int .i64 x.m.th) := cell_later hb5 (by simp [go_sem, World.cell?_alloc_past, World.frozen?_alloc_past, *])
          have qw5f0 : w5.frozen? ⟨w2.heap.size + 1, 0, none⟩ = false := frozen_after hb5 (v := .int .i64 p) (by simp [go_sem, World.cell?_alloc_past, World.frozen?_alloc_past, *]) (by simp [go_sem, World.cell?_alloc_past, World.frozen?_alloc_past, *])
          have qw5f1 : w5.frozen? ⟨w2.heap.size + 1, 1, none⟩ = false := frozen_after hb5 (v := .int .i64 0) (by simp [go_sem, World.cell?_alloc_past, World.frozen?_alloc_past, *]) (by simp [go_sem, World.cell?_alloc_past, World.frozen?_alloc_past, *])
          have qw5f2 : w5.frozen? ⟨w3.heap.size, 0, none⟩ = false := frozen_after hb5 (v := .int .i64 lu) (by simp [go_sem, World.cell?_alloc_past, World.frozen?_alloc_past, *]) (by simp [go_sem, World.cell?_alloc_past, World.frozen?_alloc_past, *])
          have qw5f3 : w5.frozen? ⟨w3.heap.size, 1, none⟩ = false := frozen_after hb5 (v := .int .i64 lv) (by simp [go_sem, World.cell?_alloc_past, World.frozen?_alloc_past, *]) (by simp [go_sem, World.cell?_alloc_past, World.frozen?_alloc_past, *])
          have zqw5_0 := World.block_lt_of_cell? _ _ qw50
          dsimp only at zqw5_0
          have zqw5_8 := World.block_lt_of_cell? _ _ qw58
          dsimp only at zqw5_8
          have zqw5_12 := World.block_lt_of_cell? _ _ qw512
          dsimp only at zqw5_12
          have zqw5_14 := World.block_lt_of_cell? _ _ qw514
          dsimp only at zqw5_14
          have zqw5_16 := World.block_lt_of_cell? _ _ qw516
          dsimp only at zqw5_16
          have zqw5_18 := World.block_lt_of_cell? _ _ qw518
          dsimp only at zqw5_18
          have H5 : Hid (Below w.heap.size w w5) := Lib.hid (below_then (by (repeat (first | (with_reducible exact BEL.out) | (with_reducible refine Below.setCell ?_ ?_ _) | (with_reducible refine below_alloc_top ?_ _) | (with_reducible refine Below.drew ?_))); all_goals (first | omega | (simp; done) | (simp; omega))) hb5); clear hb5
          obtain ⟨y0, y1, y2, y3, y4⟩ := LQ.out
          have ew : IntKind.i64.wrap (all + L) = all + L := IntWalk.i64_in _ (by omega)
          go_wp2
          go_region
          all_goals
            clear ew
            go_wp2
            go_roundw
            case rel => exact ⟨j + 1, all + L, q, by omega, rfl, by go_num, ⟨by simp [go_sem, World.cell?_alloc_past, *], by simp [go_sem, World.cell?_alloc_past, *], by simp [go_sem, World.cell?_alloc_past, *], by simp [go_sem, World.cell?_alloc_past, *], by simp [go_sem, World.cell?_alloc_past, *], by simp [go_sem, World.cell?_alloc_past, *], by simp [go_sem, World.cell?_alloc_past, *], by simp [go_sem, World.cell?_alloc_past, *], by simp [go_sem, World.cell?_alloc_past, *], by simp [go_sem, World.cell?_alloc_past, *], by simp [go_sem, World.cell?_alloc_past, *], by simp [go_sem, World.cell?_alloc_past, *], by simp [go_sem, World.cell?_alloc_past, *], by simp [go_sem, World.cell?_alloc_past, *], by simp [go_sem, World.cell?_alloc_past, *], by rw [if_neg PAR.out]; simp [go_sem, World.cell?_alloc_past, *], by simp [go_sem, World.frozen?_alloc_past, *], by simp [go_sem, World.frozen?_alloc_past, *], ⟨L0, L, by simp [go_sem, World.cell?_alloc_past, *], by simp [go_sem, World.cell?_alloc_past, *]⟩, by simp [go_sem, World.frozen?_alloc_past, *], by simp [go_sem, World.frozen?_alloc_past, *], (by (repeat (first | (with_reducible exact H5.out) | (with_reducible refine Below.setCell ?_ ?_ _) | (with_reducible refine below_alloc_top ?_ _) | (with_reducible refine Below.drew ?_))); all_goals (first | omega | (simp; done) | (simp; omega))), q0, q1, by omega, by omega, NS.out⟩⟩
            case measure => simp [intOf]; omega
        · rw [if_neg hp] at g1
          have rem0 : ((j : Int) % 2 == 0) = false := by simp; omega
          have par : (j + 1) % 2 = 0 := by omega
          have HT := Lib.hid (fun w => timeOf_ok p x.m.th q 0 x.m.mt w ⟨by omega, by omega, by omega, by omega, by omega, by omega, by omega, by omega⟩ v0 v1)
          rw [TL.out, Int.zero_sub, legHi_zneg] at HT
          generalize legHi (q - p) x.m.th x.m.mt = L at *
          generalize toLo p x.m.th q 0 x.m.mt = L0 at *
          have PAR := Lib.hid par; clear par hp
          go_wp2_with (first | (go_at_call 43; (with_reducible refine (HQ.out _).mono ?_); rintro e w' ⟨rfl, rfl⟩) | fail)
          refine (HT.out _).mono ?_
          rintro e w5 ⟨rfl, hb5⟩
          have qw50 : w5.cell? ⟨w.heap.size, 0, none⟩ = some (.int .i64 x.m.wd) := cell_later hb5 (by simp [go_sem, World.cell?_alloc_past, World.frozen?_alloc_past, *])
          have qw51 : w5.cell? ⟨w.heap.size, 1, none⟩ = some (.int .i64 x.m.mt) := cell_later hb5 (by simp [go_sem, World.cell?_alloc_past, World.frozen?_alloc_past, *])
          have qw52 : w5.cell? ⟨w.heap.size, 2, none⟩ = some (.int .i64 x.m.sk) := cell_later hb5 (by simp [go_sem, World.cell?_alloc_past, World.frozen?_alloc_past, *])
          have qw53 : w5.cell? ⟨w.heap.size, 3, none⟩ = some (.int .i64 x.m.th) := cell_later hb5 (by simp [go_sem, World.cell?_alloc_past, World.frozen?_alloc_past, *])
          have qw54 : w5.cell? ⟨w.heap.size, 4, none⟩ = some (.int .i64 x.fx) := cell_later hb5 (by simp [go_sem, World.cell?_alloc_past, World.frozen?_alloc_past, *])
          have qw55 : w5.cell? ⟨w.heap.size, 5, none⟩ = some (.int .i64 x.fz) := cell_later hb5 (by simp [go_sem, World.cell?_alloc_past, World.frozen?_alloc_past, *])
          have qw56 : w5.cell? ⟨w.heap.size, 6, none⟩ = some (.int .i64 x.tx) := cell_later hb5 (by simp [go_sem, World.cell?_alloc_past, World.frozen?_alloc_past, *])
          have qw57 : w5.cell? ⟨w.heap.size, 7, none⟩ = some (.int .i64 x.tz) := cell_later hb5 (by simp [go_sem, World.cell?_alloc_past, World.frozen?_alloc_past, *])
          have qw58 : w5.cell? ⟨w.heap.size + 1, 0, none⟩ = some (.int .i64 a) := cell_later hb5 (by simp [go_sem, World.cell?_alloc_past, World.frozen?_alloc_past, *])
          have qw59 : w5.cell? ⟨w.heap.size + 1, 1, none⟩ = some (.int .i64 b) := cell_later hb5 (by simp [go_sem, World.cell?_alloc_past, World.frozen?_alloc_past, *])
          have qw510 : w5.cell? ⟨w.heap.size + 1, 2, none⟩ = some (.int .i64 c) := cell_later hb5 (by simp [go_sem, World.cell?_alloc_past, World.frozen?_alloc_past, *])
          have qw511 : w5.cell? ⟨w.heap.size + 1, 3, none⟩ = some (.int .i64 d) := cell_later hb5 (by simp [go_sem, World.cell?_alloc_past, World.frozen?_alloc_past, *])
          have qw512 : w5.cell? ⟨w2.heap.size, 0, none⟩ = some (.int .i64 lo) := cell_later hb5 (by simp [go_sem, World.cell?_alloc_past, World.frozen?_alloc_past, *])
          have qw513 : w5.cell? ⟨w2.heap.size, 1, none⟩ = some (.int .i64 hi) := cell_later hb5 (by simp [go_sem, World.cell?_alloc_past, World.frozen?_alloc_past, *])
          have qw514 : w5.cell? ⟨w2.heap.size + 1, 0, none⟩ = some (.int .i64 p) := cell_later hb5 (by simp [go_sem, World.cell?_alloc_past, World.frozen?_alloc_past, *])
          have qw515 : w5.cell? ⟨w2.heap.size + 1, 1, none⟩ = some (.int .i64 x.m.th) := cell_later hb5 (by simp [go_sem, World.cell?_alloc_past, World.frozen?_alloc_past, *])
          have qw516 : w5.cell? ⟨w3.heap.size, 0, none⟩ = some (.int .i64 lu) := cell_later hb5 (by simp [go_sem, World.cell?_alloc_past, World.frozen?_alloc_past, *])
          have qw517 : w5.cell? ⟨w3.heap.size, 1, none⟩ = some (.int .i64 lv) := cell_later hb5 (by simp [go_sem, World.cell?_alloc_past, World.frozen?_alloc_past, *])
          have qw518 : w5.cell? ⟨wr.heap.size, 0, none⟩ = some (.int .i64 q) := cell_later hb5 (by simp [go_sem, World.cell?_alloc_past, World.frozen?_alloc_past, *])
          have qw519 : w5.cell? ⟨wr.heap.size, 1, none⟩ = some (.int .i64 0) := cell_later hb5 (by simp [go_sem, World.cell?_alloc_past, World.frozen?_alloc_past, *])
          have qw5f0 : w5.frozen? ⟨w2.heap.size + 1, 0, none⟩ = false := frozen_after hb5 (v := .int .i64 p) (by simp [go_sem, World.cell?_alloc_past, World.frozen?_alloc_past, *]) (by simp [go_sem, World.cell?_alloc_past, World.frozen?_alloc_past, *])
          have qw5f1 : w5.frozen? ⟨w2.heap.size + 1, 1, none⟩ = false := frozen_after hb5 (v := .int .i64 x.m.th) (by simp [go_sem, World.cell?_alloc_past, World.frozen?_alloc_past, *]) (by simp [go_sem, World.cell?_alloc_past, World.frozen?_alloc_past, *])
          have qw5f2 : w5.frozen? ⟨w3.heap.size, 0, none⟩ = false := frozen_after hb5 (v := .int .i64 lu) (by simp [go_sem, World.cell?_alloc_past, World.frozen?_alloc_past, *]) (by simp [go_sem, World.cell?_alloc_past, World.frozen?_alloc_past, *])
          have qw5f3 : w5.frozen? ⟨w3.heap.size, 1, none⟩ = false := frozen_after hb5 (v := .int .i64 lv) (by simp [go_sem, World.cell?_alloc_past, World.frozen?_alloc_past, *]) (by simp [go_sem, World.cell?_alloc_past, World.frozen?_alloc_past, *])
          have zqw5_0 := World.block_lt_of_cell? _ _ qw50
          dsimp only at zqw5_0
          have zqw5_8 := World.block_lt_of_cell? _ _ qw58
          dsimp only at zqw5_8
          have zqw5_12 := World.block_lt_of_cell? _ _ qw512
          dsimp only at zqw5_12
          have zqw5_14 := World.block_lt_of_cell? _ _ qw514
          dsimp only at zqw5_14
          have zqw5_16 := World.block_lt_of_cell? _ _ qw516
          dsimp only at zqw5_16
          have zqw5_18 := World.block_lt_of_cell? _ _ qw518
          dsimp only at zqw5_18
          have H5 : Hid (Below w.heap.size w w5) := Lib.hid (below_then (by (repeat (first | (with_reducible exact BEL.out) | (with_reducible refine Below.setCell ?_ ?_ _) | (with_reducible refine below_alloc_top ?_ _) | (with_reducible refine Below.drew ?_))); all_goals (first | omega | (simp; done) | (simp; omega))) hb5); clear hb5
          obtain ⟨y0, y1, y2, y3, y4⟩ := LQ.out
          have ew : IntKind.i64.wrap (all + L) = all + L := IntWalk.i64_in _ (by omega)
          go_wp2
          go_region
          all_goals
            clear ew
            go_wp2
            go_roundw
            case rel => exact ⟨j + 1, all + L, q, by omega, rfl, by go_num, ⟨by simp [go_sem, World.cell?_alloc_past, *], by simp [go_sem, World.cell?_alloc_past, *], by simp [go_sem, World.cell?_alloc_past, *], by simp [go_sem, World.cell?_alloc_past, *], by simp [go_sem, World.cell?_alloc_past, *], by simp [go_sem, World.cell?_alloc_past, *], by simp [go_sem, World.cell?_alloc_past, *], by simp [go_sem, World.cell?_alloc_past, *], by simp [go_sem, World.cell?_alloc_past, *], by simp [go_sem, World.cell?_alloc_past, *], by simp [go_sem, World.cell?_alloc_past, *], by simp [go_sem, World.cell?_alloc_past, *], by simp [go_sem, World.cell?_alloc_past, *], by simp [go_sem, World.cell?_alloc_past, *], by simp [go_sem, World.cell?_alloc_past, *], by rw [if_pos PAR.out]; simp [go_sem, World.cell?_alloc_past, *], by simp [go_sem, World.frozen?_alloc_past, *], by simp [go_sem, World.frozen?_alloc_past, *], ⟨L0, L, by simp [go_sem, World.cell?_alloc_past, *], by simp [go_sem, World.cell?_alloc_past, *]⟩, by simp [go_sem, World.frozen?_alloc_past, *], by simp [go_sem, World.frozen?_alloc_past, *], (by (repeat (first | (with_reducible exact H5.out) | (with_reducible refine Below.setCell ?_ ?_ _) | (with_reducible refine below_alloc_top ?_ _) | (with_reducible refine Below.drew ?_))); all_goals (first | omega | (simp; done) | (simp; omega))), q0, q1, by omega, by omega, NS.out⟩⟩
            case measure => simp [intOf]; omega
    · have hks : (j : Int) = x.m.sk := by omega
      have kk : decide ((j : Int) < x.m.sk) = false := by simp; omega
      obtain ⟨n0, n1⟩ : 2 ≤ x.m.th ∧ x.m.th ≤ 20000 := ⟨OK.out.m.d1, OK.out.m.d2⟩
      obtain ⟨v0, v1⟩ : 500 ≤ x.m.mt ∧ x.m.mt ≤ 10000 := ⟨OK.out.m.b1, OK.out.m.b2⟩
      obtain ⟨e0, e1, e2, e3⟩ : 0 < x.tz ∧ x.tz < x.m.th ∧ -100000 ≤ x.tx ∧ x.tx ≤ 100000 := ⟨OK.out.d1, OK.out.d2, OK.out.c1, OK.out.c2⟩
      have ne := nf_end x OK.out s p all s0 s1 p0 p1 j hks HH.out
      rw [HLO.out] at ne
      have a1' : all ≤ 28284271250000 := by omega
      clear sk hks all1
      by_cases hp : j % 2 = 0
      · rw [if_pos hp] at g1 ne
        have HT := Lib.hid (fun w => timeOf_ok p 0 x.tx x.tz x.m.mt w ⟨by omega, by omega, by omega, by omega, by omega, by omega, by omega, by omega⟩ v0 v1)
        rw [TL.out] at HT
        have LQ := Lib.hid (leg_bounds (x.tx - p) (x.tz - 0) x.m.mt (by omega) (by omega) (by omega) (by omega) v0)
        generalize legHi (x.tx - p) (x.tz - 0) x.m.mt = L at *
        generalize toLo p 0 x.tx x.tz x.m.mt = L0 at *
        clear hp
        have ne' := Lib.hid ne; clear ne
        go_wp2_with fail
        refine (HT.out _).mono ?_
        rintro e w5 ⟨rfl, hb5⟩
        have qw50 : w5.cell? ⟨w2.heap.size, 0, none⟩ = some (.int .i64 lo) := cell_later hb5 (by simp [go_sem, World.cell?_alloc_past, World.frozen?_alloc_past, *])
        have qw51 : w5.cell? ⟨w2.heap.size, 1, none⟩ = some (.int .i64 hi) := cell_later hb5 (by simp [go_sem, World.cell?_alloc_past, World.frozen?_alloc_past, *])
        have qw52 : w5.cell? ⟨w3.heap.size, 0, none⟩ = some (.int .i64 lu) := cell_later hb5 (by simp [go_sem, World.cell?_alloc_past, World.frozen?_alloc_past, *])
        have qw53 : w5.cell? ⟨w3.heap.size, 1, none⟩ = some (.int .i64 lv) := cell_later hb5 (by simp [go_sem, World.cell?_alloc_past, World.frozen?_alloc_past, *])
        have qw5f0 : w5.frozen? ⟨w3.heap.size, 0, none⟩ = false := frozen_after hb5 (v := .int .i64 lu) (by simp [go_sem, World.cell?_alloc_past, World.frozen?_alloc_past, *]) (by simp [go_sem, World.cell?_alloc_past, World.frozen?_alloc_past, *])
        have qw5f1 : w5.frozen? ⟨w3.heap.size, 1, none⟩ = false := frozen_after hb5 (v := .int .i64 lv) (by simp [go_sem, World.cell?_alloc_past, World.frozen?_alloc_past, *]) (by simp [go_sem, World.cell?_alloc_past, World.frozen?_alloc_past, *])
        have zqw5_0 := World.block_lt_of_cell? _ _ qw50
        dsimp only at zqw5_0
        have zqw5_2 := World.block_lt_of_cell? _ _ qw52
        dsimp only at zqw5_2
        have H5 : Hid (Below w.heap.size w w5) := Lib.hid (below_then (by (repeat (first | (with_reducible exact BEL.out) | (with_reducible refine Below.setCell ?_ ?_ _) | (with_reducible refine below_alloc_top ?_ _) | (with_reducible refine Below.drew ?_))); all_goals (first | omega | (simp; done) | (simp; omega))) hb5); clear hb5
        obtain ⟨y0, y1, y2, y3, y4⟩ := LQ.out
        have dg : decide (lo ≤ all + L) = true := by simpa using ne'.out
        go_wp2
        go_ret
        exact ⟨rfl, (by (repeat (first | (with_reducible exact H5.out) | (with_reducible refine Below.setCell ?_ ?_ _) | (with_reducible refine below_alloc_top ?_ _) | (with_reducible refine Below.drew ?_))); all_goals (first | omega | (simp; done) | (simp; omega)))⟩
      · rw [if_neg hp] at g1 ne
        have HT := Lib.hid (fun w => timeOf_ok p x.m.th x.tx x.tz x.m.mt w ⟨by omega, by omega, by omega, by omega, by omega, by omega, by omega, by omega⟩ v0 v1)
        rw [TL.out] at HT
        have LQ := Lib.hid (leg_bounds (x.tx - p) (x.tz - x.m.th) x.m.mt (by omega) (by omega) (by omega) (by omega) v0)
        generalize legHi (x.tx - p) (x.tz - x.m.th) x.m.mt = L at *
        generalize toLo p x.m.th x.tx x.tz x.m.mt = L0 at *
        clear hp
        have ne' := Lib.hid ne; clear ne
        go_wp2_with fail
        refine (HT.out _).mono ?_
        rintro e w5 ⟨rfl, hb5⟩
        have qw50 : w5.cell? ⟨w2.heap.size, 0, none⟩ = some (.int .i64 lo) := cell_later hb5 (by simp [go_sem, World.cell?_alloc_past, World.frozen?_alloc_past, *])
        have qw51 : w5.cell? ⟨w2.heap.size, 1, none⟩ = some (.int .i64 hi) := cell_later hb5 (by simp [go_sem, World.cell?_alloc_past, World.frozen?_alloc_past, *])
        have qw52 : w5.cell? ⟨w3.heap.size, 0, none⟩ = some (.int .i64 lu) := cell_later hb5 (by simp [go_sem, World.cell?_alloc_past, World.frozen?_alloc_past, *])
        have qw53 : w5.cell? ⟨w3.heap.size, 1, none⟩ = some (.int .i64 lv) := cell_later hb5 (by simp [go_sem, World.cell?_alloc_past, World.frozen?_alloc_past, *])
        have qw5f0 : w5.frozen? ⟨w3.heap.size, 0, none⟩ = false := frozen_after hb5 (v := .int .i64 lu) (by simp [go_sem, World.cell?_alloc_past, World.frozen?_alloc_past, *]) (by simp [go_sem, World.cell?_alloc_past, World.frozen?_alloc_past, *])
        have qw5f1 : w5.frozen? ⟨w3.heap.size, 1, none⟩ = false := frozen_after hb5 (v := .int .i64 lv) (by simp [go_sem, World.cell?_alloc_past, World.frozen?_alloc_past, *]) (by simp [go_sem, World.cell?_alloc_past, World.frozen?_alloc_past, *])
        have zqw5_0 := World.block_lt_of_cell? _ _ qw50
        dsimp only at zqw5_0
        have zqw5_2 := World.block_lt_of_cell? _ _ qw52
        dsimp only at zqw5_2
        have H5 : Hid (Below w.heap.size w w5) := Lib.hid (below_then (by (repeat (first | (with_reducible exact BEL.out) | (with_reducible refine Below.setCell ?_ ?_ _) | (with_reducible refine below_alloc_top ?_ _) | (with_reducible refine Below.drew ?_))); all_goals (first | omega | (simp; done) | (simp; omega))) hb5); clear hb5
        obtain ⟨y0, y1, y2, y3, y4⟩ := LQ.out
        have dg : decide (lo ≤ all + L) = true := by simpa using ne'.out
        go_wp2
        go_ret
        exact ⟨rfl, (by (repeat (first | (with_reducible exact H5.out) | (with_reducible refine Below.setCell ?_ ?_ _) | (with_reducible refine below_alloc_top ?_ _) | (with_reducible refine Below.drew ?_))); all_goals (first | omega | (simp; done) | (simp; omega)))⟩
theorem nofaster_any (x : Wy) (s a b c d : Int) (w : World) :
    Calls Try.prog 17 #[.agg #[.int .i64 x.m.wd, .int .i64 x.m.mt, .int .i64 x.m.sk, .int .i64 x.m.th, .int .i64 x.fx, .int .i64 x.fz, .int .i64 x.tx, .int .i64 x.tz], .int .i64 s, .agg #[.int .i64 a, .int .i64 b, .int .i64 c, .int .i64 d]] w fun e w' => e = .returned (.bool true) ∧ Below w.heap.size w w' := by
  by_cases h : wyE x = 0
  · have o := (wyE_ok x).1 h
    cases hs : inB s (-50000) 50000
    · exact nf_far x s a b c d o hs w
    · exact nf_in x s a b c d o ((inB_iff _ _ _).1 hs).1 ((inB_iff _ _ _).1 hs).2 w
  · exact nf_bad x s a b c d h w
end Go.Proofs.Ytdicndakelgoeaa
