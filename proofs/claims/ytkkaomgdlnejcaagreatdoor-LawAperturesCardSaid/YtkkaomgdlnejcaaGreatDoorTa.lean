/- the reference's aperture -/
import Derived.Test.YtkkaomgdlnejcaaGreatDoorV21
import Derived.Test.YtkkaomgdlnejcaaGreatDoorTj
namespace Go.Proofs.YtkkaomgdlnejcaaGreatDoor
open Go.RowKit Go.Shelf RayM
set_option linter.unusedSimpArgs false
set_option linter.unusedVariables false
set_option maxRecDepth 100000 in
set_option maxHeartbeats 4000000 in
theorem rAperture_any (a : La) (d : Dl) (A : Option Addr) (c : Nat) (B : Option Addr) (e : Nat) (w : World) (hE : paE a d = 0) (h : SpAt A a.n a.p w) (k : InAt B d.n d.t w) :
    Calls Tryz.prog 36 #[.agg #[.slice A a.n c, .int .i64 a.m.wd, .int .i64 a.m.mt, .int .i64 a.m.sk, .int .i64 a.m.th, .int .i64 a.ck], .agg #[.int .i64 d.ck, .slice B d.n e]] w fun e_ w' => e_ = .returned (.tuple #[.agg #[.int .i64 (apLo a d), .int .i64 (apHi a d)], .int .i64 (apE a d)]) ∧ Below w.heap.size w w' := by
  have HX := Lib.hid h; clear h
  have HT := Lib.hid k; clear k
  obtain ⟨qa, qd, qn⟩ := (paE_zero a d).1 hE
  obtain ⟨⟨n0, n1⟩, -⟩ := (La.E_zero a).1 qa
  obtain ⟨-, -, tb⟩ := (Dl.E_zero d).1 qd
  have HS : Hid (∀ w', InAt B d.n d.t w' → Calls Tryz.prog 34 #[.agg #[.int .i64 d.ck, .slice B d.n e]] w' fun e_ w'' => ∃ A1 c1, e_ = .returned (.slice A1 (apM d) c1) ∧ InAt A1 (apM d) (sdF d.t d.n) w'' ∧ Below w'.heap.size w' w'') := Lib.hid (fun w' h => (rSending_any d B e w' (by omega) (fun i hi => (tb i hi).1) h).mono (fun e_ w'' ⟨v, e1, ho, hb⟩ => by
    obtain ⟨A1, c1, rfl, _, hs⟩ := own_ints2 ho
    exact ⟨A1, c1, e1, hs, hb⟩))
  have SG : Hid (∀ j, j < apM d → ∃ i : Nat, sdF d.t d.n j = i ∧ i < a.n ∧ apX a d j = (a.p i).x) := Lib.hid (fun j hj => by
    obtain ⟨i, e1, h1, _, e2⟩ := sdF_get d.t d.n j hj
    refine ⟨i, e1, by omega, ?_⟩
    show (a.p _).x = _
    rw [List.getD_eq_getElem?_getD, e2]; rfl)
  have SM : apM d ≤ 16 := by have := sdL_len d.t d.n; unfold apM; omega
  have e1 : apE a d = if apM d = 0 then 12 else 0 := by unfold apE; rw [if_pos hE]
  by_cases m0 : apM d = 0
  · rw [if_pos m0] at e1
    have e2 : apLo a d = 0 := by unfold apLo; rw [e1, if_neg (by decide)]
    have e3 : apHi a d = 0 := by unfold apHi; rw [e1, if_neg (by decide)]
    rw [e1, e2, e3]
    rw [m0] at HS
    clear e1 e2 e3 m0 SG SM hE qa qd tb qn
    go_enter Tryz.func36, Tryz.ntmps36
    go_wp2_with fail
    obtain ⟨w1, hw_w1⟩ : ∃ q, q = (((w.alloc (.cells #[.slice A a.n c, .int .i64 a.m.wd, .int .i64 a.m.mt, .int .i64 a.m.sk, .int .i64 a.m.th, .int .i64 a.ck] 26)).alloc (.cells #[.int .i64 d.ck, .slice B d.n e] 33)).alloc (.cells #[.int .i64 0, .int .i64 0] 74)) := ⟨_, rfl⟩
    rw [← hw_w1]
    have q10 : w1.cell? ⟨w.heap.size, 0, none⟩ = some (.slice A a.n c) := by rw [hw_w1]; simp [go_sem]
    have q11 : w1.cell? ⟨w.heap.size, 1, none⟩ = some (.int .i64 a.m.wd) := by rw [hw_w1]; simp [go_sem]
    have q12 : w1.cell? ⟨w.heap.size, 2, none⟩ = some (.int .i64 a.m.mt) := by rw [hw_w1]; simp [go_sem]
    have q13 : w1.cell? ⟨w.heap.size, 3, none⟩ = some (.int .i64 a.m.sk) := by rw [hw_w1]; simp [go_sem]
    have q14 : w1.cell? ⟨w.heap.size, 4, none⟩ = some (.int .i64 a.m.th) := by rw [hw_w1]; simp [go_sem]
    have q15 : w1.cell? ⟨w.heap.size, 5, none⟩ = some (.int .i64 a.ck) := by rw [hw_w1]; simp [go_sem]
    have q16 : w1.cell? ⟨w.heap.size + 1, 0, none⟩ = some (.int .i64 d.ck) := by rw [hw_w1]; simp [go_sem]
    have q17 : w1.cell? ⟨w.heap.size + 1, 1, none⟩ = some (.slice B d.n e) := by rw [hw_w1]; simp [go_sem]
    have q18 : w1.cell? ⟨w.heap.size + 1 + 1, 0, none⟩ = some (.int .i64 0) := by rw [hw_w1]; simp [go_sem]
    have q19 : w1.cell? ⟨w.heap.size + 1 + 1, 1, none⟩ = some (.int .i64 0) := by rw [hw_w1]; simp [go_sem]
    have qf10 : w1.frozen? ⟨w.heap.size + 1 + 1, 0, none⟩ = false := by rw [hw_w1]; simp [go_sem]
    have qf11 : w1.frozen? ⟨w.heap.size + 1 + 1, 1, none⟩ = false := by rw [hw_w1]; simp [go_sem]
    have H1 : Hid (Below w.heap.size w w1) := Lib.hid (by rw [hw_w1]; exact (by repeat (first | exact Below.refl _ _ | refine Below.drew ?_ | refine below_drewN ?_ _ | refine Below.setCell ?_ (by first | omega | (simp; done) | (simp; omega)) _ | refine Below.alloc ?_ (by first | omega | (simp; done) | (simp; omega)) _)))
    have z1 : w1.heap.size = w.heap.size + 3 := by rw [hw_w1]; simp
    clear hw_w1
    clear z1
    refine (HS.out _ (HT.out.later H1.out)).mono ?_
    rintro e_ wA ⟨A1, c1, rfl, is, hb⟩
    have k2_0 := cell_later hb q10
    have k2_1 := cell_later hb q11
    have k2_2 := cell_later hb q12
    have k2_3 := cell_later hb q13
    have k2_4 := cell_later hb q14
    have k2_5 := cell_later hb q15
    have k2_6 := cell_later hb q16
    have k2_7 := cell_later hb q17
    have k2_8 := cell_later hb q18
    have k2_9 := cell_later hb q19
    have f2_0 := frozen_after hb q18 qf10
    have f2_1 := frozen_after hb q19 qf11
    have B2 : Hid (Below w.heap.size w wA) := Lib.hid (below_then H1.out hb)
    clear q10 q11 q12 q13 q14 q15 q16 q17 q18 q19 qf10 qf11 H1
    have z2_0 := World.block_lt_of_cell? _ _ k2_0
    (try dsimp only at z2_0)
    have z2_6 := World.block_lt_of_cell? _ _ k2_6
    (try dsimp only at z2_6)
    have z2_8 := World.block_lt_of_cell? _ _ k2_8
    (try dsimp only at z2_8)
    clear hb
    clear is
    go_wp2
    exact bodyPost_ret (v := .tuple #[.agg #[.int .i64 0, .int .i64 0], .int .i64 12]) (by simp [results, Tryz.results36, go_sem, World.cell?_alloc_past, *]) rfl ⟨rfl, (by (repeat (first | (with_reducible exact B2.out) | (with_reducible refine Below.setCell ?_ ?_ _) | (with_reducible refine below_alloc_top ?_ _) | (with_reducible refine Below.drew ?_))); all_goals (first | omega | (simp; done) | (simp; omega)))⟩
  · rw [if_neg m0] at e1
    have e2 : apLo a d = mnL (apX a d) (apM d) := by unfold apLo; rw [e1, if_pos rfl]
    have e3 : apHi a d = mxL (apX a d) (apM d) := by unfold apHi; rw [e1, if_pos rfl]
    rw [e1, e2, e3]
    clear e1 e2 e3 hE qa qd tb qn
    have m1 : 0 < apM d := by omega
    generalize apM d = m at *
    generalize apX a d = X at *
    generalize sdF d.t d.n = sf at *
    obtain ⟨ad, rfl⟩ := HX.out.some n0
    go_enter Tryz.func36, Tryz.ntmps36
    go_wp2_with fail
    obtain ⟨w1, hw_w1⟩ : ∃ q, q = (((w.alloc (.cells #[.slice (some ad) a.n c, .int .i64 a.m.wd, .int .i64 a.m.mt, .int .i64 a.m.sk, .int .i64 a.m.th, .int .i64 a.ck] 26)).alloc (.cells #[.int .i64 d.ck, .slice B d.n e] 33)).alloc (.cells #[.int .i64 0, .int .i64 0] 74)) := ⟨_, rfl⟩
    rw [← hw_w1]
    have q10 : w1.cell? ⟨w.heap.size, 0, none⟩ = some (.slice (some ad) a.n c) := by rw [hw_w1]; simp [go_sem]
    have q11 : w1.cell? ⟨w.heap.size, 1, none⟩ = some (.int .i64 a.m.wd) := by rw [hw_w1]; simp [go_sem]
    have q12 : w1.cell? ⟨w.heap.size, 2, none⟩ = some (.int .i64 a.m.mt) := by rw [hw_w1]; simp [go_sem]
    have q13 : w1.cell? ⟨w.heap.size, 3, none⟩ = some (.int .i64 a.m.sk) := by rw [hw_w1]; simp [go_sem]
    have q14 : w1.cell? ⟨w.heap.size, 4, none⟩ = some (.int .i64 a.m.th) := by rw [hw_w1]; simp [go_sem]
    have q15 : w1.cell? ⟨w.heap.size, 5, none⟩ = some (.int .i64 a.ck) := by rw [hw_w1]; simp [go_sem]
    have q16 : w1.cell? ⟨w.heap.size + 1, 0, none⟩ = some (.int .i64 d.ck) := by rw [hw_w1]; simp [go_sem]
    have q17 : w1.cell? ⟨w.heap.size + 1, 1, none⟩ = some (.slice B d.n e) := by rw [hw_w1]; simp [go_sem]
    have q18 : w1.cell? ⟨w.heap.size + 1 + 1, 0, none⟩ = some (.int .i64 0) := by rw [hw_w1]; simp [go_sem]
    have q19 : w1.cell? ⟨w.heap.size + 1 + 1, 1, none⟩ = some (.int .i64 0) := by rw [hw_w1]; simp [go_sem]
    have qf10 : w1.frozen? ⟨w.heap.size + 1 + 1, 0, none⟩ = false := by rw [hw_w1]; simp [go_sem]
    have qf11 : w1.frozen? ⟨w.heap.size + 1 + 1, 1, none⟩ = false := by rw [hw_w1]; simp [go_sem]
    have H1 : Hid (Below w.heap.size w w1) := Lib.hid (by rw [hw_w1]; exact (by repeat (first | exact Below.refl _ _ | refine Below.drew ?_ | refine below_drewN ?_ _ | refine Below.setCell ?_ (by first | omega | (simp; done) | (simp; omega)) _ | refine Below.alloc ?_ (by first | omega | (simp; done) | (simp; omega)) _)))
    have z1 : w1.heap.size = w.heap.size + 3 := by rw [hw_w1]; simp
    clear hw_w1
    clear z1
    refine (HS.out _ (HT.out.later H1.out)).mono ?_
    rintro e_ wA ⟨A1, c1, rfl, is, hb⟩
    have k2_0 := cell_later hb q10
    have k2_1 := cell_later hb q11
    have k2_2 := cell_later hb q12
    have k2_3 := cell_later hb q13
    have k2_4 := cell_later hb q14
    have k2_5 := cell_later hb q15
    have k2_6 := cell_later hb q16
    have k2_7 := cell_later hb q17
    have k2_8 := cell_later hb q18
    have k2_9 := cell_later hb q19
    have f2_0 := frozen_after hb q18 qf10
    have f2_1 := frozen_after hb q19 qf11
    have B2 : Hid (Below w.heap.size w wA) := Lib.hid (below_then H1.out hb)
    clear q10 q11 q12 q13 q14 q15 q16 q17 q18 q19 qf10 qf11 H1
    have z2_0 := World.block_lt_of_cell? _ _ k2_0
    (try dsimp only at z2_0)
    have z2_6 := World.block_lt_of_cell? _ _ k2_6
    (try dsimp only at z2_6)
    have z2_8 := World.block_lt_of_cell? _ _ k2_8
    (try dsimp only at z2_8)
    clear hb
    obtain ⟨a1, hA⟩ := is.some m1
    subst hA
    have IS := Lib.hid is
    clear is
    have n1_ : ((m : Int) == 0) = false := by simp; omega
    obtain ⟨i0, ei0, hi0, ex0⟩ := SG.out 0 m1
    have c2 := IS.out.at m1
    rw [ei0] at c2
    have ea0 : a1.add 0 = a1 := by unfold Addr.add; rfl
    rw [ea0] at c2
    have c3 := ((HX.out.later B2.out).at hi0).1
    rw [← ex0] at c3
    have j0 : (0 : Int) ≤ (i0 : Int) := Int.natCast_nonneg _
    have j1 : (i0 : Int) < (a.n : Int) := by omega
    have j8 : (i0 : Int) < 1000 := by omega
    have z_a1 := World.block_lt_of_cell? _ _ c2
    have z_ad := World.block_lt_of_cell? _ _ c3
    clear ei0 ex0 ea0
    go_wp2_with fail
    go_quiet (fail)
    obtain ⟨wB, hw6⟩ : ∃ q, q = wA.drewN nq := ⟨_, rfl⟩
    rw [← hw6]
    have hb6 : Below wA.heap.size wA wB := by rw [hw6]; exact below_drewN (Below.refl _ _) _
    clear hw6 c2 c3 hi0 j0 j1 j8
    have szB := hb6.size
    have k3_0 := cell_later hb6 k2_0
    have k3_1 := cell_later hb6 k2_1
    have k3_2 := cell_later hb6 k2_2
    have k3_3 := cell_later hb6 k2_3
    have k3_4 := cell_later hb6 k2_4
    have k3_5 := cell_later hb6 k2_5
    have k3_6 := cell_later hb6 k2_6
    have k3_7 := cell_later hb6 k2_7
    have k3_8 := cell_later hb6 k2_8
    have k3_9 := cell_later hb6 k2_9
    have f3_0 := frozen_after hb6 k2_8 f2_0
    have f3_1 := frozen_after hb6 k2_9 f2_1
    have R3_0 := Lib.hid (IS.out.later hb6)
    have B3 : Hid (Below w.heap.size w wB) := Lib.hid (below_then B2.out hb6)
    clear k2_0 k2_1 k2_2 k2_3 k2_4 k2_5 k2_6 k2_7 k2_8 k2_9 f2_0 f2_1 IS B2
    have z3_0 := World.block_lt_of_cell? _ _ k3_0
    (try dsimp only at z3_0)
    have z3_6 := World.block_lt_of_cell? _ _ k3_6
    (try dsimp only at z3_6)
    have z3_8 := World.block_lt_of_cell? _ _ k3_8
    (try dsimp only at z3_8)
    clear hb6
    go_wp2_with fail
    obtain ⟨wO, hw_⟩ : ∃ q, q = wB.alloc (.cells #[.int .i64 (X 0), .int .i64 (X 0)] 74) := ⟨_, rfl⟩
    rw [← hw_]
    have hb : Below wB.heap.size wB wO := by rw [hw_]; exact (Below.refl _ _).alloc (Nat.le_refl _) _
    have n4_0 : wO.cell? ⟨wB.heap.size, 0, none⟩ = some (.int .i64 (X 0)) := by rw [hw_]; simp [go_sem]
    have n4_1 : wO.cell? ⟨wB.heap.size, 1, none⟩ = some (.int .i64 (X 0)) := by rw [hw_]; simp [go_sem]
    have g4_0 : wO.frozen? ⟨wB.heap.size, 0, none⟩ = false := by rw [hw_]; simp [go_sem]
    have g4_1 : wO.frozen? ⟨wB.heap.size, 1, none⟩ = false := by rw [hw_]; simp [go_sem]
    have k4_0 := cell_later hb k3_0
    have k4_1 := cell_later hb k3_1
    have k4_2 := cell_later hb k3_2
    have k4_3 := cell_later hb k3_3
    have k4_4 := cell_later hb k3_4
    have k4_5 := cell_later hb k3_5
    have k4_6 := cell_later hb k3_6
    have k4_7 := cell_later hb k3_7
    have k4_8 := cell_later hb k3_8
    have k4_9 := cell_later hb k3_9
    have f4_0 := frozen_after hb k3_8 f3_0
    have f4_1 := frozen_after hb k3_9 f3_1
    have R4_0 := Lib.hid (R3_0.out.later hb)
    have B4 : Hid (Below w.heap.size w wO) := Lib.hid (below_then B3.out hb)
    clear k3_0 k3_1 k3_2 k3_3 k3_4 k3_5 k3_6 k3_7 k3_8 k3_9 f3_0 f3_1 R3_0 B3
    have z4_0 := World.block_lt_of_cell? _ _ k4_0
    (try dsimp only at z4_0)
    have z4_6 := World.block_lt_of_cell? _ _ k4_6
    (try dsimp only at z4_6)
    have z4_8 := World.block_lt_of_cell? _ _ k4_8
    (try dsimp only at z4_8)
    have zn4 : wB.heap.size < wO.heap.size := by rw [hw_]; simp
    clear hb hw_
    have HO : Hid (Below w.heap.size w wO) := B4
    go_loopw [7, 9] (fun s7 s9 wr => ∃ (k : Nat) (x : Int), s7 = .int .i64 x ∧ k ≤ m ∧ s9 = .int .i64 (k : Int) ∧ wr.cell? ⟨wB.heap.size, 0, none⟩ = some (.int .i64 (mnL X k)) ∧ wr.cell? ⟨wB.heap.size, 1, none⟩ = some (.int .i64 (mxL X k)) ∧ wr.frozen? ⟨wB.heap.size, 0, none⟩ = false ∧ wr.frozen? ⟨wB.heap.size, 1, none⟩ = false ∧ InAt (some a1) m sf wr ∧ Below wB.heap.size wO wr) (fun _ s9 _ => m - (intOf s9).toNat)
    case atStart => exact ⟨0, _, rfl, Nat.zero_le _, rfl, n4_0, n4_1, g4_0, g4_1, R4_0.out, Below.refl _ _⟩
    case round =>
      obtain ⟨k, xo, rfl, hk, rfl, g0, g1, gf0, gf1, is, hb⟩ := hrel
      have szr := hb.size
      have r0 : wr.cell? ⟨w.heap.size, 0, none⟩ = some (.slice (some ad) a.n c) := (hb.cell (by dsimp only; omega)).trans k4_0
      have r1 : wr.cell? ⟨w.heap.size, 1, none⟩ = some (.int .i64 a.m.wd) := (hb.cell (by dsimp only; omega)).trans k4_1
      have r2 : wr.cell? ⟨w.heap.size, 2, none⟩ = some (.int .i64 a.m.mt) := (hb.cell (by dsimp only; omega)).trans k4_2
      have r3 : wr.cell? ⟨w.heap.size, 3, none⟩ = some (.int .i64 a.m.sk) := (hb.cell (by dsimp only; omega)).trans k4_3
      have r4 : wr.cell? ⟨w.heap.size, 4, none⟩ = some (.int .i64 a.m.th) := (hb.cell (by dsimp only; omega)).trans k4_4
      have r5 : wr.cell? ⟨w.heap.size, 5, none⟩ = some (.int .i64 a.ck) := (hb.cell (by dsimp only; omega)).trans k4_5
      have r6 : wr.cell? ⟨w.heap.size + 1, 0, none⟩ = some (.int .i64 d.ck) := (hb.cell (by dsimp only; omega)).trans k4_6
      have r7 : wr.cell? ⟨w.heap.size + 1, 1, none⟩ = some (.slice B d.n e) := (hb.cell (by dsimp only; omega)).trans k4_7
      have r8 : wr.cell? ⟨w.heap.size + 1 + 1, 0, none⟩ = some (.int .i64 0) := (hb.cell (by dsimp only; omega)).trans k4_8
      have r9 : wr.cell? ⟨w.heap.size + 1 + 1, 1, none⟩ = some (.int .i64 0) := (hb.cell (by dsimp only; omega)).trans k4_9
      have rf0 : wr.frozen? ⟨w.heap.size + 1 + 1, 0, none⟩ = false := (hb.frozen (by dsimp only; omega)).trans f4_0
      have rf1 : wr.frozen? ⟨w.heap.size + 1 + 1, 1, none⟩ = false := (hb.frozen (by dsimp only; omega)).trans f4_1
      have HR : Hid (Below w.heap.size w wr) := Lib.hid (HO.out.trans (hb.mono (by omega)))
      have zO := World.block_lt_of_cell? _ _ g0
      have zr := World.block_lt_of_cell? _ _ r0
      have zr1 := World.block_lt_of_cell? _ _ r8
      dsimp only at zO zr zr1
      by_cases hlt : k < m
      · obtain ⟨i, ei, hi, ex⟩ := SG.out k hlt
        have e0 := is.at hlt
        rw [ei] at e0
        have e1 := ((HX.out.later HR.out).at hi).1
        rw [← ex] at e1
        have j0 : (0 : Int) ≤ (k : Int) := Int.natCast_nonneg _
        have j1 : (k : Int) < (m : Int) := by omega
        have j8 : (k : Int) < 1000 := by omega
        have i0_ : (0 : Int) ≤ (i : Int) := Int.natCast_nonneg _
        have i1_ : (i : Int) < (a.n : Int) := by omega
        have IS2 := Lib.hid is
        have HB := Lib.hid hb
        clear is hb ei ex
        go_upto_region 9 with fail
        go_quiet (fail)
        obtain ⟨wd, hw6⟩ : ∃ q, q = wr.drewN nq := ⟨_, rfl⟩
        rw [← hw6]
        have g0 : wd.cell? ⟨wB.heap.size, 0, none⟩ = some (.int .i64 (mnL X k)) := by rw [hw6]; exact g0
        have g1 : wd.cell? ⟨wB.heap.size, 1, none⟩ = some (.int .i64 (mxL X k)) := by rw [hw6]; exact g1
        have gf0 : wd.frozen? ⟨wB.heap.size, 0, none⟩ = false := by rw [hw6]; exact gf0
        have gf1 : wd.frozen? ⟨wB.heap.size, 1, none⟩ = false := by rw [hw6]; exact gf1
        have is : InAt (some a1) m sf wd := by rw [hw6]; exact IS2.out.later (below_drewN (Below.refl _ _) _)
        have hb : Below wB.heap.size wO wd := by rw [hw6]; exact below_drewN HB.out _
        have z1 : wB.heap.size < wd.heap.size := by have := World.block_lt_of_cell? _ _ g0; exact this
        clear hw6 e0 e1 IS2 HB
        go_wp2_with fail
        obtain ⟨wN, hw_⟩ : ∃ q, q = (wd.setCell ⟨wB.heap.size, 0, none⟩ (.int .i64 (min (mnL X k) (X k)))).setCell ⟨wB.heap.size, 1, none⟩ (.int .i64 (max (mxL X k) (X k))) := ⟨_, rfl⟩
        rw [← hw_]
        have g0 : wN.cell? ⟨wB.heap.size, 0, none⟩ = some (.int .i64 (mnL X (k + 1))) := by rw [hw_]; exact setO (.inr (by dsimp only; omega)) (setS g0)
        have g1 : wN.cell? ⟨wB.heap.size, 1, none⟩ = some (.int .i64 (mxL X (k + 1))) := by rw [hw_]; exact setS (setO (.inr (by dsimp only; omega)) g1)
        have gf0 : wN.frozen? ⟨wB.heap.size, 0, none⟩ = false := by rw [hw_]; exact setF (setF gf0)
        have gf1 : wN.frozen? ⟨wB.heap.size, 1, none⟩ = false := by rw [hw_]; exact setF (setF gf1)
        have is : InAt (some a1) m sf wN := by rw [hw_]; exact (is.set _ _ _ (fun a e => by cases e; omega)).set _ _ _ (fun a e => by cases e; omega)
        have hb : Below wB.heap.size wO wN := by rw [hw_]; exact (hb.setCell (by dsimp only; omega) _).setCell (by dsimp only; omega) _
        clear hw_
        go_roundw
        case rel => exact ⟨k + 1, _, rfl, by omega, by go_num, g0, g1, gf0, gf1, is, hb⟩
        case measure => simp [intOf]; omega
      · have hk' : k = m := by omega
        have kk : decide ((k : Int) < (m : Int)) = false := by simp; omega
        subst hk'
        clear hb is
        go_wp2
        exact bodyPost_ret (v := .tuple #[.agg #[.int .i64 (mnL X k), .int .i64 (mxL X k)], .int .i64 0]) (by simp [results, Tryz.results36, go_sem, World.cell?_alloc_past, *]) rfl ⟨rfl, (by (repeat (first | (with_reducible exact HR.out) | (with_reducible refine Below.setCell ?_ ?_ _) | (with_reducible refine below_alloc_top ?_ _) | (with_reducible refine Below.drew ?_))); all_goals (first | omega | (simp; done) | (simp; omega)))⟩
end Go.Proofs.YtkkaomgdlnejcaaGreatDoor
