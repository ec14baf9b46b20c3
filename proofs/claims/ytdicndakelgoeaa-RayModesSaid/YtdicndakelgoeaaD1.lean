/- RayModes: CheckMode and Unfolded are those of the reference; no condition. -/
import Derived.Test.YtdicndakelgoeaaC1
namespace Go.Proofs.Ytdicndakelgoeaa
open Go.RowKit RayM
set_option linter.unusedSimpArgs false
set_option linter.unusedVariables false
theorem inB_dpB (z t : Int) : inB z 1 (t - 1) = dpB z t := by
  unfold inB dpB
  rw [Bool.eq_iff_iff]; simp; omega
set_option maxRecDepth 100000 in
set_option maxHeartbeats 1000000 in
theorem modes_bad (m : Mo) (z : Int) (w : World) (h : moE m ≠ 0) :
    Calls Try.prog 8 #[.agg #[.int .i64 m.wd, .int .i64 m.mt, .int .i64 m.sk, .int .i64 m.th], .int .i64 z] w fun e w' => e = .returned (.bool true) ∧ Below w.heap.size w w' := by
  have hu : unE m z = moE m := by unfold unE; simp only [fst]; rw [if_neg h]
  have HUN := Lib.hid (fun w => unfolded_bad m z w (by rw [hu]; exact h))
  rw [hu] at HUN
  have n1 : (moE m != 0) = true := by simpa using h
  have n2 : (moE m == 0) = false := by simpa using h
  have n3 : (moE m != moE m) = false := by simp
  clear h hu
  go_enter Try.func8, Try.ntmps8
  go_wp2_with fail
  refine (awake_any _).mono ?_
  rintro e w1 ⟨rfl, hb1⟩
  have qw10 : w1.cell? ⟨w.heap.size, 0, none⟩ = some (.int .i64 m.wd) := cell_later hb1 (by simp [go_sem])
  have qw11 : w1.cell? ⟨w.heap.size, 1, none⟩ = some (.int .i64 m.mt) := cell_later hb1 (by simp [go_sem])
  have qw12 : w1.cell? ⟨w.heap.size, 2, none⟩ = some (.int .i64 m.sk) := cell_later hb1 (by simp [go_sem])
  have qw13 : w1.cell? ⟨w.heap.size, 3, none⟩ = some (.int .i64 m.th) := cell_later hb1 (by simp [go_sem])
  have H1 := Lib.hid (below_after (by repeat (first | exact Below.refl _ _ | refine Below.drew ?_ | refine below_drewN ?_ _ | refine Below.setCell ?_ (by first | omega | (simp; done) | (simp; omega)) _ | refine Below.alloc ?_ (by first | omega | (simp; done) | (simp; omega)) _)) hb1 (by simp) : Below w.heap.size w w1)
  clear hb1
  go_wp2_with fail
  refine (HUN.out _).mono ?_
  rintro e w2 ⟨rfl, hb2⟩
  have qw20 : w2.cell? ⟨w.heap.size, 0, none⟩ = some (.int .i64 m.wd) := cell_later hb2 (by simp [go_sem, *])
  have qw21 : w2.cell? ⟨w.heap.size, 1, none⟩ = some (.int .i64 m.mt) := cell_later hb2 (by simp [go_sem, *])
  have qw22 : w2.cell? ⟨w.heap.size, 2, none⟩ = some (.int .i64 m.sk) := cell_later hb2 (by simp [go_sem, *])
  have qw23 : w2.cell? ⟨w.heap.size, 3, none⟩ = some (.int .i64 m.th) := cell_later hb2 (by simp [go_sem, *])
  have H2 := Lib.hid (below_then H1.out hb2)
  clear hb2
  go_wp2_with fail
  refine (refMode_any m _).mono ?_
  rintro e w3 ⟨rfl, hb3⟩
  have qw30 : w3.cell? ⟨w.heap.size, 0, none⟩ = some (.int .i64 m.wd) := cell_later hb3 (by simp [go_sem, *])
  have qw31 : w3.cell? ⟨w.heap.size, 1, none⟩ = some (.int .i64 m.mt) := cell_later hb3 (by simp [go_sem, *])
  have qw32 : w3.cell? ⟨w.heap.size, 2, none⟩ = some (.int .i64 m.sk) := cell_later hb3 (by simp [go_sem, *])
  have qw33 : w3.cell? ⟨w.heap.size, 3, none⟩ = some (.int .i64 m.th) := cell_later hb3 (by simp [go_sem, *])
  have H3 := Lib.hid (below_then H2.out hb3)
  clear hb3
  go_wp2_with fail
  refine (checkMode_any m _).mono ?_
  rintro e w4 ⟨rfl, hb4⟩
  have qw40 : w4.cell? ⟨w.heap.size, 0, none⟩ = some (.int .i64 m.wd) := cell_later hb4 (by simp [go_sem, *])
  have qw41 : w4.cell? ⟨w.heap.size, 1, none⟩ = some (.int .i64 m.mt) := cell_later hb4 (by simp [go_sem, *])
  have qw42 : w4.cell? ⟨w.heap.size, 2, none⟩ = some (.int .i64 m.sk) := cell_later hb4 (by simp [go_sem, *])
  have qw43 : w4.cell? ⟨w.heap.size, 3, none⟩ = some (.int .i64 m.th) := cell_later hb4 (by simp [go_sem, *])
  have H4 := Lib.hid (below_then H3.out hb4)
  clear hb4
  go_wp2
  go_ret
  exact ⟨rfl, H4.out⟩
set_option maxRecDepth 100000 in
set_option maxHeartbeats 1000000 in
theorem modes_out (m : Mo) (z : Int) (w : World) (o : m.ok) (h : dpB z m.th = false) :
    Calls Try.prog 8 #[.agg #[.int .i64 m.wd, .int .i64 m.mt, .int .i64 m.sk, .int .i64 m.th], .int .i64 z] w fun e w' => e = .returned (.bool true) ∧ Below w.heap.size w w' := by
  have hm := (moE_ok m).2 o
  have hu : unE m z = 22 := by unfold unE; rw [hm, h]; rfl
  have HUN := Lib.hid (fun w => unfolded_bad m z w (by rw [hu]; decide))
  rw [hu] at HUN
  have HR := Lib.hid (fun w => refMode_any m w)
  have HC := Lib.hid (fun w => checkMode_any m w)
  rw [hm] at HR HC
  have HW := Lib.hid (fun w => within_any z 1 (m.th - 1) w)
  rw [inB_dpB, h] at HW
  have t1 := o.d1
  have t2 := o.d2
  clear hu h hm
  go_enter Try.func8, Try.ntmps8
  go_wp2_with fail
  refine (awake_any _).mono ?_
  rintro e w1 ⟨rfl, hb1⟩
  have qw10 : w1.cell? ⟨w.heap.size, 0, none⟩ = some (.int .i64 m.wd) := cell_later hb1 (by simp [go_sem])
  have qw11 : w1.cell? ⟨w.heap.size, 1, none⟩ = some (.int .i64 m.mt) := cell_later hb1 (by simp [go_sem])
  have qw12 : w1.cell? ⟨w.heap.size, 2, none⟩ = some (.int .i64 m.sk) := cell_later hb1 (by simp [go_sem])
  have qw13 : w1.cell? ⟨w.heap.size, 3, none⟩ = some (.int .i64 m.th) := cell_later hb1 (by simp [go_sem])
  have H1 := Lib.hid (below_after (by repeat (first | exact Below.refl _ _ | refine Below.drew ?_ | refine below_drewN ?_ _ | refine Below.setCell ?_ (by first | omega | (simp; done) | (simp; omega)) _ | refine Below.alloc ?_ (by first | omega | (simp; done) | (simp; omega)) _)) hb1 (by simp) : Below w.heap.size w w1)
  clear hb1
  go_wp2_with fail
  refine (HUN.out _).mono ?_
  rintro e w2 ⟨rfl, hb2⟩
  have qw20 : w2.cell? ⟨w.heap.size, 0, none⟩ = some (.int .i64 m.wd) := cell_later hb2 (by simp [go_sem, *])
  have qw21 : w2.cell? ⟨w.heap.size, 1, none⟩ = some (.int .i64 m.mt) := cell_later hb2 (by simp [go_sem, *])
  have qw22 : w2.cell? ⟨w.heap.size, 2, none⟩ = some (.int .i64 m.sk) := cell_later hb2 (by simp [go_sem, *])
  have qw23 : w2.cell? ⟨w.heap.size, 3, none⟩ = some (.int .i64 m.th) := cell_later hb2 (by simp [go_sem, *])
  have H2 := Lib.hid (below_then H1.out hb2)
  clear hb2
  go_wp2_with fail
  refine (HR.out _).mono ?_
  rintro e w3 ⟨rfl, hb3⟩
  have qw30 : w3.cell? ⟨w.heap.size, 0, none⟩ = some (.int .i64 m.wd) := cell_later hb3 (by simp [go_sem, *])
  have qw31 : w3.cell? ⟨w.heap.size, 1, none⟩ = some (.int .i64 m.mt) := cell_later hb3 (by simp [go_sem, *])
  have qw32 : w3.cell? ⟨w.heap.size, 2, none⟩ = some (.int .i64 m.sk) := cell_later hb3 (by simp [go_sem, *])
  have qw33 : w3.cell? ⟨w.heap.size, 3, none⟩ = some (.int .i64 m.th) := cell_later hb3 (by simp [go_sem, *])
  have H3 := Lib.hid (below_then H2.out hb3)
  clear hb3
  go_wp2_with fail
  refine (HC.out _).mono ?_
  rintro e w4 ⟨rfl, hb4⟩
  have qw40 : w4.cell? ⟨w.heap.size, 0, none⟩ = some (.int .i64 m.wd) := cell_later hb4 (by simp [go_sem, *])
  have qw41 : w4.cell? ⟨w.heap.size, 1, none⟩ = some (.int .i64 m.mt) := cell_later hb4 (by simp [go_sem, *])
  have qw42 : w4.cell? ⟨w.heap.size, 2, none⟩ = some (.int .i64 m.sk) := cell_later hb4 (by simp [go_sem, *])
  have qw43 : w4.cell? ⟨w.heap.size, 3, none⟩ = some (.int .i64 m.th) := cell_later hb4 (by simp [go_sem, *])
  have H4 := Lib.hid (below_then H3.out hb4)
  clear hb4
  go_wp2_with fail
  refine (HW.out _).mono ?_
  rintro e w5 ⟨rfl, rfl⟩
  go_wp2
  go_ret
  exact ⟨rfl, H4.out⟩
set_option maxRecDepth 100000 in
set_option maxHeartbeats 1000000 in
theorem modes_in (m : Mo) (z : Int) (w : World) (o : m.ok) (h0 : 0 < z) (h1 : z < m.th) :
    Calls Try.prog 8 #[.agg #[.int .i64 m.wd, .int .i64 m.mt, .int .i64 m.sk, .int .i64 m.th], .int .i64 z] w fun e w' => e = .returned (.bool true) ∧ Below w.heap.size w w' := by
  have hm := (moE_ok m).2 o
  have HUN := Lib.hid (fun w => unfolded_ok m o z w h0 h1)
  have HR := Lib.hid (fun w => refMode_any m w)
  have HC := Lib.hid (fun w => checkMode_any m w)
  rw [hm] at HR HC
  have HW := Lib.hid (fun w => within_any z 1 (m.th - 1) w)
  have hd : dpB z m.th = true := by simp [dpB, h0, h1]
  rw [inB_dpB, hd] at HW
  have HRU := Lib.hid (fun w => refUnfolded_any m o z w h0 h1)
  obtain ⟨u1, u2, u3, u4⟩ := unf_bounds m o z h0 h1
  have n0 : (m.unf z != m.unf z) = false := by simp
  have t1 := o.d1
  have t2 := o.d2
  have s1 := o.c1
  have s2 := o.c2
  clear hm hd
  by_cases hp : m.sk % 2 = 0
  · by_cases hs : m.sk = 4
    · have q1 : (m.sk % 2 != 0) = false := by simp [hp]
      have q2 : (m.sk == 4) = true := by simp [hs]
      clear hp hs
      go_enter Try.func8, Try.ntmps8
      go_wp2_with fail
      refine (awake_any _).mono ?_
      rintro e w1 ⟨rfl, hb1⟩
      have qw10 : w1.cell? ⟨w.heap.size, 0, none⟩ = some (.int .i64 m.wd) := cell_later hb1 (by simp [go_sem])
      have qw11 : w1.cell? ⟨w.heap.size, 1, none⟩ = some (.int .i64 m.mt) := cell_later hb1 (by simp [go_sem])
      have qw12 : w1.cell? ⟨w.heap.size, 2, none⟩ = some (.int .i64 m.sk) := cell_later hb1 (by simp [go_sem])
      have qw13 : w1.cell? ⟨w.heap.size, 3, none⟩ = some (.int .i64 m.th) := cell_later hb1 (by simp [go_sem])
      have qw1f0 : w1.frozen? ⟨w.heap.size, 2, none⟩ = false := frozen_after hb1 (v := .int .i64 m.sk) (by simp [go_sem]) (by simp [go_sem])
      have H1 := Lib.hid (below_after (by repeat (first | exact Below.refl _ _ | refine Below.drew ?_ | refine below_drewN ?_ _ | refine Below.setCell ?_ (by first | omega | (simp; done) | (simp; omega)) _ | refine Below.alloc ?_ (by first | omega | (simp; done) | (simp; omega)) _)) hb1 (by simp) : Below w.heap.size w w1)
      clear hb1
      go_wp2_with fail
      refine (HUN.out _).mono ?_
      rintro e w2 ⟨rfl, hb2⟩
      have qw20 : w2.cell? ⟨w.heap.size, 0, none⟩ = some (.int .i64 m.wd) := cell_later hb2 (by simp [go_sem, *])
      have qw21 : w2.cell? ⟨w.heap.size, 1, none⟩ = some (.int .i64 m.mt) := cell_later hb2 (by simp [go_sem, *])
      have qw22 : w2.cell? ⟨w.heap.size, 2, none⟩ = some (.int .i64 m.sk) := cell_later hb2 (by simp [go_sem, *])
      have qw23 : w2.cell? ⟨w.heap.size, 3, none⟩ = some (.int .i64 m.th) := cell_later hb2 (by simp [go_sem, *])
      have qw2f0 : w2.frozen? ⟨w.heap.size, 2, none⟩ = false := frozen_after hb2 (v := .int .i64 m.sk) (by simp [go_sem, *]) (by simp [go_sem, *])
      have H2 := Lib.hid (below_then H1.out hb2)
      clear hb2
      go_wp2_with fail
      refine (HR.out _).mono ?_
      rintro e w3 ⟨rfl, hb3⟩
      have qw30 : w3.cell? ⟨w.heap.size, 0, none⟩ = some (.int .i64 m.wd) := cell_later hb3 (by simp [go_sem, *])
      have qw31 : w3.cell? ⟨w.heap.size, 1, none⟩ = some (.int .i64 m.mt) := cell_later hb3 (by simp [go_sem, *])
      have qw32 : w3.cell? ⟨w.heap.size, 2, none⟩ = some (.int .i64 m.sk) := cell_later hb3 (by simp [go_sem, *])
      have qw33 : w3.cell? ⟨w.heap.size, 3, none⟩ = some (.int .i64 m.th) := cell_later hb3 (by simp [go_sem, *])
      have qw3f0 : w3.frozen? ⟨w.heap.size, 2, none⟩ = false := frozen_after hb3 (v := .int .i64 m.sk) (by simp [go_sem, *]) (by simp [go_sem, *])
      have H3 := Lib.hid (below_then H2.out hb3)
      clear hb3
      go_wp2_with fail
      refine (HC.out _).mono ?_
      rintro e w4 ⟨rfl, hb4⟩
      have qw40 : w4.cell? ⟨w.heap.size, 0, none⟩ = some (.int .i64 m.wd) := cell_later hb4 (by simp [go_sem, *])
      have qw41 : w4.cell? ⟨w.heap.size, 1, none⟩ = some (.int .i64 m.mt) := cell_later hb4 (by simp [go_sem, *])
      have qw42 : w4.cell? ⟨w.heap.size, 2, none⟩ = some (.int .i64 m.sk) := cell_later hb4 (by simp [go_sem, *])
      have qw43 : w4.cell? ⟨w.heap.size, 3, none⟩ = some (.int .i64 m.th) := cell_later hb4 (by simp [go_sem, *])
      have qw4f0 : w4.frozen? ⟨w.heap.size, 2, none⟩ = false := frozen_after hb4 (v := .int .i64 m.sk) (by simp [go_sem, *]) (by simp [go_sem, *])
      have H4 := Lib.hid (below_then H3.out hb4)
      clear hb4
      go_wp2_with fail
      refine (HW.out _).mono ?_
      rintro e w5 ⟨rfl, rfl⟩
      go_wp2_with fail
      refine (HRU.out _).mono ?_
      rintro e w6 ⟨rfl, hb6⟩
      have qw60 : w6.cell? ⟨w.heap.size, 0, none⟩ = some (.int .i64 m.wd) := cell_later hb6 (by simp [go_sem, *])
      have qw61 : w6.cell? ⟨w.heap.size, 1, none⟩ = some (.int .i64 m.mt) := cell_later hb6 (by simp [go_sem, *])
      have qw62 : w6.cell? ⟨w.heap.size, 2, none⟩ = some (.int .i64 m.sk) := cell_later hb6 (by simp [go_sem, *])
      have qw63 : w6.cell? ⟨w.heap.size, 3, none⟩ = some (.int .i64 m.th) := cell_later hb6 (by simp [go_sem, *])
      have qw6f0 : w6.frozen? ⟨w.heap.size, 2, none⟩ = false := frozen_after hb6 (v := .int .i64 m.sk) (by simp [go_sem, *]) (by simp [go_sem, *])
      have H6 := Lib.hid (below_then H4.out hb6)
      clear hb6
      go_wp2
      go_ret
      exact ⟨rfl, H6.out⟩
    · have q1 : (m.sk % 2 != 0) = false := by simp [hp]
      have q2 : (m.sk == 4) = false := by simp [hs]
      have o2 : Mo.ok ⟨m.wd, m.mt, m.sk + 1, m.th⟩ := ⟨o.a1, o.a2, o.b1, o.b2, by show 0 ≤ m.sk + 1; omega, by show m.sk + 1 ≤ 4; omega, t1, t2⟩
      have HU2 := Lib.hid (fun w => unfolded_ok ⟨m.wd, m.mt, m.sk + 1, m.th⟩ o2 z w h0 h1)
      obtain ⟨v1, v2, v3, v4⟩ := unf_bounds ⟨m.wd, m.mt, m.sk + 1, m.th⟩ o2 z h0 h1
      have hsum : m.unf z + Mo.unf ⟨m.wd, m.mt, m.sk + 1, m.th⟩ z = 2 * m.th * (m.sk + 1) := by
        have e1 : m.unf z = m.sk * m.th + z := by unfold Mo.unf; rw [if_pos hp]
        have e2 : Mo.unf ⟨m.wd, m.mt, m.sk + 1, m.th⟩ z = (m.sk + 1) * m.th + (m.th - z) := by unfold Mo.unf; rw [if_neg (by show ¬ (m.sk + 1) % 2 = 0; omega)]
        rw [e1, e2, Int.mul_add, Int.add_mul, Int.mul_assoc, Int.mul_comm m.th m.sk]; omega
      have m1 : 0 ≤ 2 * m.th * (m.sk + 1) := by omega
      have m2 : 2 * m.th * (m.sk + 1) ≤ 200000 := by omega
      generalize Mo.unf ⟨m.wd, m.mt, m.sk + 1, m.th⟩ z = k at *
      have q3 : (m.unf z + k == 2 * m.th * (m.sk + 1)) = true := by simp [hsum]
      clear hp hs hsum
      go_enter Try.func8, Try.ntmps8
      go_wp2_with fail
      refine (awake_any _).mono ?_
      rintro e w1 ⟨rfl, hb1⟩
      have qw10 : w1.cell? ⟨w.heap.size, 0, none⟩ = some (.int .i64 m.wd) := cell_later hb1 (by simp [go_sem])
      have qw11 : w1.cell? ⟨w.heap.size, 1, none⟩ = some (.int .i64 m.mt) := cell_later hb1 (by simp [go_sem])
      have qw12 : w1.cell? ⟨w.heap.size, 2, none⟩ = some (.int .i64 m.sk) := cell_later hb1 (by simp [go_sem])
      have qw13 : w1.cell? ⟨w.heap.size, 3, none⟩ = some (.int .i64 m.th) := cell_later hb1 (by simp [go_sem])
      have qw1f0 : w1.frozen? ⟨w.heap.size, 2, none⟩ = false := frozen_after hb1 (v := .int .i64 m.sk) (by simp [go_sem]) (by simp [go_sem])
      have H1 := Lib.hid (below_after (by repeat (first | exact Below.refl _ _ | refine Below.drew ?_ | refine below_drewN ?_ _ | refine Below.setCell ?_ (by first | omega | (simp; done) | (simp; omega)) _ | refine Below.alloc ?_ (by first | omega | (simp; done) | (simp; omega)) _)) hb1 (by simp) : Below w.heap.size w w1)
      clear hb1
      go_wp2_with fail
      refine (HUN.out _).mono ?_
      rintro e w2 ⟨rfl, hb2⟩
      have qw20 : w2.cell? ⟨w.heap.size, 0, none⟩ = some (.int .i64 m.wd) := cell_later hb2 (by simp [go_sem, *])
      have qw21 : w2.cell? ⟨w.heap.size, 1, none⟩ = some (.int .i64 m.mt) := cell_later hb2 (by simp [go_sem, *])
      have qw22 : w2.cell? ⟨w.heap.size, 2, none⟩ = some (.int .i64 m.sk) := cell_later hb2 (by simp [go_sem, *])
      have qw23 : w2.cell? ⟨w.heap.size, 3, none⟩ = some (.int .i64 m.th) := cell_later hb2 (by simp [go_sem, *])
      have qw2f0 : w2.frozen? ⟨w.heap.size, 2, none⟩ = false := frozen_after hb2 (v := .int .i64 m.sk) (by simp [go_sem, *]) (by simp [go_sem, *])
      have H2 := Lib.hid (below_then H1.out hb2)
      clear hb2
      go_wp2_with fail
      refine (HR.out _).mono ?_
      rintro e w3 ⟨rfl, hb3⟩
      have qw30 : w3.cell? ⟨w.heap.size, 0, none⟩ = some (.int .i64 m.wd) := cell_later hb3 (by simp [go_sem, *])
      have qw31 : w3.cell? ⟨w.heap.size, 1, none⟩ = some (.int .i64 m.mt) := cell_later hb3 (by simp [go_sem, *])
      have qw32 : w3.cell? ⟨w.heap.size, 2, none⟩ = some (.int .i64 m.sk) := cell_later hb3 (by simp [go_sem, *])
      have qw33 : w3.cell? ⟨w.heap.size, 3, none⟩ = some (.int .i64 m.th) := cell_later hb3 (by simp [go_sem, *])
      have qw3f0 : w3.frozen? ⟨w.heap.size, 2, none⟩ = false := frozen_after hb3 (v := .int .i64 m.sk) (by simp [go_sem, *]) (by simp [go_sem, *])
      have H3 := Lib.hid (below_then H2.out hb3)
      clear hb3
      go_wp2_with fail
      refine (HC.out _).mono ?_
      rintro e w4 ⟨rfl, hb4⟩
      have qw40 : w4.cell? ⟨w.heap.size, 0, none⟩ = some (.int .i64 m.wd) := cell_later hb4 (by simp [go_sem, *])
      have qw41 : w4.cell? ⟨w.heap.size, 1, none⟩ = some (.int .i64 m.mt) := cell_later hb4 (by simp [go_sem, *])
      have qw42 : w4.cell? ⟨w.heap.size, 2, none⟩ = some (.int .i64 m.sk) := cell_later hb4 (by simp [go_sem, *])
      have qw43 : w4.cell? ⟨w.heap.size, 3, none⟩ = some (.int .i64 m.th) := cell_later hb4 (by simp [go_sem, *])
      have qw4f0 : w4.frozen? ⟨w.heap.size, 2, none⟩ = false := frozen_after hb4 (v := .int .i64 m.sk) (by simp [go_sem, *]) (by simp [go_sem, *])
      have H4 := Lib.hid (below_then H3.out hb4)
      clear hb4
      go_wp2_with fail
      refine (HW.out _).mono ?_
      rintro e w5 ⟨rfl, rfl⟩
      go_wp2_with fail
      refine (HRU.out _).mono ?_
      rintro e w6 ⟨rfl, hb6⟩
      have qw60 : w6.cell? ⟨w.heap.size, 0, none⟩ = some (.int .i64 m.wd) := cell_later hb6 (by simp [go_sem, *])
      have qw61 : w6.cell? ⟨w.heap.size, 1, none⟩ = some (.int .i64 m.mt) := cell_later hb6 (by simp [go_sem, *])
      have qw62 : w6.cell? ⟨w.heap.size, 2, none⟩ = some (.int .i64 m.sk) := cell_later hb6 (by simp [go_sem, *])
      have qw63 : w6.cell? ⟨w.heap.size, 3, none⟩ = some (.int .i64 m.th) := cell_later hb6 (by simp [go_sem, *])
      have qw6f0 : w6.frozen? ⟨w.heap.size, 2, none⟩ = false := frozen_after hb6 (v := .int .i64 m.sk) (by simp [go_sem, *]) (by simp [go_sem, *])
      have H6 := Lib.hid (below_then H4.out hb6)
      clear hb6
      go_wp2_with fail
      refine (HU2.out _).mono ?_
      rintro e w7 ⟨rfl, hb7⟩
      have p0 : w7.cell? ⟨w.heap.size, 2, none⟩ = some (.int .i64 (m.sk + 1)) := cell_later hb7 (by simp [go_sem, *])
      have p1 : w7.cell? ⟨w.heap.size, 3, none⟩ = some (.int .i64 m.th) := cell_later hb7 (by simp [go_sem, *])
      have H7 := Lib.hid (below_then (H6.out.setCell (by simp) _) hb7)
      clear hb7
      go_wp2
      go_ret
      exact ⟨rfl, H7.out⟩
  · have q1 : (m.sk % 2 != 0) = true := by simp [hp]
    clear hp
    go_enter Try.func8, Try.ntmps8
    go_wp2_with fail
    refine (awake_any _).mono ?_
    rintro e w1 ⟨rfl, hb1⟩
    have qw10 : w1.cell? ⟨w.heap.size, 0, none⟩ = some (.int .i64 m.wd) := cell_later hb1 (by simp [go_sem])
    have qw11 : w1.cell? ⟨w.heap.size, 1, none⟩ = some (.int .i64 m.mt) := cell_later hb1 (by simp [go_sem])
    have qw12 : w1.cell? ⟨w.heap.size, 2, none⟩ = some (.int .i64 m.sk) := cell_later hb1 (by simp [go_sem])
    have qw13 : w1.cell? ⟨w.heap.size, 3, none⟩ = some (.int .i64 m.th) := cell_later hb1 (by simp [go_sem])
    have qw1f0 : w1.frozen? ⟨w.heap.size, 2, none⟩ = false := frozen_after hb1 (v := .int .i64 m.sk) (by simp [go_sem]) (by simp [go_sem])
    have H1 := Lib.hid (below_after (by repeat (first | exact Below.refl _ _ | refine Below.drew ?_ | refine below_drewN ?_ _ | refine Below.setCell ?_ (by first | omega | (simp; done) | (simp; omega)) _ | refine Below.alloc ?_ (by first | omega | (simp; done) | (simp; omega)) _)) hb1 (by simp) : Below w.heap.size w w1)
    clear hb1
    go_wp2_with fail
    refine (HUN.out _).mono ?_
    rintro e w2 ⟨rfl, hb2⟩
    have qw20 : w2.cell? ⟨w.heap.size, 0, none⟩ = some (.int .i64 m.wd) := cell_later hb2 (by simp [go_sem, *])
    have qw21 : w2.cell? ⟨w.heap.size, 1, none⟩ = some (.int .i64 m.mt) := cell_later hb2 (by simp [go_sem, *])
    have qw22 : w2.cell? ⟨w.heap.size, 2, none⟩ = some (.int .i64 m.sk) := cell_later hb2 (by simp [go_sem, *])
    have qw23 : w2.cell? ⟨w.heap.size, 3, none⟩ = some (.int .i64 m.th) := cell_later hb2 (by simp [go_sem, *])
    have qw2f0 : w2.frozen? ⟨w.heap.size, 2, none⟩ = false := frozen_after hb2 (v := .int .i64 m.sk) (by simp [go_sem, *]) (by simp [go_sem, *])
    have H2 := Lib.hid (below_then H1.out hb2)
    clear hb2
    go_wp2_with fail
    refine (HR.out _).mono ?_
    rintro e w3 ⟨rfl, hb3⟩
    have qw30 : w3.cell? ⟨w.heap.size, 0, none⟩ = some (.int .i64 m.wd) := cell_later hb3 (by simp [go_sem, *])
    have qw31 : w3.cell? ⟨w.heap.size, 1, none⟩ = some (.int .i64 m.mt) := cell_later hb3 (by simp [go_sem, *])
    have qw32 : w3.cell? ⟨w.heap.size, 2, none⟩ = some (.int .i64 m.sk) := cell_later hb3 (by simp [go_sem, *])
    have qw33 : w3.cell? ⟨w.heap.size, 3, none⟩ = some (.int .i64 m.th) := cell_later hb3 (by simp [go_sem, *])
    have qw3f0 : w3.frozen? ⟨w.heap.size, 2, none⟩ = false := frozen_after hb3 (v := .int .i64 m.sk) (by simp [go_sem, *]) (by simp [go_sem, *])
    have H3 := Lib.hid (below_then H2.out hb3)
    clear hb3
    go_wp2_with fail
    refine (HC.out _).mono ?_
    rintro e w4 ⟨rfl, hb4⟩
    have qw40 : w4.cell? ⟨w.heap.size, 0, none⟩ = some (.int .i64 m.wd) := cell_later hb4 (by simp [go_sem, *])
    have qw41 : w4.cell? ⟨w.heap.size, 1, none⟩ = some (.int .i64 m.mt) := cell_later hb4 (by simp [go_sem, *])
    have qw42 : w4.cell? ⟨w.heap.size, 2, none⟩ = some (.int .i64 m.sk) := cell_later hb4 (by simp [go_sem, *])
    have qw43 : w4.cell? ⟨w.heap.size, 3, none⟩ = some (.int .i64 m.th) := cell_later hb4 (by simp [go_sem, *])
    have qw4f0 : w4.frozen? ⟨w.heap.size, 2, none⟩ = false := frozen_after hb4 (v := .int .i64 m.sk) (by simp [go_sem, *]) (by simp [go_sem, *])
    have H4 := Lib.hid (below_then H3.out hb4)
    clear hb4
    go_wp2_with fail
    refine (HW.out _).mono ?_
    rintro e w5 ⟨rfl, rfl⟩
    go_wp2_with fail
    refine (HRU.out _).mono ?_
    rintro e w6 ⟨rfl, hb6⟩
    have qw60 : w6.cell? ⟨w.heap.size, 0, none⟩ = some (.int .i64 m.wd) := cell_later hb6 (by simp [go_sem, *])
    have qw61 : w6.cell? ⟨w.heap.size, 1, none⟩ = some (.int .i64 m.mt) := cell_later hb6 (by simp [go_sem, *])
    have qw62 : w6.cell? ⟨w.heap.size, 2, none⟩ = some (.int .i64 m.sk) := cell_later hb6 (by simp [go_sem, *])
    have qw63 : w6.cell? ⟨w.heap.size, 3, none⟩ = some (.int .i64 m.th) := cell_later hb6 (by simp [go_sem, *])
    have qw6f0 : w6.frozen? ⟨w.heap.size, 2, none⟩ = false := frozen_after hb6 (v := .int .i64 m.sk) (by simp [go_sem, *]) (by simp [go_sem, *])
    have H6 := Lib.hid (below_then H4.out hb6)
    clear hb6
    go_wp2
    go_ret
    exact ⟨rfl, H6.out⟩
theorem modes_any (m : Mo) (z : Int) (w : World) :
    Calls Try.prog 8 #[.agg #[.int .i64 m.wd, .int .i64 m.mt, .int .i64 m.sk, .int .i64 m.th], .int .i64 z] w fun e w' => e = .returned (.bool true) ∧ Below w.heap.size w w' := by
  by_cases h : moE m = 0
  · have o := (moE_ok m).1 h
    by_cases hd : dpB z m.th = true
    · have k : 0 < z ∧ z < m.th := by simpa [dpB] using hd
      exact modes_in m z w o k.1 k.2
    · exact modes_out m z w o (by simpa using hd)
  · exact modes_bad m z w h
end Go.Proofs.Ytdicndakelgoeaa
