/- the reference: errors of crossings, and the crossing of least time -/
import Derived.Test.YtdicndakelgoeaaC5
namespace Go.Proofs.Ytdicndakelgoeaa
open Go.RowKit RayM
set_option linter.unusedSimpArgs false
set_option linter.unusedVariables false
set_option maxRecDepth 100000 in
set_option maxHeartbeats 1000000 in
theorem refCheckCross_any (c : Cr) (w : World) :
    Calls Try.prog 32 #[.agg #[.int .i64 c.x1, .int .i64 c.h1, .int .i64 c.v1, .int .i64 c.x2, .int .i64 c.h2, .int .i64 c.v2]] w fun e w' => e = .returned (.int .i64 (ccE c)) ∧ Below w.heap.size w w' := by
  by_cases hg : (inB c.x1 (-100000) 100000 = true ∧ inB c.x2 (-100000) 100000 = true) ∧ (inB c.h1 1 100000 = true ∧ inB c.h2 1 100000 = true)
  · obtain ⟨⟨h1, h2⟩, ⟨h3, h4⟩⟩ := hg
    have hv : ccE c = fst [unl (inB c.v1 500 10000) 2, unl (inB c.v2 500 10000) 2] := by
      unfold ccE; rw [h1, h2, h3, h4]; rfl
    have HV := Lib.hid hv; clear hv
    go_enter Try.func32, Try.ntmps32
    go_wp2_with (go_at_call 43; refine (within_any _ _ _ _).mono ?_; rintro e w' ⟨rfl, rfl⟩)
    go_region_held3 (fun w' => w'.cell? ⟨w.heap.size, 2, none⟩ = some (.int .i64 c.v1) ∧ w'.cell? ⟨w.heap.size, 5, none⟩ = some (.int .i64 c.v2)) (simp [go_sem, World.cell?_alloc_past])
      (first
        | (go_at_call 27; refine (speedErr_any _ _).mono ?_; rintro e w' ⟨rfl, rfl⟩)
        | (go_at_call 105; refine (firstOf_any _ [unl (inB c.v1 500 10000) 2, unl (inB c.v2 500 10000) 2] _ (by simp) (by first | exact cells_drew _ _ (by simp) _ _ | exact cells_new _ _ (by simp) _ _)).mono ?_; rintro e w' ⟨rfl, rfl⟩))
    go_wp2
    go_ret
    exact ⟨by rw [HV.out]; rfl, (by repeat (first | exact Below.refl _ _ | refine Below.drew ?_ | refine below_drewN ?_ _ | refine Below.setCell ?_ (by first | omega | (simp; done) | (simp; omega)) _ | refine Below.alloc ?_ (by first | omega | (simp; done) | (simp; omega)) _))⟩
  · have hv : ccE c = 2 := by
      refine ccE_bad c fun o => hg ?_
      exact ⟨⟨(inB_iff _ _ _).2 ⟨o.a1, o.a2⟩, (inB_iff _ _ _).2 ⟨o.b1, o.b2⟩⟩, (inB_iff _ _ _).2 ⟨o.c1, o.c2⟩, (inB_iff _ _ _).2 ⟨o.d1, o.d2⟩⟩
    have HV := Lib.hid hv; clear hv
    cases h1 : inB c.x1 (-100000) 100000 <;> cases h2 : inB c.x2 (-100000) 100000 <;> cases h3 : inB c.h1 1 100000 <;> cases h4 : inB c.h2 1 100000 <;> first
      | (exfalso; exact hg ⟨⟨h1, h2⟩, h3, h4⟩)
      | (clear hg
         go_enter Try.func32, Try.ntmps32
         go_wp2_with (go_at_call 43; refine (within_any _ _ _ _).mono ?_; rintro e w' ⟨rfl, rfl⟩)
         go_ret
         exact ⟨by rw [HV.out]; rfl, (by repeat (first | exact Below.refl _ _ | refine Below.drew ?_ | refine below_drewN ?_ _ | refine Below.setCell ?_ (by first | omega | (simp; done) | (simp; omega)) _ | refine Below.alloc ?_ (by first | omega | (simp; done) | (simp; omega)) _))⟩)
set_option maxRecDepth 100000 in
set_option maxHeartbeats 1000000 in
theorem rck_a (c : Cr) (t : Int) (p : In c t) (w : World) (hs : 0 < c.slope t) :
    Calls Try.prog 37 #[.agg #[.int .i64 c.x1, .int .i64 c.h1, .int .i64 c.v1, .int .i64 c.x2, .int .i64 c.h2, .int .i64 c.v2], .int .i64 t] w fun e w' => e = .returned (.int .i64 18) ∧ Below w.heap.size w w' := by
  have HI := Lib.hid (fun w => refIs_any c t w)
  rw [(inB_iff _ _ _).2 ⟨p.l, p.h⟩] at HI
  have HS := Lib.hid (fun w => refSlope_any c t p w)
  have HJ := Lib.hid (fun w => refIs_any c (t + 1) w)
  obtain ⟨bb0, bb1⟩ := p.bounds
  generalize c.slope t = sv at *
  go_enter Try.func37, Try.ntmps37
  go_wp2_with fail
  refine (HI.out _).mono ?_
  rintro e w1 ⟨rfl, hb1⟩
  have qw10 : w1.cell? ⟨w.heap.size, 0, none⟩ = some (.int .i64 c.x1) := cell_later hb1 (by simp [go_sem])
  have qw11 : w1.cell? ⟨w.heap.size, 1, none⟩ = some (.int .i64 c.h1) := cell_later hb1 (by simp [go_sem])
  have qw12 : w1.cell? ⟨w.heap.size, 2, none⟩ = some (.int .i64 c.v1) := cell_later hb1 (by simp [go_sem])
  have qw13 : w1.cell? ⟨w.heap.size, 3, none⟩ = some (.int .i64 c.x2) := cell_later hb1 (by simp [go_sem])
  have qw14 : w1.cell? ⟨w.heap.size, 4, none⟩ = some (.int .i64 c.h2) := cell_later hb1 (by simp [go_sem])
  have qw15 : w1.cell? ⟨w.heap.size, 5, none⟩ = some (.int .i64 c.v2) := cell_later hb1 (by simp [go_sem])
  have H1 := Lib.hid (below_after (by repeat (first | exact Below.refl _ _ | refine Below.drew ?_ | refine below_drewN ?_ _ | refine Below.setCell ?_ (by first | omega | (simp; done) | (simp; omega)) _ | refine Below.alloc ?_ (by first | omega | (simp; done) | (simp; omega)) _)) hb1 (by first | omega | (simp; done) | (simp; omega)) : Below w.heap.size w w1); clear hb1
  go_wp2_with fail
  refine (HS.out _).mono ?_
  rintro e w2 ⟨rfl, hb2⟩
  have qw20 : w2.cell? ⟨w.heap.size, 0, none⟩ = some (.int .i64 c.x1) := cell_later hb2 (by simp [go_sem, *])
  have qw21 : w2.cell? ⟨w.heap.size, 1, none⟩ = some (.int .i64 c.h1) := cell_later hb2 (by simp [go_sem, *])
  have qw22 : w2.cell? ⟨w.heap.size, 2, none⟩ = some (.int .i64 c.v1) := cell_later hb2 (by simp [go_sem, *])
  have qw23 : w2.cell? ⟨w.heap.size, 3, none⟩ = some (.int .i64 c.x2) := cell_later hb2 (by simp [go_sem, *])
  have qw24 : w2.cell? ⟨w.heap.size, 4, none⟩ = some (.int .i64 c.h2) := cell_later hb2 (by simp [go_sem, *])
  have qw25 : w2.cell? ⟨w.heap.size, 5, none⟩ = some (.int .i64 c.v2) := cell_later hb2 (by simp [go_sem, *])
  have H2 := Lib.hid (below_then H1.out hb2); clear hb2
  go_wp2
  go_ret
  exact ⟨rfl, H2.out⟩
set_option maxRecDepth 100000 in
set_option maxHeartbeats 1000000 in
theorem rck_b (c : Cr) (t : Int) (p : In c t) (w : World) (hs : c.slope t ≤ 0) (hn : t = c.hi) :
    Calls Try.prog 37 #[.agg #[.int .i64 c.x1, .int .i64 c.h1, .int .i64 c.v1, .int .i64 c.x2, .int .i64 c.h2, .int .i64 c.v2], .int .i64 t] w fun e w' => e = .returned (.int .i64 0) ∧ Below w.heap.size w w' := by
  have HI := Lib.hid (fun w => refIs_any c t w)
  rw [(inB_iff _ _ _).2 ⟨p.l, p.h⟩] at HI
  have HS := Lib.hid (fun w => refSlope_any c t p w)
  have HJ := Lib.hid (fun w => refIs_any c (t + 1) w)
  obtain ⟨bb0, bb1⟩ := p.bounds
  rw [show inB (t + 1) c.lo c.hi = false by unfold inB; rw [decide_eq_false (show ¬ t + 1 ≤ c.hi by omega)]; simp] at HJ
  clear hn
  generalize c.slope t = sv at *
  go_enter Try.func37, Try.ntmps37
  go_wp2_with fail
  refine (HI.out _).mono ?_
  rintro e w1 ⟨rfl, hb1⟩
  have qw10 : w1.cell? ⟨w.heap.size, 0, none⟩ = some (.int .i64 c.x1) := cell_later hb1 (by simp [go_sem])
  have qw11 : w1.cell? ⟨w.heap.size, 1, none⟩ = some (.int .i64 c.h1) := cell_later hb1 (by simp [go_sem])
  have qw12 : w1.cell? ⟨w.heap.size, 2, none⟩ = some (.int .i64 c.v1) := cell_later hb1 (by simp [go_sem])
  have qw13 : w1.cell? ⟨w.heap.size, 3, none⟩ = some (.int .i64 c.x2) := cell_later hb1 (by simp [go_sem])
  have qw14 : w1.cell? ⟨w.heap.size, 4, none⟩ = some (.int .i64 c.h2) := cell_later hb1 (by simp [go_sem])
  have qw15 : w1.cell? ⟨w.heap.size, 5, none⟩ = some (.int .i64 c.v2) := cell_later hb1 (by simp [go_sem])
  have H1 := Lib.hid (below_after (by repeat (first | exact Below.refl _ _ | refine Below.drew ?_ | refine below_drewN ?_ _ | refine Below.setCell ?_ (by first | omega | (simp; done) | (simp; omega)) _ | refine Below.alloc ?_ (by first | omega | (simp; done) | (simp; omega)) _)) hb1 (by first | omega | (simp; done) | (simp; omega)) : Below w.heap.size w w1); clear hb1
  go_wp2_with fail
  refine (HS.out _).mono ?_
  rintro e w2 ⟨rfl, hb2⟩
  have qw20 : w2.cell? ⟨w.heap.size, 0, none⟩ = some (.int .i64 c.x1) := cell_later hb2 (by simp [go_sem, *])
  have qw21 : w2.cell? ⟨w.heap.size, 1, none⟩ = some (.int .i64 c.h1) := cell_later hb2 (by simp [go_sem, *])
  have qw22 : w2.cell? ⟨w.heap.size, 2, none⟩ = some (.int .i64 c.v1) := cell_later hb2 (by simp [go_sem, *])
  have qw23 : w2.cell? ⟨w.heap.size, 3, none⟩ = some (.int .i64 c.x2) := cell_later hb2 (by simp [go_sem, *])
  have qw24 : w2.cell? ⟨w.heap.size, 4, none⟩ = some (.int .i64 c.h2) := cell_later hb2 (by simp [go_sem, *])
  have qw25 : w2.cell? ⟨w.heap.size, 5, none⟩ = some (.int .i64 c.v2) := cell_later hb2 (by simp [go_sem, *])
  have H2 := Lib.hid (below_then H1.out hb2); clear hb2
  go_wp2_with fail
  refine (HJ.out _).mono ?_
  rintro e w3 ⟨rfl, hb3⟩
  have qw30 : w3.cell? ⟨w.heap.size, 0, none⟩ = some (.int .i64 c.x1) := cell_later hb3 (by simp [go_sem, *])
  have qw31 : w3.cell? ⟨w.heap.size, 1, none⟩ = some (.int .i64 c.h1) := cell_later hb3 (by simp [go_sem, *])
  have qw32 : w3.cell? ⟨w.heap.size, 2, none⟩ = some (.int .i64 c.v1) := cell_later hb3 (by simp [go_sem, *])
  have qw33 : w3.cell? ⟨w.heap.size, 3, none⟩ = some (.int .i64 c.x2) := cell_later hb3 (by simp [go_sem, *])
  have qw34 : w3.cell? ⟨w.heap.size, 4, none⟩ = some (.int .i64 c.h2) := cell_later hb3 (by simp [go_sem, *])
  have qw35 : w3.cell? ⟨w.heap.size, 5, none⟩ = some (.int .i64 c.v2) := cell_later hb3 (by simp [go_sem, *])
  have H3 := Lib.hid (below_then H2.out hb3); clear hb3
  go_wp2
  go_ret
  exact ⟨rfl, H3.out⟩
set_option maxRecDepth 100000 in
set_option maxHeartbeats 1000000 in
theorem rck_c (c : Cr) (t : Int) (p : In c t) (w : World) (hs : c.slope t ≤ 0) (hn : t ≠ c.hi) (hu : c.slope (t + 1) ≤ 0) :
    Calls Try.prog 37 #[.agg #[.int .i64 c.x1, .int .i64 c.h1, .int .i64 c.v1, .int .i64 c.x2, .int .i64 c.h2, .int .i64 c.v2], .int .i64 t] w fun e w' => e = .returned (.int .i64 18) ∧ Below w.heap.size w w' := by
  have HI := Lib.hid (fun w => refIs_any c t w)
  rw [(inB_iff _ _ _).2 ⟨p.l, p.h⟩] at HI
  have HS := Lib.hid (fun w => refSlope_any c t p w)
  have HJ := Lib.hid (fun w => refIs_any c (t + 1) w)
  obtain ⟨bb0, bb1⟩ := p.bounds
  have p2 : In c (t + 1) := ⟨p.o, by have := p.l; omega, by have := p.h; omega⟩
  rw [(inB_iff _ _ _).2 ⟨p2.l, p2.h⟩] at HJ
  have HT := Lib.hid (fun w => refSlope_any c (t + 1) p2 w)
  clear hn p2
  generalize c.slope t = sv at *
  generalize c.slope (t + 1) = su at *
  go_enter Try.func37, Try.ntmps37
  go_wp2_with fail
  refine (HI.out _).mono ?_
  rintro e w1 ⟨rfl, hb1⟩
  have qw10 : w1.cell? ⟨w.heap.size, 0, none⟩ = some (.int .i64 c.x1) := cell_later hb1 (by simp [go_sem])
  have qw11 : w1.cell? ⟨w.heap.size, 1, none⟩ = some (.int .i64 c.h1) := cell_later hb1 (by simp [go_sem])
  have qw12 : w1.cell? ⟨w.heap.size, 2, none⟩ = some (.int .i64 c.v1) := cell_later hb1 (by simp [go_sem])
  have qw13 : w1.cell? ⟨w.heap.size, 3, none⟩ = some (.int .i64 c.x2) := cell_later hb1 (by simp [go_sem])
  have qw14 : w1.cell? ⟨w.heap.size, 4, none⟩ = some (.int .i64 c.h2) := cell_later hb1 (by simp [go_sem])
  have qw15 : w1.cell? ⟨w.heap.size, 5, none⟩ = some (.int .i64 c.v2) := cell_later hb1 (by simp [go_sem])
  have H1 := Lib.hid (below_after (by repeat (first | exact Below.refl _ _ | refine Below.drew ?_ | refine below_drewN ?_ _ | refine Below.setCell ?_ (by first | omega | (simp; done) | (simp; omega)) _ | refine Below.alloc ?_ (by first | omega | (simp; done) | (simp; omega)) _)) hb1 (by first | omega | (simp; done) | (simp; omega)) : Below w.heap.size w w1); clear hb1
  go_wp2_with fail
  refine (HS.out _).mono ?_
  rintro e w2 ⟨rfl, hb2⟩
  have qw20 : w2.cell? ⟨w.heap.size, 0, none⟩ = some (.int .i64 c.x1) := cell_later hb2 (by simp [go_sem, *])
  have qw21 : w2.cell? ⟨w.heap.size, 1, none⟩ = some (.int .i64 c.h1) := cell_later hb2 (by simp [go_sem, *])
  have qw22 : w2.cell? ⟨w.heap.size, 2, none⟩ = some (.int .i64 c.v1) := cell_later hb2 (by simp [go_sem, *])
  have qw23 : w2.cell? ⟨w.heap.size, 3, none⟩ = some (.int .i64 c.x2) := cell_later hb2 (by simp [go_sem, *])
  have qw24 : w2.cell? ⟨w.heap.size, 4, none⟩ = some (.int .i64 c.h2) := cell_later hb2 (by simp [go_sem, *])
  have qw25 : w2.cell? ⟨w.heap.size, 5, none⟩ = some (.int .i64 c.v2) := cell_later hb2 (by simp [go_sem, *])
  have H2 := Lib.hid (below_then H1.out hb2); clear hb2
  go_wp2_with fail
  refine (HJ.out _).mono ?_
  rintro e w3 ⟨rfl, hb3⟩
  have qw30 : w3.cell? ⟨w.heap.size, 0, none⟩ = some (.int .i64 c.x1) := cell_later hb3 (by simp [go_sem, *])
  have qw31 : w3.cell? ⟨w.heap.size, 1, none⟩ = some (.int .i64 c.h1) := cell_later hb3 (by simp [go_sem, *])
  have qw32 : w3.cell? ⟨w.heap.size, 2, none⟩ = some (.int .i64 c.v1) := cell_later hb3 (by simp [go_sem, *])
  have qw33 : w3.cell? ⟨w.heap.size, 3, none⟩ = some (.int .i64 c.x2) := cell_later hb3 (by simp [go_sem, *])
  have qw34 : w3.cell? ⟨w.heap.size, 4, none⟩ = some (.int .i64 c.h2) := cell_later hb3 (by simp [go_sem, *])
  have qw35 : w3.cell? ⟨w.heap.size, 5, none⟩ = some (.int .i64 c.v2) := cell_later hb3 (by simp [go_sem, *])
  have H3 := Lib.hid (below_then H2.out hb3); clear hb3
  go_wp2_with fail
  refine (HT.out _).mono ?_
  rintro e w4 ⟨rfl, hb4⟩
  have qw40 : w4.cell? ⟨w.heap.size, 0, none⟩ = some (.int .i64 c.x1) := cell_later hb4 (by simp [go_sem, *])
  have qw41 : w4.cell? ⟨w.heap.size, 1, none⟩ = some (.int .i64 c.h1) := cell_later hb4 (by simp [go_sem, *])
  have qw42 : w4.cell? ⟨w.heap.size, 2, none⟩ = some (.int .i64 c.v1) := cell_later hb4 (by simp [go_sem, *])
  have qw43 : w4.cell? ⟨w.heap.size, 3, none⟩ = some (.int .i64 c.x2) := cell_later hb4 (by simp [go_sem, *])
  have qw44 : w4.cell? ⟨w.heap.size, 4, none⟩ = some (.int .i64 c.h2) := cell_later hb4 (by simp [go_sem, *])
  have qw45 : w4.cell? ⟨w.heap.size, 5, none⟩ = some (.int .i64 c.v2) := cell_later hb4 (by simp [go_sem, *])
  have H4 := Lib.hid (below_then H3.out hb4); clear hb4
  go_wp2
  go_ret
  exact ⟨rfl, H4.out⟩
set_option maxRecDepth 100000 in
set_option maxHeartbeats 1000000 in
theorem rck_d (c : Cr) (t : Int) (p : In c t) (w : World) (hs : c.slope t ≤ 0) (hn : t ≠ c.hi) (hu : 0 < c.slope (t + 1)) :
    Calls Try.prog 37 #[.agg #[.int .i64 c.x1, .int .i64 c.h1, .int .i64 c.v1, .int .i64 c.x2, .int .i64 c.h2, .int .i64 c.v2], .int .i64 t] w fun e w' => e = .returned (.int .i64 0) ∧ Below w.heap.size w w' := by
  have HI := Lib.hid (fun w => refIs_any c t w)
  rw [(inB_iff _ _ _).2 ⟨p.l, p.h⟩] at HI
  have HS := Lib.hid (fun w => refSlope_any c t p w)
  have HJ := Lib.hid (fun w => refIs_any c (t + 1) w)
  obtain ⟨bb0, bb1⟩ := p.bounds
  have p2 : In c (t + 1) := ⟨p.o, by have := p.l; omega, by have := p.h; omega⟩
  rw [(inB_iff _ _ _).2 ⟨p2.l, p2.h⟩] at HJ
  have HT := Lib.hid (fun w => refSlope_any c (t + 1) p2 w)
  clear hn p2
  generalize c.slope t = sv at *
  generalize c.slope (t + 1) = su at *
  go_enter Try.func37, Try.ntmps37
  go_wp2_with fail
  refine (HI.out _).mono ?_
  rintro e w1 ⟨rfl, hb1⟩
  have qw10 : w1.cell? ⟨w.heap.size, 0, none⟩ = some (.int .i64 c.x1) := cell_later hb1 (by simp [go_sem])
  have qw11 : w1.cell? ⟨w.heap.size, 1, none⟩ = some (.int .i64 c.h1) := cell_later hb1 (by simp [go_sem])
  have qw12 : w1.cell? ⟨w.heap.size, 2, none⟩ = some (.int .i64 c.v1) := cell_later hb1 (by simp [go_sem])
  have qw13 : w1.cell? ⟨w.heap.size, 3, none⟩ = some (.int .i64 c.x2) := cell_later hb1 (by simp [go_sem])
  have qw14 : w1.cell? ⟨w.heap.size, 4, none⟩ = some (.int .i64 c.h2) := cell_later hb1 (by simp [go_sem])
  have qw15 : w1.cell? ⟨w.heap.size, 5, none⟩ = some (.int .i64 c.v2) := cell_later hb1 (by simp [go_sem])
  have H1 := Lib.hid (below_after (by repeat (first | exact Below.refl _ _ | refine Below.drew ?_ | refine below_drewN ?_ _ | refine Below.setCell ?_ (by first | omega | (simp; done) | (simp; omega)) _ | refine Below.alloc ?_ (by first | omega | (simp; done) | (simp; omega)) _)) hb1 (by first | omega | (simp; done) | (simp; omega)) : Below w.heap.size w w1); clear hb1
  go_wp2_with fail
  refine (HS.out _).mono ?_
  rintro e w2 ⟨rfl, hb2⟩
  have qw20 : w2.cell? ⟨w.heap.size, 0, none⟩ = some (.int .i64 c.x1) := cell_later hb2 (by simp [go_sem, *])
  have qw21 : w2.cell? ⟨w.heap.size, 1, none⟩ = some (.int .i64 c.h1) := cell_later hb2 (by simp [go_sem, *])
  have qw22 : w2.cell? ⟨w.heap.size, 2, none⟩ = some (.int .i64 c.v1) := cell_later hb2 (by simp [go_sem, *])
  have qw23 : w2.cell? ⟨w.heap.size, 3, none⟩ = some (.int .i64 c.x2) := cell_later hb2 (by simp [go_sem, *])
  have qw24 : w2.cell? ⟨w.heap.size, 4, none⟩ = some (.int .i64 c.h2) := cell_later hb2 (by simp [go_sem, *])
  have qw25 : w2.cell? ⟨w.heap.size, 5, none⟩ = some (.int .i64 c.v2) := cell_later hb2 (by simp [go_sem, *])
  have H2 := Lib.hid (below_then H1.out hb2); clear hb2
  go_wp2_with fail
  refine (HJ.out _).mono ?_
  rintro e w3 ⟨rfl, hb3⟩
  have qw30 : w3.cell? ⟨w.heap.size, 0, none⟩ = some (.int .i64 c.x1) := cell_later hb3 (by simp [go_sem, *])
  have qw31 : w3.cell? ⟨w.heap.size, 1, none⟩ = some (.int .i64 c.h1) := cell_later hb3 (by simp [go_sem, *])
  have qw32 : w3.cell? ⟨w.heap.size, 2, none⟩ = some (.int .i64 c.v1) := cell_later hb3 (by simp [go_sem, *])
  have qw33 : w3.cell? ⟨w.heap.size, 3, none⟩ = some (.int .i64 c.x2) := cell_later hb3 (by simp [go_sem, *])
  have qw34 : w3.cell? ⟨w.heap.size, 4, none⟩ = some (.int .i64 c.h2) := cell_later hb3 (by simp [go_sem, *])
  have qw35 : w3.cell? ⟨w.heap.size, 5, none⟩ = some (.int .i64 c.v2) := cell_later hb3 (by simp [go_sem, *])
  have H3 := Lib.hid (below_then H2.out hb3); clear hb3
  go_wp2_with fail
  refine (HT.out _).mono ?_
  rintro e w4 ⟨rfl, hb4⟩
  have qw40 : w4.cell? ⟨w.heap.size, 0, none⟩ = some (.int .i64 c.x1) := cell_later hb4 (by simp [go_sem, *])
  have qw41 : w4.cell? ⟨w.heap.size, 1, none⟩ = some (.int .i64 c.h1) := cell_later hb4 (by simp [go_sem, *])
  have qw42 : w4.cell? ⟨w.heap.size, 2, none⟩ = some (.int .i64 c.v1) := cell_later hb4 (by simp [go_sem, *])
  have qw43 : w4.cell? ⟨w.heap.size, 3, none⟩ = some (.int .i64 c.x2) := cell_later hb4 (by simp [go_sem, *])
  have qw44 : w4.cell? ⟨w.heap.size, 4, none⟩ = some (.int .i64 c.h2) := cell_later hb4 (by simp [go_sem, *])
  have qw45 : w4.cell? ⟨w.heap.size, 5, none⟩ = some (.int .i64 c.v2) := cell_later hb4 (by simp [go_sem, *])
  have H4 := Lib.hid (below_then H3.out hb4); clear hb4
  go_wp2
  go_ret
  exact ⟨rfl, H4.out⟩
theorem refCheckCrossing_any (c : Cr) (t : Int) (p : In c t) (w : World) :
    Calls Try.prog 37 #[.agg #[.int .i64 c.x1, .int .i64 c.h1, .int .i64 c.v1, .int .i64 c.x2, .int .i64 c.h2, .int .i64 c.v2], .int .i64 t] w fun e w' => e = .returned (.int .i64 (ckV c t)) ∧ Below w.heap.size w w' := by
  unfold ckV
  by_cases hs : 0 < c.slope t
  · rw [if_pos hs]; exact rck_a c t p w hs
  · rw [if_neg hs]
    by_cases hn : t = c.hi
    · rw [if_neg (by simp [hn])]; exact rck_b c t p w (by omega) hn
    · by_cases hu : c.slope (t + 1) ≤ 0
      · rw [if_pos ⟨hn, hu⟩]; exact rck_c c t p w (by omega) hn hu
      · rw [if_neg (fun h => hu h.2)]; exact rck_d c t p w (by omega) hn (by omega)
/-- the cells of a crossing as it came in -/
def RcAt (c : Cr) (b : Nat) (w : World) : Prop := w.cell? ⟨b, 0, none⟩ = some (.int .i64 c.x1) ∧ w.cell? ⟨b, 1, none⟩ = some (.int .i64 c.h1) ∧ w.cell? ⟨b, 2, none⟩ = some (.int .i64 c.v1) ∧ w.cell? ⟨b, 3, none⟩ = some (.int .i64 c.x2) ∧ w.cell? ⟨b, 4, none⟩ = some (.int .i64 c.h2) ∧ w.cell? ⟨b, 5, none⟩ = some (.int .i64 c.v2)
theorem RcAt.later {c : Cr} {b : Nat} {w w1 : World} (h : RcAt c b w) (hb : Below w.heap.size w w1) : RcAt c b w1 :=
  ⟨cell_later hb h.1, cell_later hb h.2.1, cell_later hb h.2.2.1, cell_later hb h.2.2.2.1, cell_later hb h.2.2.2.2.1, cell_later hb h.2.2.2.2.2⟩
set_option maxRecDepth 100000 in
set_option maxHeartbeats 1000000 in
theorem refCrossing_any (c : Cr) (o : c.ok) (w : World) :
    Calls Try.prog 40 #[.agg #[.int .i64 c.x1, .int .i64 c.h1, .int .i64 c.v1, .int .i64 c.x2, .int .i64 c.h2, .int .i64 c.v2]] w fun e w' => e = .returned (.int .i64 c.k) ∧ Below w.heap.size w w' := by
  have hk := k_is c o
  have hkb := k_bounds c o
  obtain ⟨k1, k2, k3, k4, k5, k6⟩ := hkb
  have ehi := Lib.hid (show max c.x1 c.x2 = c.hi from rfl)
  have elo := Lib.hid (show min c.x1 c.x2 = c.lo from rfl)
  have ph : In c c.hi := ⟨o, by omega, Int.le_refl _⟩
  have HH := Lib.hid (fun w => refSlope_any c c.hi ph w)
  by_cases hs : c.slope c.hi ≤ 0
  · have ek : c.k = c.hi := by
      by_cases h : c.k = c.hi
      · exact h
      · have := hk.q c.hi (by omega) (Int.le_refl _); omega
    have EK := Lib.hid ek; clear ek hk k1 k2
    generalize c.slope c.hi = sv at *
    go_enter Try.func40, Try.ntmps40
    go_wp2
    go_quiet (fail)
    go_wp2_with fail
    refine (HH.out _).mono ?_
    rintro e w1 ⟨rfl, hb1⟩
    have H1 := Lib.hid (below_after (by repeat (first | exact Below.refl _ _ | refine Below.drew ?_ | refine below_drewN ?_ _ | refine Below.setCell ?_ (by first | omega | (simp; done) | (simp; omega)) _ | refine Below.alloc ?_ (by first | omega | (simp; done) | (simp; omega)) _)) hb1 (by first | omega | (simp; done) | (simp; omega)) : Below w.heap.size w w1); clear hb1
    go_wp2
    go_ret
    exact ⟨by rw [EK.out]; rfl, H1.out⟩
  · have HK := Lib.hid hk; clear hk k1 k2
    have s1 : 0 < c.slope c.hi := by omega
    have S1 := Lib.hid s1
    generalize hsv : c.slope c.hi = sv at HH hs s1
    clear hsv
    go_enter Try.func40, Try.ntmps40
    go_wp2
    go_quiet (fail)
    go_wp2_with fail
    refine (HH.out _).mono ?_
    rintro e w1 ⟨rfl, hb1⟩
    have C1 : Hid (RcAt c w.heap.size w1) := (⟨cell_later hb1 (by simp [go_sem]), cell_later hb1 (by simp [go_sem]), cell_later hb1 (by simp [go_sem]), cell_later hb1 (by simp [go_sem]), cell_later hb1 (by simp [go_sem]), cell_later hb1 (by simp [go_sem])⟩ : RcAt c w.heap.size w1)
    have H1 := Lib.hid (below_after (by repeat (first | exact Below.refl _ _ | refine Below.drew ?_ | refine below_drewN ?_ _ | refine Below.setCell ?_ (by first | omega | (simp; done) | (simp; omega)) _ | refine Below.alloc ?_ (by first | omega | (simp; done) | (simp; omega)) _)) hb1 (by first | omega | (simp; done) | (simp; omega)) : Below w.heap.size w w1); clear hb1
    go_wp2_with fail
    go_loopw [3, 4] (fun s3 s4 wr => ∃ a b : Int, s3 = .int .i64 a ∧ s4 = .int .i64 b ∧ c.lo ≤ a ∧ a < b ∧ b ≤ c.hi ∧ Below w.heap.size w wr ∧ Hid (RcAt c w.heap.size wr) ∧ Hid (c.slope a ≤ 0 ∧ 0 < c.slope b)) (fun s3 s4 _ => (intOf s4 - intOf s3).toNat)
    case atStart => exact ⟨_, _, rfl, rfl, Int.le_refl _, (by
      have a := slope_lo c o
      have b := S1.out
      rcases Int.lt_or_eq_of_le (show c.lo ≤ c.hi by unfold Cr.lo Cr.hi; omega) with h | h
      · exact h
      · rw [h] at a; omega), Int.le_refl _, H1.out, C1, ⟨slope_lo c o, S1.out⟩⟩
    case round =>
      obtain ⟨a, b, rfl, rfl, q1, q2, q3, hB, hC, hI⟩ := hrel
      clear H1 C1 hs s1
      by_cases hlt : 1 < b - a
      · have pm : In c ((a + b) / 2) := ⟨o, by omega, by omega⟩
        have HM := Lib.hid (fun w => refSlope_any c ((a + b) / 2) pm w)
        have FD := Lib.hid (fun w => floor_any (a + b) 2 w (by omega) (by omega) (by omega) (by omega))
        obtain ⟨y0, y1, y2, y3, y4, y5⟩ := hC.out
        by_cases hm : c.slope ((a + b) / 2) ≤ 0
        · have J : Hid (c.slope ((a + b) / 2) ≤ 0 ∧ 0 < c.slope b) := ⟨hm, hI.out.2⟩
          generalize c.slope ((a + b) / 2) = sm at HM hm
          go_wp2_with fail
          refine (FD.out _).mono ?_
          rintro e w' ⟨rfl, rfl⟩
          go_wp2_with fail
          refine (HM.out _).mono ?_
          rintro e w2 ⟨rfl, hb2⟩
          have C2 : Hid (RcAt c w.heap.size w2) := hC.out.later hb2
          have H2 := Lib.hid (below_then hB hb2); clear hb2
          go_wp2
          go_roundw
          case rel => exact ⟨_, _, rfl, rfl, by omega, by omega, q3, H2.out, C2, J⟩
          case measure => simp [intOf]; omega
        · have J : Hid (c.slope a ≤ 0 ∧ 0 < c.slope ((a + b) / 2)) := ⟨hI.out.1, by omega⟩
          generalize c.slope ((a + b) / 2) = sm at HM hm
          go_wp2_with fail
          refine (FD.out _).mono ?_
          rintro e w' ⟨rfl, rfl⟩
          go_wp2_with fail
          refine (HM.out _).mono ?_
          rintro e w2 ⟨rfl, hb2⟩
          have C2 : Hid (RcAt c w.heap.size w2) := hC.out.later hb2
          have H2 := Lib.hid (below_then hB hb2); clear hb2
          go_wp2
          go_roundw
          case rel => exact ⟨_, _, rfl, rfl, q1, by omega, by omega, H2.out, C2, J⟩
          case measure => simp [intOf]; omega
      · have ek : c.k = a := by
          have e : b = a + 1 := by omega
          subst e
          refine HK.out.unique ⟨q1, by omega, fun t t1 t2 => ?_, fun t t1 t2 => ?_⟩
          · by_cases hq : 0 < c.slope t
            · have := slope_mono c o t a t1 t2 (by omega) hq; have := hI.out.1; omega
            · omega
          · exact slope_mono c o (a + 1) t (by omega) (by omega) t2 hI.out.2
        have EK := Lib.hid ek; clear ek
        go_wp2
        go_ret
        exact ⟨by rw [EK.out]; rfl, hB⟩
end Go.Proofs.Ytdicndakelgoeaa
