/- RayEchoes: the walk -/
import Derived.Test.YtdicndakelgoeaaQ0
import Derived.Test.YtdicndakelgoeaaB5
namespace Go.Proofs.Ytdicndakelgoeaa
open Go.RowKit RayM
set_option linter.unusedSimpArgs false
set_option linter.unusedVariables false
set_option maxRecDepth 100000 in
set_option maxHeartbeats 1000000 in
theorem refEchoErr_any (x : Ec) (w : World) :
    Calls Try.prog 62 #[.agg #[.int .i64 x.m1.wd, .int .i64 x.m1.mt, .int .i64 x.m1.sk, .int .i64 x.m1.th, .int .i64 x.m2.wd, .int .i64 x.m2.mt, .int .i64 x.m2.sk, .int .i64 x.m2.th, .int .i64 x.fx, .int .i64 x.fz, .int .i64 x.ax, .int .i64 x.az, .int .i64 x.tx, .int .i64 x.tz]] w fun e w' => e = .returned (.int .i64 (ecE x)) ∧ Below w.heap.size w w' := by
  by_cases h : moEs x = 0
  · have hv : ecE x = waEs x := by unfold ecE; rw [if_pos h]
    obtain ⟨o1, o2⟩ := moEs_zero x h
    have HE : Hid (fst [moE x.m1, moE x.m2] = 0) := h
    have HV : Hid (fst [waE x.y1, waE x.y2] = waEs x) := rfl
    have HA : Hid (∀ w, Calls Try.prog 118 #[.agg #[.int .i64 x.m1.wd, .int .i64 x.m1.mt, .int .i64 x.m1.sk, .int .i64 x.m1.th], .agg #[.int .i64 x.fx, .int .i64 x.fz], .agg #[.int .i64 x.ax, .int .i64 x.az]] w fun e w' => e = .returned (.int .i64 (waE x.y1)) ∧ Below w.heap.size w w') := Lib.hid (fun w => refWayErr_any x.y1 o1 w)
    have HB : Hid (∀ w, Calls Try.prog 118 #[.agg #[.int .i64 x.m2.wd, .int .i64 x.m2.mt, .int .i64 x.m2.sk, .int .i64 x.m2.th], .agg #[.int .i64 x.tx, .int .i64 x.tz], .agg #[.int .i64 x.ax, .int .i64 x.az]] w fun e w' => e = .returned (.int .i64 (waE x.y2)) ∧ Below w.heap.size w w') := Lib.hid (fun w => refWayErr_any x.y2 o2 w)
    rw [hv]
    generalize waEs x = r at *
    generalize waE x.y1 = e1 at *
    generalize waE x.y2 = e2 at *
    clear hv h o1 o2
    go_enter Try.func62, Try.ntmps62
    go_wp2
    have hS : Below w.heap.size w (w.alloc (.cells #[.int .i64 x.m1.wd, .int .i64 x.m1.mt, .int .i64 x.m1.sk, .int .i64 x.m1.th, .int .i64 x.m2.wd, .int .i64 x.m2.mt, .int .i64 x.m2.sk, .int .i64 x.m2.th, .int .i64 x.fx, .int .i64 x.fz, .int .i64 x.ax, .int .i64 x.az, .int .i64 x.tx, .int .i64 x.tz] 83)) := (by repeat (first | exact Below.refl _ _ | refine Below.drew ?_ | refine below_drewN ?_ _ | refine Below.setCell ?_ (by first | omega | (simp; done) | (simp; omega)) _ | refine Below.alloc ?_ (by first | omega | (simp; done) | (simp; omega)) _))
    go_region_held3 (fun w' => w'.cell? ⟨w.heap.size, 0, none⟩ = some (.int .i64 x.m1.wd) ∧ w'.cell? ⟨w.heap.size, 1, none⟩ = some (.int .i64 x.m1.mt) ∧ w'.cell? ⟨w.heap.size, 2, none⟩ = some (.int .i64 x.m1.sk) ∧ w'.cell? ⟨w.heap.size, 3, none⟩ = some (.int .i64 x.m1.th) ∧ w'.cell? ⟨w.heap.size, 4, none⟩ = some (.int .i64 x.m2.wd) ∧ w'.cell? ⟨w.heap.size, 5, none⟩ = some (.int .i64 x.m2.mt) ∧ w'.cell? ⟨w.heap.size, 6, none⟩ = some (.int .i64 x.m2.sk) ∧ w'.cell? ⟨w.heap.size, 7, none⟩ = some (.int .i64 x.m2.th) ∧ w'.cell? ⟨w.heap.size, 8, none⟩ = some (.int .i64 x.fx) ∧ w'.cell? ⟨w.heap.size, 9, none⟩ = some (.int .i64 x.fz) ∧ w'.cell? ⟨w.heap.size, 10, none⟩ = some (.int .i64 x.ax) ∧ w'.cell? ⟨w.heap.size, 11, none⟩ = some (.int .i64 x.az) ∧ w'.cell? ⟨w.heap.size, 12, none⟩ = some (.int .i64 x.tx) ∧ w'.cell? ⟨w.heap.size, 13, none⟩ = some (.int .i64 x.tz) ∧ Below w.heap.size w w') (((go_split_ands; (repeat' apply And.intro) <;> first | (with_reducible assumption) | exact cell_later (by assumption) (by assumption) | exact frozen_after (by assumption) (by assumption) (by assumption) | exact below_then (by assumption) (by assumption) | exact below_alloc_top (by assumption) _ | exact cell_alloc_later (by assumption) _ | exact frozen_alloc_later (by assumption) (by assumption) _ | exact Below.drew (by assumption) | (simp [go_sem, World.cell?_alloc_past, *]; done))))
      (first
        | (go_at_call 45; (with_reducible refine (refMode_any x.m1 _).mono ?_); rintro e w' ⟨rfl, hb⟩)
        | (go_at_call 45; (with_reducible refine (refMode_any x.m2 _).mono ?_); rintro e w' ⟨rfl, hb⟩)
        | (go_at_call 105; refine (firstOf_any _ [moE x.m1, moE x.m2] _ (by simp) (by first | exact cells_drew _ _ (by simp) _ _ | exact cells_new _ _ (by simp) _ _)).mono ?_; rintro e w' ⟨rfl, rfl⟩))
    go_split_ands
    rw [HE.out]
    go_wp2_with fail
    go_region_held3 (fun w' => w'.cell? ⟨w.heap.size, 0, none⟩ = some (.int .i64 x.m1.wd) ∧ w'.cell? ⟨w.heap.size, 1, none⟩ = some (.int .i64 x.m1.mt) ∧ w'.cell? ⟨w.heap.size, 2, none⟩ = some (.int .i64 x.m1.sk) ∧ w'.cell? ⟨w.heap.size, 3, none⟩ = some (.int .i64 x.m1.th) ∧ w'.cell? ⟨w.heap.size, 4, none⟩ = some (.int .i64 x.m2.wd) ∧ w'.cell? ⟨w.heap.size, 5, none⟩ = some (.int .i64 x.m2.mt) ∧ w'.cell? ⟨w.heap.size, 6, none⟩ = some (.int .i64 x.m2.sk) ∧ w'.cell? ⟨w.heap.size, 7, none⟩ = some (.int .i64 x.m2.th) ∧ w'.cell? ⟨w.heap.size, 8, none⟩ = some (.int .i64 x.fx) ∧ w'.cell? ⟨w.heap.size, 9, none⟩ = some (.int .i64 x.fz) ∧ w'.cell? ⟨w.heap.size, 10, none⟩ = some (.int .i64 x.ax) ∧ w'.cell? ⟨w.heap.size, 11, none⟩ = some (.int .i64 x.az) ∧ w'.cell? ⟨w.heap.size, 12, none⟩ = some (.int .i64 x.tx) ∧ w'.cell? ⟨w.heap.size, 13, none⟩ = some (.int .i64 x.tz) ∧ Below w.heap.size w w') (((go_split_ands; (repeat' apply And.intro) <;> first | (with_reducible assumption) | exact cell_later (by assumption) (by assumption) | exact frozen_after (by assumption) (by assumption) (by assumption) | exact below_then (by assumption) (by assumption) | exact below_alloc_top (by assumption) _ | exact cell_alloc_later (by assumption) _ | exact frozen_alloc_later (by assumption) (by assumption) _ | exact Below.drew (by assumption) | (simp [go_sem, World.cell?_alloc_past, *]; done))))
      (first
        | (go_at_call 118; (with_reducible refine (HA.out _).mono ?_); rintro e w' ⟨rfl, hb⟩)
        | (go_at_call 118; (with_reducible refine (HB.out _).mono ?_); rintro e w' ⟨rfl, hb⟩)
        | (go_at_call 105; refine (firstOf_any _ [e1, e2] _ (by simp) (by first | exact cells_drew _ _ (by simp) _ _ | exact cells_new _ _ (by simp) _ _)).mono ?_; rintro e w' ⟨rfl, rfl⟩))
    go_split_ands
    rw [HV.out]
    go_wp2
    go_ret
    exact ⟨rfl, by first | (with_reducible assumption) | (with_reducible exact Below.drew (by assumption)) | (with_reducible exact below_alloc_top (by assumption) _)⟩
  · have hv : ecE x = moEs x := by unfold ecE; rw [if_neg h]
    have n1 : (moEs x != 0) = true := by simpa using h
    have HE : Hid (fst [moE x.m1, moE x.m2] = moEs x) := rfl
    rw [hv]
    generalize moEs x = r at *
    clear hv h
    go_enter Try.func62, Try.ntmps62
    go_wp2
    have hS : Below w.heap.size w (w.alloc (.cells #[.int .i64 x.m1.wd, .int .i64 x.m1.mt, .int .i64 x.m1.sk, .int .i64 x.m1.th, .int .i64 x.m2.wd, .int .i64 x.m2.mt, .int .i64 x.m2.sk, .int .i64 x.m2.th, .int .i64 x.fx, .int .i64 x.fz, .int .i64 x.ax, .int .i64 x.az, .int .i64 x.tx, .int .i64 x.tz] 83)) := (by repeat (first | exact Below.refl _ _ | refine Below.drew ?_ | refine below_drewN ?_ _ | refine Below.setCell ?_ (by first | omega | (simp; done) | (simp; omega)) _ | refine Below.alloc ?_ (by first | omega | (simp; done) | (simp; omega)) _))
    go_region_held3 (fun w' => w'.cell? ⟨w.heap.size, 0, none⟩ = some (.int .i64 x.m1.wd) ∧ w'.cell? ⟨w.heap.size, 1, none⟩ = some (.int .i64 x.m1.mt) ∧ w'.cell? ⟨w.heap.size, 2, none⟩ = some (.int .i64 x.m1.sk) ∧ w'.cell? ⟨w.heap.size, 3, none⟩ = some (.int .i64 x.m1.th) ∧ w'.cell? ⟨w.heap.size, 4, none⟩ = some (.int .i64 x.m2.wd) ∧ w'.cell? ⟨w.heap.size, 5, none⟩ = some (.int .i64 x.m2.mt) ∧ w'.cell? ⟨w.heap.size, 6, none⟩ = some (.int .i64 x.m2.sk) ∧ w'.cell? ⟨w.heap.size, 7, none⟩ = some (.int .i64 x.m2.th) ∧ w'.cell? ⟨w.heap.size, 8, none⟩ = some (.int .i64 x.fx) ∧ w'.cell? ⟨w.heap.size, 9, none⟩ = some (.int .i64 x.fz) ∧ w'.cell? ⟨w.heap.size, 10, none⟩ = some (.int .i64 x.ax) ∧ w'.cell? ⟨w.heap.size, 11, none⟩ = some (.int .i64 x.az) ∧ w'.cell? ⟨w.heap.size, 12, none⟩ = some (.int .i64 x.tx) ∧ w'.cell? ⟨w.heap.size, 13, none⟩ = some (.int .i64 x.tz) ∧ Below w.heap.size w w') (((go_split_ands; (repeat' apply And.intro) <;> first | (with_reducible assumption) | exact cell_later (by assumption) (by assumption) | exact frozen_after (by assumption) (by assumption) (by assumption) | exact below_then (by assumption) (by assumption) | exact below_alloc_top (by assumption) _ | exact cell_alloc_later (by assumption) _ | exact frozen_alloc_later (by assumption) (by assumption) _ | exact Below.drew (by assumption) | (simp [go_sem, World.cell?_alloc_past, *]; done))))
      (first
        | (go_at_call 45; (with_reducible refine (refMode_any x.m1 _).mono ?_); rintro e w' ⟨rfl, hb⟩)
        | (go_at_call 45; (with_reducible refine (refMode_any x.m2 _).mono ?_); rintro e w' ⟨rfl, hb⟩)
        | (go_at_call 105; refine (firstOf_any _ [moE x.m1, moE x.m2] _ (by simp) (by first | exact cells_drew _ _ (by simp) _ _ | exact cells_new _ _ (by simp) _ _)).mono ?_; rintro e w' ⟨rfl, rfl⟩))
    go_split_ands
    rw [HE.out]
    go_wp2
    go_ret
    exact ⟨rfl, by first | (with_reducible assumption) | (with_reducible exact Below.drew (by assumption)) | (with_reducible exact below_alloc_top (by assumption) _)⟩
theorem echo_bad (x : Ec) (h : ecE x ≠ 0) (w : World) :
    Calls Try.prog 61 #[.agg #[.int .i64 x.m1.wd, .int .i64 x.m1.mt, .int .i64 x.m1.sk, .int .i64 x.m1.th, .int .i64 x.m2.wd, .int .i64 x.m2.mt, .int .i64 x.m2.sk, .int .i64 x.m2.th, .int .i64 x.fx, .int .i64 x.fz, .int .i64 x.ax, .int .i64 x.az, .int .i64 x.tx, .int .i64 x.tz]] w fun e w' => e = .returned (.tuple #[.agg #[.int .i64 0, .int .i64 0], .int .i64 (ecE x)]) ∧ Below w.heap.size w w' := by
  by_cases hm : moEs x = 0
  · obtain ⟨o1, o2⟩ := moEs_zero x hm
    have hv : ecE x = fst [wyE x.y1, wyE x.y2] := by unfold ecE; rw [if_pos hm, wyE_waE x.y1 o1, wyE_waE x.y2 o2]; rfl
    obtain ⟨A1, B1, g1⟩ := least_gen x.y1
    obtain ⟨A2, B2, g2⟩ := least_gen x.y2
    rw [hv] at h ⊢
    exact echo_way x hm A1 B1 _ A2 B2 _ g1.a0 g1.a1 g1.b0 g1.b1 g2.a0 g2.a1 g2.b0 g2.b1 g1.c g2.c h w
  · have hv : ecE x = moEs x := by unfold ecE; rw [if_neg hm]
    rw [hv]
    exact echo_mode x hm w
theorem echo_ok (x : Ec) (o1 : x.y1.ok) (o2 : x.y2.ok) (w : World) :
    Calls Try.prog 61 #[.agg #[.int .i64 x.m1.wd, .int .i64 x.m1.mt, .int .i64 x.m1.sk, .int .i64 x.m1.th, .int .i64 x.m2.wd, .int .i64 x.m2.mt, .int .i64 x.m2.sk, .int .i64 x.m2.th, .int .i64 x.fx, .int .i64 x.fz, .int .i64 x.ax, .int .i64 x.az, .int .i64 x.tx, .int .i64 x.tz]] w fun e w' => e = .returned (.tuple #[.agg #[.int .i64 (x.y1.cr.lLo + x.y2.cr.lLo), .int .i64 (x.y1.cr.lHi + x.y2.cr.lHi)], .int .i64 0]) ∧ Below w.heap.size w w' := by
  have h := (ecE_ok x).2 ⟨o1, o2⟩
  have hm : moEs x = 0 := by
    by_cases hm : moEs x = 0
    · exact hm
    · unfold ecE at h; rw [if_neg hm] at h; exact h
  have b1 := l_bounds x.y1.cr (cr_ok x.y1 o1)
  have b2 := l_bounds x.y2.cr (cr_ok x.y2 o2)
  exact echo_sum x hm _ _ 0 _ _ 0 b1.1 b1.2.1 b1.2.2.1 b1.2.2.2 b2.1 b2.2.1 b2.2.2.1 b2.2.2.2 (fun w => leastOf_ok x.y1 o1 w) (fun w => leastOf_ok x.y2 o2 w) rfl w
set_option maxRecDepth 100000 in
set_option maxHeartbeats 1000000 in
theorem echoes_bad (x : Ec) (h : ecE x ≠ 0) (w : World) :
    Calls Try.prog 12 #[.agg #[.int .i64 x.m1.wd, .int .i64 x.m1.mt, .int .i64 x.m1.sk, .int .i64 x.m1.th, .int .i64 x.m2.wd, .int .i64 x.m2.mt, .int .i64 x.m2.sk, .int .i64 x.m2.th, .int .i64 x.fx, .int .i64 x.fz, .int .i64 x.ax, .int .i64 x.az, .int .i64 x.tx, .int .i64 x.tz]] w fun e w' => e = .returned (.bool true) ∧ Below w.heap.size w w' := by
  have HP := Lib.hid (fun w => echo_bad x h w)
  have HE := Lib.hid (fun w => refEchoErr_any x w)
  have n1 : (ecE x != 0) = true := by simpa using h
  have n3 : (ecE x == ecE x) = true := by simp
  generalize ecE x = r at *
  clear h
  go_enter Try.func12, Try.ntmps12
  go_wp2_with fail
  refine (awake_any _).mono ?_
  rintro e w1 ⟨rfl, hb1⟩
  have qw10 : w1.cell? ⟨w.heap.size, 0, none⟩ = some (.int .i64 x.m1.wd) := cell_later hb1 (by simp [go_sem])
  have qw11 : w1.cell? ⟨w.heap.size, 1, none⟩ = some (.int .i64 x.m1.mt) := cell_later hb1 (by simp [go_sem])
  have qw12 : w1.cell? ⟨w.heap.size, 2, none⟩ = some (.int .i64 x.m1.sk) := cell_later hb1 (by simp [go_sem])
  have qw13 : w1.cell? ⟨w.heap.size, 3, none⟩ = some (.int .i64 x.m1.th) := cell_later hb1 (by simp [go_sem])
  have qw14 : w1.cell? ⟨w.heap.size, 4, none⟩ = some (.int .i64 x.m2.wd) := cell_later hb1 (by simp [go_sem])
  have qw15 : w1.cell? ⟨w.heap.size, 5, none⟩ = some (.int .i64 x.m2.mt) := cell_later hb1 (by simp [go_sem])
  have qw16 : w1.cell? ⟨w.heap.size, 6, none⟩ = some (.int .i64 x.m2.sk) := cell_later hb1 (by simp [go_sem])
  have qw17 : w1.cell? ⟨w.heap.size, 7, none⟩ = some (.int .i64 x.m2.th) := cell_later hb1 (by simp [go_sem])
  have qw18 : w1.cell? ⟨w.heap.size, 8, none⟩ = some (.int .i64 x.fx) := cell_later hb1 (by simp [go_sem])
  have qw19 : w1.cell? ⟨w.heap.size, 9, none⟩ = some (.int .i64 x.fz) := cell_later hb1 (by simp [go_sem])
  have qw110 : w1.cell? ⟨w.heap.size, 10, none⟩ = some (.int .i64 x.ax) := cell_later hb1 (by simp [go_sem])
  have qw111 : w1.cell? ⟨w.heap.size, 11, none⟩ = some (.int .i64 x.az) := cell_later hb1 (by simp [go_sem])
  have qw112 : w1.cell? ⟨w.heap.size, 12, none⟩ = some (.int .i64 x.tx) := cell_later hb1 (by simp [go_sem])
  have qw113 : w1.cell? ⟨w.heap.size, 13, none⟩ = some (.int .i64 x.tz) := cell_later hb1 (by simp [go_sem])
  have zqw1_0 := World.block_lt_of_cell? _ _ qw10
  dsimp only at zqw1_0
  have H1 : Hid (Below w.heap.size w w1) := Lib.hid (below_after (by repeat (first | exact Below.refl _ _ | refine Below.drew ?_ | refine below_drewN ?_ _ | refine Below.setCell ?_ (by first | omega | (simp; done) | (simp; omega)) _ | refine Below.alloc ?_ (by first | omega | (simp; done) | (simp; omega)) _)) hb1 (by first | omega | (simp; done) | (simp; omega))); clear hb1
  go_wp2_with fail
  refine (HP.out _).mono ?_
  rintro e w2 ⟨rfl, hb2⟩
  have qw20 : w2.cell? ⟨w.heap.size, 0, none⟩ = some (.int .i64 x.m1.wd) := cell_later hb2 (by simp [go_sem, World.cell?_alloc_past, World.frozen?_alloc_past, *])
  have qw21 : w2.cell? ⟨w.heap.size, 1, none⟩ = some (.int .i64 x.m1.mt) := cell_later hb2 (by simp [go_sem, World.cell?_alloc_past, World.frozen?_alloc_past, *])
  have qw22 : w2.cell? ⟨w.heap.size, 2, none⟩ = some (.int .i64 x.m1.sk) := cell_later hb2 (by simp [go_sem, World.cell?_alloc_past, World.frozen?_alloc_past, *])
  have qw23 : w2.cell? ⟨w.heap.size, 3, none⟩ = some (.int .i64 x.m1.th) := cell_later hb2 (by simp [go_sem, World.cell?_alloc_past, World.frozen?_alloc_past, *])
  have qw24 : w2.cell? ⟨w.heap.size, 4, none⟩ = some (.int .i64 x.m2.wd) := cell_later hb2 (by simp [go_sem, World.cell?_alloc_past, World.frozen?_alloc_past, *])
  have qw25 : w2.cell? ⟨w.heap.size, 5, none⟩ = some (.int .i64 x.m2.mt) := cell_later hb2 (by simp [go_sem, World.cell?_alloc_past, World.frozen?_alloc_past, *])
  have qw26 : w2.cell? ⟨w.heap.size, 6, none⟩ = some (.int .i64 x.m2.sk) := cell_later hb2 (by simp [go_sem, World.cell?_alloc_past, World.frozen?_alloc_past, *])
  have qw27 : w2.cell? ⟨w.heap.size, 7, none⟩ = some (.int .i64 x.m2.th) := cell_later hb2 (by simp [go_sem, World.cell?_alloc_past, World.frozen?_alloc_past, *])
  have qw28 : w2.cell? ⟨w.heap.size, 8, none⟩ = some (.int .i64 x.fx) := cell_later hb2 (by simp [go_sem, World.cell?_alloc_past, World.frozen?_alloc_past, *])
  have qw29 : w2.cell? ⟨w.heap.size, 9, none⟩ = some (.int .i64 x.fz) := cell_later hb2 (by simp [go_sem, World.cell?_alloc_past, World.frozen?_alloc_past, *])
  have qw210 : w2.cell? ⟨w.heap.size, 10, none⟩ = some (.int .i64 x.ax) := cell_later hb2 (by simp [go_sem, World.cell?_alloc_past, World.frozen?_alloc_past, *])
  have qw211 : w2.cell? ⟨w.heap.size, 11, none⟩ = some (.int .i64 x.az) := cell_later hb2 (by simp [go_sem, World.cell?_alloc_past, World.frozen?_alloc_past, *])
  have qw212 : w2.cell? ⟨w.heap.size, 12, none⟩ = some (.int .i64 x.tx) := cell_later hb2 (by simp [go_sem, World.cell?_alloc_past, World.frozen?_alloc_past, *])
  have qw213 : w2.cell? ⟨w.heap.size, 13, none⟩ = some (.int .i64 x.tz) := cell_later hb2 (by simp [go_sem, World.cell?_alloc_past, World.frozen?_alloc_past, *])
  have zqw2_0 := World.block_lt_of_cell? _ _ qw20
  dsimp only at zqw2_0
  have H2 : Hid (Below w.heap.size w w2) := Lib.hid (below_then (by (repeat (first | (with_reducible exact H1.out) | (with_reducible refine Below.setCell ?_ ?_ _) | (with_reducible refine below_alloc_top ?_ _) | (with_reducible refine Below.drew ?_))); all_goals (first | omega | (simp; done) | (simp; omega))) hb2); clear hb2
  go_wp2_with fail
  refine (HE.out _).mono ?_
  rintro e w3 ⟨rfl, hb3⟩
  have qw30 : w3.cell? ⟨w.heap.size, 0, none⟩ = some (.int .i64 x.m1.wd) := cell_later hb3 (by simp [go_sem, World.cell?_alloc_past, World.frozen?_alloc_past, *])
  have qw31 : w3.cell? ⟨w.heap.size, 1, none⟩ = some (.int .i64 x.m1.mt) := cell_later hb3 (by simp [go_sem, World.cell?_alloc_past, World.frozen?_alloc_past, *])
  have qw32 : w3.cell? ⟨w.heap.size, 2, none⟩ = some (.int .i64 x.m1.sk) := cell_later hb3 (by simp [go_sem, World.cell?_alloc_past, World.frozen?_alloc_past, *])
  have qw33 : w3.cell? ⟨w.heap.size, 3, none⟩ = some (.int .i64 x.m1.th) := cell_later hb3 (by simp [go_sem, World.cell?_alloc_past, World.frozen?_alloc_past, *])
  have qw34 : w3.cell? ⟨w.heap.size, 4, none⟩ = some (.int .i64 x.m2.wd) := cell_later hb3 (by simp [go_sem, World.cell?_alloc_past, World.frozen?_alloc_past, *])
  have qw35 : w3.cell? ⟨w.heap.size, 5, none⟩ = some (.int .i64 x.m2.mt) := cell_later hb3 (by simp [go_sem, World.cell?_alloc_past, World.frozen?_alloc_past, *])
  have qw36 : w3.cell? ⟨w.heap.size, 6, none⟩ = some (.int .i64 x.m2.sk) := cell_later hb3 (by simp [go_sem, World.cell?_alloc_past, World.frozen?_alloc_past, *])
  have qw37 : w3.cell? ⟨w.heap.size, 7, none⟩ = some (.int .i64 x.m2.th) := cell_later hb3 (by simp [go_sem, World.cell?_alloc_past, World.frozen?_alloc_past, *])
  have qw38 : w3.cell? ⟨w.heap.size, 8, none⟩ = some (.int .i64 x.fx) := cell_later hb3 (by simp [go_sem, World.cell?_alloc_past, World.frozen?_alloc_past, *])
  have qw39 : w3.cell? ⟨w.heap.size, 9, none⟩ = some (.int .i64 x.fz) := cell_later hb3 (by simp [go_sem, World.cell?_alloc_past, World.frozen?_alloc_past, *])
  have qw310 : w3.cell? ⟨w.heap.size, 10, none⟩ = some (.int .i64 x.ax) := cell_later hb3 (by simp [go_sem, World.cell?_alloc_past, World.frozen?_alloc_past, *])
  have qw311 : w3.cell? ⟨w.heap.size, 11, none⟩ = some (.int .i64 x.az) := cell_later hb3 (by simp [go_sem, World.cell?_alloc_past, World.frozen?_alloc_past, *])
  have qw312 : w3.cell? ⟨w.heap.size, 12, none⟩ = some (.int .i64 x.tx) := cell_later hb3 (by simp [go_sem, World.cell?_alloc_past, World.frozen?_alloc_past, *])
  have qw313 : w3.cell? ⟨w.heap.size, 13, none⟩ = some (.int .i64 x.tz) := cell_later hb3 (by simp [go_sem, World.cell?_alloc_past, World.frozen?_alloc_past, *])
  have qw314 : w3.cell? ⟨w2.heap.size, 0, none⟩ = some (.int .i64 0) := cell_later hb3 (by simp [go_sem, World.cell?_alloc_past, World.frozen?_alloc_past, *])
  have qw315 : w3.cell? ⟨w2.heap.size, 1, none⟩ = some (.int .i64 0) := cell_later hb3 (by simp [go_sem, World.cell?_alloc_past, World.frozen?_alloc_past, *])
  have zqw3_0 := World.block_lt_of_cell? _ _ qw30
  dsimp only at zqw3_0
  have zqw3_14 := World.block_lt_of_cell? _ _ qw314
  dsimp only at zqw3_14
  have H3 : Hid (Below w.heap.size w w3) := Lib.hid (below_then (by (repeat (first | (with_reducible exact H2.out) | (with_reducible refine Below.setCell ?_ ?_ _) | (with_reducible refine below_alloc_top ?_ _) | (with_reducible refine Below.drew ?_))); all_goals (first | omega | (simp; done) | (simp; omega))) hb3); clear hb3
  go_wp2
  go_ret
  exact ⟨rfl, (by (repeat (first | (with_reducible exact H3.out) | (with_reducible refine Below.setCell ?_ ?_ _) | (with_reducible refine below_alloc_top ?_ _) | (with_reducible refine Below.drew ?_))); all_goals (first | omega | (simp; done) | (simp; omega)))⟩
set_option maxRecDepth 100000 in
set_option maxHeartbeats 1000000 in
theorem echoes_ok (x : Ec) (o1 : x.y1.ok) (o2 : x.y2.ok) (w : World) :
    Calls Try.prog 12 #[.agg #[.int .i64 x.m1.wd, .int .i64 x.m1.mt, .int .i64 x.m1.sk, .int .i64 x.m1.th, .int .i64 x.m2.wd, .int .i64 x.m2.mt, .int .i64 x.m2.sk, .int .i64 x.m2.th, .int .i64 x.fx, .int .i64 x.fz, .int .i64 x.ax, .int .i64 x.az, .int .i64 x.tx, .int .i64 x.tz]] w fun e w' => e = .returned (.bool true) ∧ Below w.heap.size w w' := by
  have HP := Lib.hid (fun w => echo_ok x o1 o2 w)
  have HE := Lib.hid (fun w => refEchoErr_any x w)
  rw [(ecE_ok x).2 ⟨o1, o2⟩] at HE
  have hs := fun w => echo_ok x.swap o2 o1 w
  have e1 : x.swap.y1.cr.lLo + x.swap.y2.cr.lLo = x.y1.cr.lLo + x.y2.cr.lLo := Int.add_comm _ _
  have e2 : x.swap.y1.cr.lHi + x.swap.y2.cr.lHi = x.y1.cr.lHi + x.y2.cr.lHi := Int.add_comm _ _
  rw [e1, e2] at hs
  have HS : Hid (∀ w, Calls Try.prog 61 #[.agg #[.int .i64 x.m2.wd, .int .i64 x.m2.mt, .int .i64 x.m2.sk, .int .i64 x.m2.th, .int .i64 x.m1.wd, .int .i64 x.m1.mt, .int .i64 x.m1.sk, .int .i64 x.m1.th, .int .i64 x.tx, .int .i64 x.tz, .int .i64 x.ax, .int .i64 x.az, .int .i64 x.fx, .int .i64 x.fz]] w fun e w' => e = .returned (.tuple #[.agg #[.int .i64 (x.y1.cr.lLo + x.y2.cr.lLo), .int .i64 (x.y1.cr.lHi + x.y2.cr.lHi)], .int .i64 0]) ∧ Below w.heap.size w w') := Lib.hid hs
  have HR := Lib.hid (fun w => refEcho_any x o1 o2 w)
  clear hs e1 e2
  generalize x.y1.cr.lLo + x.y2.cr.lLo = lo at *
  generalize x.y1.cr.lHi + x.y2.cr.lHi = hi at *
  clear o1 o2
  go_enter Try.func12, Try.ntmps12
  go_wp2_with fail
  refine (awake_any _).mono ?_
  rintro e w1 ⟨rfl, hb1⟩
  have qw10 : w1.cell? ⟨w.heap.size, 0, none⟩ = some (.int .i64 x.m1.wd) := cell_later hb1 (by simp [go_sem])
  have qw11 : w1.cell? ⟨w.heap.size, 1, none⟩ = some (.int .i64 x.m1.mt) := cell_later hb1 (by simp [go_sem])
  have qw12 : w1.cell? ⟨w.heap.size, 2, none⟩ = some (.int .i64 x.m1.sk) := cell_later hb1 (by simp [go_sem])
  have qw13 : w1.cell? ⟨w.heap.size, 3, none⟩ = some (.int .i64 x.m1.th) := cell_later hb1 (by simp [go_sem])
  have qw14 : w1.cell? ⟨w.heap.size, 4, none⟩ = some (.int .i64 x.m2.wd) := cell_later hb1 (by simp [go_sem])
  have qw15 : w1.cell? ⟨w.heap.size, 5, none⟩ = some (.int .i64 x.m2.mt) := cell_later hb1 (by simp [go_sem])
  have qw16 : w1.cell? ⟨w.heap.size, 6, none⟩ = some (.int .i64 x.m2.sk) := cell_later hb1 (by simp [go_sem])
  have qw17 : w1.cell? ⟨w.heap.size, 7, none⟩ = some (.int .i64 x.m2.th) := cell_later hb1 (by simp [go_sem])
  have qw18 : w1.cell? ⟨w.heap.size, 8, none⟩ = some (.int .i64 x.fx) := cell_later hb1 (by simp [go_sem])
  have qw19 : w1.cell? ⟨w.heap.size, 9, none⟩ = some (.int .i64 x.fz) := cell_later hb1 (by simp [go_sem])
  have qw110 : w1.cell? ⟨w.heap.size, 10, none⟩ = some (.int .i64 x.ax) := cell_later hb1 (by simp [go_sem])
  have qw111 : w1.cell? ⟨w.heap.size, 11, none⟩ = some (.int .i64 x.az) := cell_later hb1 (by simp [go_sem])
  have qw112 : w1.cell? ⟨w.heap.size, 12, none⟩ = some (.int .i64 x.tx) := cell_later hb1 (by simp [go_sem])
  have qw113 : w1.cell? ⟨w.heap.size, 13, none⟩ = some (.int .i64 x.tz) := cell_later hb1 (by simp [go_sem])
  have zqw1_0 := World.block_lt_of_cell? _ _ qw10
  dsimp only at zqw1_0
  have H1 : Hid (Below w.heap.size w w1) := Lib.hid (below_after (by repeat (first | exact Below.refl _ _ | refine Below.drew ?_ | refine below_drewN ?_ _ | refine Below.setCell ?_ (by first | omega | (simp; done) | (simp; omega)) _ | refine Below.alloc ?_ (by first | omega | (simp; done) | (simp; omega)) _)) hb1 (by first | omega | (simp; done) | (simp; omega))); clear hb1
  go_wp2_with fail
  refine (HP.out _).mono ?_
  rintro e w2 ⟨rfl, hb2⟩
  have qw20 : w2.cell? ⟨w.heap.size, 0, none⟩ = some (.int .i64 x.m1.wd) := cell_later hb2 (by simp [go_sem, World.cell?_alloc_past, World.frozen?_alloc_past, *])
  have qw21 : w2.cell? ⟨w.heap.size, 1, none⟩ = some (.int .i64 x.m1.mt) := cell_later hb2 (by simp [go_sem, World.cell?_alloc_past, World.frozen?_alloc_past, *])
  have qw22 : w2.cell? ⟨w.heap.size, 2, none⟩ = some (.int .i64 x.m1.sk) := cell_later hb2 (by simp [go_sem, World.cell?_alloc_past, World.frozen?_alloc_past, *])
  have qw23 : w2.cell? ⟨w.heap.size, 3, none⟩ = some (.int .i64 x.m1.th) := cell_later hb2 (by simp [go_sem, World.cell?_alloc_past, World.frozen?_alloc_past, *])
  have qw24 : w2.cell? ⟨w.heap.size, 4, none⟩ = some (.int .i64 x.m2.wd) := cell_later hb2 (by simp [go_sem, World.cell?_alloc_past, World.frozen?_alloc_past, *])
  have qw25 : w2.cell? ⟨w.heap.size, 5, none⟩ = some (.int .i64 x.m2.mt) := cell_later hb2 (by simp [go_sem, World.cell?_alloc_past, World.frozen?_alloc_past, *])
  have qw26 : w2.cell? ⟨w.heap.size, 6, none⟩ = some (.int .i64 x.m2.sk) := cell_later hb2 (by simp [go_sem, World.cell?_alloc_past, World.frozen?_alloc_past, *])
  have qw27 : w2.cell? ⟨w.heap.size, 7, none⟩ = some (.int .i64 x.m2.th) := cell_later hb2 (by simp [go_sem, World.cell?_alloc_past, World.frozen?_alloc_past, *])
  have qw28 : w2.cell? ⟨w.heap.size, 8, none⟩ = some (.int .i64 x.fx) := cell_later hb2 (by simp [go_sem, World.cell?_alloc_past, World.frozen?_alloc_past, *])
  have qw29 : w2.cell? ⟨w.heap.size, 9, none⟩ = some (.int .i64 x.fz) := cell_later hb2 (by simp [go_sem, World.cell?_alloc_past, World.frozen?_alloc_past, *])
  have qw210 : w2.cell? ⟨w.heap.size, 10, none⟩ = some (.int .i64 x.ax) := cell_later hb2 (by simp [go_sem, World.cell?_alloc_past, World.frozen?_alloc_past, *])
  have qw211 : w2.cell? ⟨w.heap.size, 11, none⟩ = some (.int .i64 x.az) := cell_later hb2 (by simp [go_sem, World.cell?_alloc_past, World.frozen?_alloc_past, *])
  have qw212 : w2.cell? ⟨w.heap.size, 12, none⟩ = some (.int .i64 x.tx) := cell_later hb2 (by simp [go_sem, World.cell?_alloc_past, World.frozen?_alloc_past, *])
  have qw213 : w2.cell? ⟨w.heap.size, 13, none⟩ = some (.int .i64 x.tz) := cell_later hb2 (by simp [go_sem, World.cell?_alloc_past, World.frozen?_alloc_past, *])
  have zqw2_0 := World.block_lt_of_cell? _ _ qw20
  dsimp only at zqw2_0
  have H2 : Hid (Below w.heap.size w w2) := Lib.hid (below_then (by (repeat (first | (with_reducible exact H1.out) | (with_reducible refine Below.setCell ?_ ?_ _) | (with_reducible refine below_alloc_top ?_ _) | (with_reducible refine Below.drew ?_))); all_goals (first | omega | (simp; done) | (simp; omega))) hb2); clear hb2
  go_wp2_with fail
  refine (HE.out _).mono ?_
  rintro e w3 ⟨rfl, hb3⟩
  have qw30 : w3.cell? ⟨w.heap.size, 0, none⟩ = some (.int .i64 x.m1.wd) := cell_later hb3 (by simp [go_sem, World.cell?_alloc_past, World.frozen?_alloc_past, *])
  have qw31 : w3.cell? ⟨w.heap.size, 1, none⟩ = some (.int .i64 x.m1.mt) := cell_later hb3 (by simp [go_sem, World.cell?_alloc_past, World.frozen?_alloc_past, *])
  have qw32 : w3.cell? ⟨w.heap.size, 2, none⟩ = some (.int .i64 x.m1.sk) := cell_later hb3 (by simp [go_sem, World.cell?_alloc_past, World.frozen?_alloc_past, *])
  have qw33 : w3.cell? ⟨w.heap.size, 3, none⟩ = some (.int .i64 x.m1.th) := cell_later hb3 (by simp [go_sem, World.cell?_alloc_past, World.frozen?_alloc_past, *])
  have qw34 : w3.cell? ⟨w.heap.size, 4, none⟩ = some (.int .i64 x.m2.wd) := cell_later hb3 (by simp [go_sem, World.cell?_alloc_past, World.frozen?_alloc_past, *])
  have qw35 : w3.cell? ⟨w.heap.size, 5, none⟩ = some (.int .i64 x.m2.mt) := cell_later hb3 (by simp [go_sem, World.cell?_alloc_past, World.frozen?_alloc_past, *])
  have qw36 : w3.cell? ⟨w.heap.size, 6, none⟩ = some (.int .i64 x.m2.sk) := cell_later hb3 (by simp [go_sem, World.cell?_alloc_past, World.frozen?_alloc_past, *])
  have qw37 : w3.cell? ⟨w.heap.size, 7, none⟩ = some (.int .i64 x.m2.th) := cell_later hb3 (by simp [go_sem, World.cell?_alloc_past, World.frozen?_alloc_past, *])
  have qw38 : w3.cell? ⟨w.heap.size, 8, none⟩ = some (.int .i64 x.fx) := cell_later hb3 (by simp [go_sem, World.cell?_alloc_past, World.frozen?_alloc_past, *])
  have qw39 : w3.cell? ⟨w.heap.size, 9, none⟩ = some (.int .i64 x.fz) := cell_later hb3 (by simp [go_sem, World.cell?_alloc_past, World.frozen?_alloc_past, *])
  have qw310 : w3.cell? ⟨w.heap.size, 10, none⟩ = some (.int .i64 x.ax) := cell_later hb3 (by simp [go_sem, World.cell?_alloc_past, World.frozen?_alloc_past, *])
  have qw311 : w3.cell? ⟨w.heap.size, 11, none⟩ = some (.int .i64 x.az) := cell_later hb3 (by simp [go_sem, World.cell?_alloc_past, World.frozen?_alloc_past, *])
  have qw312 : w3.cell? ⟨w.heap.size, 12, none⟩ = some (.int .i64 x.tx) := cell_later hb3 (by simp [go_sem, World.cell?_alloc_past, World.frozen?_alloc_past, *])
  have qw313 : w3.cell? ⟨w.heap.size, 13, none⟩ = some (.int .i64 x.tz) := cell_later hb3 (by simp [go_sem, World.cell?_alloc_past, World.frozen?_alloc_past, *])
  have qw314 : w3.cell? ⟨w2.heap.size, 0, none⟩ = some (.int .i64 lo) := cell_later hb3 (by simp [go_sem, World.cell?_alloc_past, World.frozen?_alloc_past, *])
  have qw315 : w3.cell? ⟨w2.heap.size, 1, none⟩ = some (.int .i64 hi) := cell_later hb3 (by simp [go_sem, World.cell?_alloc_past, World.frozen?_alloc_past, *])
  have zqw3_0 := World.block_lt_of_cell? _ _ qw30
  dsimp only at zqw3_0
  have zqw3_14 := World.block_lt_of_cell? _ _ qw314
  dsimp only at zqw3_14
  have H3 : Hid (Below w.heap.size w w3) := Lib.hid (below_then (by (repeat (first | (with_reducible exact H2.out) | (with_reducible refine Below.setCell ?_ ?_ _) | (with_reducible refine below_alloc_top ?_ _) | (with_reducible refine Below.drew ?_))); all_goals (first | omega | (simp; done) | (simp; omega))) hb3); clear hb3
  go_wp2_with fail
  refine (HS.out _).mono ?_
  rintro e w4 ⟨rfl, hb4⟩
  have qw40 : w4.cell? ⟨w.heap.size, 0, none⟩ = some (.int .i64 x.m1.wd) := cell_later hb4 (by simp [go_sem, World.cell?_alloc_past, World.frozen?_alloc_past, *])
  have qw41 : w4.cell? ⟨w.heap.size, 1, none⟩ = some (.int .i64 x.m1.mt) := cell_later hb4 (by simp [go_sem, World.cell?_alloc_past, World.frozen?_alloc_past, *])
  have qw42 : w4.cell? ⟨w.heap.size, 2, none⟩ = some (.int .i64 x.m1.sk) := cell_later hb4 (by simp [go_sem, World.cell?_alloc_past, World.frozen?_alloc_past, *])
  have qw43 : w4.cell? ⟨w.heap.size, 3, none⟩ = some (.int .i64 x.m1.th) := cell_later hb4 (by simp [go_sem, World.cell?_alloc_past, World.frozen?_alloc_past, *])
  have qw44 : w4.cell? ⟨w.heap.size, 4, none⟩ = some (.int .i64 x.m2.wd) := cell_later hb4 (by simp [go_sem, World.cell?_alloc_past, World.frozen?_alloc_past, *])
  have qw45 : w4.cell? ⟨w.heap.size, 5, none⟩ = some (.int .i64 x.m2.mt) := cell_later hb4 (by simp [go_sem, World.cell?_alloc_past, World.frozen?_alloc_past, *])
  have qw46 : w4.cell? ⟨w.heap.size, 6, none⟩ = some (.int .i64 x.m2.sk) := cell_later hb4 (by simp [go_sem, World.cell?_alloc_past, World.frozen?_alloc_past, *])
  have qw47 : w4.cell? ⟨w.heap.size, 7, none⟩ = some (.int .i64 x.m2.th) := cell_later hb4 (by simp [go_sem, World.cell?_alloc_past, World.frozen?_alloc_past, *])
  have qw48 : w4.cell? ⟨w.heap.size, 8, none⟩ = some (.int .i64 x.fx) := cell_later hb4 (by simp [go_sem, World.cell?_alloc_past, World.frozen?_alloc_past, *])
  have qw49 : w4.cell? ⟨w.heap.size, 9, none⟩ = some (.int .i64 x.fz) := cell_later hb4 (by simp [go_sem, World.cell?_alloc_past, World.frozen?_alloc_past, *])
  have qw410 : w4.cell? ⟨w.heap.size, 10, none⟩ = some (.int .i64 x.ax) := cell_later hb4 (by simp [go_sem, World.cell?_alloc_past, World.frozen?_alloc_past, *])
  have qw411 : w4.cell? ⟨w.heap.size, 11, none⟩ = some (.int .i64 x.az) := cell_later hb4 (by simp [go_sem, World.cell?_alloc_past, World.frozen?_alloc_past, *])
  have qw412 : w4.cell? ⟨w.heap.size, 12, none⟩ = some (.int .i64 x.tx) := cell_later hb4 (by simp [go_sem, World.cell?_alloc_past, World.frozen?_alloc_past, *])
  have qw413 : w4.cell? ⟨w.heap.size, 13, none⟩ = some (.int .i64 x.tz) := cell_later hb4 (by simp [go_sem, World.cell?_alloc_past, World.frozen?_alloc_past, *])
  have qw414 : w4.cell? ⟨w2.heap.size, 0, none⟩ = some (.int .i64 lo) := cell_later hb4 (by simp [go_sem, World.cell?_alloc_past, World.frozen?_alloc_past, *])
  have qw415 : w4.cell? ⟨w2.heap.size, 1, none⟩ = some (.int .i64 hi) := cell_later hb4 (by simp [go_sem, World.cell?_alloc_past, World.frozen?_alloc_past, *])
  have zqw4_0 := World.block_lt_of_cell? _ _ qw40
  dsimp only at zqw4_0
  have zqw4_14 := World.block_lt_of_cell? _ _ qw414
  dsimp only at zqw4_14
  have H4 : Hid (Below w.heap.size w w4) := Lib.hid (below_then (by (repeat (first | (with_reducible exact H3.out) | (with_reducible refine Below.setCell ?_ ?_ _) | (with_reducible refine below_alloc_top ?_ _) | (with_reducible refine Below.drew ?_))); all_goals (first | omega | (simp; done) | (simp; omega))) hb4); clear hb4
  go_wp2_with fail
  have q0 : Below w.heap.size w (w4.alloc (.cells #[.int .i64 lo, .int .i64 hi] 26)) := below_alloc_top H4.out _
  go_region_held3 (fun w' => w'.cell? ⟨w.heap.size, 0, none⟩ = some (.int .i64 x.m1.wd) ∧ w'.cell? ⟨w.heap.size, 1, none⟩ = some (.int .i64 x.m1.mt) ∧ w'.cell? ⟨w.heap.size, 2, none⟩ = some (.int .i64 x.m1.sk) ∧ w'.cell? ⟨w.heap.size, 3, none⟩ = some (.int .i64 x.m1.th) ∧ w'.cell? ⟨w.heap.size, 4, none⟩ = some (.int .i64 x.m2.wd) ∧ w'.cell? ⟨w.heap.size, 5, none⟩ = some (.int .i64 x.m2.mt) ∧ w'.cell? ⟨w.heap.size, 6, none⟩ = some (.int .i64 x.m2.sk) ∧ w'.cell? ⟨w.heap.size, 7, none⟩ = some (.int .i64 x.m2.th) ∧ w'.cell? ⟨w.heap.size, 8, none⟩ = some (.int .i64 x.fx) ∧ w'.cell? ⟨w.heap.size, 9, none⟩ = some (.int .i64 x.fz) ∧ w'.cell? ⟨w.heap.size, 10, none⟩ = some (.int .i64 x.ax) ∧ w'.cell? ⟨w.heap.size, 11, none⟩ = some (.int .i64 x.az) ∧ w'.cell? ⟨w.heap.size, 12, none⟩ = some (.int .i64 x.tx) ∧ w'.cell? ⟨w.heap.size, 13, none⟩ = some (.int .i64 x.tz) ∧ w'.cell? ⟨w2.heap.size, 0, none⟩ = some (.int .i64 lo) ∧ w'.cell? ⟨w2.heap.size, 1, none⟩ = some (.int .i64 hi) ∧ w'.cell? ⟨w4.heap.size, 0, none⟩ = some (.int .i64 lo) ∧ w'.cell? ⟨w4.heap.size, 1, none⟩ = some (.int .i64 hi) ∧ Below w.heap.size w w') (((go_split_ands; (repeat' apply And.intro) <;> first | (with_reducible assumption) | exact cell_later (by assumption) (by assumption) | exact frozen_after (by assumption) (by assumption) (by assumption) | exact below_then (by assumption) (by assumption) | exact below_alloc_top (by assumption) _ | exact cell_alloc_later (by assumption) _ | exact frozen_alloc_later (by assumption) (by assumption) _ | exact Below.drew (by assumption) | (simp [go_sem, World.cell?_alloc_past, *]; done))))
    (first
      | (go_at_call 63; (with_reducible refine (HR.out _).mono ?_); rintro e w' ⟨rfl, hb⟩))
  go_split_ands
  go_wp2
  go_ret
  exact ⟨rfl, by first | (with_reducible assumption) | (with_reducible exact Below.drew (by assumption)) | (with_reducible exact below_alloc_top (by assumption) _)⟩
theorem echoes_any (x : Ec) (w : World) :
    Calls Try.prog 12 #[.agg #[.int .i64 x.m1.wd, .int .i64 x.m1.mt, .int .i64 x.m1.sk, .int .i64 x.m1.th, .int .i64 x.m2.wd, .int .i64 x.m2.mt, .int .i64 x.m2.sk, .int .i64 x.m2.th, .int .i64 x.fx, .int .i64 x.fz, .int .i64 x.ax, .int .i64 x.az, .int .i64 x.tx, .int .i64 x.tz]] w fun e w' => e = .returned (.bool true) ∧ Below w.heap.size w w' := by
  by_cases h : ecE x = 0
  · obtain ⟨o1, o2⟩ := (ecE_ok x).1 h
    exact echoes_ok x o1 o2 w
  · exact echoes_bad x h w
end Go.Proofs.Ytdicndakelgoeaa
