/- echoes: the program -/
import Derived.Test.YtdicndakelgoeaaG2
import Derived.Test.YtdicndakelgoeaaD3
namespace Go.Proofs.Ytdicndakelgoeaa
open Go.RowKit RayM
set_option linter.unusedSimpArgs false
set_option linter.unusedVariables false

structure Ec where
  m1 : Mo
  m2 : Mo
  fx : Int
  fz : Int
  ax : Int
  az : Int
  tx : Int
  tz : Int
def Ec.y1 (x : Ec) : Wy := ⟨x.m1, x.fx, x.fz, x.ax, x.az⟩
def Ec.y2 (x : Ec) : Wy := ⟨x.m2, x.tx, x.tz, x.ax, x.az⟩
def Ec.swap (x : Ec) : Ec := ⟨x.m2, x.m1, x.tx, x.tz, x.ax, x.az, x.fx, x.fz⟩
def moEs (x : Ec) : Int := fst [moE x.m1, moE x.m2]
def waEs (x : Ec) : Int := fst [waE x.y1, waE x.y2]
def ecE (x : Ec) : Int := if moEs x = 0 then waEs x else moEs x
theorem moEs_zero (x : Ec) (h : moEs x = 0) : x.m1.ok ∧ x.m2.ok := by
  unfold moEs at h
  rw [fst_zero] at h
  exact ⟨(moE_ok _).1 (h _ (by simp)), (moE_ok _).1 (h _ (by simp))⟩
theorem wyE_waE (x : Wy) (o : x.m.ok) : wyE x = waE x := by
  have h := (moE_ok x.m).2 o
  unfold wyE; rw [h]; simp only [fst]; simp
  intro hh; exact hh.symm
theorem ecE_ok (x : Ec) : ecE x = 0 ↔ x.y1.ok ∧ x.y2.ok := by
  unfold ecE
  constructor
  · intro h
    by_cases hm : moEs x = 0
    · rw [if_pos hm] at h
      obtain ⟨o1, o2⟩ := moEs_zero x hm
      unfold waEs at h
      rw [fst_zero] at h
      have h1 := h (waE x.y1) (by simp)
      have h2 := h (waE x.y2) (by simp)
      rw [← wyE_waE x.y1 o1] at h1
      rw [← wyE_waE x.y2 o2] at h2
      exact ⟨(wyE_ok _).1 h1, (wyE_ok _).1 h2⟩
    · rw [if_neg hm] at h; exact absurd h hm
  · rintro ⟨o1, o2⟩
    have hm : moEs x = 0 := by
      unfold moEs; rw [fst_zero]
      simp only [List.mem_cons, List.not_mem_nil, or_false, forall_eq_or_imp, forall_eq]
      exact ⟨(moE_ok _).2 o1.m, (moE_ok _).2 o2.m⟩
    rw [if_pos hm]
    unfold waEs; rw [fst_zero]
    simp only [List.mem_cons, List.not_mem_nil, or_false, forall_eq_or_imp, forall_eq]
    exact ⟨by rw [← wyE_waE x.y1 o1.m]; exact (wyE_ok _).2 o1, by rw [← wyE_waE x.y2 o2.m]; exact (wyE_ok _).2 o2⟩
/-- LeastTime, right or not -/
structure LeastGen (x : Wy) (A B : Int) : Prop where
  ok : wyE x = 0 → A = x.cr.lLo ∧ B = x.cr.lHi
  a0 : 0 ≤ A
  a1 : A ≤ 11313708500000
  b0 : 0 ≤ B
  b1 : B ≤ 11313708500000
  c : ∀ w : World, Calls Try.prog 49 #[.agg #[.int .i64 x.m.wd, .int .i64 x.m.mt, .int .i64 x.m.sk, .int .i64 x.m.th], .agg #[.int .i64 x.fx, .int .i64 x.fz], .agg #[.int .i64 x.tx, .int .i64 x.tz]] w fun e w' => e = .returned (.tuple #[.agg #[.int .i64 A, .int .i64 B], .int .i64 (wyE x)]) ∧ Below w.heap.size w w'
theorem least_gen (x : Wy) : ∃ A B, LeastGen x A B := by
  by_cases h : wyE x = 0
  · have o := (wyE_ok x).1 h
    obtain ⟨b1, b2, b3, b4⟩ := l_bounds x.cr (cr_ok x o)
    exact ⟨_, _, fun _ => ⟨rfl, rfl⟩, b1, b2, b3, b4, fun w => by rw [h]; exact leastOf_ok x o w⟩
  · exact ⟨0, 0, fun h' => absurd h' h, by omega, by omega, by omega, by omega, fun w => leastOf_bad x h w⟩
set_option maxRecDepth 100000 in
set_option maxHeartbeats 1000000 in
theorem echo_mode (x : Ec) (h : moEs x ≠ 0) (w : World) :
    Calls Try.prog 61 #[.agg #[.int .i64 x.m1.wd, .int .i64 x.m1.mt, .int .i64 x.m1.sk, .int .i64 x.m1.th, .int .i64 x.m2.wd, .int .i64 x.m2.mt, .int .i64 x.m2.sk, .int .i64 x.m2.th, .int .i64 x.fx, .int .i64 x.fz, .int .i64 x.ax, .int .i64 x.az, .int .i64 x.tx, .int .i64 x.tz]] w fun e w' => e = .returned (.tuple #[.agg #[.int .i64 0, .int .i64 0], .int .i64 (moEs x)]) ∧ Below w.heap.size w w' := by
  have h2 : (moEs x != 0) = true := by simpa using h
  have he : fst [moE x.m1, moE x.m2] = moEs x := rfl
  have HE := Lib.hid he; clear he h
  go_enter Try.func61, Try.ntmps61
  go_wp2
  have hS : Below w.heap.size w ((w.alloc (.cells #[.int .i64 x.m1.wd, .int .i64 x.m1.mt, .int .i64 x.m1.sk, .int .i64 x.m1.th, .int .i64 x.m2.wd, .int .i64 x.m2.mt, .int .i64 x.m2.sk, .int .i64 x.m2.th, .int .i64 x.fx, .int .i64 x.fz, .int .i64 x.ax, .int .i64 x.az, .int .i64 x.tx, .int .i64 x.tz] 83)).alloc (.cells #[.int .i64 0, .int .i64 0] 26)) := (by repeat (first | exact Below.refl _ _ | refine Below.drew ?_ | refine below_drewN ?_ _ | refine Below.setCell ?_ (by first | omega | (simp; done) | (simp; omega)) _ | refine Below.alloc ?_ (by first | omega | (simp; done) | (simp; omega)) _))
  go_region_held3 (fun w' => w'.cell? ⟨w.heap.size, 0, none⟩ = some (.int .i64 x.m1.wd) ∧ w'.cell? ⟨w.heap.size, 1, none⟩ = some (.int .i64 x.m1.mt) ∧ w'.cell? ⟨w.heap.size, 2, none⟩ = some (.int .i64 x.m1.sk) ∧ w'.cell? ⟨w.heap.size, 3, none⟩ = some (.int .i64 x.m1.th) ∧ w'.cell? ⟨w.heap.size, 4, none⟩ = some (.int .i64 x.m2.wd) ∧ w'.cell? ⟨w.heap.size, 5, none⟩ = some (.int .i64 x.m2.mt) ∧ w'.cell? ⟨w.heap.size, 6, none⟩ = some (.int .i64 x.m2.sk) ∧ w'.cell? ⟨w.heap.size, 7, none⟩ = some (.int .i64 x.m2.th) ∧ w'.cell? ⟨w.heap.size, 8, none⟩ = some (.int .i64 x.fx) ∧ w'.cell? ⟨w.heap.size, 9, none⟩ = some (.int .i64 x.fz) ∧ w'.cell? ⟨w.heap.size, 10, none⟩ = some (.int .i64 x.ax) ∧ w'.cell? ⟨w.heap.size, 11, none⟩ = some (.int .i64 x.az) ∧ w'.cell? ⟨w.heap.size, 12, none⟩ = some (.int .i64 x.tx) ∧ w'.cell? ⟨w.heap.size, 13, none⟩ = some (.int .i64 x.tz) ∧ w'.cell? ⟨w.heap.size + 1, 0, none⟩ = some (.int .i64 0) ∧ w'.cell? ⟨w.heap.size + 1, 1, none⟩ = some (.int .i64 0) ∧ w'.frozen? ⟨w.heap.size + 1, 0, none⟩ = false ∧ w'.frozen? ⟨w.heap.size + 1, 1, none⟩ = false ∧ Below w.heap.size w w') (((go_split_ands; (repeat' apply And.intro) <;> first | (with_reducible assumption) | exact cell_later (by assumption) (by assumption) | exact frozen_after (by assumption) (by assumption) (by assumption) | exact below_then (by assumption) (by assumption) | exact below_alloc_top (by assumption) _ | exact cell_alloc_later (by assumption) _ | exact frozen_alloc_later (by assumption) (by assumption) _ | exact Below.drew (by assumption) | (simp [go_sem, World.cell?_alloc_past, *]; done))))
    (first
      | (go_at_call 46; (with_reducible refine (checkMode_any x.m1 _).mono ?_); rintro e w' ⟨rfl, hb⟩)
      | (go_at_call 46; (with_reducible refine (checkMode_any x.m2 _).mono ?_); rintro e w' ⟨rfl, hb⟩)
      | (go_at_call 93; refine (firstError_any _ [moE x.m1, moE x.m2] _ (by simp) (by first | exact cells_drew _ _ (by simp) _ _ | exact cells_new _ _ (by simp) _ _)).mono ?_; rintro e w' ⟨rfl, rfl⟩))
  go_split_ands
  generalize hW : w'.alloc (Obj.cells #[.int .i64 (moE x.m1), .int .i64 (moE x.m2)] 27) = W0 at *
  clear hW
  have y0 : W0.cell? ⟨w.heap.size, 0, none⟩ = some (.int .i64 x.m1.wd)   := by with_reducible assumption
  have y1 : W0.cell? ⟨w.heap.size, 1, none⟩ = some (.int .i64 x.m1.mt)   := by with_reducible assumption
  have y2 : W0.cell? ⟨w.heap.size, 2, none⟩ = some (.int .i64 x.m1.sk)   := by with_reducible assumption
  have y3 : W0.cell? ⟨w.heap.size, 3, none⟩ = some (.int .i64 x.m1.th)   := by with_reducible assumption
  have y4 : W0.cell? ⟨w.heap.size, 4, none⟩ = some (.int .i64 x.m2.wd)   := by with_reducible assumption
  have y5 : W0.cell? ⟨w.heap.size, 5, none⟩ = some (.int .i64 x.m2.mt)   := by with_reducible assumption
  have y6 : W0.cell? ⟨w.heap.size, 6, none⟩ = some (.int .i64 x.m2.sk)   := by with_reducible assumption
  have y7 : W0.cell? ⟨w.heap.size, 7, none⟩ = some (.int .i64 x.m2.th)   := by with_reducible assumption
  have y8 : W0.cell? ⟨w.heap.size, 8, none⟩ = some (.int .i64 x.fx)   := by with_reducible assumption
  have y9 : W0.cell? ⟨w.heap.size, 9, none⟩ = some (.int .i64 x.fz)   := by with_reducible assumption
  have y10 : W0.cell? ⟨w.heap.size, 10, none⟩ = some (.int .i64 x.ax)   := by with_reducible assumption
  have y11 : W0.cell? ⟨w.heap.size, 11, none⟩ = some (.int .i64 x.az)   := by with_reducible assumption
  have y12 : W0.cell? ⟨w.heap.size, 12, none⟩ = some (.int .i64 x.tx)   := by with_reducible assumption
  have y13 : W0.cell? ⟨w.heap.size, 13, none⟩ = some (.int .i64 x.tz)   := by with_reducible assumption
  have y14 : W0.cell? ⟨w.heap.size + 1, 0, none⟩ = some (.int .i64 0)   := by with_reducible assumption
  have y15 : W0.cell? ⟨w.heap.size + 1, 1, none⟩ = some (.int .i64 0)   := by with_reducible assumption
  have yf0 : W0.frozen? ⟨w.heap.size + 1, 0, none⟩ = false   := by with_reducible assumption
  have yf1 : W0.frozen? ⟨w.heap.size + 1, 1, none⟩ = false   := by with_reducible assumption
  have yB0 : Below w.heap.size w W0 := by with_reducible assumption
  have yB := Lib.hid yB0; clear yB0
  have yz0 := World.block_lt_of_cell? _ _ y0
  dsimp only at yz0
  have yz1 := World.block_lt_of_cell? _ _ y14
  dsimp only at yz1
  clear hS
  rw [HE.out]
  go_wp2
  exact bodyPost_ret (v := .tuple #[.agg #[.int .i64 0, .int .i64 0], .int .i64 (moEs x)]) (by simp [results, Try.results61, go_sem, World.cell?_alloc_past, *]) rfl ⟨rfl, (by (repeat (first | (with_reducible exact yB.out) | (with_reducible refine Below.setCell ?_ ?_ _) | (with_reducible refine below_alloc_top ?_ _) | (with_reducible refine Below.drew ?_))); all_goals (first | omega | (simp; done) | (simp; omega)))⟩
set_option maxRecDepth 100000 in
set_option maxHeartbeats 1000000 in
theorem echo_way (x : Ec) (h : moEs x = 0) (A1 B1 r1 A2 B2 r2 : Int) (k0 : 0 ≤ A1) (k1 : A1 ≤ 11313708500000) (k2 : 0 ≤ B1) (k3 : B1 ≤ 11313708500000) (k4 : 0 ≤ A2) (k5 : A2 ≤ 11313708500000) (k6 : 0 ≤ B2) (k7 : B2 ≤ 11313708500000)
    (h1 : ∀ w : World, Calls Try.prog 49 #[.agg #[.int .i64 x.m1.wd, .int .i64 x.m1.mt, .int .i64 x.m1.sk, .int .i64 x.m1.th], .agg #[.int .i64 x.fx, .int .i64 x.fz], .agg #[.int .i64 x.ax, .int .i64 x.az]] w fun e w' => e = .returned (.tuple #[.agg #[.int .i64 A1, .int .i64 B1], .int .i64 r1]) ∧ Below w.heap.size w w')
    (h2 : ∀ w : World, Calls Try.prog 49 #[.agg #[.int .i64 x.m2.wd, .int .i64 x.m2.mt, .int .i64 x.m2.sk, .int .i64 x.m2.th], .agg #[.int .i64 x.tx, .int .i64 x.tz], .agg #[.int .i64 x.ax, .int .i64 x.az]] w fun e w' => e = .returned (.tuple #[.agg #[.int .i64 A2, .int .i64 B2], .int .i64 r2]) ∧ Below w.heap.size w w')
    (hr : fst [r1, r2] ≠ 0) (w : World) :
    Calls Try.prog 61 #[.agg #[.int .i64 x.m1.wd, .int .i64 x.m1.mt, .int .i64 x.m1.sk, .int .i64 x.m1.th, .int .i64 x.m2.wd, .int .i64 x.m2.mt, .int .i64 x.m2.sk, .int .i64 x.m2.th, .int .i64 x.fx, .int .i64 x.fz, .int .i64 x.ax, .int .i64 x.az, .int .i64 x.tx, .int .i64 x.tz]] w fun e w' => e = .returned (.tuple #[.agg #[.int .i64 0, .int .i64 0], .int .i64 (fst [r1, r2])]) ∧ Below w.heap.size w w' := by
  have he : fst [moE x.m1, moE x.m2] = 0 := h
  have HE := Lib.hid he; clear he h
  have H1' := Lib.hid h1; have H2' := Lib.hid h2; clear h1 h2
  generalize hq : fst [r1, r2] = r at *
  have n1 : (r != 0) = true := by simpa using hr
  have HR := Lib.hid hq; clear hq hr
  go_enter Try.func61, Try.ntmps61
  go_wp2
  have hS : Below w.heap.size w ((w.alloc (.cells #[.int .i64 x.m1.wd, .int .i64 x.m1.mt, .int .i64 x.m1.sk, .int .i64 x.m1.th, .int .i64 x.m2.wd, .int .i64 x.m2.mt, .int .i64 x.m2.sk, .int .i64 x.m2.th, .int .i64 x.fx, .int .i64 x.fz, .int .i64 x.ax, .int .i64 x.az, .int .i64 x.tx, .int .i64 x.tz] 83)).alloc (.cells #[.int .i64 0, .int .i64 0] 26)) := (by repeat (first | exact Below.refl _ _ | refine Below.drew ?_ | refine below_drewN ?_ _ | refine Below.setCell ?_ (by first | omega | (simp; done) | (simp; omega)) _ | refine Below.alloc ?_ (by first | omega | (simp; done) | (simp; omega)) _))
  go_region_held3 (fun w' => w'.cell? ⟨w.heap.size, 0, none⟩ = some (.int .i64 x.m1.wd) ∧ w'.cell? ⟨w.heap.size, 1, none⟩ = some (.int .i64 x.m1.mt) ∧ w'.cell? ⟨w.heap.size, 2, none⟩ = some (.int .i64 x.m1.sk) ∧ w'.cell? ⟨w.heap.size, 3, none⟩ = some (.int .i64 x.m1.th) ∧ w'.cell? ⟨w.heap.size, 4, none⟩ = some (.int .i64 x.m2.wd) ∧ w'.cell? ⟨w.heap.size, 5, none⟩ = some (.int .i64 x.m2.mt) ∧ w'.cell? ⟨w.heap.size, 6, none⟩ = some (.int .i64 x.m2.sk) ∧ w'.cell? ⟨w.heap.size, 7, none⟩ = some (.int .i64 x.m2.th) ∧ w'.cell? ⟨w.heap.size, 8, none⟩ = some (.int .i64 x.fx) ∧ w'.cell? ⟨w.heap.size, 9, none⟩ = some (.int .i64 x.fz) ∧ w'.cell? ⟨w.heap.size, 10, none⟩ = some (.int .i64 x.ax) ∧ w'.cell? ⟨w.heap.size, 11, none⟩ = some (.int .i64 x.az) ∧ w'.cell? ⟨w.heap.size, 12, none⟩ = some (.int .i64 x.tx) ∧ w'.cell? ⟨w.heap.size, 13, none⟩ = some (.int .i64 x.tz) ∧ w'.cell? ⟨w.heap.size + 1, 0, none⟩ = some (.int .i64 0) ∧ w'.cell? ⟨w.heap.size + 1, 1, none⟩ = some (.int .i64 0) ∧ w'.frozen? ⟨w.heap.size + 1, 0, none⟩ = false ∧ w'.frozen? ⟨w.heap.size + 1, 1, none⟩ = false ∧ Below w.heap.size w w') (((go_split_ands; (repeat' apply And.intro) <;> first | (with_reducible assumption) | exact cell_later (by assumption) (by assumption) | exact frozen_after (by assumption) (by assumption) (by assumption) | exact below_then (by assumption) (by assumption) | exact below_alloc_top (by assumption) _ | exact cell_alloc_later (by assumption) _ | exact frozen_alloc_later (by assumption) (by assumption) _ | exact Below.drew (by assumption) | (simp [go_sem, World.cell?_alloc_past, *]; done))))
    (first
      | (go_at_call 46; (with_reducible refine (checkMode_any x.m1 _).mono ?_); rintro e w' ⟨rfl, hb⟩)
      | (go_at_call 46; (with_reducible refine (checkMode_any x.m2 _).mono ?_); rintro e w' ⟨rfl, hb⟩)
      | (go_at_call 93; refine (firstError_any _ [moE x.m1, moE x.m2] _ (by simp) (by first | exact cells_drew _ _ (by simp) _ _ | exact cells_new _ _ (by simp) _ _)).mono ?_; rintro e w' ⟨rfl, rfl⟩))
  go_split_ands
  generalize hW : w'.alloc (Obj.cells #[.int .i64 (moE x.m1), .int .i64 (moE x.m2)] 27) = W0 at *
  clear hW
  have y0 : W0.cell? ⟨w.heap.size, 0, none⟩ = some (.int .i64 x.m1.wd)   := by with_reducible assumption
  have y1 : W0.cell? ⟨w.heap.size, 1, none⟩ = some (.int .i64 x.m1.mt)   := by with_reducible assumption
  have y2 : W0.cell? ⟨w.heap.size, 2, none⟩ = some (.int .i64 x.m1.sk)   := by with_reducible assumption
  have y3 : W0.cell? ⟨w.heap.size, 3, none⟩ = some (.int .i64 x.m1.th)   := by with_reducible assumption
  have y4 : W0.cell? ⟨w.heap.size, 4, none⟩ = some (.int .i64 x.m2.wd)   := by with_reducible assumption
  have y5 : W0.cell? ⟨w.heap.size, 5, none⟩ = some (.int .i64 x.m2.mt)   := by with_reducible assumption
  have y6 : W0.cell? ⟨w.heap.size, 6, none⟩ = some (.int .i64 x.m2.sk)   := by with_reducible assumption
  have y7 : W0.cell? ⟨w.heap.size, 7, none⟩ = some (.int .i64 x.m2.th)   := by with_reducible assumption
  have y8 : W0.cell? ⟨w.heap.size, 8, none⟩ = some (.int .i64 x.fx)   := by with_reducible assumption
  have y9 : W0.cell? ⟨w.heap.size, 9, none⟩ = some (.int .i64 x.fz)   := by with_reducible assumption
  have y10 : W0.cell? ⟨w.heap.size, 10, none⟩ = some (.int .i64 x.ax)   := by with_reducible assumption
  have y11 : W0.cell? ⟨w.heap.size, 11, none⟩ = some (.int .i64 x.az)   := by with_reducible assumption
  have y12 : W0.cell? ⟨w.heap.size, 12, none⟩ = some (.int .i64 x.tx)   := by with_reducible assumption
  have y13 : W0.cell? ⟨w.heap.size, 13, none⟩ = some (.int .i64 x.tz)   := by with_reducible assumption
  have y14 : W0.cell? ⟨w.heap.size + 1, 0, none⟩ = some (.int .i64 0)   := by with_reducible assumption
  have y15 : W0.cell? ⟨w.heap.size + 1, 1, none⟩ = some (.int .i64 0)   := by with_reducible assumption
  have yf0 : W0.frozen? ⟨w.heap.size + 1, 0, none⟩ = false   := by with_reducible assumption
  have yf1 : W0.frozen? ⟨w.heap.size + 1, 1, none⟩ = false   := by with_reducible assumption
  have yB0 : Below w.heap.size w W0 := by with_reducible assumption
  have yB := Lib.hid yB0; clear yB0
  have yz0 := World.block_lt_of_cell? _ _ y0
  dsimp only at yz0
  have yz1 := World.block_lt_of_cell? _ _ y14
  dsimp only at yz1
  clear hS
  rw [HE.out]
  go_wp2_with fail
  refine (H1'.out _).mono ?_
  rintro e w1 ⟨rfl, hb1⟩
  have qw10 : w1.cell? ⟨w.heap.size, 0, none⟩ = some (.int .i64 x.m1.wd) := cell_later hb1 (by simp [go_sem, World.cell?_alloc_past, World.frozen?_alloc_past, *])
  have qw11 : w1.cell? ⟨w.heap.size, 1, none⟩ = some (.int .i64 x.m1.mt) := cell_later hb1 (by simp [go_sem, World.cell?_alloc_past, World.frozen?_alloc_past, *])
  have qw12 : w1.cell? ⟨w.heap.size, 2, none⟩ = some (.int .i64 x.m1.sk) := cell_later hb1 (by simp [go_sem, World.cell?_alloc_past, World.frozen?_alloc_past, *])
  have qw13 : w1.cell? ⟨w.heap.size, 3, none⟩ = some (.int .i64 x.m1.th) := cell_later hb1 (by simp [go_sem, World.cell?_alloc_past, World.frozen?_alloc_past, *])
  have qw14 : w1.cell? ⟨w.heap.size, 4, none⟩ = some (.int .i64 x.m2.wd) := cell_later hb1 (by simp [go_sem, World.cell?_alloc_past, World.frozen?_alloc_past, *])
  have qw15 : w1.cell? ⟨w.heap.size, 5, none⟩ = some (.int .i64 x.m2.mt) := cell_later hb1 (by simp [go_sem, World.cell?_alloc_past, World.frozen?_alloc_past, *])
  have qw16 : w1.cell? ⟨w.heap.size, 6, none⟩ = some (.int .i64 x.m2.sk) := cell_later hb1 (by simp [go_sem, World.cell?_alloc_past, World.frozen?_alloc_past, *])
  have qw17 : w1.cell? ⟨w.heap.size, 7, none⟩ = some (.int .i64 x.m2.th) := cell_later hb1 (by simp [go_sem, World.cell?_alloc_past, World.frozen?_alloc_past, *])
  have qw18 : w1.cell? ⟨w.heap.size, 8, none⟩ = some (.int .i64 x.fx) := cell_later hb1 (by simp [go_sem, World.cell?_alloc_past, World.frozen?_alloc_past, *])
  have qw19 : w1.cell? ⟨w.heap.size, 9, none⟩ = some (.int .i64 x.fz) := cell_later hb1 (by simp [go_sem, World.cell?_alloc_past, World.frozen?_alloc_past, *])
  have qw110 : w1.cell? ⟨w.heap.size, 10, none⟩ = some (.int .i64 x.ax) := cell_later hb1 (by simp [go_sem, World.cell?_alloc_past, World.frozen?_alloc_past, *])
  have qw111 : w1.cell? ⟨w.heap.size, 11, none⟩ = some (.int .i64 x.az) := cell_later hb1 (by simp [go_sem, World.cell?_alloc_past, World.frozen?_alloc_past, *])
  have qw112 : w1.cell? ⟨w.heap.size, 12, none⟩ = some (.int .i64 x.tx) := cell_later hb1 (by simp [go_sem, World.cell?_alloc_past, World.frozen?_alloc_past, *])
  have qw113 : w1.cell? ⟨w.heap.size, 13, none⟩ = some (.int .i64 x.tz) := cell_later hb1 (by simp [go_sem, World.cell?_alloc_past, World.frozen?_alloc_past, *])
  have qw114 : w1.cell? ⟨w.heap.size + 1, 0, none⟩ = some (.int .i64 0) := cell_later hb1 (by simp [go_sem, World.cell?_alloc_past, World.frozen?_alloc_past, *])
  have qw115 : w1.cell? ⟨w.heap.size + 1, 1, none⟩ = some (.int .i64 0) := cell_later hb1 (by simp [go_sem, World.cell?_alloc_past, World.frozen?_alloc_past, *])
  have qw1f0 : w1.frozen? ⟨w.heap.size + 1, 0, none⟩ = false := frozen_after hb1 (v := .int .i64 0) (by simp [go_sem, World.cell?_alloc_past, World.frozen?_alloc_past, *]) (by simp [go_sem, World.cell?_alloc_past, World.frozen?_alloc_past, *])
  have qw1f1 : w1.frozen? ⟨w.heap.size + 1, 1, none⟩ = false := frozen_after hb1 (v := .int .i64 0) (by simp [go_sem, World.cell?_alloc_past, World.frozen?_alloc_past, *]) (by simp [go_sem, World.cell?_alloc_past, World.frozen?_alloc_past, *])
  have zqw1_0 := World.block_lt_of_cell? _ _ qw10
  dsimp only at zqw1_0
  have zqw1_14 := World.block_lt_of_cell? _ _ qw114
  dsimp only at zqw1_14
  have H1 : Hid (Below w.heap.size w w1) := Lib.hid (below_then (by (repeat (first | (with_reducible exact yB.out) | (with_reducible refine Below.setCell ?_ ?_ _) | (with_reducible refine below_alloc_top ?_ _) | (with_reducible refine Below.drew ?_))); all_goals (first | omega | (simp; done) | (simp; omega))) hb1); clear hb1
  go_wp2_with fail
  refine (H2'.out _).mono ?_
  rintro e w2 ⟨rfl, hb2⟩
  have qw20 : w2.cell? ⟨w.heap.size, 0, none⟩ = some (.int .i64 x.m1.wd) := cell_later hb2 (by simp [go_sem, World.cell?_alloc_past, World.frozen?_alloc_past, *])
  have qw21 : w2.cell? ⟨w.heap.size + 1, 0, none⟩ = some (.int .i64 0) := cell_later hb2 (by simp [go_sem, World.cell?_alloc_past, World.frozen?_alloc_past, *])
  have qw22 : w2.cell? ⟨w.heap.size + 1, 1, none⟩ = some (.int .i64 0) := cell_later hb2 (by simp [go_sem, World.cell?_alloc_past, World.frozen?_alloc_past, *])
  have qw23 : w2.cell? ⟨w1.heap.size, 0, none⟩ = some (.int .i64 A1) := cell_later hb2 (by simp [go_sem, World.cell?_alloc_past, World.frozen?_alloc_past, *])
  have qw24 : w2.cell? ⟨w1.heap.size, 1, none⟩ = some (.int .i64 B1) := cell_later hb2 (by simp [go_sem, World.cell?_alloc_past, World.frozen?_alloc_past, *])
  have qw2f0 : w2.frozen? ⟨w.heap.size + 1, 0, none⟩ = false := frozen_after hb2 (v := .int .i64 0) (by simp [go_sem, World.cell?_alloc_past, World.frozen?_alloc_past, *]) (by simp [go_sem, World.cell?_alloc_past, World.frozen?_alloc_past, *])
  have qw2f1 : w2.frozen? ⟨w.heap.size + 1, 1, none⟩ = false := frozen_after hb2 (v := .int .i64 0) (by simp [go_sem, World.cell?_alloc_past, World.frozen?_alloc_past, *]) (by simp [go_sem, World.cell?_alloc_past, World.frozen?_alloc_past, *])
  have zqw2_0 := World.block_lt_of_cell? _ _ qw20
  dsimp only at zqw2_0
  have zqw2_1 := World.block_lt_of_cell? _ _ qw21
  dsimp only at zqw2_1
  have zqw2_3 := World.block_lt_of_cell? _ _ qw23
  dsimp only at zqw2_3
  have H2 : Hid (Below w.heap.size w w2) := Lib.hid (below_then (by (repeat (first | (with_reducible exact H1.out) | (with_reducible refine Below.setCell ?_ ?_ _) | (with_reducible refine below_alloc_top ?_ _) | (with_reducible refine Below.drew ?_))); all_goals (first | omega | (simp; done) | (simp; omega))) hb2); clear hb2
  go_wp2_with (first
    | (go_at_call 93; refine (firstError_any _ [r1, r2] _ (by simp) (by first | exact cells_drew _ _ (by simp) _ _ | exact cells_new _ _ (by simp) _ _)).mono ?_; rintro e w' ⟨rfl, rfl⟩; rw [HR.out])
    | fail)
  exact bodyPost_ret (v := .tuple #[.agg #[.int .i64 0, .int .i64 0], .int .i64 r]) (by simp [results, Try.results61, go_sem, World.cell?_alloc_past, *]) rfl ⟨rfl, (by (repeat (first | (with_reducible exact H2.out) | (with_reducible refine Below.setCell ?_ ?_ _) | (with_reducible refine below_alloc_top ?_ _) | (with_reducible refine Below.drew ?_))); all_goals (first | omega | (simp; done) | (simp; omega)))⟩
set_option maxRecDepth 100000 in
set_option maxHeartbeats 1000000 in
theorem echo_sum (x : Ec) (h : moEs x = 0) (A1 B1 r1 A2 B2 r2 : Int) (k0 : 0 ≤ A1) (k1 : A1 ≤ 11313708500000) (k2 : 0 ≤ B1) (k3 : B1 ≤ 11313708500000) (k4 : 0 ≤ A2) (k5 : A2 ≤ 11313708500000) (k6 : 0 ≤ B2) (k7 : B2 ≤ 11313708500000)
    (h1 : ∀ w : World, Calls Try.prog 49 #[.agg #[.int .i64 x.m1.wd, .int .i64 x.m1.mt, .int .i64 x.m1.sk, .int .i64 x.m1.th], .agg #[.int .i64 x.fx, .int .i64 x.fz], .agg #[.int .i64 x.ax, .int .i64 x.az]] w fun e w' => e = .returned (.tuple #[.agg #[.int .i64 A1, .int .i64 B1], .int .i64 r1]) ∧ Below w.heap.size w w')
    (h2 : ∀ w : World, Calls Try.prog 49 #[.agg #[.int .i64 x.m2.wd, .int .i64 x.m2.mt, .int .i64 x.m2.sk, .int .i64 x.m2.th], .agg #[.int .i64 x.tx, .int .i64 x.tz], .agg #[.int .i64 x.ax, .int .i64 x.az]] w fun e w' => e = .returned (.tuple #[.agg #[.int .i64 A2, .int .i64 B2], .int .i64 r2]) ∧ Below w.heap.size w w')
    (hr : fst [r1, r2] = 0) (w : World) :
    Calls Try.prog 61 #[.agg #[.int .i64 x.m1.wd, .int .i64 x.m1.mt, .int .i64 x.m1.sk, .int .i64 x.m1.th, .int .i64 x.m2.wd, .int .i64 x.m2.mt, .int .i64 x.m2.sk, .int .i64 x.m2.th, .int .i64 x.fx, .int .i64 x.fz, .int .i64 x.ax, .int .i64 x.az, .int .i64 x.tx, .int .i64 x.tz]] w fun e w' => e = .returned (.tuple #[.agg #[.int .i64 (A1 + A2), .int .i64 (B1 + B2)], .int .i64 0]) ∧ Below w.heap.size w w' := by
  have he : fst [moE x.m1, moE x.m2] = 0 := h
  have HE := Lib.hid he; clear he h
  have H1' := Lib.hid h1; have H2' := Lib.hid h2; clear h1 h2
  have HR := Lib.hid hr; clear hr
  go_enter Try.func61, Try.ntmps61
  go_wp2
  have hS : Below w.heap.size w ((w.alloc (.cells #[.int .i64 x.m1.wd, .int .i64 x.m1.mt, .int .i64 x.m1.sk, .int .i64 x.m1.th, .int .i64 x.m2.wd, .int .i64 x.m2.mt, .int .i64 x.m2.sk, .int .i64 x.m2.th, .int .i64 x.fx, .int .i64 x.fz, .int .i64 x.ax, .int .i64 x.az, .int .i64 x.tx, .int .i64 x.tz] 83)).alloc (.cells #[.int .i64 0, .int .i64 0] 26)) := (by repeat (first | exact Below.refl _ _ | refine Below.drew ?_ | refine below_drewN ?_ _ | refine Below.setCell ?_ (by first | omega | (simp; done) | (simp; omega)) _ | refine Below.alloc ?_ (by first | omega | (simp; done) | (simp; omega)) _))
  go_region_held3 (fun w' => w'.cell? ⟨w.heap.size, 0, none⟩ = some (.int .i64 x.m1.wd) ∧ w'.cell? ⟨w.heap.size, 1, none⟩ = some (.int .i64 x.m1.mt) ∧ w'.cell? ⟨w.heap.size, 2, none⟩ = some (.int .i64 x.m1.sk) ∧ w'.cell? ⟨w.heap.size, 3, none⟩ = some (.int .i64 x.m1.th) ∧ w'.cell? ⟨w.heap.size, 4, none⟩ = some (.int .i64 x.m2.wd) ∧ w'.cell? ⟨w.heap.size, 5, none⟩ = some (.int .i64 x.m2.mt) ∧ w'.cell? ⟨w.heap.size, 6, none⟩ = some (.int .i64 x.m2.sk) ∧ w'.cell? ⟨w.heap.size, 7, none⟩ = some (.int .i64 x.m2.th) ∧ w'.cell? ⟨w.heap.size, 8, none⟩ = some (.int .i64 x.fx) ∧ w'.cell? ⟨w.heap.size, 9, none⟩ = some (.int .i64 x.fz) ∧ w'.cell? ⟨w.heap.size, 10, none⟩ = some (.int .i64 x.ax) ∧ w'.cell? ⟨w.heap.size, 11, none⟩ = some (.int .i64 x.az) ∧ w'.cell? ⟨w.heap.size, 12, none⟩ = some (.int .i64 x.tx) ∧ w'.cell? ⟨w.heap.size, 13, none⟩ = some (.int .i64 x.tz) ∧ w'.cell? ⟨w.heap.size + 1, 0, none⟩ = some (.int .i64 0) ∧ w'.cell? ⟨w.heap.size + 1, 1, none⟩ = some (.int .i64 0) ∧ w'.frozen? ⟨w.heap.size + 1, 0, none⟩ = false ∧ w'.frozen? ⟨w.heap.size + 1, 1, none⟩ = false ∧ Below w.heap.size w w') (((go_split_ands; (repeat' apply And.intro) <;> first | (with_reducible assumption) | exact cell_later (by assumption) (by assumption) | exact frozen_after (by assumption) (by assumption) (by assumption) | exact below_then (by assumption) (by assumption) | exact below_alloc_top (by assumption) _ | exact cell_alloc_later (by assumption) _ | exact frozen_alloc_later (by assumption) (by assumption) _ | exact Below.drew (by assumption) | (simp [go_sem, World.cell?_alloc_past, *]; done))))
    (first
      | (go_at_call 46; (with_reducible refine (checkMode_any x.m1 _).mono ?_); rintro e w' ⟨rfl, hb⟩)
      | (go_at_call 46; (with_reducible refine (checkMode_any x.m2 _).mono ?_); rintro e w' ⟨rfl, hb⟩)
      | (go_at_call 93; refine (firstError_any _ [moE x.m1, moE x.m2] _ (by simp) (by first | exact cells_drew _ _ (by simp) _ _ | exact cells_new _ _ (by simp) _ _)).mono ?_; rintro e w' ⟨rfl, rfl⟩))
  go_split_ands
  generalize hW : w'.alloc (Obj.cells #[.int .i64 (moE x.m1), .int .i64 (moE x.m2)] 27) = W0 at *
  clear hW
  have y0 : W0.cell? ⟨w.heap.size, 0, none⟩ = some (.int .i64 x.m1.wd)   := by with_reducible assumption
  have y1 : W0.cell? ⟨w.heap.size, 1, none⟩ = some (.int .i64 x.m1.mt)   := by with_reducible assumption
  have y2 : W0.cell? ⟨w.heap.size, 2, none⟩ = some (.int .i64 x.m1.sk)   := by with_reducible assumption
  have y3 : W0.cell? ⟨w.heap.size, 3, none⟩ = some (.int .i64 x.m1.th)   := by with_reducible assumption
  have y4 : W0.cell? ⟨w.heap.size, 4, none⟩ = some (.int .i64 x.m2.wd)   := by with_reducible assumption
  have y5 : W0.cell? ⟨w.heap.size, 5, none⟩ = some (.int .i64 x.m2.mt)   := by with_reducible assumption
  have y6 : W0.cell? ⟨w.heap.size, 6, none⟩ = some (.int .i64 x.m2.sk)   := by with_reducible assumption
  have y7 : W0.cell? ⟨w.heap.size, 7, none⟩ = some (.int .i64 x.m2.th)   := by with_reducible assumption
  have y8 : W0.cell? ⟨w.heap.size, 8, none⟩ = some (.int .i64 x.fx)   := by with_reducible assumption
  have y9 : W0.cell? ⟨w.heap.size, 9, none⟩ = some (.int .i64 x.fz)   := by with_reducible assumption
  have y10 : W0.cell? ⟨w.heap.size, 10, none⟩ = some (.int .i64 x.ax)   := by with_reducible assumption
  have y11 : W0.cell? ⟨w.heap.size, 11, none⟩ = some (.int .i64 x.az)   := by with_reducible assumption
  have y12 : W0.cell? ⟨w.heap.size, 12, none⟩ = some (.int .i64 x.tx)   := by with_reducible assumption
  have y13 : W0.cell? ⟨w.heap.size, 13, none⟩ = some (.int .i64 x.tz)   := by with_reducible assumption
  have y14 : W0.cell? ⟨w.heap.size + 1, 0, none⟩ = some (.int .i64 0)   := by with_reducible assumption
  have y15 : W0.cell? ⟨w.heap.size + 1, 1, none⟩ = some (.int .i64 0)   := by with_reducible assumption
  have yf0 : W0.frozen? ⟨w.heap.size + 1, 0, none⟩ = false   := by with_reducible assumption
  have yf1 : W0.frozen? ⟨w.heap.size + 1, 1, none⟩ = false   := by with_reducible assumption
  have yB0 : Below w.heap.size w W0 := by with_reducible assumption
  have yB := Lib.hid yB0; clear yB0
  have yz0 := World.block_lt_of_cell? _ _ y0
  dsimp only at yz0
  have yz1 := World.block_lt_of_cell? _ _ y14
  dsimp only at yz1
  clear hS
  rw [HE.out]
  go_wp2_with fail
  refine (H1'.out _).mono ?_
  rintro e w1 ⟨rfl, hb1⟩
  have qw10 : w1.cell? ⟨w.heap.size, 0, none⟩ = some (.int .i64 x.m1.wd) := cell_later hb1 (by simp [go_sem, World.cell?_alloc_past, World.frozen?_alloc_past, *])
  have qw11 : w1.cell? ⟨w.heap.size, 1, none⟩ = some (.int .i64 x.m1.mt) := cell_later hb1 (by simp [go_sem, World.cell?_alloc_past, World.frozen?_alloc_past, *])
  have qw12 : w1.cell? ⟨w.heap.size, 2, none⟩ = some (.int .i64 x.m1.sk) := cell_later hb1 (by simp [go_sem, World.cell?_alloc_past, World.frozen?_alloc_past, *])
  have qw13 : w1.cell? ⟨w.heap.size, 3, none⟩ = some (.int .i64 x.m1.th) := cell_later hb1 (by simp [go_sem, World.cell?_alloc_past, World.frozen?_alloc_past, *])
  have qw14 : w1.cell? ⟨w.heap.size, 4, none⟩ = some (.int .i64 x.m2.wd) := cell_later hb1 (by simp [go_sem, World.cell?_alloc_past, World.frozen?_alloc_past, *])
  have qw15 : w1.cell? ⟨w.heap.size, 5, none⟩ = some (.int .i64 x.m2.mt) := cell_later hb1 (by simp [go_sem, World.cell?_alloc_past, World.frozen?_alloc_past, *])
  have qw16 : w1.cell? ⟨w.heap.size, 6, none⟩ = some (.int .i64 x.m2.sk) := cell_later hb1 (by simp [go_sem, World.cell?_alloc_past, World.frozen?_alloc_past, *])
  have qw17 : w1.cell? ⟨w.heap.size, 7, none⟩ = some (.int .i64 x.m2.th) := cell_later hb1 (by simp [go_sem, World.cell?_alloc_past, World.frozen?_alloc_past, *])
  have qw18 : w1.cell? ⟨w.heap.size, 8, none⟩ = some (.int .i64 x.fx) := cell_later hb1 (by simp [go_sem, World.cell?_alloc_past, World.frozen?_alloc_past, *])
  have qw19 : w1.cell? ⟨w.heap.size, 9, none⟩ = some (.int .i64 x.fz) := cell_later hb1 (by simp [go_sem, World.cell?_alloc_past, World.frozen?_alloc_past, *])
  have qw110 : w1.cell? ⟨w.heap.size, 10, none⟩ = some (.int .i64 x.ax) := cell_later hb1 (by simp [go_sem, World.cell?_alloc_past, World.frozen?_alloc_past, *])
  have qw111 : w1.cell? ⟨w.heap.size, 11, none⟩ = some (.int .i64 x.az) := cell_later hb1 (by simp [go_sem, World.cell?_alloc_past, World.frozen?_alloc_past, *])
  have qw112 : w1.cell? ⟨w.heap.size, 12, none⟩ = some (.int .i64 x.tx) := cell_later hb1 (by simp [go_sem, World.cell?_alloc_past, World.frozen?_alloc_past, *])
  have qw113 : w1.cell? ⟨w.heap.size, 13, none⟩ = some (.int .i64 x.tz) := cell_later hb1 (by simp [go_sem, World.cell?_alloc_past, World.frozen?_alloc_past, *])
  have qw114 : w1.cell? ⟨w.heap.size + 1, 0, none⟩ = some (.int .i64 0) := cell_later hb1 (by simp [go_sem, World.cell?_alloc_past, World.frozen?_alloc_past, *])
  have qw115 : w1.cell? ⟨w.heap.size + 1, 1, none⟩ = some (.int .i64 0) := cell_later hb1 (by simp [go_sem, World.cell?_alloc_past, World.frozen?_alloc_past, *])
  have qw1f0 : w1.frozen? ⟨w.heap.size + 1, 0, none⟩ = false := frozen_after hb1 (v := .int .i64 0) (by simp [go_sem, World.cell?_alloc_past, World.frozen?_alloc_past, *]) (by simp [go_sem, World.cell?_alloc_past, World.frozen?_alloc_past, *])
  have qw1f1 : w1.frozen? ⟨w.heap.size + 1, 1, none⟩ = false := frozen_after hb1 (v := .int .i64 0) (by simp [go_sem, World.cell?_alloc_past, World.frozen?_alloc_past, *]) (by simp [go_sem, World.cell?_alloc_past, World.frozen?_alloc_past, *])
  have zqw1_0 := World.block_lt_of_cell? _ _ qw10
  dsimp only at zqw1_0
  have zqw1_14 := World.block_lt_of_cell? _ _ qw114
  dsimp only at zqw1_14
  have H1 : Hid (Below w.heap.size w w1) := Lib.hid (below_then (by (repeat (first | (with_reducible exact yB.out) | (with_reducible refine Below.setCell ?_ ?_ _) | (with_reducible refine below_alloc_top ?_ _) | (with_reducible refine Below.drew ?_))); all_goals (first | omega | (simp; done) | (simp; omega))) hb1); clear hb1
  go_wp2_with fail
  refine (H2'.out _).mono ?_
  rintro e w2 ⟨rfl, hb2⟩
  have qw20 : w2.cell? ⟨w.heap.size, 0, none⟩ = some (.int .i64 x.m1.wd) := cell_later hb2 (by simp [go_sem, World.cell?_alloc_past, World.frozen?_alloc_past, *])
  have qw21 : w2.cell? ⟨w.heap.size + 1, 0, none⟩ = some (.int .i64 0) := cell_later hb2 (by simp [go_sem, World.cell?_alloc_past, World.frozen?_alloc_past, *])
  have qw22 : w2.cell? ⟨w.heap.size + 1, 1, none⟩ = some (.int .i64 0) := cell_later hb2 (by simp [go_sem, World.cell?_alloc_past, World.frozen?_alloc_past, *])
  have qw23 : w2.cell? ⟨w1.heap.size, 0, none⟩ = some (.int .i64 A1) := cell_later hb2 (by simp [go_sem, World.cell?_alloc_past, World.frozen?_alloc_past, *])
  have qw24 : w2.cell? ⟨w1.heap.size, 1, none⟩ = some (.int .i64 B1) := cell_later hb2 (by simp [go_sem, World.cell?_alloc_past, World.frozen?_alloc_past, *])
  have qw2f0 : w2.frozen? ⟨w.heap.size + 1, 0, none⟩ = false := frozen_after hb2 (v := .int .i64 0) (by simp [go_sem, World.cell?_alloc_past, World.frozen?_alloc_past, *]) (by simp [go_sem, World.cell?_alloc_past, World.frozen?_alloc_past, *])
  have qw2f1 : w2.frozen? ⟨w.heap.size + 1, 1, none⟩ = false := frozen_after hb2 (v := .int .i64 0) (by simp [go_sem, World.cell?_alloc_past, World.frozen?_alloc_past, *]) (by simp [go_sem, World.cell?_alloc_past, World.frozen?_alloc_past, *])
  have zqw2_0 := World.block_lt_of_cell? _ _ qw20
  dsimp only at zqw2_0
  have zqw2_1 := World.block_lt_of_cell? _ _ qw21
  dsimp only at zqw2_1
  have zqw2_3 := World.block_lt_of_cell? _ _ qw23
  dsimp only at zqw2_3
  have H2 : Hid (Below w.heap.size w w2) := Lib.hid (below_then (by (repeat (first | (with_reducible exact H1.out) | (with_reducible refine Below.setCell ?_ ?_ _) | (with_reducible refine below_alloc_top ?_ _) | (with_reducible refine Below.drew ?_))); all_goals (first | omega | (simp; done) | (simp; omega))) hb2); clear hb2
  go_wp2_with (first
    | (go_at_call 93; refine (firstError_any _ [r1, r2] _ (by simp) (by first | exact cells_drew _ _ (by simp) _ _ | exact cells_new _ _ (by simp) _ _)).mono ?_; rintro e w' ⟨rfl, rfl⟩; rw [HR.out])
    | fail)
  refine (sumOf_any A1 B1 A2 B2 _ k0 k2 k4 k6 (by omega) (by omega) (by omega) (by omega)).mono ?_
  rintro e w3 ⟨rfl, hb3⟩
  have qw30 : w3.cell? ⟨w.heap.size, 0, none⟩ = some (.int .i64 x.m1.wd) := cell_later hb3 (by simp [go_sem, World.cell?_alloc_past, World.frozen?_alloc_past, *])
  have qw31 : w3.cell? ⟨w.heap.size + 1, 0, none⟩ = some (.int .i64 0) := cell_later hb3 (by simp [go_sem, World.cell?_alloc_past, World.frozen?_alloc_past, *])
  have qw32 : w3.cell? ⟨w.heap.size + 1, 1, none⟩ = some (.int .i64 0) := cell_later hb3 (by simp [go_sem, World.cell?_alloc_past, World.frozen?_alloc_past, *])
  have qw3f0 : w3.frozen? ⟨w.heap.size + 1, 0, none⟩ = false := frozen_after hb3 (v := .int .i64 0) (by simp [go_sem, World.cell?_alloc_past, World.frozen?_alloc_past, *]) (by simp [go_sem, World.cell?_alloc_past, World.frozen?_alloc_past, *])
  have qw3f1 : w3.frozen? ⟨w.heap.size + 1, 1, none⟩ = false := frozen_after hb3 (v := .int .i64 0) (by simp [go_sem, World.cell?_alloc_past, World.frozen?_alloc_past, *]) (by simp [go_sem, World.cell?_alloc_past, World.frozen?_alloc_past, *])
  have zqw3_0 := World.block_lt_of_cell? _ _ qw30
  dsimp only at zqw3_0
  have zqw3_1 := World.block_lt_of_cell? _ _ qw31
  dsimp only at zqw3_1
  have H3 : Hid (Below w.heap.size w w3) := Lib.hid (below_then (by (repeat (first | (with_reducible exact H2.out) | (with_reducible refine Below.setCell ?_ ?_ _) | (with_reducible refine below_alloc_top ?_ _) | (with_reducible refine Below.drew ?_))); all_goals (first | omega | (simp; done) | (simp; omega))) hb3); clear hb3
  go_wp2
  exact bodyPost_ret (v := .tuple #[.agg #[.int .i64 (A1 + A2), .int .i64 (B1 + B2)], .int .i64 0]) (by simp [results, Try.results61, go_sem, World.cell?_alloc_past, *]) rfl ⟨rfl, (by (repeat (first | (with_reducible exact H3.out) | (with_reducible refine Below.setCell ?_ ?_ _) | (with_reducible refine below_alloc_top ?_ _) | (with_reducible refine Below.drew ?_))); all_goals (first | omega | (simp; done) | (simp; omega)))⟩
end Go.Proofs.Ytdicndakelgoeaa
