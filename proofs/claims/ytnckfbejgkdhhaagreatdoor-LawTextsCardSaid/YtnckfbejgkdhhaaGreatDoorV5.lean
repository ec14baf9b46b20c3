/- errors of arrays, of laws, and of both -/
import Derived.Test.YtnckfbejgkdhhaaGreatDoorV4
namespace Go.Proofs.YtnckfbejgkdhhaaGreatDoor
open Go.RowKit RayM
set_option linter.unusedSimpArgs false
set_option linter.unusedVariables false

/-- an array that laws and arrivals are asked of, and a law -/
structure La where
  p : Nat → Sp
  n : Nat
  m : Mo
  ck : Int
structure Dl where
  ck : Int
  t : Nat → Int
  n : Nat
def ctE (n lim : Int) : Int := fst [unl (decide (0 < n)) 10, unl (decide (n ≤ lim)) 8]
theorem ctE_zero (n lim : Int) : ctE n lim = 0 ↔ 0 < n ∧ n ≤ lim := by
  unfold ctE
  rw [fst_zero]
  simp only [List.mem_cons, List.not_mem_nil, or_false, forall_eq_or_imp, forall_eq, unl_zero _ _ (show (10 : Int) ≠ 0 by decide), unl_zero _ _ (show (8 : Int) ≠ 0 by decide), decide_eq_true_eq]
def La.g (a : La) (i : Nat) : Int := elE (a.p i)
/-- the error of an array, and its number -/
def La.E2 (a : La) : Int := fst [ffE a.g 0 a.n, moE a.m, unl (inB a.ck 1 1000000) 2]
def La.E (a : La) : Int := if ctE a.n 16 = 0 then a.E2 else ctE a.n 16
def La.I (a : La) : Nat := if ctE a.n 16 = 0 then ffI a.g 0 a.n else 0
def Dl.g (d : Dl) (i : Nat) : Int := unl (inB (d.t i) (-1) 1000000) 2
def Dl.E1 (d : Dl) : Int := fst [unl (inB d.ck 1 1000000) 2, ctE d.n 16]
def Dl.E (d : Dl) : Int := if d.E1 = 0 then ffE d.g 0 d.n else d.E1
def Dl.I (d : Dl) : Nat := if d.E1 = 0 then ffI d.g 0 d.n else 0
/-- the error of both -/
def paE (a : La) (d : Dl) : Int := fst [a.E, d.E, unl ((a.n : Int) == (d.n : Int)) 10]
set_option maxRecDepth 100000 in
set_option maxHeartbeats 1000000 in
theorem count16_any (n : Int) (w : World) : Calls Tryz.prog 64 #[.int .i64 n, .int .i64 16] w fun e w' => e = .returned (.int .i64 (ctE n 16)) ∧ Below w.heap.size w w' := by
  unfold ctE
  by_cases h1 : 0 < n
  · rw [decide_eq_true h1]
    by_cases h2 : n ≤ 16
    · rw [decide_eq_true h2]
      go_enter Tryz.func64, Tryz.ntmps64
      go_wp2_with (first
        | (go_at_call 23; (with_reducible refine (unless_any _ _ _).mono ?_); rintro e w' ⟨rfl, rfl⟩)
        | (go_at_call 22; refine (firstError_any _ [unl true 10, unl true 8] _ (by simp) (by first | exact cells_drew _ _ (by simp) _ _ | exact cells_new _ _ (by simp) _ _)).mono ?_; rintro e w' ⟨rfl, rfl⟩))
      go_ret
      exact ⟨rfl, (by repeat (first | exact Below.refl _ _ | refine Below.drew ?_ | refine below_drewN ?_ _ | refine Below.setCell ?_ (by first | omega | (simp; done) | (simp; omega)) _ | refine Below.alloc ?_ (by first | omega | (simp; done) | (simp; omega)) _))⟩
    · rw [decide_eq_false h2]
      have h2' : 16 < n := by omega
      have d2 : decide (n ≤ 16) = false := by simp; omega
      clear h2
      go_enter Tryz.func64, Tryz.ntmps64
      go_wp2_with (first
        | (go_at_call 23; (with_reducible refine (unless_any _ _ _).mono ?_); rintro e w' ⟨rfl, rfl⟩)
        | (go_at_call 22; refine (firstError_any _ [unl true 10, unl false 8] _ (by simp) (by first | exact cells_drew _ _ (by simp) _ _ | exact cells_new _ _ (by simp) _ _)).mono ?_; rintro e w' ⟨rfl, rfl⟩))
      go_ret
      exact ⟨rfl, (by repeat (first | exact Below.refl _ _ | refine Below.drew ?_ | refine below_drewN ?_ _ | refine Below.setCell ?_ (by first | omega | (simp; done) | (simp; omega)) _ | refine Below.alloc ?_ (by first | omega | (simp; done) | (simp; omega)) _))⟩
  · rw [decide_eq_false h1]
    by_cases h2 : n ≤ 16
    · rw [decide_eq_true h2]
      go_enter Tryz.func64, Tryz.ntmps64
      go_wp2_with (first
        | (go_at_call 23; (with_reducible refine (unless_any _ _ _).mono ?_); rintro e w' ⟨rfl, rfl⟩)
        | (go_at_call 22; refine (firstError_any _ [unl false 10, unl true 8] _ (by simp) (by first | exact cells_drew _ _ (by simp) _ _ | exact cells_new _ _ (by simp) _ _)).mono ?_; rintro e w' ⟨rfl, rfl⟩))
      go_ret
      exact ⟨rfl, (by repeat (first | exact Below.refl _ _ | refine Below.drew ?_ | refine below_drewN ?_ _ | refine Below.setCell ?_ (by first | omega | (simp; done) | (simp; omega)) _ | refine Below.alloc ?_ (by first | omega | (simp; done) | (simp; omega)) _))⟩
    · exact absurd (show n ≤ 16 by omega) h2
set_option maxRecDepth 100000 in
set_option maxHeartbeats 1000000 in
theorem clockErr_any (n : Int) (w : World) : Calls Tryz.prog 63 #[.int .i64 n] w fun e w' => e = .returned (.int .i64 (unl (inB n 1 1000000) 2)) ∧ w = w' := by
  go_enter Tryz.func63, Tryz.ntmps63
  go_wp2_with (go_at_call 34; (with_reducible refine (isWithin_any _ _ _ _).mono ?_); rintro e w' ⟨rfl, rfl⟩)
  go_ret
  exact ⟨rfl, rfl⟩
/-- the error of the elements of an array, and its place -/
def La.e0 (a : La) : Int := if ctE a.n 16 = 0 then ffE a.g 0 a.n else ctE a.n 16
def La.i0 (a : La) : Nat := if ctE a.n 16 = 0 then ffI a.g 0 a.n else 0
theorem La.E_eq (a : La) : a.E = fst [a.e0, moE a.m, unl (inB a.ck 1 1000000) 2] := by
  unfold La.E La.e0
  by_cases hc : ctE a.n 16 = 0
  · rw [if_pos hc, if_pos hc]; rfl
  · rw [if_neg hc, if_neg hc]
    show _ = (if ctE a.n 16 = 0 then _ else ctE a.n 16)
    rw [if_neg hc]
theorem La.I_eq (a : La) : a.I = a.i0 := rfl
set_option maxRecDepth 100000 in
set_option maxHeartbeats 1000000 in
theorem elements_any (a : La) (A : Option Addr) (c : Nat) (w : World) (h : SpAt A a.n a.p w) (hm : a.n ≤ 9223372036854775807) :
    Calls Tryz.prog 67 #[.slice A a.n c] w fun e w' => e = .returned (.tuple #[.int .i64 (a.i0 : Nat), .int .i64 a.e0]) ∧ Below w.heap.size w w' := by
  have HX := Lib.hid h; clear h
  have HC := Lib.hid (fun w => count16_any (a.n : Int) w)
  by_cases hc : ctE a.n 16 = 0
  · have hb := (ctE_zero _ _).1 hc
    have hE : a.e0 = ffE a.g 0 a.n := by unfold La.e0; rw [if_pos hc]
    have hI : a.i0 = ffI a.g 0 a.n := by unfold La.i0; rw [if_pos hc]
    rw [hE, hI]; rw [hc] at HC
    have HEA := Lib.hid (fun w h => each_ca A a.n c a.p a.g w (by omega) h (fun i _ W _ => ca1_any i (a.p i) W))
    generalize ffE a.g 0 a.n = u0 at *
    generalize ffI a.g 0 a.n = v0 at *
    clear hc hE hI
    go_enter Tryz.func67, Tryz.ntmps67
    go_wp2_with fail
    refine (HC.out _).mono ?_
    rintro e w1 ⟨rfl, hb1⟩
    have H1 := Lib.hid hb1; clear hb1
    go_wp2_with fail
    refine (HEA.out _ (HX.out.later H1.out)).mono ?_
    rintro e w2 ⟨rfl, hb2⟩
    have H2 := Lib.hid (below_then H1.out hb2); clear hb2
    go_wp2
    go_ret2
    exact ⟨rfl, H2.out⟩
  · have hE : a.e0 = ctE a.n 16 := by unfold La.e0; rw [if_neg hc]
    have hI : a.i0 = 0 := by unfold La.i0; rw [if_neg hc]
    rw [hE, hI]
    have n1 : (ctE a.n 16 != 0) = true := by simpa using hc
    generalize ctE a.n 16 = u0 at *
    clear hc hE hI
    go_enter Tryz.func67, Tryz.ntmps67
    go_wp2_with fail
    refine (HC.out _).mono ?_
    rintro e w1 ⟨rfl, hb1⟩
    have H1 := Lib.hid hb1; clear hb1
    go_wp2
    go_ret2
    exact ⟨rfl, H1.out⟩
set_option maxRecDepth 100000 in
set_option maxHeartbeats 1000000 in
theorem checkArray_any (a : La) (A : Option Addr) (c : Nat) (w : World) (h : SpAt A a.n a.p w) (hm : a.n ≤ 9223372036854775807) :
    Calls Tryz.prog 48 #[.agg #[.slice A a.n c, .int .i64 a.m.wd, .int .i64 a.m.mt, .int .i64 a.m.sk, .int .i64 a.m.th, .int .i64 a.ck]] w fun e w' => e = .returned (.tuple #[.int .i64 (a.I : Nat), .int .i64 a.E]) ∧ Below w.heap.size w w' := by
  have HX := Lib.hid h; clear h
  rw [La.E_eq, La.I_eq]
  have HC := Lib.hid (fun w h => elements_any a A c w h hm)
  have HM := Lib.hid (fun w => checkMode_any a.m w)
  generalize a.e0 = u0 at *
  generalize a.i0 = v0 at *
  generalize moE a.m = u1 at *
  go_enter Tryz.func48, Tryz.ntmps48
  go_wp2_with fail
  refine (HC.out _ (HX.out.later ((Below.refl _ _).alloc (Nat.le_refl _) _))).mono ?_
  rintro e w1 ⟨rfl, hb1⟩
  have qw10 : w1.cell? ⟨w.heap.size, 0, none⟩ = some (.slice A a.n c) := cell_later hb1 (by simp [go_sem])
  have qw11 : w1.cell? ⟨w.heap.size, 1, none⟩ = some (.int .i64 a.m.wd) := cell_later hb1 (by simp [go_sem])
  have qw12 : w1.cell? ⟨w.heap.size, 2, none⟩ = some (.int .i64 a.m.mt) := cell_later hb1 (by simp [go_sem])
  have qw13 : w1.cell? ⟨w.heap.size, 3, none⟩ = some (.int .i64 a.m.sk) := cell_later hb1 (by simp [go_sem])
  have qw14 : w1.cell? ⟨w.heap.size, 4, none⟩ = some (.int .i64 a.m.th) := cell_later hb1 (by simp [go_sem])
  have qw15 : w1.cell? ⟨w.heap.size, 5, none⟩ = some (.int .i64 a.ck) := cell_later hb1 (by simp [go_sem])
  have zqw1_0 := World.block_lt_of_cell? _ _ qw10
  dsimp only at zqw1_0
  have H1 : Hid (Below w.heap.size w w1) := Lib.hid (below_after (by repeat (first | exact Below.refl _ _ | refine Below.drew ?_ | refine below_drewN ?_ _ | refine Below.setCell ?_ (by first | omega | (simp; done) | (simp; omega)) _ | refine Below.alloc ?_ (by first | omega | (simp; done) | (simp; omega)) _)) hb1 (by first | omega | (simp; done) | (simp; omega))); clear hb1
  go_wp2
  have G2 := H1.out
  go_region_held3 (fun w' => w'.cell? ⟨w.heap.size, 0, none⟩ = some (.slice A a.n c) ∧ w'.cell? ⟨w.heap.size, 1, none⟩ = some (.int .i64 a.m.wd) ∧ w'.cell? ⟨w.heap.size, 2, none⟩ = some (.int .i64 a.m.mt) ∧ w'.cell? ⟨w.heap.size, 3, none⟩ = some (.int .i64 a.m.sk) ∧ w'.cell? ⟨w.heap.size, 4, none⟩ = some (.int .i64 a.m.th) ∧ w'.cell? ⟨w.heap.size, 5, none⟩ = some (.int .i64 a.ck) ∧ Below w.heap.size w w') (((go_split_ands; (repeat' apply And.intro) <;> first | (with_reducible assumption) | exact cell_later (by assumption) (by assumption) | exact frozen_after (by assumption) (by assumption) (by assumption) | exact below_then (by assumption) (by assumption) | exact below_alloc_top (by assumption) _ | exact cell_alloc_later (by assumption) _ | exact frozen_alloc_later (by assumption) (by assumption) _ | exact Below.drew (by assumption) | (simp [go_sem, World.cell?_alloc_past, *]; done))))
    (first
      | (go_at_call 68; (with_reducible refine (HM.out _).mono ?_); rintro e w' ⟨rfl, hb⟩)
      | (go_at_call 63; (with_reducible refine (clockErr_any _ _).mono ?_); rintro e w' ⟨rfl, rfl⟩)
      | (go_at_call 22; refine (firstError_any _ [u0, u1, unl (inB a.ck 1 1000000) 2] _ (by simp) (by first | exact cells_drew _ _ (by simp) _ _ | exact cells_new _ _ (by simp) _ _)).mono ?_; rintro e w' ⟨rfl, rfl⟩))
  go_split_ands
  go_wp2
  go_ret2
  exact ⟨rfl, by first | (with_reducible assumption) | (with_reducible exact Below.drew (by assumption)) | (with_reducible exact below_alloc_top (by assumption) _)⟩
set_option maxRecDepth 100000 in
set_option maxHeartbeats 1000000 in
theorem arrayErr_any (a : La) (A : Option Addr) (c : Nat) (w : World) (h : SpAt A a.n a.p w) (hm : a.n ≤ 9223372036854775807) :
    Calls Tryz.prog 30 #[.agg #[.slice A a.n c, .int .i64 a.m.wd, .int .i64 a.m.mt, .int .i64 a.m.sk, .int .i64 a.m.th, .int .i64 a.ck]] w fun e w' => e = .returned (.int .i64 a.E) ∧ Below w.heap.size w w' := by
  have HC := Lib.hid (fun w h => checkArray_any a A c w h hm)
  have HX := Lib.hid h; clear h
  generalize a.E = u0 at *
  generalize a.I = v0 at *
  go_enter Tryz.func30, Tryz.ntmps30
  go_wp2_with fail
  refine (HC.out _ (HX.out.later (by repeat (first | exact Below.refl _ _ | refine Below.drew ?_ | refine below_drewN ?_ _ | refine Below.setCell ?_ (by first | omega | (simp; done) | (simp; omega)) _ | refine Below.alloc ?_ (by first | omega | (simp; done) | (simp; omega)) _)))).mono ?_
  rintro e w1 ⟨rfl, hb1⟩
  have qw10 : w1.cell? ⟨w.heap.size, 0, none⟩ = some (.slice A a.n c) := cell_later hb1 (by simp [go_sem])
  have qw11 : w1.cell? ⟨w.heap.size, 1, none⟩ = some (.int .i64 a.m.wd) := cell_later hb1 (by simp [go_sem])
  have qw12 : w1.cell? ⟨w.heap.size, 2, none⟩ = some (.int .i64 a.m.mt) := cell_later hb1 (by simp [go_sem])
  have qw13 : w1.cell? ⟨w.heap.size, 3, none⟩ = some (.int .i64 a.m.sk) := cell_later hb1 (by simp [go_sem])
  have qw14 : w1.cell? ⟨w.heap.size, 4, none⟩ = some (.int .i64 a.m.th) := cell_later hb1 (by simp [go_sem])
  have qw15 : w1.cell? ⟨w.heap.size, 5, none⟩ = some (.int .i64 a.ck) := cell_later hb1 (by simp [go_sem])
  have zqw1_0 := World.block_lt_of_cell? _ _ qw10
  dsimp only at zqw1_0
  have H1 : Hid (Below w.heap.size w w1) := Lib.hid (below_after (by repeat (first | exact Below.refl _ _ | refine Below.drew ?_ | refine below_drewN ?_ _ | refine Below.setCell ?_ (by first | omega | (simp; done) | (simp; omega)) _ | refine Below.alloc ?_ (by first | omega | (simp; done) | (simp; omega)) _)) hb1 (by first | omega | (simp; done) | (simp; omega))); clear hb1
  go_wp2
  go_ret
  exact ⟨rfl, (by (repeat (first | (with_reducible exact H1.out) | (with_reducible refine Below.setCell ?_ ?_ _) | (with_reducible refine below_alloc_top ?_ _) | (with_reducible refine Below.drew ?_))); all_goals (first | omega | (simp; done) | (simp; omega)))⟩
set_option maxRecDepth 100000 in
set_option maxHeartbeats 1000000 in
theorem checkLaw_any (d : Dl) (A : Option Addr) (c : Nat) (w : World) (h : InAt A d.n d.t w) (hm : d.n ≤ 9223372036854775807) :
    Calls Tryz.prog 44 #[.agg #[.int .i64 d.ck, .slice A d.n c]] w fun e w' => e = .returned (.tuple #[.int .i64 (d.I : Nat), .int .i64 d.E]) ∧ Below w.heap.size w w' := by
  have HX := Lib.hid h; clear h
  have HC := Lib.hid (fun w => count16_any (d.n : Int) w)
  have hF : d.E1 = fst [unl (inB d.ck 1 1000000) 2, ctE d.n 16] := rfl
  by_cases hc : d.E1 = 0
  · have hE : d.E = ffE d.g 0 d.n := by unfold Dl.E; rw [if_pos hc]
    have hI : d.I = ffI d.g 0 d.n := by unfold Dl.I; rw [if_pos hc]
    rw [hE, hI]
    have hb : ctE d.n 16 = 0 := by rw [hF, fst_zero] at hc; exact hc _ (by simp)
    have hb2 := (ctE_zero _ _).1 hb
    rw [hF] at hc
    clear hF hb
    have HEA := Lib.hid (fun w h => each_cl A d.n c d.t d.g w (by omega) h (fun i _ W _ => cl1_any i (d.t i) W))
    generalize ffE d.g 0 d.n = u0 at *
    generalize ffI d.g 0 d.n = v0 at *
    generalize ctE d.n 16 = u1 at *
    have n0 : (fst [unl (inB d.ck 1 1000000) 2, u1] != 0) = false := by rw [hc]; rfl
    clear hE hI hc
    go_enter Tryz.func44, Tryz.ntmps44
    go_wp2
    have hS : Below w.heap.size w (w.alloc (.cells #[.int .i64 d.ck, .slice A d.n c] 24)) := (by repeat (first | exact Below.refl _ _ | refine Below.drew ?_ | refine below_drewN ?_ _ | refine Below.setCell ?_ (by first | omega | (simp; done) | (simp; omega)) _ | refine Below.alloc ?_ (by first | omega | (simp; done) | (simp; omega)) _))
    go_region_held3 (fun w' => w'.cell? ⟨w.heap.size, 0, none⟩ = some (.int .i64 d.ck) ∧ w'.cell? ⟨w.heap.size, 1, none⟩ = some (.slice A d.n c) ∧ Below w.heap.size w w') (((go_split_ands; (repeat' apply And.intro) <;> first | (with_reducible assumption) | exact cell_later (by assumption) (by assumption) | exact frozen_after (by assumption) (by assumption) (by assumption) | exact below_then (by assumption) (by assumption) | exact below_alloc_top (by assumption) _ | exact cell_alloc_later (by assumption) _ | exact frozen_alloc_later (by assumption) (by assumption) _ | exact Below.drew (by assumption) | (simp [go_sem, World.cell?_alloc_past, *]; done))))
      (first
        | (go_at_call 64; (with_reducible refine (HC.out _).mono ?_); rintro e w' ⟨rfl, hb⟩)
        | (go_at_call 63; (with_reducible refine (clockErr_any _ _).mono ?_); rintro e w' ⟨rfl, rfl⟩)
        | (go_at_call 22; refine (firstError_any _ [unl (inB d.ck 1 1000000) 2, u1] _ (by simp) (by first | exact cells_drew _ _ (by simp) _ _ | exact cells_new _ _ (by simp) _ _)).mono ?_; rintro e w' ⟨rfl, rfl⟩))
    go_split_ands
    generalize hW : w'.alloc (Obj.cells #[.int .i64 (unl (inB d.ck 1 1000000) 2), .int .i64 u1] 29) = W1 at *
    clear hW
    have y0 : W1.cell? ⟨w.heap.size, 0, none⟩ = some (.int .i64 d.ck)   := by with_reducible assumption
    have y1 : W1.cell? ⟨w.heap.size, 1, none⟩ = some (.slice A d.n c)   := by with_reducible assumption
    have yB0 : Below w.heap.size w W1 := by with_reducible assumption
    have yB := Lib.hid yB0; clear yB0
    have yz0 := World.block_lt_of_cell? _ _ y0
    dsimp only at yz0
    go_wp2_with fail
    refine (HEA.out _ (HX.out.later yB.out)).mono ?_
    rintro e w2 ⟨rfl, hb2⟩
    have qw20 : w2.cell? ⟨w.heap.size, 0, none⟩ = some (.int .i64 d.ck) := cell_later hb2 (by simp [go_sem, World.cell?_alloc_past, World.frozen?_alloc_past, *])
    have qw21 : w2.cell? ⟨w.heap.size, 1, none⟩ = some (.slice A d.n c) := cell_later hb2 (by simp [go_sem, World.cell?_alloc_past, World.frozen?_alloc_past, *])
    have zqw2_0 := World.block_lt_of_cell? _ _ qw20
    dsimp only at zqw2_0
    have H2 : Hid (Below w.heap.size w w2) := Lib.hid (below_then (by (repeat (first | (with_reducible exact yB.out) | (with_reducible refine Below.setCell ?_ ?_ _) | (with_reducible refine below_alloc_top ?_ _) | (with_reducible refine Below.drew ?_))); all_goals (first | omega | (simp; done) | (simp; omega))) hb2); clear hb2
    go_wp2
    go_ret2
    exact ⟨rfl, (by (repeat (first | (with_reducible exact H2.out) | (with_reducible refine Below.setCell ?_ ?_ _) | (with_reducible refine below_alloc_top ?_ _) | (with_reducible refine Below.drew ?_))); all_goals (first | omega | (simp; done) | (simp; omega)))⟩
  · have hE : d.E = d.E1 := by unfold Dl.E; rw [if_neg hc]
    have hI : d.I = 0 := by unfold Dl.I; rw [if_neg hc]
    rw [hE, hI, hF]
    rw [hF] at hc
    clear hF
    generalize ctE d.n 16 = u1 at *
    have n0 : (fst [unl (inB d.ck 1 1000000) 2, u1] != 0) = true := by simpa using hc
    clear hE hI hc
    go_enter Tryz.func44, Tryz.ntmps44
    go_wp2
    have hS : Below w.heap.size w (w.alloc (.cells #[.int .i64 d.ck, .slice A d.n c] 24)) := (by repeat (first | exact Below.refl _ _ | refine Below.drew ?_ | refine below_drewN ?_ _ | refine Below.setCell ?_ (by first | omega | (simp; done) | (simp; omega)) _ | refine Below.alloc ?_ (by first | omega | (simp; done) | (simp; omega)) _))
    go_region_held3 (fun w' => w'.cell? ⟨w.heap.size, 0, none⟩ = some (.int .i64 d.ck) ∧ w'.cell? ⟨w.heap.size, 1, none⟩ = some (.slice A d.n c) ∧ Below w.heap.size w w') (((go_split_ands; (repeat' apply And.intro) <;> first | (with_reducible assumption) | exact cell_later (by assumption) (by assumption) | exact frozen_after (by assumption) (by assumption) (by assumption) | exact below_then (by assumption) (by assumption) | exact below_alloc_top (by assumption) _ | exact cell_alloc_later (by assumption) _ | exact frozen_alloc_later (by assumption) (by assumption) _ | exact Below.drew (by assumption) | (simp [go_sem, World.cell?_alloc_past, *]; done))))
      (first
        | (go_at_call 64; (with_reducible refine (HC.out _).mono ?_); rintro e w' ⟨rfl, hb⟩)
        | (go_at_call 63; (with_reducible refine (clockErr_any _ _).mono ?_); rintro e w' ⟨rfl, rfl⟩)
        | (go_at_call 22; refine (firstError_any _ [unl (inB d.ck 1 1000000) 2, u1] _ (by simp) (by first | exact cells_drew _ _ (by simp) _ _ | exact cells_new _ _ (by simp) _ _)).mono ?_; rintro e w' ⟨rfl, rfl⟩))
    go_split_ands
    go_wp2
    go_ret2
    exact ⟨rfl, by first | (with_reducible assumption) | (with_reducible exact Below.drew (by assumption)) | (with_reducible exact below_alloc_top (by assumption) _)⟩
set_option maxRecDepth 100000 in
set_option maxHeartbeats 1000000 in
theorem lawErr_any (d : Dl) (A : Option Addr) (c : Nat) (w : World) (h : InAt A d.n d.t w) (hm : d.n ≤ 9223372036854775807) :
    Calls Tryz.prog 24 #[.agg #[.int .i64 d.ck, .slice A d.n c]] w fun e w' => e = .returned (.int .i64 d.E) ∧ Below w.heap.size w w' := by
  have HC := Lib.hid (fun w h => checkLaw_any d A c w h hm)
  have HX := Lib.hid h; clear h
  generalize d.E = u0 at *
  generalize d.I = v0 at *
  go_enter Tryz.func24, Tryz.ntmps24
  go_wp2_with fail
  refine (HC.out _ (HX.out.later (by repeat (first | exact Below.refl _ _ | refine Below.drew ?_ | refine below_drewN ?_ _ | refine Below.setCell ?_ (by first | omega | (simp; done) | (simp; omega)) _ | refine Below.alloc ?_ (by first | omega | (simp; done) | (simp; omega)) _)))).mono ?_
  rintro e w1 ⟨rfl, hb1⟩
  have qw10 : w1.cell? ⟨w.heap.size, 0, none⟩ = some (.int .i64 d.ck) := cell_later hb1 (by simp [go_sem])
  have qw11 : w1.cell? ⟨w.heap.size, 1, none⟩ = some (.slice A d.n c) := cell_later hb1 (by simp [go_sem])
  have zqw1_0 := World.block_lt_of_cell? _ _ qw10
  dsimp only at zqw1_0
  have H1 : Hid (Below w.heap.size w w1) := Lib.hid (below_after (by repeat (first | exact Below.refl _ _ | refine Below.drew ?_ | refine below_drewN ?_ _ | refine Below.setCell ?_ (by first | omega | (simp; done) | (simp; omega)) _ | refine Below.alloc ?_ (by first | omega | (simp; done) | (simp; omega)) _)) hb1 (by first | omega | (simp; done) | (simp; omega))); clear hb1
  go_wp2
  go_ret
  exact ⟨rfl, (by (repeat (first | (with_reducible exact H1.out) | (with_reducible refine Below.setCell ?_ ?_ _) | (with_reducible refine below_alloc_top ?_ _) | (with_reducible refine Below.drew ?_))); all_goals (first | omega | (simp; done) | (simp; omega)))⟩
set_option maxRecDepth 100000 in
set_option maxHeartbeats 1000000 in
theorem pairErr_any (a : La) (d : Dl) (A : Option Addr) (c : Nat) (B : Option Addr) (e : Nat) (w : World) (h : SpAt A a.n a.p w) (k : InAt B d.n d.t w) (hm : a.n ≤ 9223372036854775807) (km : d.n ≤ 9223372036854775807) :
    Calls Tryz.prog 32 #[.agg #[.slice A a.n c, .int .i64 a.m.wd, .int .i64 a.m.mt, .int .i64 a.m.sk, .int .i64 a.m.th, .int .i64 a.ck], .agg #[.int .i64 d.ck, .slice B d.n e]] w fun e w' => e = .returned (.int .i64 (paE a d)) ∧ Below w.heap.size w w' := by
  have HA := Lib.hid (fun w h => arrayErr_any a A c w h hm)
  have HD := Lib.hid (fun w h => lawErr_any d B e w h km)
  have HX := Lib.hid h; clear h
  have HY := Lib.hid k; clear k
  unfold paE
  generalize a.E = u0 at *
  generalize d.E = u1 at *
  go_enter Tryz.func32, Tryz.ntmps32
  go_wp2
  have hS : Below w.heap.size w ((w.alloc (.cells #[.slice A a.n c, .int .i64 a.m.wd, .int .i64 a.m.mt, .int .i64 a.m.sk, .int .i64 a.m.th, .int .i64 a.ck] 42)).alloc (.cells #[.int .i64 d.ck, .slice B d.n e] 24)) := (by repeat (first | exact Below.refl _ _ | refine Below.drew ?_ | refine below_drewN ?_ _ | refine Below.setCell ?_ (by first | omega | (simp; done) | (simp; omega)) _ | refine Below.alloc ?_ (by first | omega | (simp; done) | (simp; omega)) _))
  go_region_held3 (fun w' => w'.cell? ⟨w.heap.size, 0, none⟩ = some (.slice A a.n c) ∧ w'.cell? ⟨w.heap.size, 1, none⟩ = some (.int .i64 a.m.wd) ∧ w'.cell? ⟨w.heap.size, 2, none⟩ = some (.int .i64 a.m.mt) ∧ w'.cell? ⟨w.heap.size, 3, none⟩ = some (.int .i64 a.m.sk) ∧ w'.cell? ⟨w.heap.size, 4, none⟩ = some (.int .i64 a.m.th) ∧ w'.cell? ⟨w.heap.size, 5, none⟩ = some (.int .i64 a.ck) ∧ w'.cell? ⟨w.heap.size + 1, 0, none⟩ = some (.int .i64 d.ck) ∧ w'.cell? ⟨w.heap.size + 1, 1, none⟩ = some (.slice B d.n e) ∧ Below w.heap.size w w') (((go_split_ands; (repeat' apply And.intro) <;> first | (with_reducible assumption) | exact cell_later (by assumption) (by assumption) | exact frozen_after (by assumption) (by assumption) (by assumption) | exact below_then (by assumption) (by assumption) | exact below_alloc_top (by assumption) _ | exact cell_alloc_later (by assumption) _ | exact frozen_alloc_later (by assumption) (by assumption) _ | exact Below.drew (by assumption) | (simp [go_sem, World.cell?_alloc_past, *]; done))))
    (first
      | (go_split_ands; go_at_call 30; (with_reducible refine (HA.out _ (HX.out.later (by with_reducible assumption))).mono ?_); rintro e w' ⟨rfl, hb⟩)
      | (go_split_ands; go_at_call 24; (with_reducible refine (HD.out _ (HY.out.later (by with_reducible assumption))).mono ?_); rintro e w' ⟨rfl, hb⟩)
      | (go_at_call 23; (with_reducible refine (unless_any _ _ _).mono ?_); rintro e w' ⟨rfl, rfl⟩)
      | (go_at_call 22; refine (firstError_any _ [u0, u1, unl ((a.n : Int) == (d.n : Int)) 10] _ (by simp) (by first | exact cells_drew _ _ (by simp) _ _ | exact cells_new _ _ (by simp) _ _)).mono ?_; rintro e w' ⟨rfl, rfl⟩))
  go_split_ands
  go_wp2
  go_ret
  exact ⟨rfl, by first | (with_reducible assumption) | (with_reducible exact Below.drew (by assumption)) | (with_reducible exact below_alloc_top (by assumption) _)⟩
end Go.Proofs.YtnckfbejgkdhhaaGreatDoor
