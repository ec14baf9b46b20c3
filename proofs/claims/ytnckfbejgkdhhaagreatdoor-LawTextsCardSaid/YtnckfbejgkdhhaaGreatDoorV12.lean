/- Spread -/
import Derived.Test.YtnckfbejgkdhhaaGreatDoorV11
namespace Go.Proofs.YtnckfbejgkdhhaaGreatDoor
open Go.RowKit Go.Shelf RayM
set_option linter.unusedSimpArgs false
set_option linter.unusedVariables false
set_option maxRecDepth 100000 in
set_option maxHeartbeats 1000000 in
theorem spread_any (a : La) (d : Dl) (f : Sp) (A : Option Addr) (c : Nat) (B : Option Addr) (e : Nat) (w : World) (h : SpAt A a.n a.p w) (g : InAt B a.n d.t w) (hm : a.n ≤ 16) (k0 : 1 ≤ d.ck) (k1 : d.ck ≤ 1000000) (tb : ∀ i, i < a.n → -1 ≤ d.t i ∧ d.t i ≤ 1000000) :
    Calls Tryz.prog 33 #[.agg #[.slice A a.n c, .int .i64 a.m.wd, .int .i64 a.m.mt, .int .i64 a.m.sk, .int .i64 a.m.th, .int .i64 a.ck], .agg #[.int .i64 d.ck, .slice B a.n e], .agg #[.int .i64 f.x, .int .i64 f.z]] w fun e w' => e = .returned (.tuple #[.agg #[.int .i64 (a.spLo d f), .int .i64 (a.spHi d f)], .int .i64 (a.spE d f)]) ∧ Below w.heap.size w w' := by
  by_cases hz : a.fe f = 0
  · by_cases hs : a.sm d = 0
    · have e1 : a.spE d f = 12 := by unfold La.spE; rw [if_pos hz, if_pos hs]
      have e2 : a.spLo d f = 0 := by unfold La.spLo; rw [e1]; rfl
      have e3 : a.spHi d f = 0 := by unfold La.spHi; rw [e1]; rfl
      rw [e1, e2, e3]; exact spread_none a d f A c B e w h g hm k0 k1 tb hz hs
    · have e1 : a.spE d f = 0 := by unfold La.spE; rw [if_pos hz, if_neg hs]
      have e2 : a.spLo d f = max (mxL (sdX a f d) (a.sm d) - mnL (sdY a f d) (a.sm d)) 0 := by unfold La.spLo; rw [if_pos e1]
      have e3 : a.spHi d f = mxL (sdY a f d) (a.sm d) - mnL (sdX a f d) (a.sm d) := by unfold La.spHi; rw [if_pos e1]
      rw [e1, e2, e3]; exact spread_ok a d f A c B e w h g hm k0 k1 tb hz (by omega)
  · have e1 : a.spE d f = a.fe f := by unfold La.spE; rw [if_neg hz]
    have e2 : a.spLo d f = 0 := by unfold La.spLo; rw [e1, if_neg hz]
    have e3 : a.spHi d f = 0 := by unfold La.spHi; rw [e1, if_neg hz]
    rw [e1, e2, e3]; exact spread_bad a d f A c B e w h g hm k0 k1 tb hz
theorem paE_zero (a : La) (d : Dl) : paE a d = 0 ↔ a.E = 0 ∧ d.E = 0 ∧ a.n = d.n := by
  unfold paE
  rw [fst_zero]
  simp only [List.mem_cons, List.not_mem_nil, or_false, forall_eq_or_imp, forall_eq, unl_zero _ _ (show (10 : Int) ≠ 0 by decide), beq_iff_eq]
  omega
def La.SE (a : La) (d : Dl) (f : Sp) : Int := if paE a d = 0 then a.spE d f else paE a d
def La.SLo (a : La) (d : Dl) (f : Sp) : Int := if paE a d = 0 then a.spLo d f else 0
def La.SHi (a : La) (d : Dl) (f : Sp) : Int := if paE a d = 0 then a.spHi d f else 0
set_option maxRecDepth 100000 in
set_option maxHeartbeats 1000000 in
theorem spreadOf_any (a : La) (d : Dl) (f : Sp) (A : Option Addr) (c : Nat) (B : Option Addr) (e : Nat) (w : World) (h : SpAt A a.n a.p w) (g : InAt B d.n d.t w) (hm : a.n ≤ 9223372036854775807) (km : d.n ≤ 9223372036854775807) :
    Calls Tryz.prog 15 #[.agg #[.slice A a.n c, .int .i64 a.m.wd, .int .i64 a.m.mt, .int .i64 a.m.sk, .int .i64 a.m.th, .int .i64 a.ck], .agg #[.int .i64 d.ck, .slice B d.n e], .agg #[.int .i64 f.x, .int .i64 f.z]] w fun e w' => e = .returned (.tuple #[.agg #[.int .i64 (a.SLo d f), .int .i64 (a.SHi d f)], .int .i64 (a.SE d f)]) ∧ Below w.heap.size w w' := by
  have HX := Lib.hid h; clear h
  have HT := Lib.hid g; clear g
  have HP := Lib.hid (fun w h g => pairErr_any a d A c B e w h g hm km)
  by_cases hE : paE a d = 0
  · obtain ⟨qa, qd, qn⟩ := (paE_zero a d).1 hE
    obtain ⟨⟨n0, n1⟩, _, _, _, _⟩ := (La.E_zero a).1 qa
    obtain ⟨⟨k0, k1⟩, _, tb⟩ := (Dl.E_zero d).1 qd
    have HS : Hid (∀ w, SpAt A a.n a.p w → InAt B d.n d.t w → Calls Tryz.prog 33 #[.agg #[.slice A a.n c, .int .i64 a.m.wd, .int .i64 a.m.mt, .int .i64 a.m.sk, .int .i64 a.m.th, .int .i64 a.ck], .agg #[.int .i64 d.ck, .slice B d.n e], .agg #[.int .i64 f.x, .int .i64 f.z]] w fun e w' => e = .returned (.tuple #[.agg #[.int .i64 (a.spLo d f), .int .i64 (a.spHi d f)], .int .i64 (a.spE d f)]) ∧ Below w.heap.size w w') := Lib.hid (fun w h g => by
      rw [← qn] at g ⊢
      exact spread_any a d f A c B e w h g n1 k0 k1 (fun i hi => tb i (by omega)))
    have e1 : a.SE d f = a.spE d f := by unfold La.SE; rw [if_pos hE]
    have e2 : a.SLo d f = a.spLo d f := by unfold La.SLo; rw [if_pos hE]
    have e3 : a.SHi d f = a.spHi d f := by unfold La.SHi; rw [if_pos hE]
    rw [e1, e2, e3]; rw [hE] at HP
    generalize a.spE d f = vE at *
    generalize a.spLo d f = vL at *
    generalize a.spHi d f = vH at *
    clear e1 e2 e3 hE qa qd n0 n1 k0 k1 tb qn
    go_enter Tryz.func15, Tryz.ntmps15
    go_wp2_with fail
    refine (HP.out _ (HX.out.later (by repeat (first | exact Below.refl _ _ | refine Below.drew ?_ | refine below_drewN ?_ _ | refine Below.setCell ?_ (by first | omega | (simp; done) | (simp; omega)) _ | refine Below.alloc ?_ (by first | omega | (simp; done) | (simp; omega)) _))) (HT.out.later (by repeat (first | exact Below.refl _ _ | refine Below.drew ?_ | refine below_drewN ?_ _ | refine Below.setCell ?_ (by first | omega | (simp; done) | (simp; omega)) _ | refine Below.alloc ?_ (by first | omega | (simp; done) | (simp; omega)) _)))).mono ?_
    rintro e w1 ⟨rfl, hb1⟩
    have qw10 : w1.cell? ⟨w.heap.size, 0, none⟩ = some (.slice A a.n c) := cell_later hb1 (by simp [go_sem])
    have qw11 : w1.cell? ⟨w.heap.size, 1, none⟩ = some (.int .i64 a.m.wd) := cell_later hb1 (by simp [go_sem])
    have qw12 : w1.cell? ⟨w.heap.size, 2, none⟩ = some (.int .i64 a.m.mt) := cell_later hb1 (by simp [go_sem])
    have qw13 : w1.cell? ⟨w.heap.size, 3, none⟩ = some (.int .i64 a.m.sk) := cell_later hb1 (by simp [go_sem])
    have qw14 : w1.cell? ⟨w.heap.size, 4, none⟩ = some (.int .i64 a.m.th) := cell_later hb1 (by simp [go_sem])
    have qw15 : w1.cell? ⟨w.heap.size, 5, none⟩ = some (.int .i64 a.ck) := cell_later hb1 (by simp [go_sem])
    have qw16 : w1.cell? ⟨w.heap.size + 1, 0, none⟩ = some (.int .i64 d.ck) := cell_later hb1 (by simp [go_sem])
    have qw17 : w1.cell? ⟨w.heap.size + 1, 1, none⟩ = some (.slice B d.n e) := cell_later hb1 (by simp [go_sem])
    have qw18 : w1.cell? ⟨w.heap.size + 1 + 1, 0, none⟩ = some (.int .i64 f.x) := cell_later hb1 (by simp [go_sem])
    have qw19 : w1.cell? ⟨w.heap.size + 1 + 1, 1, none⟩ = some (.int .i64 f.z) := cell_later hb1 (by simp [go_sem])
    have qw110 : w1.cell? ⟨w.heap.size + 1 + 1 + 1, 0, none⟩ = some (.int .i64 0) := cell_later hb1 (by simp [go_sem])
    have qw111 : w1.cell? ⟨w.heap.size + 1 + 1 + 1, 1, none⟩ = some (.int .i64 0) := cell_later hb1 (by simp [go_sem])
    have qw1f0 : w1.frozen? ⟨w.heap.size + 1 + 1 + 1, 0, none⟩ = false := frozen_after hb1 (v := .int .i64 0) (by simp [go_sem]) (by simp [go_sem])
    have qw1f1 : w1.frozen? ⟨w.heap.size + 1 + 1 + 1, 1, none⟩ = false := frozen_after hb1 (v := .int .i64 0) (by simp [go_sem]) (by simp [go_sem])
    have zqw1_0 := World.block_lt_of_cell? _ _ qw10
    dsimp only at zqw1_0
    have zqw1_6 := World.block_lt_of_cell? _ _ qw16
    dsimp only at zqw1_6
    have zqw1_8 := World.block_lt_of_cell? _ _ qw18
    dsimp only at zqw1_8
    have zqw1_10 := World.block_lt_of_cell? _ _ qw110
    dsimp only at zqw1_10
    have H1 : Hid (Below w.heap.size w w1) := Lib.hid (below_after (by repeat (first | exact Below.refl _ _ | refine Below.drew ?_ | refine below_drewN ?_ _ | refine Below.setCell ?_ (by first | omega | (simp; done) | (simp; omega)) _ | refine Below.alloc ?_ (by first | omega | (simp; done) | (simp; omega)) _)) hb1 (by first | omega | (simp; done) | (simp; omega))); clear hb1
    go_wp2_with fail
    refine (HS.out _ (HX.out.later H1.out) (HT.out.later H1.out)).mono ?_
    rintro e w2 ⟨rfl, hb2⟩
    have qw20 : w2.cell? ⟨w.heap.size + 1 + 1 + 1, 0, none⟩ = some (.int .i64 0) := cell_later hb2 (by simp [go_sem, World.cell?_alloc_past, World.frozen?_alloc_past, *])
    have qw21 : w2.cell? ⟨w.heap.size + 1 + 1 + 1, 1, none⟩ = some (.int .i64 0) := cell_later hb2 (by simp [go_sem, World.cell?_alloc_past, World.frozen?_alloc_past, *])
    have qw2f0 : w2.frozen? ⟨w.heap.size + 1 + 1 + 1, 0, none⟩ = false := frozen_after hb2 (v := .int .i64 0) (by simp [go_sem, World.cell?_alloc_past, World.frozen?_alloc_past, *]) (by simp [go_sem, World.cell?_alloc_past, World.frozen?_alloc_past, *])
    have qw2f1 : w2.frozen? ⟨w.heap.size + 1 + 1 + 1, 1, none⟩ = false := frozen_after hb2 (v := .int .i64 0) (by simp [go_sem, World.cell?_alloc_past, World.frozen?_alloc_past, *]) (by simp [go_sem, World.cell?_alloc_past, World.frozen?_alloc_past, *])
    have zqw2_0 := World.block_lt_of_cell? _ _ qw20
    dsimp only at zqw2_0
    have H2 : Hid (Below w.heap.size w w2) := Lib.hid (below_then (by (repeat (first | (with_reducible exact H1.out) | (with_reducible refine Below.setCell ?_ ?_ _) | (with_reducible refine below_alloc_top ?_ _) | (with_reducible refine Below.drew ?_))); all_goals (first | omega | (simp; done) | (simp; omega))) hb2); clear hb2
    go_wp2
    exact bodyPost_ret (v := .tuple #[.agg #[.int .i64 (vL), .int .i64 (vH)], .int .i64 (vE)]) (by simp [results, Tryz.results15, go_sem, World.cell?_alloc_past, *]) rfl ⟨rfl, (by (repeat (first | (with_reducible exact H2.out) | (with_reducible refine Below.setCell ?_ ?_ _) | (with_reducible refine below_alloc_top ?_ _) | (with_reducible refine Below.drew ?_))); all_goals (first | omega | (simp; done) | (simp; omega)))⟩
  · have e1 : a.SE d f = paE a d := by unfold La.SE; rw [if_neg hE]
    have e2 : a.SLo d f = 0 := by unfold La.SLo; rw [if_neg hE]
    have e3 : a.SHi d f = 0 := by unfold La.SHi; rw [if_neg hE]
    rw [e1, e2, e3]
    have n1 : (paE a d != 0) = true := by simpa using hE
    generalize paE a d = u0 at *
    clear e1 e2 e3 hE
    go_enter Tryz.func15, Tryz.ntmps15
    go_wp2_with fail
    refine (HP.out _ (HX.out.later (by repeat (first | exact Below.refl _ _ | refine Below.drew ?_ | refine below_drewN ?_ _ | refine Below.setCell ?_ (by first | omega | (simp; done) | (simp; omega)) _ | refine Below.alloc ?_ (by first | omega | (simp; done) | (simp; omega)) _))) (HT.out.later (by repeat (first | exact Below.refl _ _ | refine Below.drew ?_ | refine below_drewN ?_ _ | refine Below.setCell ?_ (by first | omega | (simp; done) | (simp; omega)) _ | refine Below.alloc ?_ (by first | omega | (simp; done) | (simp; omega)) _)))).mono ?_
    rintro e w1 ⟨rfl, hb1⟩
    have qw10 : w1.cell? ⟨w.heap.size, 0, none⟩ = some (.slice A a.n c) := cell_later hb1 (by simp [go_sem])
    have qw11 : w1.cell? ⟨w.heap.size, 1, none⟩ = some (.int .i64 a.m.wd) := cell_later hb1 (by simp [go_sem])
    have qw12 : w1.cell? ⟨w.heap.size, 2, none⟩ = some (.int .i64 a.m.mt) := cell_later hb1 (by simp [go_sem])
    have qw13 : w1.cell? ⟨w.heap.size, 3, none⟩ = some (.int .i64 a.m.sk) := cell_later hb1 (by simp [go_sem])
    have qw14 : w1.cell? ⟨w.heap.size, 4, none⟩ = some (.int .i64 a.m.th) := cell_later hb1 (by simp [go_sem])
    have qw15 : w1.cell? ⟨w.heap.size, 5, none⟩ = some (.int .i64 a.ck) := cell_later hb1 (by simp [go_sem])
    have qw16 : w1.cell? ⟨w.heap.size + 1, 0, none⟩ = some (.int .i64 d.ck) := cell_later hb1 (by simp [go_sem])
    have qw17 : w1.cell? ⟨w.heap.size + 1, 1, none⟩ = some (.slice B d.n e) := cell_later hb1 (by simp [go_sem])
    have qw18 : w1.cell? ⟨w.heap.size + 1 + 1, 0, none⟩ = some (.int .i64 f.x) := cell_later hb1 (by simp [go_sem])
    have qw19 : w1.cell? ⟨w.heap.size + 1 + 1, 1, none⟩ = some (.int .i64 f.z) := cell_later hb1 (by simp [go_sem])
    have qw110 : w1.cell? ⟨w.heap.size + 1 + 1 + 1, 0, none⟩ = some (.int .i64 0) := cell_later hb1 (by simp [go_sem])
    have qw111 : w1.cell? ⟨w.heap.size + 1 + 1 + 1, 1, none⟩ = some (.int .i64 0) := cell_later hb1 (by simp [go_sem])
    have qw1f0 : w1.frozen? ⟨w.heap.size + 1 + 1 + 1, 0, none⟩ = false := frozen_after hb1 (v := .int .i64 0) (by simp [go_sem]) (by simp [go_sem])
    have qw1f1 : w1.frozen? ⟨w.heap.size + 1 + 1 + 1, 1, none⟩ = false := frozen_after hb1 (v := .int .i64 0) (by simp [go_sem]) (by simp [go_sem])
    have zqw1_0 := World.block_lt_of_cell? _ _ qw10
    dsimp only at zqw1_0
    have zqw1_6 := World.block_lt_of_cell? _ _ qw16
    dsimp only at zqw1_6
    have zqw1_8 := World.block_lt_of_cell? _ _ qw18
    dsimp only at zqw1_8
    have zqw1_10 := World.block_lt_of_cell? _ _ qw110
    dsimp only at zqw1_10
    have H1 : Hid (Below w.heap.size w w1) := Lib.hid (below_after (by repeat (first | exact Below.refl _ _ | refine Below.drew ?_ | refine below_drewN ?_ _ | refine Below.setCell ?_ (by first | omega | (simp; done) | (simp; omega)) _ | refine Below.alloc ?_ (by first | omega | (simp; done) | (simp; omega)) _)) hb1 (by first | omega | (simp; done) | (simp; omega))); clear hb1
    go_wp2
    exact bodyPost_ret (v := .tuple #[.agg #[.int .i64 (0), .int .i64 (0)], .int .i64 (u0)]) (by simp [results, Tryz.results15, go_sem, World.cell?_alloc_past, *]) rfl ⟨rfl, (by (repeat (first | (with_reducible exact H1.out) | (with_reducible refine Below.setCell ?_ ?_ _) | (with_reducible refine below_alloc_top ?_ _) | (with_reducible refine Below.drew ?_))); all_goals (first | omega | (simp; done) | (simp; omega)))⟩
end Go.Proofs.YtnckfbejgkdhhaaGreatDoor
