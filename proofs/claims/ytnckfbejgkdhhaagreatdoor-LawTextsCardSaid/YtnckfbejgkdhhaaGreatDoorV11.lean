/- the spread at a place -/
import Derived.Test.YtnckfbejgkdhhaaGreatDoorV10
import Derived.Deep.DeepCutAuto
namespace Go.Proofs.YtnckfbejgkdhhaaGreatDoor
open Go.RowKit Go.Shelf RayM
set_option linter.unusedSimpArgs false
set_option linter.unusedVariables false

theorem setS {w : World} {p : Addr} {u v : Value} (h : w.cell? p = some u) : (w.setCell p v).cell? p = some v := by simp [go_sem, h]
theorem setS' {w : World} {p : Addr} {v : Value} (h : ∃ u, w.cell? p = some u) : (w.setCell p v).cell? p = some v := by
  obtain ⟨u, h⟩ := h
  exact setS h
theorem setO {w : World} {a p : Addr} {v x : Value} (hne : a.block ≠ p.block ∨ a.off ≠ p.off) (h : w.cell? a = some v) : (w.setCell p x).cell? a = some v := by
  rw [World.cell?_setCell_other w _ a x (fun e => by subst e; rcases hne with h | h <;> exact h rfl)]; exact h
theorem setF {w : World} {a p : Addr} {x : Value} (h : w.frozen? a = false) : (w.setCell p x).frozen? a = false := by simp [go_sem, h]
/-- the arrivals in their order -/
def sdX (a : La) (f : Sp) (d : Dl) (j : Nat) : Int := arL a f d.t d.ck ((sdL d.t a.n).getD j 0)
def sdY (a : La) (f : Sp) (d : Dl) (j : Nat) : Int := arH a f d.t d.ck ((sdL d.t a.n).getD j 0)
def La.sm (a : La) (d : Dl) : Nat := (sdL d.t a.n).length
/-- the spread of the arrivals at a place -/
def La.spE (a : La) (d : Dl) (f : Sp) : Int := if a.fe f = 0 then (if a.sm d = 0 then 12 else 0) else a.fe f
def La.spLo (a : La) (d : Dl) (f : Sp) : Int := if a.spE d f = 0 then max (mxL (sdX a f d) (a.sm d) - mnL (sdY a f d) (a.sm d)) 0 else 0
def La.spHi (a : La) (d : Dl) (f : Sp) : Int := if a.spE d f = 0 then mxL (sdY a f d) (a.sm d) - mnL (sdX a f d) (a.sm d) else 0
/-- the arrivals lie at a block -/
def RgAt (g m : Nat) (X Y : Nat → Int) (w : World) : Prop := ∀ j, j < m → w.cell? ⟨g, j * 2, none⟩ = some (.int .i64 (X j)) ∧ w.cell? ⟨g, j * 2 + 1, none⟩ = some (.int .i64 (Y j))
theorem RgAt.later {g m : Nat} {X Y : Nat → Int} {w w' : World} (r : RgAt g m X Y w) (hb : Below w.heap.size w w') : RgAt g m X Y w' := fun j hj => ⟨cell_later hb (r j hj).1, cell_later hb (r j hj).2⟩
theorem arV_at {l h t : Nat → Int} {n : Nat} {w : World} {b : Nat} {e : TypeId} {v : Value} (q : w.ownsRow b e 2 v (sdL t n).length (arV l h t n)) (hm : 0 < (sdL t n).length) : ∃ g c, v = .slice (some ⟨g, 0, none⟩) (sdL t n).length c ∧ g < w.heap.size ∧ RgAt g (sdL t n).length (fun j => l ((sdL t n).getD j 0)) (fun j => h ((sdL t n).getD j 0)) w := by
  obtain ⟨A, c, e, r⟩ := own_form q
  obtain ⟨g, rfl, _, hl, hc⟩ := r hm
  refine ⟨g, c, e, hl, fun j hj => ?_⟩
  obtain ⟨i, _, _, _, q2⟩ := sdF_get t n j hj
  have hg : (sdL t n).getD j 0 = i := by rw [List.getD_eq_getElem?_getD, q2]; rfl
  have k := flat2_get l h (sdL t n) j i q2
  show w.cell? _ = some (.int .i64 (l _)) ∧ w.cell? _ = some (.int .i64 (h _))
  rw [hg]
  exact ⟨hc _ _ k.1, hc _ _ k.2⟩
theorem xy_bounds (a : La) (d : Dl) (f : Sp) (hz : a.fe f = 0) (k0 : 1 ≤ d.ck) (k1 : d.ck ≤ 1000000) (tb : ∀ i, i < a.n → -1 ≤ d.t i ∧ d.t i ≤ 1000000) (j : Nat) (hj : j < (sdL d.t a.n).length) : -1000000 ≤ sdX a f d j ∧ sdX a f d j ≤ sdY a f d j ∧ sdY a f d j ≤ 200000000000000 := by
  obtain ⟨i, _, hi, _, q2⟩ := sdF_get d.t a.n j hj
  have hg : (sdL d.t a.n).getD j 0 = i := by rw [List.getD_eq_getElem?_getD, q2]; rfl
  have b := lh_bounds a f i ((ffE_zero _ _).1 hz i hi)
  have t := tick_bounds (d.t i) d.ck (tb i hi).1 (tb i hi).2 k0 k1
  unfold sdX sdY arL arH
  rw [hg]
  omega
set_option maxRecDepth 100000 in
set_option maxHeartbeats 1000000 in
theorem spread_bad (a : La) (d : Dl) (f : Sp) (A : Option Addr) (c : Nat) (B : Option Addr) (e : Nat) (w : World) (h : SpAt A a.n a.p w) (g : InAt B a.n d.t w) (hm : a.n ≤ 16) (k0 : 1 ≤ d.ck) (k1 : d.ck ≤ 1000000) (tb : ∀ i, i < a.n → -1 ≤ d.t i ∧ d.t i ≤ 1000000) (hz : a.fe f ≠ 0) :
    Calls Tryz.prog 33 #[.agg #[.slice A a.n c, .int .i64 a.m.wd, .int .i64 a.m.mt, .int .i64 a.m.sk, .int .i64 a.m.th, .int .i64 a.ck], .agg #[.int .i64 d.ck, .slice B a.n e], .agg #[.int .i64 f.x, .int .i64 f.z]] w fun e w' => e = .returned (.tuple #[.agg #[.int .i64 (0), .int .i64 (0)], .int .i64 (a.fe f)]) ∧ Below w.heap.size w w' := by
  have HX := Lib.hid h; clear h
  have HT := Lib.hid g; clear g
  have AR := Lib.hid (fun w h g => arrivals_any a d f A c B e w h g hm k0 k1 tb)
  have n1 : (a.fe f != 0) = true := by simpa using hz
  have FF : Hid (fst [a.fe f, unl false 12] = a.fe f) := by show _ = _; unfold fst; rw [if_neg hz]
  have HZ := Lib.hid hz; clear hz
  generalize a.fe f = E0 at *
  go_enter Tryz.func33, Tryz.ntmps33
  go_wp2_with fail
  refine (AR.out _ (HX.out.later (by repeat (first | exact Below.refl _ _ | refine Below.drew ?_ | refine below_drewN ?_ _ | refine Below.setCell ?_ (by first | omega | (simp; done) | (simp; omega)) _ | refine Below.alloc ?_ (by first | omega | (simp; done) | (simp; omega)) _))) (HT.out.later (by repeat (first | exact Below.refl _ _ | refine Below.drew ?_ | refine below_drewN ?_ _ | refine Below.setCell ?_ (by first | omega | (simp; done) | (simp; omega)) _ | refine Below.alloc ?_ (by first | omega | (simp; done) | (simp; omega)) _)))).mono ?_
  rintro e w1 ⟨v, rfl, hv0, hv1, hb1⟩
  have qw10 : w1.cell? ⟨w.heap.size, 0, none⟩ = some (.slice A a.n c) := cell_later hb1 (by simp [go_sem])
  have qw11 : w1.cell? ⟨w.heap.size, 1, none⟩ = some (.int .i64 a.m.wd) := cell_later hb1 (by simp [go_sem])
  have qw12 : w1.cell? ⟨w.heap.size, 2, none⟩ = some (.int .i64 a.m.mt) := cell_later hb1 (by simp [go_sem])
  have qw13 : w1.cell? ⟨w.heap.size, 3, none⟩ = some (.int .i64 a.m.sk) := cell_later hb1 (by simp [go_sem])
  have qw14 : w1.cell? ⟨w.heap.size, 4, none⟩ = some (.int .i64 a.m.th) := cell_later hb1 (by simp [go_sem])
  have qw15 : w1.cell? ⟨w.heap.size, 5, none⟩ = some (.int .i64 a.ck) := cell_later hb1 (by simp [go_sem])
  have qw16 : w1.cell? ⟨w.heap.size + 1, 0, none⟩ = some (.int .i64 d.ck) := cell_later hb1 (by simp [go_sem])
  have qw17 : w1.cell? ⟨w.heap.size + 1, 1, none⟩ = some (.slice B a.n e) := cell_later hb1 (by simp [go_sem])
  have qw18 : w1.cell? ⟨w.heap.size + 1 + 1, 0, none⟩ = some (.int .i64 f.x) := cell_later hb1 (by simp [go_sem])
  have qw19 : w1.cell? ⟨w.heap.size + 1 + 1, 1, none⟩ = some (.int .i64 f.z) := cell_later hb1 (by simp [go_sem])
  have qw110 : w1.cell? ⟨w.heap.size + 1 + 1 + 1, 0, none⟩ = some (.int .i64 0) := cell_later hb1 (by simp [go_sem])
  have qw111 : w1.cell? ⟨w.heap.size + 1 + 1 + 1, 1, none⟩ = some (.int .i64 0) := cell_later hb1 (by simp [go_sem])
  have qw1f0 : w1.frozen? ⟨w.heap.size + 1 + 1 + 1, 0, none⟩ = false := frozen_after hb1 (v := .int .i64 0) (by simp [go_sem]) (by simp [go_sem])
  have qw1f1 : w1.frozen? ⟨w.heap.size + 1 + 1 + 1, 1, none⟩ = false := frozen_after hb1 (v := .int .i64 0) (by simp [go_sem]) (by simp [go_sem])
  have zqw1_0 := World.block_lt_of_cell? _ _ qw10
  dsimp only at zqw1_0
  have zqw1_6 := World.block_lt_of_cell? _ _ qw16
  dsimp only at zqw1_6
  have zqw1_8 := World.block_lt_of_cell? _ _ qw18
  dsimp only at zqw1_8
  have zqw1_10 := World.block_lt_of_cell? _ _ qw110
  dsimp only at zqw1_10
  have H1 : Hid (Below w.heap.size w w1) := Lib.hid (below_after (by repeat (first | exact Below.refl _ _ | refine Below.drew ?_ | refine below_drewN ?_ _ | refine Below.setCell ?_ (by first | omega | (simp; done) | (simp; omega)) _ | refine Below.alloc ?_ (by first | omega | (simp; done) | (simp; omega)) _)) hb1 (by first | omega | (simp; done) | (simp; omega))); clear hb1
  obtain rfl := hv1 HZ.out
  clear hv0 hv1
  go_wp2_with (first | (go_at_call 23; (with_reducible refine (unless_any _ _ _).mono ?_); rintro e w' ⟨rfl, rfl⟩) | (go_at_call 22; refine (firstError_any _ [E0, unl false 12] _ (by simp) (by first | exact cells_drew _ _ (by simp) _ _ | exact cells_new _ _ (by simp) _ _)).mono ?_; rw [FF.out]; rintro e w' ⟨rfl, rfl⟩))
  exact bodyPost_ret (v := .tuple #[.agg #[.int .i64 (0), .int .i64 (0)], .int .i64 (E0)]) (by simp [results, Tryz.results33, go_sem, World.cell?_alloc_past, *]) rfl ⟨rfl, (by (repeat (first | (with_reducible exact H1.out) | (with_reducible refine Below.setCell ?_ ?_ _) | (with_reducible refine below_alloc_top ?_ _) | (with_reducible refine Below.drew ?_))); all_goals (first | omega | (simp; done) | (simp; omega)))⟩
set_option maxRecDepth 100000 in
set_option maxHeartbeats 1000000 in
theorem spread_none (a : La) (d : Dl) (f : Sp) (A : Option Addr) (c : Nat) (B : Option Addr) (e : Nat) (w : World) (h : SpAt A a.n a.p w) (g : InAt B a.n d.t w) (hm : a.n ≤ 16) (k0 : 1 ≤ d.ck) (k1 : d.ck ≤ 1000000) (tb : ∀ i, i < a.n → -1 ≤ d.t i ∧ d.t i ≤ 1000000) (hz : a.fe f = 0) (hs : a.sm d = 0) :
    Calls Tryz.prog 33 #[.agg #[.slice A a.n c, .int .i64 a.m.wd, .int .i64 a.m.mt, .int .i64 a.m.sk, .int .i64 a.m.th, .int .i64 a.ck], .agg #[.int .i64 d.ck, .slice B a.n e], .agg #[.int .i64 f.x, .int .i64 f.z]] w fun e w' => e = .returned (.tuple #[.agg #[.int .i64 (0), .int .i64 (0)], .int .i64 (12)]) ∧ Below w.heap.size w w' := by
  have HX := Lib.hid h; clear h
  have HT := Lib.hid g; clear g
  have AR := Lib.hid (fun w h g => arrivals_any a d f A c B e w h g hm k0 k1 tb)
  have HZ := Lib.hid hz; clear hz
  generalize a.fe f = E0 at *
  go_enter Tryz.func33, Tryz.ntmps33
  go_wp2_with fail
  refine (AR.out _ (HX.out.later (by repeat (first | exact Below.refl _ _ | refine Below.drew ?_ | refine below_drewN ?_ _ | refine Below.setCell ?_ (by first | omega | (simp; done) | (simp; omega)) _ | refine Below.alloc ?_ (by first | omega | (simp; done) | (simp; omega)) _))) (HT.out.later (by repeat (first | exact Below.refl _ _ | refine Below.drew ?_ | refine below_drewN ?_ _ | refine Below.setCell ?_ (by first | omega | (simp; done) | (simp; omega)) _ | refine Below.alloc ?_ (by first | omega | (simp; done) | (simp; omega)) _)))).mono ?_
  rintro e w1 ⟨v, rfl, hv0, hv1, hb1⟩
  have qw10 : w1.cell? ⟨w.heap.size, 0, none⟩ = some (.slice A a.n c) := cell_later hb1 (by simp [go_sem])
  have qw11 : w1.cell? ⟨w.heap.size, 1, none⟩ = some (.int .i64 a.m.wd) := cell_later hb1 (by simp [go_sem])
  have qw12 : w1.cell? ⟨w.heap.size, 2, none⟩ = some (.int .i64 a.m.mt) := cell_later hb1 (by simp [go_sem])
  have qw13 : w1.cell? ⟨w.heap.size, 3, none⟩ = some (.int .i64 a.m.sk) := cell_later hb1 (by simp [go_sem])
  have qw14 : w1.cell? ⟨w.heap.size, 4, none⟩ = some (.int .i64 a.m.th) := cell_later hb1 (by simp [go_sem])
  have qw15 : w1.cell? ⟨w.heap.size, 5, none⟩ = some (.int .i64 a.ck) := cell_later hb1 (by simp [go_sem])
  have qw16 : w1.cell? ⟨w.heap.size + 1, 0, none⟩ = some (.int .i64 d.ck) := cell_later hb1 (by simp [go_sem])
  have qw17 : w1.cell? ⟨w.heap.size + 1, 1, none⟩ = some (.slice B a.n e) := cell_later hb1 (by simp [go_sem])
  have qw18 : w1.cell? ⟨w.heap.size + 1 + 1, 0, none⟩ = some (.int .i64 f.x) := cell_later hb1 (by simp [go_sem])
  have qw19 : w1.cell? ⟨w.heap.size + 1 + 1, 1, none⟩ = some (.int .i64 f.z) := cell_later hb1 (by simp [go_sem])
  have qw110 : w1.cell? ⟨w.heap.size + 1 + 1 + 1, 0, none⟩ = some (.int .i64 0) := cell_later hb1 (by simp [go_sem])
  have qw111 : w1.cell? ⟨w.heap.size + 1 + 1 + 1, 1, none⟩ = some (.int .i64 0) := cell_later hb1 (by simp [go_sem])
  have qw1f0 : w1.frozen? ⟨w.heap.size + 1 + 1 + 1, 0, none⟩ = false := frozen_after hb1 (v := .int .i64 0) (by simp [go_sem]) (by simp [go_sem])
  have qw1f1 : w1.frozen? ⟨w.heap.size + 1 + 1 + 1, 1, none⟩ = false := frozen_after hb1 (v := .int .i64 0) (by simp [go_sem]) (by simp [go_sem])
  have zqw1_0 := World.block_lt_of_cell? _ _ qw10
  dsimp only at zqw1_0
  have zqw1_6 := World.block_lt_of_cell? _ _ qw16
  dsimp only at zqw1_6
  have zqw1_8 := World.block_lt_of_cell? _ _ qw18
  dsimp only at zqw1_8
  have zqw1_10 := World.block_lt_of_cell? _ _ qw110
  dsimp only at zqw1_10
  have H1 : Hid (Below w.heap.size w w1) := Lib.hid (below_after (by repeat (first | exact Below.refl _ _ | refine Below.drew ?_ | refine below_drewN ?_ _ | refine Below.setCell ?_ (by first | omega | (simp; done) | (simp; omega)) _ | refine Below.alloc ?_ (by first | omega | (simp; done) | (simp; omega)) _)) hb1 (by first | omega | (simp; done) | (simp; omega))); clear hb1
  have q := hv0 HZ.out
  obtain ⟨A5, c5, rfl, _⟩ := own_form q
  have hs' : (sdL d.t a.n).length = 0 := hs
  rw [hs', HZ.out] at *
  clear hv0 hv1 q hs hs'
  have F12 : Hid (fst [0, unl false 12] = 12) := (rfl : _ = _)
  go_wp2_with (first | (go_at_call 23; (with_reducible refine (unless_any _ _ _).mono ?_); rintro e w' ⟨rfl, rfl⟩) | (go_at_call 22; refine (firstError_any _ [0, unl false 12] _ (by simp) (by first | exact cells_drew _ _ (by simp) _ _ | exact cells_new _ _ (by simp) _ _)).mono ?_; rw [F12.out]; rintro e w' ⟨rfl, rfl⟩))
  exact bodyPost_ret (v := .tuple #[.agg #[.int .i64 (0), .int .i64 (0)], .int .i64 (12)]) (by simp [results, Tryz.results33, go_sem, World.cell?_alloc_past, *]) rfl ⟨rfl, (by (repeat (first | (with_reducible exact H1.out) | (with_reducible refine Below.setCell ?_ ?_ _) | (with_reducible refine below_alloc_top ?_ _) | (with_reducible refine Below.drew ?_))); all_goals (first | omega | (simp; done) | (simp; omega)))⟩
set_option maxRecDepth 100000 in
set_option maxHeartbeats 1000000 in
theorem spread_ok (a : La) (d : Dl) (f : Sp) (A : Option Addr) (c : Nat) (B : Option Addr) (e : Nat) (w : World) (h : SpAt A a.n a.p w) (g : InAt B a.n d.t w) (hm : a.n ≤ 16) (k0 : 1 ≤ d.ck) (k1 : d.ck ≤ 1000000) (tb : ∀ i, i < a.n → -1 ≤ d.t i ∧ d.t i ≤ 1000000) (hz : a.fe f = 0) (hs : 0 < a.sm d) :
    Calls Tryz.prog 33 #[.agg #[.slice A a.n c, .int .i64 a.m.wd, .int .i64 a.m.mt, .int .i64 a.m.sk, .int .i64 a.m.th, .int .i64 a.ck], .agg #[.int .i64 d.ck, .slice B a.n e], .agg #[.int .i64 f.x, .int .i64 f.z]] w fun e w' => e = .returned (.tuple #[.agg #[.int .i64 (max (mxL (sdX a f d) (a.sm d) - mnL (sdY a f d) (a.sm d)) 0), .int .i64 (mxL (sdY a f d) (a.sm d) - mnL (sdX a f d) (a.sm d))], .int .i64 (0)]) ∧ Below w.heap.size w w' := by
  have HX := Lib.hid h; clear h
  have HT := Lib.hid g; clear g
  have AR := Lib.hid (fun w h g => arrivals_any a d f A c B e w h g hm k0 k1 tb)
  obtain ⟨X, hX⟩ : ∃ q, q = sdX a f d := ⟨_, rfl⟩
  obtain ⟨Y, hY⟩ : ∃ q, q = sdY a f d := ⟨_, rfl⟩
  obtain ⟨sm, hsm⟩ : ∃ q, q = a.sm d := ⟨_, rfl⟩
  have XB := Lib.hid (fun j (hj : j < (sdL d.t a.n).length) => xy_bounds a d f hz k0 k1 tb j hj)
  have SM := Lib.hid (sdL_len d.t a.n)
  rw [← hX, ← hY] at XB ⊢
  rw [← hsm] at hs ⊢
  have HXX := Lib.hid hX; have HYY := Lib.hid hY; have HM : Hid ((sdL d.t a.n).length = sm) := Lib.hid hsm.symm
  clear hX hY hsm
  have HZ := Lib.hid hz; clear hz
  generalize a.fe f = E0 at *
  go_enter Tryz.func33, Tryz.ntmps33
  go_wp2_with fail
  refine (AR.out _ (HX.out.later (by repeat (first | exact Below.refl _ _ | refine Below.drew ?_ | refine below_drewN ?_ _ | refine Below.setCell ?_ (by first | omega | (simp; done) | (simp; omega)) _ | refine Below.alloc ?_ (by first | omega | (simp; done) | (simp; omega)) _))) (HT.out.later (by repeat (first | exact Below.refl _ _ | refine Below.drew ?_ | refine below_drewN ?_ _ | refine Below.setCell ?_ (by first | omega | (simp; done) | (simp; omega)) _ | refine Below.alloc ?_ (by first | omega | (simp; done) | (simp; omega)) _)))).mono ?_
  rintro e w1 ⟨v, rfl, hv0, hv1, hb1⟩
  have qw10 : w1.cell? ⟨w.heap.size, 0, none⟩ = some (.slice A a.n c) := cell_later hb1 (by simp [go_sem])
  have qw11 : w1.cell? ⟨w.heap.size, 1, none⟩ = some (.int .i64 a.m.wd) := cell_later hb1 (by simp [go_sem])
  have qw12 : w1.cell? ⟨w.heap.size, 2, none⟩ = some (.int .i64 a.m.mt) := cell_later hb1 (by simp [go_sem])
  have qw13 : w1.cell? ⟨w.heap.size, 3, none⟩ = some (.int .i64 a.m.sk) := cell_later hb1 (by simp [go_sem])
  have qw14 : w1.cell? ⟨w.heap.size, 4, none⟩ = some (.int .i64 a.m.th) := cell_later hb1 (by simp [go_sem])
  have qw15 : w1.cell? ⟨w.heap.size, 5, none⟩ = some (.int .i64 a.ck) := cell_later hb1 (by simp [go_sem])
  have qw16 : w1.cell? ⟨w.heap.size + 1, 0, none⟩ = some (.int .i64 d.ck) := cell_later hb1 (by simp [go_sem])
  have qw17 : w1.cell? ⟨w.heap.size + 1, 1, none⟩ = some (.slice B a.n e) := cell_later hb1 (by simp [go_sem])
  have qw18 : w1.cell? ⟨w.heap.size + 1 + 1, 0, none⟩ = some (.int .i64 f.x) := cell_later hb1 (by simp [go_sem])
  have qw19 : w1.cell? ⟨w.heap.size + 1 + 1, 1, none⟩ = some (.int .i64 f.z) := cell_later hb1 (by simp [go_sem])
  have qw110 : w1.cell? ⟨w.heap.size + 1 + 1 + 1, 0, none⟩ = some (.int .i64 0) := cell_later hb1 (by simp [go_sem])
  have qw111 : w1.cell? ⟨w.heap.size + 1 + 1 + 1, 1, none⟩ = some (.int .i64 0) := cell_later hb1 (by simp [go_sem])
  have qw1f0 : w1.frozen? ⟨w.heap.size + 1 + 1 + 1, 0, none⟩ = false := frozen_after hb1 (v := .int .i64 0) (by simp [go_sem]) (by simp [go_sem])
  have qw1f1 : w1.frozen? ⟨w.heap.size + 1 + 1 + 1, 1, none⟩ = false := frozen_after hb1 (v := .int .i64 0) (by simp [go_sem]) (by simp [go_sem])
  have zqw1_0 := World.block_lt_of_cell? _ _ qw10
  dsimp only at zqw1_0
  have zqw1_6 := World.block_lt_of_cell? _ _ qw16
  dsimp only at zqw1_6
  have zqw1_8 := World.block_lt_of_cell? _ _ qw18
  dsimp only at zqw1_8
  have zqw1_10 := World.block_lt_of_cell? _ _ qw110
  dsimp only at zqw1_10
  have H1 : Hid (Below w.heap.size w w1) := Lib.hid (below_after (by repeat (first | exact Below.refl _ _ | refine Below.drew ?_ | refine below_drewN ?_ _ | refine Below.setCell ?_ (by first | omega | (simp; done) | (simp; omega)) _ | refine Below.alloc ?_ (by first | omega | (simp; done) | (simp; omega)) _)) hb1 (by first | omega | (simp; done) | (simp; omega))); clear hb1
  obtain ⟨g, c5, rfl, hgl, hR⟩ := arV_at (hv0 HZ.out) (by rw [HM.out]; exact hs)
  have HR0 : Hid (RgAt g (sdL d.t a.n).length X Y w1) := by rw [HXX.out, HYY.out]; exact hR
  rw [HZ.out]
  have hs' : 0 < (sdL d.t a.n).length := by rw [HM.out]; exact hs
  have n0 : (0 : Int) < ((sdL d.t a.n).length : Int) := by omega
  have n1 : decide ((0 : Int) < ((sdL d.t a.n).length : Int)) = true := by simpa using hs'
  have F00 : Hid (fst [0, unl true 12] = 0) := (rfl : _ = _)
  clear hv0 hv1 hR
  obtain ⟨c0, c1⟩ := HR0.out 0 hs'
  rw [Nat.zero_mul] at c0 c1; rw [Nat.zero_add] at c1
  have g0 := hgl
  generalize (sdL d.t a.n).length = m at *
  go_upto_region 5 with (first | (go_at_call 23; (with_reducible refine (unless_any _ _ _).mono ?_); rintro e w' ⟨rfl, rfl⟩) | (go_at_call 22; refine (firstError_any _ [0, unl true 12] _ (by simp) (by first | exact cells_drew _ _ (by simp) _ _ | exact cells_new _ _ (by simp) _ _)).mono ?_; rw [F00.out]; rintro e w' ⟨rfl, rfl⟩))
  generalize hW4 : w1.alloc (.cells #[.int .i64 0, .int .i64 (unl true 12)] 29) = w4 at *
  have b4 : Below w1.heap.size w1 w4 := by rw [← hW4]; exact (Below.refl _ _).alloc (Nat.le_refl _) _
  clear hW4
  have HR4 := Lib.hid (HR0.out.later b4)
  have x0 := cell_later b4 c0
  have x1 := cell_later b4 c1
  have r0 := cell_later b4 qw110
  have r1 := cell_later b4 qw111
  have rf0 := frozen_after b4 qw110 qw1f0
  have rf1 := frozen_after b4 qw111 qw1f1
  have H4 : Hid (Below w.heap.size w w4) := Lib.hid (below_then H1.out b4)
  have sz4 := b4.size
  have gl4 : g < w4.heap.size := by omega
  have gr4 : w.heap.size + 1 + 1 + 1 < w4.heap.size := by omega
  clear b4 c0 c1 qw10 qw11 qw12 qw13 qw14 qw15 qw16 qw17 qw18 qw19 qw110 qw111 qw1f0 qw1f1
  have hS : Below w4.heap.size w4 w4 := Below.refl _ _
  go_cut [10, 11] (fun s10 s11 wx => ∃ F L : Nat, s10 = .pointer (some ⟨F, 0, none⟩) ∧ s11 = .pointer (some ⟨L, 0, none⟩) ∧ F ≠ L ∧ w4.heap.size ≤ F ∧ w4.heap.size ≤ L ∧ wx.cell? ⟨F, 0, none⟩ = some (.int .i64 (X 0)) ∧ wx.cell? ⟨F, 1, none⟩ = some (.int .i64 (Y 0)) ∧ wx.cell? ⟨L, 0, none⟩ = some (.int .i64 (X 0)) ∧ wx.cell? ⟨L, 1, none⟩ = some (.int .i64 (Y 0)) ∧ wx.frozen? ⟨F, 0, none⟩ = false ∧ wx.frozen? ⟨F, 1, none⟩ = false ∧ wx.frozen? ⟨L, 0, none⟩ = false ∧ wx.frozen? ⟨L, 1, none⟩ = false ∧ Below w4.heap.size w4 wx)
  case first =>
    go_region_held3 (fun w' => w'.cell? ⟨g, 0, none⟩ = some (.int .i64 (X 0)) ∧ w'.cell? ⟨g, 1, none⟩ = some (.int .i64 (Y 0)) ∧ Below w4.heap.size w4 w') (((go_split_ands; (repeat' apply And.intro) <;> first | (with_reducible assumption) | (simp [go_sem, World.cell?_alloc_past, *]; done) | (repeat (first | (with_reducible exact Below.refl _ _) | (with_reducible refine Below.drew ?_) | (refine below_drewN ?_ _) | (refine Below.setCell ?_ (by first | omega | (simp; done) | (simp; omega)) _) | (refine Below.alloc ?_ (by first | omega | (simp; done) | (simp; omega)) _))))))
      (fail)
    all_goals
      go_split_ands
      go_wp2_with fail
      go_meet
      exact ⟨_, _, rfl, rfl, by omega, by omega, by omega, by simp [go_sem, World.cell?_alloc_past], by simp [go_sem, World.cell?_alloc_past], by simp [go_sem, World.cell?_alloc_past], by simp [go_sem, World.cell?_alloc_past], by simp [go_sem, World.frozen?_alloc_past], by simp [go_sem, World.frozen?_alloc_past], by simp [go_sem, World.frozen?_alloc_past], by simp [go_sem, World.frozen?_alloc_past], (by repeat (first | exact Below.refl _ _ | refine Below.drew ?_ | refine below_drewN ?_ _ | refine Below.setCell ?_ (by first | omega | (simp; done) | (simp; omega)) _ | refine Below.alloc ?_ (by first | omega | (simp; done) | (simp; omega)) _))⟩
  case rest =>
    obtain ⟨F, L, rfl, rfl, hFL, hF, hL, i0, i1, i2, i3, if0, if1, if2, if3, bel⟩ := hcut
    have X1 : Hid (∀ k, mnL X (k + 1) = min (mnL X k) (X k)) := fun k => rfl
    have Y1 : Hid (∀ k, mnL Y (k + 1) = min (mnL Y k) (Y k)) := fun k => rfl
    have X2 : Hid (∀ k, mxL X (k + 1) = max (mxL X k) (X k)) := fun k => rfl
    have Y2 : Hid (∀ k, mxL Y (k + 1) = max (mxL Y k) (Y k)) := fun k => rfl
    have X0 : Hid (mnL X 0 = X 0 ∧ mnL Y 0 = Y 0 ∧ mxL X 0 = X 0 ∧ mxL Y 0 = Y 0) := Lib.hid ⟨rfl, rfl, rfl, rfl⟩
    have MB := Lib.hid (fun (hs : 0 < sm) => And.intro (mnL_mem X (sm) hs) (And.intro (mnL_mem Y (sm) hs) (And.intro (mxL_mem X (sm) hs) (mxL_mem Y (sm) hs))))
    have zF := World.block_lt_of_cell? _ _ i0
    have zL := World.block_lt_of_cell? _ _ i2
    dsimp only at zF zL
    go_wp2
    go_loopw [40] (fun s40 wr => ∃ k : Nat, k ≤ m ∧ s40 = .int .i64 (k : Int) ∧ wr.cell? ⟨F, 0, none⟩ = some (.int .i64 (mnL X k)) ∧ wr.cell? ⟨F, 1, none⟩ = some (.int .i64 (mnL Y k)) ∧ wr.cell? ⟨L, 0, none⟩ = some (.int .i64 (mxL X k)) ∧ wr.cell? ⟨L, 1, none⟩ = some (.int .i64 (mxL Y k)) ∧ wr.frozen? ⟨F, 0, none⟩ = false ∧ wr.frozen? ⟨F, 1, none⟩ = false ∧ wr.frozen? ⟨L, 0, none⟩ = false ∧ wr.frozen? ⟨L, 1, none⟩ = false ∧ Below w4.heap.size w4 wr) (fun s40 _ => m - (intOf s40).toNat)
    case atStart => exact ⟨0, Nat.zero_le _, rfl, by rw [X0.out.1]; exact i0, by rw [X0.out.2.1]; exact i1, by rw [X0.out.2.2.1]; exact i2, by rw [X0.out.2.2.2]; exact i3, if0, if1, if2, if3, bel⟩
    case round =>
      clear i0 i1 i2 i3 if0 if1 if2 if3 bel
      obtain ⟨k, hk, rfl, i0, i1, i2, i3, if0, if1, if2, if3, bel⟩ := hrel
      have zF := World.block_lt_of_cell? _ _ i0
      have zL := World.block_lt_of_cell? _ _ i2
      dsimp only at zF zL
      have HB := Lib.hid bel
      by_cases hlt : k < m
      · obtain ⟨y0, y1⟩ := (HR4.out.later bel) k hlt
        have xb := XB.out k hlt
        have sm_ := SM.out
        have j0 : (0 : Int) ≤ (k : Int) := Int.natCast_nonneg _
        have j1 : (k : Int) < (m : Int) := by omega
        have j8 : (k : Int) < 1000 := by omega
        have j9 : ((k : Int).toNat) = k := by omega
        clear bel sm_
        go_wp2
        go_roundw
        case rel => exact ⟨k + 1, by omega, by go_num, (by rw [X1.out]; repeat' (first | (with_reducible assumption) | (with_reducible refine cell_alloc_later ?_ _) | (with_reducible refine setS (u := .int .i64 (mnL X k)) ?_) | ((with_reducible refine setO ?_ ?_); (focus (dsimp only; omega))))), (by rw [Y1.out]; repeat' (first | (with_reducible assumption) | (with_reducible refine cell_alloc_later ?_ _) | (with_reducible refine setS (u := .int .i64 (mnL Y k)) ?_) | ((with_reducible refine setO ?_ ?_); (focus (dsimp only; omega))))), (by rw [X2.out]; repeat' (first | (with_reducible assumption) | (with_reducible refine cell_alloc_later ?_ _) | (with_reducible refine setS (u := .int .i64 (mxL X k)) ?_) | ((with_reducible refine setO ?_ ?_); (focus (dsimp only; omega))))), (by rw [Y2.out]; repeat' (first | (with_reducible assumption) | (with_reducible refine cell_alloc_later ?_ _) | (with_reducible refine setS (u := .int .i64 (mxL Y k)) ?_) | ((with_reducible refine setO ?_ ?_); (focus (dsimp only; omega))))), (by simp [go_sem, World.frozen?_alloc_past, *]), (by simp [go_sem, World.frozen?_alloc_past, *]), (by simp [go_sem, World.frozen?_alloc_past, *]), (by simp [go_sem, World.frozen?_alloc_past, *]), (by (repeat (first | (with_reducible exact HB.out) | (with_reducible refine Below.setCell ?_ ?_ _) | (with_reducible refine below_alloc_top ?_ _) | (with_reducible refine Below.drew ?_))); all_goals (first | omega | (simp; done) | (simp; omega)))⟩
        case measure => simp [intOf]; omega
      · have hk' : k = m := by omega
        have kk : decide ((k : Int) < (m : Int)) = false := by simp; omega
        obtain ⟨⟨i1_, g1, h1⟩, ⟨i2_, g2, h2⟩, ⟨i3_, g3, h3⟩, ⟨i4_, g4, h4⟩⟩ := MB.out (by rw [← HM.out]; exact hs')
        rw [← HM.out] at g1 g2 g3 g4 h1 h2 h3 h4
        have b1 := XB.out _ g1; have b2 := XB.out _ g2; have b3 := XB.out _ g3; have b4 := XB.out _ g4
        have bb : -1000000 ≤ mnL X m ∧ mnL X m ≤ 200000000000000 ∧ -1000000 ≤ mnL Y m ∧ mnL Y m ≤ 200000000000000 ∧ -1000000 ≤ mxL X m ∧ mxL X m ≤ 200000000000000 ∧ -1000000 ≤ mxL Y m ∧ mxL Y m ≤ 200000000000000 := by omega
        clear b1 b2 b3 b4 h1 h2 h3 h4 g1 g2 g3 g4
        subst hk'
        have s0 := cell_later bel r0
        have s1 := cell_later bel r1
        have sf0 := frozen_after bel r0 rf0
        have sf1 := frozen_after bel r1 rf1
        have H5 : Hid (Below w.heap.size w wr) := Lib.hid (below_then H4.out bel)
        clear r0 r1 rf0 rf1 bel HB
        have BB := Lib.hid bb; clear bb
        obtain ⟨bb1, bb2, bb3, bb4, bb5, bb6, bb7, bb8⟩ := BB.out
        go_wp2
        rw [← HM.out]
        exact bodyPost_ret (v := .tuple #[.agg #[.int .i64 (max (mxL X k - mnL Y k) 0), .int .i64 (mxL Y k - mnL X k)], .int .i64 (0)]) (by simp [results, Tryz.results33, go_sem, World.cell?_alloc_past, *]) rfl ⟨rfl, (by (repeat (first | (with_reducible exact H5.out) | (with_reducible refine Below.setCell ?_ ?_ _) | (with_reducible refine below_alloc_top ?_ _) | (with_reducible refine Below.drew ?_))); all_goals (first | omega | (simp; done) | (simp; omega)))⟩

end Go.Proofs.YtnckfbejgkdhhaaGreatDoor
