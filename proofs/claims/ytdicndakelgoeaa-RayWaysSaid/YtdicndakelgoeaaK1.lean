/- RaySkips: the walk -/
import Derived.Test.YtdicndakelgoeaaW1
import Derived.Test.YtdicndakelgoeaaD3
import Derived.Test.YtdicndakelgoeaaB5
import Derived.Test.YtdicndakelgoeaaC2
namespace Go.Proofs.Ytdicndakelgoeaa
open Go.RowKit RayM
set_option linter.unusedSimpArgs false
set_option linter.unusedVariables false

theorem row_form {w : World} {b : Nat} {e : TypeId} {s : Nat} {v : Value} {n : Nat} {xs : List Value} (h : w.ownsRow b e s v n xs) :
    ∃ A c, v = .slice A n c ∧ (0 < n → ∃ g, A = some ⟨g, 0, none⟩ ∧ b ≤ g ∧ ∀ j u, xs[j]? = some u → w.cell? ⟨g, j, none⟩ = some u) := by
  rcases h.2 with ⟨rfl, rfl⟩ | ⟨g, cap, cur, rfl, hb, r⟩
  · exact ⟨none, 0, rfl, fun h => absurd h (by omega)⟩
  · refine ⟨_, cap, rfl, fun _ => ⟨g, rfl, hb, fun j u hu => ?_⟩⟩
    have := h.cells (g := g) rfl j u hu
    have hadd : (⟨g, 0, none⟩ : Addr).add j = ⟨g, j, none⟩ := by unfold Addr.add; split <;> simp_all
    rwa [hadd] at this
def Mo.up (m : Mo) : Mo := ⟨m.wd, m.mt, m.sk + 1, m.th⟩
def Wy.up (x : Wy) : Wy := ⟨x.m.up, x.fx, x.fz, x.tx, x.tz⟩
theorem up_ok (x : Wy) (o : x.ok) (h : x.m.sk < 4) : x.up.ok := by
  obtain ⟨⟨a1, a2, b1, b2, c1, c2, d1, d2⟩, p⟩ := o
  exact ⟨⟨a1, a2, b1, b2, by show 0 ≤ x.m.sk + 1; omega, by show x.m.sk + 1 ≤ 4; omega, d1, d2⟩, by assumption, by assumption, by assumption, by assumption, by assumption, by assumption, by assumption, by assumption⟩
theorem up_deep (x : Wy) (o : x.ok) (h : x.m.sk < 4) : x.cr.lLo ≤ x.up.cr.lHi := by
  refine deeper x.cr x.up.cr (cr_ok x o) (cr_ok x.up (up_ok x o h)) rfl rfl rfl rfl rfl ?_
  show x.m.unf x.tz ≤ x.m.up.unf x.tz
  have h1 := o.d1; have h2 := o.d2
  have e : (x.m.sk + 1) * x.m.th = x.m.sk * x.m.th + x.m.th := by rw [Int.add_mul, Int.one_mul]
  unfold Mo.unf Mo.up
  dsimp only
  rw [e]
  split <;> split <;> omega
set_option maxRecDepth 100000 in
set_option maxHeartbeats 1000000 in
theorem skips_bad (x : Wy) (h : wyE x ≠ 0) (w : World) :
    Calls Try.prog 10 #[.agg #[.int .i64 x.m.wd, .int .i64 x.m.mt, .int .i64 x.m.sk, .int .i64 x.m.th, .int .i64 x.fx, .int .i64 x.fz, .int .i64 x.tx, .int .i64 x.tz]] w fun e w' => e = .returned (.bool true) ∧ Below w.heap.size w w' := by
  have HP := Lib.hid (fun w => leastOf_bad x h w)
  have n1 : (wyE x != 0) = true := by simpa using h
  generalize wyE x = r at *
  clear h
  go_enter Try.func10, Try.ntmps10
  go_wp2_with fail
  refine (awake_any _).mono ?_
  rintro e w1 ⟨rfl, hb1⟩
  have qw10 : w1.cell? ⟨w.heap.size, 0, none⟩ = some (.int .i64 x.m.wd) := cell_later hb1 (by simp [go_sem])
  have qw11 : w1.cell? ⟨w.heap.size, 1, none⟩ = some (.int .i64 x.m.mt) := cell_later hb1 (by simp [go_sem])
  have qw12 : w1.cell? ⟨w.heap.size, 2, none⟩ = some (.int .i64 x.m.sk) := cell_later hb1 (by simp [go_sem])
  have qw13 : w1.cell? ⟨w.heap.size, 3, none⟩ = some (.int .i64 x.m.th) := cell_later hb1 (by simp [go_sem])
  have qw14 : w1.cell? ⟨w.heap.size, 4, none⟩ = some (.int .i64 x.fx) := cell_later hb1 (by simp [go_sem])
  have qw15 : w1.cell? ⟨w.heap.size, 5, none⟩ = some (.int .i64 x.fz) := cell_later hb1 (by simp [go_sem])
  have qw16 : w1.cell? ⟨w.heap.size, 6, none⟩ = some (.int .i64 x.tx) := cell_later hb1 (by simp [go_sem])
  have qw17 : w1.cell? ⟨w.heap.size, 7, none⟩ = some (.int .i64 x.tz) := cell_later hb1 (by simp [go_sem])
  have zqw1_0 := World.block_lt_of_cell? _ _ qw10
  dsimp only at zqw1_0
  have H1 : Hid (Below w.heap.size w w1) := Lib.hid (below_after (by repeat (first | exact Below.refl _ _ | refine Below.drew ?_ | refine below_drewN ?_ _ | refine Below.setCell ?_ (by first | omega | (simp; done) | (simp; omega)) _ | refine Below.alloc ?_ (by first | omega | (simp; done) | (simp; omega)) _)) hb1 (by first | omega | (simp; done) | (simp; omega))); clear hb1
  go_wp2_with fail
  refine (HP.out _).mono ?_
  rintro e w2 ⟨rfl, hb2⟩
  have qw20 : w2.cell? ⟨w.heap.size, 0, none⟩ = some (.int .i64 x.m.wd) := cell_later hb2 (by simp [go_sem, World.cell?_alloc_past, World.frozen?_alloc_past, *])
  have qw21 : w2.cell? ⟨w.heap.size, 1, none⟩ = some (.int .i64 x.m.mt) := cell_later hb2 (by simp [go_sem, World.cell?_alloc_past, World.frozen?_alloc_past, *])
  have qw22 : w2.cell? ⟨w.heap.size, 2, none⟩ = some (.int .i64 x.m.sk) := cell_later hb2 (by simp [go_sem, World.cell?_alloc_past, World.frozen?_alloc_past, *])
  have qw23 : w2.cell? ⟨w.heap.size, 3, none⟩ = some (.int .i64 x.m.th) := cell_later hb2 (by simp [go_sem, World.cell?_alloc_past, World.frozen?_alloc_past, *])
  have qw24 : w2.cell? ⟨w.heap.size, 4, none⟩ = some (.int .i64 x.fx) := cell_later hb2 (by simp [go_sem, World.cell?_alloc_past, World.frozen?_alloc_past, *])
  have qw25 : w2.cell? ⟨w.heap.size, 5, none⟩ = some (.int .i64 x.fz) := cell_later hb2 (by simp [go_sem, World.cell?_alloc_past, World.frozen?_alloc_past, *])
  have qw26 : w2.cell? ⟨w.heap.size, 6, none⟩ = some (.int .i64 x.tx) := cell_later hb2 (by simp [go_sem, World.cell?_alloc_past, World.frozen?_alloc_past, *])
  have qw27 : w2.cell? ⟨w.heap.size, 7, none⟩ = some (.int .i64 x.tz) := cell_later hb2 (by simp [go_sem, World.cell?_alloc_past, World.frozen?_alloc_past, *])
  have zqw2_0 := World.block_lt_of_cell? _ _ qw20
  dsimp only at zqw2_0
  have H2 : Hid (Below w.heap.size w w2) := Lib.hid (below_then (by (repeat (first | (with_reducible exact H1.out) | (with_reducible refine Below.setCell ?_ ?_ _) | (with_reducible refine below_alloc_top ?_ _) | (with_reducible refine Below.drew ?_))); all_goals (first | omega | (simp; done) | (simp; omega))) hb2); clear hb2
  go_wp2
  go_ret
  exact ⟨rfl, (by (repeat (first | (with_reducible exact H2.out) | (with_reducible refine Below.setCell ?_ ?_ _) | (with_reducible refine below_alloc_top ?_ _) | (with_reducible refine Below.drew ?_))); all_goals (first | omega | (simp; done) | (simp; omega)))⟩
set_option maxRecDepth 100000 in
set_option maxHeartbeats 1000000 in
theorem skips_ms (x : Wy) (o : x.ok) (hm : x.m.sk < 4) (hv : x.m.wd = x.m.mt) (w : World) :
    Calls Try.prog 10 #[.agg #[.int .i64 x.m.wd, .int .i64 x.m.mt, .int .i64 x.m.sk, .int .i64 x.m.th, .int .i64 x.fx, .int .i64 x.fz, .int .i64 x.tx, .int .i64 x.tz]] w fun e w' => e = .returned (.bool true) ∧ Below w.heap.size w w' := by
  have HP := Lib.hid (fun w => leastOf_ok x o w)
  have HU := Lib.hid (fun w => unfolded_ok x.m o.m x.tz w o.d1 o.d2)
  have HW := Lib.hid (fun w => walls_ok x o w)
  have sk0 := o.m.c1; have sk4 := o.m.c2
  have n1 : ((x.m.sk.toNat : Int) != x.m.sk) = false := by
    rw [Int.toNat_of_nonneg sk0]; simp
  have hs : x.m.sk.toNat ≤ 4 := by omega
  have WF := Lib.hid (fun (k : Nat) (hk : k < x.m.sk.toNat) => wl_f x o k (by omega))
  have WG := Lib.hid (fun (i : Nat) (h : i < x.m.sk.toNat) => walls_get x x.m.sk.toNat i h)
  have UF := Lib.hid (unf_bounds x.m o.m x.tz o.d1 o.d2)
  generalize x.m.sk.toNat = sn at *
  have MO : Hid (∀ w, Calls Try.prog 49 #[.agg #[.int .i64 x.m.wd, .int .i64 x.m.mt, .int .i64 (x.m.sk + 1), .int .i64 x.m.th], .agg #[.int .i64 x.fx, .int .i64 x.fz], .agg #[.int .i64 x.tx, .int .i64 x.tz]] w fun e w' => e = .returned (.tuple #[.agg #[.int .i64 x.up.cr.lLo, .int .i64 x.up.cr.lHi], .int .i64 0]) ∧ Below w.heap.size w w') := Lib.hid (fun w => leastOf_ok x.up (up_ok x o hm) w)
  have md := up_deep x o hm
  generalize x.up.cr.lLo = ulo at *
  generalize x.up.cr.lHi = uhi at *
  have MD : Hid (decide (uhi < x.cr.lLo) = false) := by show _ = _; simp; omega
  have m5 : decide (x.m.sk < 4) = true := by simpa using hm
  clear md hm
  have hz : x.tz - x.tz = 0 := by omega
  have s := straight x.cr (cr_ok x o) hv
  have l := lLo_lHi x.cr (cr_ok x o)
  have d : x.m.unf x.tz - x.fz = x.cr.h1 + x.cr.h2 := by show _ = -x.fz + x.m.unf x.tz; omega
  have tl : toLo x.fx x.fz x.tx (x.m.unf x.tz) x.m.mt = legLo (x.cr.x2 - x.cr.x1) (x.cr.h1 + x.cr.h2) x.cr.v1 := by rw [← d, ← hv]; rfl
  have th : toHi x.fx x.fz x.tx (x.m.unf x.tz) x.m.mt = legHi (x.cr.x2 - x.cr.x1) (x.cr.h1 + x.cr.h2) x.cr.v1 := by rw [← d, ← hv]; rfl
  have HO := Lib.hid (fun w => timeOf_ok x.fx x.fz x.tx (x.m.unf x.tz) x.m.mt w ⟨o.a1, o.a2, o.b1, by have := o.b2; omega, o.c1, o.c2, by have := UF.out; omega, by have := UF.out; omega⟩ o.m.b1 o.m.b2)
  rw [← tl, ← th] at s
  have lb := leg_bounds (x.cr.x2 - x.cr.x1) (x.cr.h1 + x.cr.h2) x.cr.v1 (by show -400000 ≤ x.tx - x.fx; have := o.c1; have := o.a2; omega) (by show x.tx - x.fx ≤ 400000; have := o.c2; have := o.a1; omega) (by show -400000 ≤ -x.fz + x.m.unf x.tz; have := UF.out; have := o.b2; omega) (by show -x.fz + x.m.unf x.tz ≤ 400000; have := UF.out; have := o.b1; omega) o.m.a1
  rw [← tl, ← th] at lb
  have HM := Lib.hid (fun w => meets_true (toLo x.fx x.fz x.tx (x.m.unf x.tz) x.m.mt) (toHi x.fx x.fz x.tx (x.m.unf x.tz) x.m.mt) x.cr.lLo x.cr.lHi w (by omega))
  have n2 : (x.m.wd != x.m.mt) = false := by simpa using hv
  clear hz s l d tl th lb hv
  generalize toLo x.fx x.fz x.tx (x.m.unf x.tz) x.m.mt = sl at *
  generalize toHi x.fx x.fz x.tx (x.m.unf x.tz) x.m.mt = sh at *
  generalize x.cr.lLo = lo at *
  generalize x.cr.lHi = hi at *
  clear o
  go_enter Try.func10, Try.ntmps10
  go_wp2_with fail
  refine (awake_any _).mono ?_
  rintro e w1 ⟨rfl, hb1⟩
  have qw10 : w1.cell? ⟨w.heap.size, 0, none⟩ = some (.int .i64 x.m.wd) := cell_later hb1 (by simp [go_sem])
  have qw11 : w1.cell? ⟨w.heap.size, 1, none⟩ = some (.int .i64 x.m.mt) := cell_later hb1 (by simp [go_sem])
  have qw12 : w1.cell? ⟨w.heap.size, 2, none⟩ = some (.int .i64 x.m.sk) := cell_later hb1 (by simp [go_sem])
  have qw13 : w1.cell? ⟨w.heap.size, 3, none⟩ = some (.int .i64 x.m.th) := cell_later hb1 (by simp [go_sem])
  have qw14 : w1.cell? ⟨w.heap.size, 4, none⟩ = some (.int .i64 x.fx) := cell_later hb1 (by simp [go_sem])
  have qw15 : w1.cell? ⟨w.heap.size, 5, none⟩ = some (.int .i64 x.fz) := cell_later hb1 (by simp [go_sem])
  have qw16 : w1.cell? ⟨w.heap.size, 6, none⟩ = some (.int .i64 x.tx) := cell_later hb1 (by simp [go_sem])
  have qw17 : w1.cell? ⟨w.heap.size, 7, none⟩ = some (.int .i64 x.tz) := cell_later hb1 (by simp [go_sem])
  have zqw1_0 := World.block_lt_of_cell? _ _ qw10
  dsimp only at zqw1_0
  have H1 : Hid (Below w.heap.size w w1) := Lib.hid (below_after (by repeat (first | exact Below.refl _ _ | refine Below.drew ?_ | refine below_drewN ?_ _ | refine Below.setCell ?_ (by first | omega | (simp; done) | (simp; omega)) _ | refine Below.alloc ?_ (by first | omega | (simp; done) | (simp; omega)) _)) hb1 (by first | omega | (simp; done) | (simp; omega))); clear hb1
  go_wp2_with fail
  refine (HP.out _).mono ?_
  rintro e w2 ⟨rfl, hb2⟩
  have qw20 : w2.cell? ⟨w.heap.size, 0, none⟩ = some (.int .i64 x.m.wd) := cell_later hb2 (by simp [go_sem, World.cell?_alloc_past, World.frozen?_alloc_past, *])
  have qw21 : w2.cell? ⟨w.heap.size, 1, none⟩ = some (.int .i64 x.m.mt) := cell_later hb2 (by simp [go_sem, World.cell?_alloc_past, World.frozen?_alloc_past, *])
  have qw22 : w2.cell? ⟨w.heap.size, 2, none⟩ = some (.int .i64 x.m.sk) := cell_later hb2 (by simp [go_sem, World.cell?_alloc_past, World.frozen?_alloc_past, *])
  have qw23 : w2.cell? ⟨w.heap.size, 3, none⟩ = some (.int .i64 x.m.th) := cell_later hb2 (by simp [go_sem, World.cell?_alloc_past, World.frozen?_alloc_past, *])
  have qw24 : w2.cell? ⟨w.heap.size, 4, none⟩ = some (.int .i64 x.fx) := cell_later hb2 (by simp [go_sem, World.cell?_alloc_past, World.frozen?_alloc_past, *])
  have qw25 : w2.cell? ⟨w.heap.size, 5, none⟩ = some (.int .i64 x.fz) := cell_later hb2 (by simp [go_sem, World.cell?_alloc_past, World.frozen?_alloc_past, *])
  have qw26 : w2.cell? ⟨w.heap.size, 6, none⟩ = some (.int .i64 x.tx) := cell_later hb2 (by simp [go_sem, World.cell?_alloc_past, World.frozen?_alloc_past, *])
  have qw27 : w2.cell? ⟨w.heap.size, 7, none⟩ = some (.int .i64 x.tz) := cell_later hb2 (by simp [go_sem, World.cell?_alloc_past, World.frozen?_alloc_past, *])
  have zqw2_0 := World.block_lt_of_cell? _ _ qw20
  dsimp only at zqw2_0
  have H2 : Hid (Below w.heap.size w w2) := Lib.hid (below_then (by (repeat (first | (with_reducible exact H1.out) | (with_reducible refine Below.setCell ?_ ?_ _) | (with_reducible refine below_alloc_top ?_ _) | (with_reducible refine Below.drew ?_))); all_goals (first | omega | (simp; done) | (simp; omega))) hb2); clear hb2
  go_wp2_with fail
  refine (HU.out _).mono ?_
  rintro e w3 ⟨rfl, hb3⟩
  have qw30 : w3.cell? ⟨w.heap.size, 0, none⟩ = some (.int .i64 x.m.wd) := cell_later hb3 (by simp [go_sem, World.cell?_alloc_past, World.frozen?_alloc_past, *])
  have qw31 : w3.cell? ⟨w.heap.size, 1, none⟩ = some (.int .i64 x.m.mt) := cell_later hb3 (by simp [go_sem, World.cell?_alloc_past, World.frozen?_alloc_past, *])
  have qw32 : w3.cell? ⟨w.heap.size, 2, none⟩ = some (.int .i64 x.m.sk) := cell_later hb3 (by simp [go_sem, World.cell?_alloc_past, World.frozen?_alloc_past, *])
  have qw33 : w3.cell? ⟨w.heap.size, 3, none⟩ = some (.int .i64 x.m.th) := cell_later hb3 (by simp [go_sem, World.cell?_alloc_past, World.frozen?_alloc_past, *])
  have qw34 : w3.cell? ⟨w.heap.size, 4, none⟩ = some (.int .i64 x.fx) := cell_later hb3 (by simp [go_sem, World.cell?_alloc_past, World.frozen?_alloc_past, *])
  have qw35 : w3.cell? ⟨w.heap.size, 5, none⟩ = some (.int .i64 x.fz) := cell_later hb3 (by simp [go_sem, World.cell?_alloc_past, World.frozen?_alloc_past, *])
  have qw36 : w3.cell? ⟨w.heap.size, 6, none⟩ = some (.int .i64 x.tx) := cell_later hb3 (by simp [go_sem, World.cell?_alloc_past, World.frozen?_alloc_past, *])
  have qw37 : w3.cell? ⟨w.heap.size, 7, none⟩ = some (.int .i64 x.tz) := cell_later hb3 (by simp [go_sem, World.cell?_alloc_past, World.frozen?_alloc_past, *])
  have qw38 : w3.cell? ⟨w2.heap.size, 0, none⟩ = some (.int .i64 lo) := cell_later hb3 (by simp [go_sem, World.cell?_alloc_past, World.frozen?_alloc_past, *])
  have qw39 : w3.cell? ⟨w2.heap.size, 1, none⟩ = some (.int .i64 hi) := cell_later hb3 (by simp [go_sem, World.cell?_alloc_past, World.frozen?_alloc_past, *])
  have zqw3_0 := World.block_lt_of_cell? _ _ qw30
  dsimp only at zqw3_0
  have zqw3_8 := World.block_lt_of_cell? _ _ qw38
  dsimp only at zqw3_8
  have H3 : Hid (Below w.heap.size w w3) := Lib.hid (below_then (by (repeat (first | (with_reducible exact H2.out) | (with_reducible refine Below.setCell ?_ ?_ _) | (with_reducible refine below_alloc_top ?_ _) | (with_reducible refine Below.drew ?_))); all_goals (first | omega | (simp; done) | (simp; omega))) hb3); clear hb3
  go_wp2_with fail
  refine (HW.out _).mono ?_
  rintro e w4 ⟨v, rfl, hown, hb4⟩
  have qw40 : w4.cell? ⟨w.heap.size, 0, none⟩ = some (.int .i64 x.m.wd) := cell_later hb4 (by simp [go_sem, World.cell?_alloc_past, World.frozen?_alloc_past, *])
  have qw41 : w4.cell? ⟨w.heap.size, 1, none⟩ = some (.int .i64 x.m.mt) := cell_later hb4 (by simp [go_sem, World.cell?_alloc_past, World.frozen?_alloc_past, *])
  have qw42 : w4.cell? ⟨w.heap.size, 2, none⟩ = some (.int .i64 x.m.sk) := cell_later hb4 (by simp [go_sem, World.cell?_alloc_past, World.frozen?_alloc_past, *])
  have qw43 : w4.cell? ⟨w.heap.size, 3, none⟩ = some (.int .i64 x.m.th) := cell_later hb4 (by simp [go_sem, World.cell?_alloc_past, World.frozen?_alloc_past, *])
  have qw44 : w4.cell? ⟨w.heap.size, 4, none⟩ = some (.int .i64 x.fx) := cell_later hb4 (by simp [go_sem, World.cell?_alloc_past, World.frozen?_alloc_past, *])
  have qw45 : w4.cell? ⟨w.heap.size, 5, none⟩ = some (.int .i64 x.fz) := cell_later hb4 (by simp [go_sem, World.cell?_alloc_past, World.frozen?_alloc_past, *])
  have qw46 : w4.cell? ⟨w.heap.size, 6, none⟩ = some (.int .i64 x.tx) := cell_later hb4 (by simp [go_sem, World.cell?_alloc_past, World.frozen?_alloc_past, *])
  have qw47 : w4.cell? ⟨w.heap.size, 7, none⟩ = some (.int .i64 x.tz) := cell_later hb4 (by simp [go_sem, World.cell?_alloc_past, World.frozen?_alloc_past, *])
  have qw48 : w4.cell? ⟨w2.heap.size, 0, none⟩ = some (.int .i64 lo) := cell_later hb4 (by simp [go_sem, World.cell?_alloc_past, World.frozen?_alloc_past, *])
  have qw49 : w4.cell? ⟨w2.heap.size, 1, none⟩ = some (.int .i64 hi) := cell_later hb4 (by simp [go_sem, World.cell?_alloc_past, World.frozen?_alloc_past, *])
  have zqw4_0 := World.block_lt_of_cell? _ _ qw40
  dsimp only at zqw4_0
  have zqw4_8 := World.block_lt_of_cell? _ _ qw48
  dsimp only at zqw4_8
  have H4 : Hid (Below w.heap.size w w4) := Lib.hid (below_then (by (repeat (first | (with_reducible exact H3.out) | (with_reducible refine Below.setCell ?_ ?_ _) | (with_reducible refine below_alloc_top ?_ _) | (with_reducible refine Below.drew ?_))); all_goals (first | omega | (simp; done) | (simp; omega))) hb4); clear hb4
  obtain ⟨A, c, rfl, hA⟩ := row_form hown
  have HA := Lib.hid hA; clear hA hown
  obtain ⟨u1, u2, u3, u4⟩ := UF.out
  clear u3 u4
  generalize x.m.unf x.tz = uz at *
  go_wp2
  go_loopw [9] (fun i wr => ∃ k : Nat, k ≤ sn ∧ i = .int .i64 (k : Int) ∧ Below w4.heap.size w4 wr) (fun i _ => sn - (intOf i).toNat)
  case atStart => exact ⟨0, Nat.zero_le _, rfl, Below.refl _ _⟩
  case round =>
    obtain ⟨k, hk, rfl, hb⟩ := hrel
    have r0 : wr.cell? ⟨w.heap.size, 0, none⟩ = some (.int .i64 x.m.wd) := cell_later hb qw40
    have r1 : wr.cell? ⟨w.heap.size, 1, none⟩ = some (.int .i64 x.m.mt) := cell_later hb qw41
    have r2 : wr.cell? ⟨w.heap.size, 2, none⟩ = some (.int .i64 x.m.sk) := cell_later hb qw42
    have r3 : wr.cell? ⟨w.heap.size, 3, none⟩ = some (.int .i64 x.m.th) := cell_later hb qw43
    have r4 : wr.cell? ⟨w.heap.size, 4, none⟩ = some (.int .i64 x.fx) := cell_later hb qw44
    have r5 : wr.cell? ⟨w.heap.size, 5, none⟩ = some (.int .i64 x.fz) := cell_later hb qw45
    have r6 : wr.cell? ⟨w.heap.size, 6, none⟩ = some (.int .i64 x.tx) := cell_later hb qw46
    have r7 : wr.cell? ⟨w.heap.size, 7, none⟩ = some (.int .i64 x.tz) := cell_later hb qw47
    have r8 : wr.cell? ⟨w2.heap.size, 0, none⟩ = some (.int .i64 lo) := cell_later hb qw48
    have r9 : wr.cell? ⟨w2.heap.size, 1, none⟩ = some (.int .i64 hi) := cell_later hb qw49
    have sz := hb.size
    have zr0 : w.heap.size < wr.heap.size := by omega
    have zr2 : w2.heap.size < wr.heap.size := by omega
    have HB := Lib.hid hb
    by_cases hlt : k < sn
    · obtain ⟨g, rfl, hg, hc⟩ := HA.out (by omega)
      obtain ⟨g1, g2⟩ := WG.out k hlt
      have c1 := cell_later hb (hc _ _ g1)
      have c2 := cell_later hb (hc _ _ g2)
      obtain ⟨wf, i1, i2, i3, i4⟩ := WF.out k hlt
      have l0 := wf.l0; have l1 := wf.l1; clear wf
      have hin : inB (x.wl k) (min x.fx x.tx) (max x.fx x.tx) = true := (inB_iff _ _ _).2 ⟨i1, i2⟩
      have HN := Lib.hid (fun w => within_any (x.wl k) (min x.fx x.tx) (max x.fx x.tx) w)
      rw [hin] at HN
      clear hin hc g1 g2 hb
      go_wp2_with fail
      have j0 : (0 : Int) ≤ (k : Int) := Int.natCast_nonneg _
      have j1 : (k : Int) < (sn : Int) := by omega
      have ew : IntKind.i64.wrap (x.wl k + 1) = x.wl k + 1 := IntWalk.i64_in _ (by omega)
      have d1 : decide (x.wh k < x.wl k) = false := by simp; omega
      have d2 : decide (x.wl k + 1 < x.wh k) = false := by simp; omega
      go_quiet ((go_at_call 43; exact Calls.quiet_of_same ((HN.out _).mono fun e w' h => ⟨h.1, h.2.symm⟩)))
      clear ew d1 d2
      go_wp2
      go_roundw
      case rel => exact ⟨k + 1, by omega, by go_num, below_drewN HB.out _⟩
      case measure => simp [intOf]; omega
    · have U2 : Hid (decide (100000 < uz) = false) := by show _ = _; simp; omega
      have H5 : Hid (Below w.heap.size w wr) := Lib.hid (Below.trans H4.out (hb.mono H4.out.size))
      clear hb
      have hks : ¬ ((k : Int) < (sn : Int)) := by omega
      have kk : decide ((k : Int) < (sn : Int)) = false := by simp; omega
      go_wp2_with fail
      have d1 := MD.out
      refine (MO.out _).mono ?_
      rintro e w6 ⟨rfl, hb6⟩
      have qw60 : w6.cell? ⟨w.heap.size, 0, none⟩ = some (.int .i64 x.m.wd) := cell_later hb6 (by simp [go_sem, World.cell?_alloc_past, World.frozen?_alloc_past, *])
      have qw61 : w6.cell? ⟨w.heap.size, 1, none⟩ = some (.int .i64 x.m.mt) := cell_later hb6 (by simp [go_sem, World.cell?_alloc_past, World.frozen?_alloc_past, *])
      have qw62 : w6.cell? ⟨w.heap.size, 2, none⟩ = some (.int .i64 x.m.sk) := cell_later hb6 (by simp [go_sem, World.cell?_alloc_past, World.frozen?_alloc_past, *])
      have qw63 : w6.cell? ⟨w.heap.size, 3, none⟩ = some (.int .i64 x.m.th) := cell_later hb6 (by simp [go_sem, World.cell?_alloc_past, World.frozen?_alloc_past, *])
      have qw64 : w6.cell? ⟨w.heap.size, 4, none⟩ = some (.int .i64 x.fx) := cell_later hb6 (by simp [go_sem, World.cell?_alloc_past, World.frozen?_alloc_past, *])
      have qw65 : w6.cell? ⟨w.heap.size, 5, none⟩ = some (.int .i64 x.fz) := cell_later hb6 (by simp [go_sem, World.cell?_alloc_past, World.frozen?_alloc_past, *])
      have qw66 : w6.cell? ⟨w.heap.size, 6, none⟩ = some (.int .i64 x.tx) := cell_later hb6 (by simp [go_sem, World.cell?_alloc_past, World.frozen?_alloc_past, *])
      have qw67 : w6.cell? ⟨w.heap.size, 7, none⟩ = some (.int .i64 x.tz) := cell_later hb6 (by simp [go_sem, World.cell?_alloc_past, World.frozen?_alloc_past, *])
      have qw68 : w6.cell? ⟨w2.heap.size, 0, none⟩ = some (.int .i64 lo) := cell_later hb6 (by simp [go_sem, World.cell?_alloc_past, World.frozen?_alloc_past, *])
      have qw69 : w6.cell? ⟨w2.heap.size, 1, none⟩ = some (.int .i64 hi) := cell_later hb6 (by simp [go_sem, World.cell?_alloc_past, World.frozen?_alloc_past, *])
      have zqw6_0 := World.block_lt_of_cell? _ _ qw60
      dsimp only at zqw6_0
      have zqw6_8 := World.block_lt_of_cell? _ _ qw68
      dsimp only at zqw6_8
      have H6 : Hid (Below w.heap.size w w6) := Lib.hid (below_then (by (repeat (first | (with_reducible exact H5.out) | (with_reducible refine Below.setCell ?_ ?_ _) | (with_reducible refine below_alloc_top ?_ _) | (with_reducible refine Below.drew ?_))); all_goals (first | omega | (simp; done) | (simp; omega))) hb6); clear hb6
      have d2 := U2.out
      go_wp2_with fail
      refine (HO.out _).mono ?_
      rintro e w7 ⟨rfl, hb7⟩
      have qw70 : w7.cell? ⟨w.heap.size, 0, none⟩ = some (.int .i64 x.m.wd) := cell_later hb7 (by simp [go_sem, World.cell?_alloc_past, World.frozen?_alloc_past, *])
      have qw71 : w7.cell? ⟨w.heap.size, 1, none⟩ = some (.int .i64 x.m.mt) := cell_later hb7 (by simp [go_sem, World.cell?_alloc_past, World.frozen?_alloc_past, *])
      have qw72 : w7.cell? ⟨w.heap.size, 2, none⟩ = some (.int .i64 x.m.sk) := cell_later hb7 (by simp [go_sem, World.cell?_alloc_past, World.frozen?_alloc_past, *])
      have qw73 : w7.cell? ⟨w.heap.size, 3, none⟩ = some (.int .i64 x.m.th) := cell_later hb7 (by simp [go_sem, World.cell?_alloc_past, World.frozen?_alloc_past, *])
      have qw74 : w7.cell? ⟨w.heap.size, 4, none⟩ = some (.int .i64 x.fx) := cell_later hb7 (by simp [go_sem, World.cell?_alloc_past, World.frozen?_alloc_past, *])
      have qw75 : w7.cell? ⟨w.heap.size, 5, none⟩ = some (.int .i64 x.fz) := cell_later hb7 (by simp [go_sem, World.cell?_alloc_past, World.frozen?_alloc_past, *])
      have qw76 : w7.cell? ⟨w.heap.size, 6, none⟩ = some (.int .i64 x.tx) := cell_later hb7 (by simp [go_sem, World.cell?_alloc_past, World.frozen?_alloc_past, *])
      have qw77 : w7.cell? ⟨w.heap.size, 7, none⟩ = some (.int .i64 x.tz) := cell_later hb7 (by simp [go_sem, World.cell?_alloc_past, World.frozen?_alloc_past, *])
      have qw78 : w7.cell? ⟨w2.heap.size, 0, none⟩ = some (.int .i64 lo) := cell_later hb7 (by simp [go_sem, World.cell?_alloc_past, World.frozen?_alloc_past, *])
      have qw79 : w7.cell? ⟨w2.heap.size, 1, none⟩ = some (.int .i64 hi) := cell_later hb7 (by simp [go_sem, World.cell?_alloc_past, World.frozen?_alloc_past, *])
      have zqw7_0 := World.block_lt_of_cell? _ _ qw70
      dsimp only at zqw7_0
      have zqw7_8 := World.block_lt_of_cell? _ _ qw78
      dsimp only at zqw7_8
      have H7 : Hid (Below w.heap.size w w7) := Lib.hid (below_then (by (repeat (first | (with_reducible exact H6.out) | (with_reducible refine Below.setCell ?_ ?_ _) | (with_reducible refine below_alloc_top ?_ _) | (with_reducible refine Below.drew ?_))); all_goals (first | omega | (simp; done) | (simp; omega))) hb7); clear hb7
      go_wp2_with fail
      refine (HM.out _).mono ?_
      rintro e w8 ⟨rfl, hb8⟩

      have H8 : Hid (Below w.heap.size w w8) := Lib.hid (below_then (by (repeat (first | (with_reducible exact H7.out) | (with_reducible refine Below.setCell ?_ ?_ _) | (with_reducible refine below_alloc_top ?_ _) | (with_reducible refine Below.drew ?_))); all_goals (first | omega | (simp; done) | (simp; omega))) hb8); clear hb8
      go_wp2
      go_ret
      exact ⟨rfl, (by (repeat (first | (with_reducible exact H8.out) | (with_reducible refine Below.setCell ?_ ?_ _) | (with_reducible refine below_alloc_top ?_ _) | (with_reducible refine Below.drew ?_))); all_goals (first | omega | (simp; done) | (simp; omega)))⟩
set_option maxRecDepth 100000 in
set_option maxHeartbeats 1000000 in
theorem skips_md (x : Wy) (o : x.ok) (hm : x.m.sk < 4) (hv : x.m.wd ≠ x.m.mt) (w : World) :
    Calls Try.prog 10 #[.agg #[.int .i64 x.m.wd, .int .i64 x.m.mt, .int .i64 x.m.sk, .int .i64 x.m.th, .int .i64 x.fx, .int .i64 x.fz, .int .i64 x.tx, .int .i64 x.tz]] w fun e w' => e = .returned (.bool true) ∧ Below w.heap.size w w' := by
  have HP := Lib.hid (fun w => leastOf_ok x o w)
  have HU := Lib.hid (fun w => unfolded_ok x.m o.m x.tz w o.d1 o.d2)
  have HW := Lib.hid (fun w => walls_ok x o w)
  have sk0 := o.m.c1; have sk4 := o.m.c2
  have n1 : ((x.m.sk.toNat : Int) != x.m.sk) = false := by
    rw [Int.toNat_of_nonneg sk0]; simp
  have hs : x.m.sk.toNat ≤ 4 := by omega
  have WF := Lib.hid (fun (k : Nat) (hk : k < x.m.sk.toNat) => wl_f x o k (by omega))
  have WG := Lib.hid (fun (i : Nat) (h : i < x.m.sk.toNat) => walls_get x x.m.sk.toNat i h)
  have UF := Lib.hid (unf_bounds x.m o.m x.tz o.d1 o.d2)
  generalize x.m.sk.toNat = sn at *
  have MO : Hid (∀ w, Calls Try.prog 49 #[.agg #[.int .i64 x.m.wd, .int .i64 x.m.mt, .int .i64 (x.m.sk + 1), .int .i64 x.m.th], .agg #[.int .i64 x.fx, .int .i64 x.fz], .agg #[.int .i64 x.tx, .int .i64 x.tz]] w fun e w' => e = .returned (.tuple #[.agg #[.int .i64 x.up.cr.lLo, .int .i64 x.up.cr.lHi], .int .i64 0]) ∧ Below w.heap.size w w') := Lib.hid (fun w => leastOf_ok x.up (up_ok x o hm) w)
  have md := up_deep x o hm
  generalize x.up.cr.lLo = ulo at *
  generalize x.up.cr.lHi = uhi at *
  have MD : Hid (decide (uhi < x.cr.lLo) = false) := by show _ = _; simp; omega
  have m5 : decide (x.m.sk < 4) = true := by simpa using hm
  clear md hm
  have n2 : (x.m.wd != x.m.mt) = true := by simpa using hv
  clear hv
  generalize x.cr.lLo = lo at *
  generalize x.cr.lHi = hi at *
  clear o
  go_enter Try.func10, Try.ntmps10
  go_wp2_with fail
  refine (awake_any _).mono ?_
  rintro e w1 ⟨rfl, hb1⟩
  have qw10 : w1.cell? ⟨w.heap.size, 0, none⟩ = some (.int .i64 x.m.wd) := cell_later hb1 (by simp [go_sem])
  have qw11 : w1.cell? ⟨w.heap.size, 1, none⟩ = some (.int .i64 x.m.mt) := cell_later hb1 (by simp [go_sem])
  have qw12 : w1.cell? ⟨w.heap.size, 2, none⟩ = some (.int .i64 x.m.sk) := cell_later hb1 (by simp [go_sem])
  have qw13 : w1.cell? ⟨w.heap.size, 3, none⟩ = some (.int .i64 x.m.th) := cell_later hb1 (by simp [go_sem])
  have qw14 : w1.cell? ⟨w.heap.size, 4, none⟩ = some (.int .i64 x.fx) := cell_later hb1 (by simp [go_sem])
  have qw15 : w1.cell? ⟨w.heap.size, 5, none⟩ = some (.int .i64 x.fz) := cell_later hb1 (by simp [go_sem])
  have qw16 : w1.cell? ⟨w.heap.size, 6, none⟩ = some (.int .i64 x.tx) := cell_later hb1 (by simp [go_sem])
  have qw17 : w1.cell? ⟨w.heap.size, 7, none⟩ = some (.int .i64 x.tz) := cell_later hb1 (by simp [go_sem])
  have zqw1_0 := World.block_lt_of_cell? _ _ qw10
  dsimp only at zqw1_0
  have H1 : Hid (Below w.heap.size w w1) := Lib.hid (below_after (by repeat (first | exact Below.refl _ _ | refine Below.drew ?_ | refine below_drewN ?_ _ | refine Below.setCell ?_ (by first | omega | (simp; done) | (simp; omega)) _ | refine Below.alloc ?_ (by first | omega | (simp; done) | (simp; omega)) _)) hb1 (by first | omega | (simp; done) | (simp; omega))); clear hb1
  go_wp2_with fail
  refine (HP.out _).mono ?_
  rintro e w2 ⟨rfl, hb2⟩
  have qw20 : w2.cell? ⟨w.heap.size, 0, none⟩ = some (.int .i64 x.m.wd) := cell_later hb2 (by simp [go_sem, World.cell?_alloc_past, World.frozen?_alloc_past, *])
  have qw21 : w2.cell? ⟨w.heap.size, 1, none⟩ = some (.int .i64 x.m.mt) := cell_later hb2 (by simp [go_sem, World.cell?_alloc_past, World.frozen?_alloc_past, *])
  have qw22 : w2.cell? ⟨w.heap.size, 2, none⟩ = some (.int .i64 x.m.sk) := cell_later hb2 (by simp [go_sem, World.cell?_alloc_past, World.frozen?_alloc_past, *])
  have qw23 : w2.cell? ⟨w.heap.size, 3, none⟩ = some (.int .i64 x.m.th) := cell_later hb2 (by simp [go_sem, World.cell?_alloc_past, World.frozen?_alloc_past, *])
  have qw24 : w2.cell? ⟨w.heap.size, 4, none⟩ = some (.int .i64 x.fx) := cell_later hb2 (by simp [go_sem, World.cell?_alloc_past, World.frozen?_alloc_past, *])
  have qw25 : w2.cell? ⟨w.heap.size, 5, none⟩ = some (.int .i64 x.fz) := cell_later hb2 (by simp [go_sem, World.cell?_alloc_past, World.frozen?_alloc_past, *])
  have qw26 : w2.cell? ⟨w.heap.size, 6, none⟩ = some (.int .i64 x.tx) := cell_later hb2 (by simp [go_sem, World.cell?_alloc_past, World.frozen?_alloc_past, *])
  have qw27 : w2.cell? ⟨w.heap.size, 7, none⟩ = some (.int .i64 x.tz) := cell_later hb2 (by simp [go_sem, World.cell?_alloc_past, World.frozen?_alloc_past, *])
  have zqw2_0 := World.block_lt_of_cell? _ _ qw20
  dsimp only at zqw2_0
  have H2 : Hid (Below w.heap.size w w2) := Lib.hid (below_then (by (repeat (first | (with_reducible exact H1.out) | (with_reducible refine Below.setCell ?_ ?_ _) | (with_reducible refine below_alloc_top ?_ _) | (with_reducible refine Below.drew ?_))); all_goals (first | omega | (simp; done) | (simp; omega))) hb2); clear hb2
  go_wp2_with fail
  refine (HU.out _).mono ?_
  rintro e w3 ⟨rfl, hb3⟩
  have qw30 : w3.cell? ⟨w.heap.size, 0, none⟩ = some (.int .i64 x.m.wd) := cell_later hb3 (by simp [go_sem, World.cell?_alloc_past, World.frozen?_alloc_past, *])
  have qw31 : w3.cell? ⟨w.heap.size, 1, none⟩ = some (.int .i64 x.m.mt) := cell_later hb3 (by simp [go_sem, World.cell?_alloc_past, World.frozen?_alloc_past, *])
  have qw32 : w3.cell? ⟨w.heap.size, 2, none⟩ = some (.int .i64 x.m.sk) := cell_later hb3 (by simp [go_sem, World.cell?_alloc_past, World.frozen?_alloc_past, *])
  have qw33 : w3.cell? ⟨w.heap.size, 3, none⟩ = some (.int .i64 x.m.th) := cell_later hb3 (by simp [go_sem, World.cell?_alloc_past, World.frozen?_alloc_past, *])
  have qw34 : w3.cell? ⟨w.heap.size, 4, none⟩ = some (.int .i64 x.fx) := cell_later hb3 (by simp [go_sem, World.cell?_alloc_past, World.frozen?_alloc_past, *])
  have qw35 : w3.cell? ⟨w.heap.size, 5, none⟩ = some (.int .i64 x.fz) := cell_later hb3 (by simp [go_sem, World.cell?_alloc_past, World.frozen?_alloc_past, *])
  have qw36 : w3.cell? ⟨w.heap.size, 6, none⟩ = some (.int .i64 x.tx) := cell_later hb3 (by simp [go_sem, World.cell?_alloc_past, World.frozen?_alloc_past, *])
  have qw37 : w3.cell? ⟨w.heap.size, 7, none⟩ = some (.int .i64 x.tz) := cell_later hb3 (by simp [go_sem, World.cell?_alloc_past, World.frozen?_alloc_past, *])
  have qw38 : w3.cell? ⟨w2.heap.size, 0, none⟩ = some (.int .i64 lo) := cell_later hb3 (by simp [go_sem, World.cell?_alloc_past, World.frozen?_alloc_past, *])
  have qw39 : w3.cell? ⟨w2.heap.size, 1, none⟩ = some (.int .i64 hi) := cell_later hb3 (by simp [go_sem, World.cell?_alloc_past, World.frozen?_alloc_past, *])
  have zqw3_0 := World.block_lt_of_cell? _ _ qw30
  dsimp only at zqw3_0
  have zqw3_8 := World.block_lt_of_cell? _ _ qw38
  dsimp only at zqw3_8
  have H3 : Hid (Below w.heap.size w w3) := Lib.hid (below_then (by (repeat (first | (with_reducible exact H2.out) | (with_reducible refine Below.setCell ?_ ?_ _) | (with_reducible refine below_alloc_top ?_ _) | (with_reducible refine Below.drew ?_))); all_goals (first | omega | (simp; done) | (simp; omega))) hb3); clear hb3
  go_wp2_with fail
  refine (HW.out _).mono ?_
  rintro e w4 ⟨v, rfl, hown, hb4⟩
  have qw40 : w4.cell? ⟨w.heap.size, 0, none⟩ = some (.int .i64 x.m.wd) := cell_later hb4 (by simp [go_sem, World.cell?_alloc_past, World.frozen?_alloc_past, *])
  have qw41 : w4.cell? ⟨w.heap.size, 1, none⟩ = some (.int .i64 x.m.mt) := cell_later hb4 (by simp [go_sem, World.cell?_alloc_past, World.frozen?_alloc_past, *])
  have qw42 : w4.cell? ⟨w.heap.size, 2, none⟩ = some (.int .i64 x.m.sk) := cell_later hb4 (by simp [go_sem, World.cell?_alloc_past, World.frozen?_alloc_past, *])
  have qw43 : w4.cell? ⟨w.heap.size, 3, none⟩ = some (.int .i64 x.m.th) := cell_later hb4 (by simp [go_sem, World.cell?_alloc_past, World.frozen?_alloc_past, *])
  have qw44 : w4.cell? ⟨w.heap.size, 4, none⟩ = some (.int .i64 x.fx) := cell_later hb4 (by simp [go_sem, World.cell?_alloc_past, World.frozen?_alloc_past, *])
  have qw45 : w4.cell? ⟨w.heap.size, 5, none⟩ = some (.int .i64 x.fz) := cell_later hb4 (by simp [go_sem, World.cell?_alloc_past, World.frozen?_alloc_past, *])
  have qw46 : w4.cell? ⟨w.heap.size, 6, none⟩ = some (.int .i64 x.tx) := cell_later hb4 (by simp [go_sem, World.cell?_alloc_past, World.frozen?_alloc_past, *])
  have qw47 : w4.cell? ⟨w.heap.size, 7, none⟩ = some (.int .i64 x.tz) := cell_later hb4 (by simp [go_sem, World.cell?_alloc_past, World.frozen?_alloc_past, *])
  have qw48 : w4.cell? ⟨w2.heap.size, 0, none⟩ = some (.int .i64 lo) := cell_later hb4 (by simp [go_sem, World.cell?_alloc_past, World.frozen?_alloc_past, *])
  have qw49 : w4.cell? ⟨w2.heap.size, 1, none⟩ = some (.int .i64 hi) := cell_later hb4 (by simp [go_sem, World.cell?_alloc_past, World.frozen?_alloc_past, *])
  have zqw4_0 := World.block_lt_of_cell? _ _ qw40
  dsimp only at zqw4_0
  have zqw4_8 := World.block_lt_of_cell? _ _ qw48
  dsimp only at zqw4_8
  have H4 : Hid (Below w.heap.size w w4) := Lib.hid (below_then (by (repeat (first | (with_reducible exact H3.out) | (with_reducible refine Below.setCell ?_ ?_ _) | (with_reducible refine below_alloc_top ?_ _) | (with_reducible refine Below.drew ?_))); all_goals (first | omega | (simp; done) | (simp; omega))) hb4); clear hb4
  obtain ⟨A, c, rfl, hA⟩ := row_form hown
  have HA := Lib.hid hA; clear hA hown
  obtain ⟨u1, u2, u3, u4⟩ := UF.out
  clear u3 u4
  generalize x.m.unf x.tz = uz at *
  go_wp2
  go_loopw [9] (fun i wr => ∃ k : Nat, k ≤ sn ∧ i = .int .i64 (k : Int) ∧ Below w4.heap.size w4 wr) (fun i _ => sn - (intOf i).toNat)
  case atStart => exact ⟨0, Nat.zero_le _, rfl, Below.refl _ _⟩
  case round =>
    obtain ⟨k, hk, rfl, hb⟩ := hrel
    have r0 : wr.cell? ⟨w.heap.size, 0, none⟩ = some (.int .i64 x.m.wd) := cell_later hb qw40
    have r1 : wr.cell? ⟨w.heap.size, 1, none⟩ = some (.int .i64 x.m.mt) := cell_later hb qw41
    have r2 : wr.cell? ⟨w.heap.size, 2, none⟩ = some (.int .i64 x.m.sk) := cell_later hb qw42
    have r3 : wr.cell? ⟨w.heap.size, 3, none⟩ = some (.int .i64 x.m.th) := cell_later hb qw43
    have r4 : wr.cell? ⟨w.heap.size, 4, none⟩ = some (.int .i64 x.fx) := cell_later hb qw44
    have r5 : wr.cell? ⟨w.heap.size, 5, none⟩ = some (.int .i64 x.fz) := cell_later hb qw45
    have r6 : wr.cell? ⟨w.heap.size, 6, none⟩ = some (.int .i64 x.tx) := cell_later hb qw46
    have r7 : wr.cell? ⟨w.heap.size, 7, none⟩ = some (.int .i64 x.tz) := cell_later hb qw47
    have r8 : wr.cell? ⟨w2.heap.size, 0, none⟩ = some (.int .i64 lo) := cell_later hb qw48
    have r9 : wr.cell? ⟨w2.heap.size, 1, none⟩ = some (.int .i64 hi) := cell_later hb qw49
    have sz := hb.size
    have zr0 : w.heap.size < wr.heap.size := by omega
    have zr2 : w2.heap.size < wr.heap.size := by omega
    have HB := Lib.hid hb
    by_cases hlt : k < sn
    · obtain ⟨g, rfl, hg, hc⟩ := HA.out (by omega)
      obtain ⟨g1, g2⟩ := WG.out k hlt
      have c1 := cell_later hb (hc _ _ g1)
      have c2 := cell_later hb (hc _ _ g2)
      obtain ⟨wf, i1, i2, i3, i4⟩ := WF.out k hlt
      have l0 := wf.l0; have l1 := wf.l1; clear wf
      have hin : inB (x.wl k) (min x.fx x.tx) (max x.fx x.tx) = true := (inB_iff _ _ _).2 ⟨i1, i2⟩
      have HN := Lib.hid (fun w => within_any (x.wl k) (min x.fx x.tx) (max x.fx x.tx) w)
      rw [hin] at HN
      clear hin hc g1 g2 hb
      go_wp2_with fail
      have j0 : (0 : Int) ≤ (k : Int) := Int.natCast_nonneg _
      have j1 : (k : Int) < (sn : Int) := by omega
      have ew : IntKind.i64.wrap (x.wl k + 1) = x.wl k + 1 := IntWalk.i64_in _ (by omega)
      have d1 : decide (x.wh k < x.wl k) = false := by simp; omega
      have d2 : decide (x.wl k + 1 < x.wh k) = false := by simp; omega
      go_quiet ((go_at_call 43; exact Calls.quiet_of_same ((HN.out _).mono fun e w' h => ⟨h.1, h.2.symm⟩)))
      clear ew d1 d2
      go_wp2
      go_roundw
      case rel => exact ⟨k + 1, by omega, by go_num, below_drewN HB.out _⟩
      case measure => simp [intOf]; omega
    · have U2 : Hid (decide (100000 < uz) = false) := by show _ = _; simp; omega
      have H5 : Hid (Below w.heap.size w wr) := Lib.hid (Below.trans H4.out (hb.mono H4.out.size))
      clear hb
      have hks : ¬ ((k : Int) < (sn : Int)) := by omega
      have kk : decide ((k : Int) < (sn : Int)) = false := by simp; omega
      go_wp2_with fail
      have d1 := MD.out
      refine (MO.out _).mono ?_
      rintro e w6 ⟨rfl, hb6⟩
      have qw60 : w6.cell? ⟨w.heap.size, 0, none⟩ = some (.int .i64 x.m.wd) := cell_later hb6 (by simp [go_sem, World.cell?_alloc_past, World.frozen?_alloc_past, *])
      have qw61 : w6.cell? ⟨w.heap.size, 1, none⟩ = some (.int .i64 x.m.mt) := cell_later hb6 (by simp [go_sem, World.cell?_alloc_past, World.frozen?_alloc_past, *])
      have qw62 : w6.cell? ⟨w.heap.size, 2, none⟩ = some (.int .i64 x.m.sk) := cell_later hb6 (by simp [go_sem, World.cell?_alloc_past, World.frozen?_alloc_past, *])
      have qw63 : w6.cell? ⟨w.heap.size, 3, none⟩ = some (.int .i64 x.m.th) := cell_later hb6 (by simp [go_sem, World.cell?_alloc_past, World.frozen?_alloc_past, *])
      have qw64 : w6.cell? ⟨w.heap.size, 4, none⟩ = some (.int .i64 x.fx) := cell_later hb6 (by simp [go_sem, World.cell?_alloc_past, World.frozen?_alloc_past, *])
      have qw65 : w6.cell? ⟨w.heap.size, 5, none⟩ = some (.int .i64 x.fz) := cell_later hb6 (by simp [go_sem, World.cell?_alloc_past, World.frozen?_alloc_past, *])
      have qw66 : w6.cell? ⟨w.heap.size, 6, none⟩ = some (.int .i64 x.tx) := cell_later hb6 (by simp [go_sem, World.cell?_alloc_past, World.frozen?_alloc_past, *])
      have qw67 : w6.cell? ⟨w.heap.size, 7, none⟩ = some (.int .i64 x.tz) := cell_later hb6 (by simp [go_sem, World.cell?_alloc_past, World.frozen?_alloc_past, *])
      have qw68 : w6.cell? ⟨w2.heap.size, 0, none⟩ = some (.int .i64 lo) := cell_later hb6 (by simp [go_sem, World.cell?_alloc_past, World.frozen?_alloc_past, *])
      have qw69 : w6.cell? ⟨w2.heap.size, 1, none⟩ = some (.int .i64 hi) := cell_later hb6 (by simp [go_sem, World.cell?_alloc_past, World.frozen?_alloc_past, *])
      have zqw6_0 := World.block_lt_of_cell? _ _ qw60
      dsimp only at zqw6_0
      have zqw6_8 := World.block_lt_of_cell? _ _ qw68
      dsimp only at zqw6_8
      have H6 : Hid (Below w.heap.size w w6) := Lib.hid (below_then (by (repeat (first | (with_reducible exact H5.out) | (with_reducible refine Below.setCell ?_ ?_ _) | (with_reducible refine below_alloc_top ?_ _) | (with_reducible refine Below.drew ?_))); all_goals (first | omega | (simp; done) | (simp; omega))) hb6); clear hb6
      have d2 := U2.out
      go_wp2
      go_ret
      exact ⟨rfl, (by (repeat (first | (with_reducible exact H6.out) | (with_reducible refine Below.setCell ?_ ?_ _) | (with_reducible refine below_alloc_top ?_ _) | (with_reducible refine Below.drew ?_))); all_goals (first | omega | (simp; done) | (simp; omega)))⟩
set_option maxRecDepth 100000 in
set_option maxHeartbeats 1000000 in
theorem skips_es (x : Wy) (o : x.ok) (hm : ¬ x.m.sk < 4) (hv : x.m.wd = x.m.mt) (w : World) :
    Calls Try.prog 10 #[.agg #[.int .i64 x.m.wd, .int .i64 x.m.mt, .int .i64 x.m.sk, .int .i64 x.m.th, .int .i64 x.fx, .int .i64 x.fz, .int .i64 x.tx, .int .i64 x.tz]] w fun e w' => e = .returned (.bool true) ∧ Below w.heap.size w w' := by
  have HP := Lib.hid (fun w => leastOf_ok x o w)
  have HU := Lib.hid (fun w => unfolded_ok x.m o.m x.tz w o.d1 o.d2)
  have HW := Lib.hid (fun w => walls_ok x o w)
  have sk0 := o.m.c1; have sk4 := o.m.c2
  have n1 : ((x.m.sk.toNat : Int) != x.m.sk) = false := by
    rw [Int.toNat_of_nonneg sk0]; simp
  have hs : x.m.sk.toNat ≤ 4 := by omega
  have WF := Lib.hid (fun (k : Nat) (hk : k < x.m.sk.toNat) => wl_f x o k (by omega))
  have WG := Lib.hid (fun (i : Nat) (h : i < x.m.sk.toNat) => walls_get x x.m.sk.toNat i h)
  have UF := Lib.hid (unf_bounds x.m o.m x.tz o.d1 o.d2)
  generalize x.m.sk.toNat = sn at *
  have q4 : x.m.sk = 4 := by omega
  have q5 : decide (x.m.sk < 4) = false := by simp [q4]
  clear q4
  have hz : x.tz - x.tz = 0 := by omega
  have s := straight x.cr (cr_ok x o) hv
  have l := lLo_lHi x.cr (cr_ok x o)
  have d : x.m.unf x.tz - x.fz = x.cr.h1 + x.cr.h2 := by show _ = -x.fz + x.m.unf x.tz; omega
  have tl : toLo x.fx x.fz x.tx (x.m.unf x.tz) x.m.mt = legLo (x.cr.x2 - x.cr.x1) (x.cr.h1 + x.cr.h2) x.cr.v1 := by rw [← d, ← hv]; rfl
  have th : toHi x.fx x.fz x.tx (x.m.unf x.tz) x.m.mt = legHi (x.cr.x2 - x.cr.x1) (x.cr.h1 + x.cr.h2) x.cr.v1 := by rw [← d, ← hv]; rfl
  have HO := Lib.hid (fun w => timeOf_ok x.fx x.fz x.tx (x.m.unf x.tz) x.m.mt w ⟨o.a1, o.a2, o.b1, by have := o.b2; omega, o.c1, o.c2, by have := UF.out; omega, by have := UF.out; omega⟩ o.m.b1 o.m.b2)
  rw [← tl, ← th] at s
  have lb := leg_bounds (x.cr.x2 - x.cr.x1) (x.cr.h1 + x.cr.h2) x.cr.v1 (by show -400000 ≤ x.tx - x.fx; have := o.c1; have := o.a2; omega) (by show x.tx - x.fx ≤ 400000; have := o.c2; have := o.a1; omega) (by show -400000 ≤ -x.fz + x.m.unf x.tz; have := UF.out; have := o.b2; omega) (by show -x.fz + x.m.unf x.tz ≤ 400000; have := UF.out; have := o.b1; omega) o.m.a1
  rw [← tl, ← th] at lb
  have HM := Lib.hid (fun w => meets_true (toLo x.fx x.fz x.tx (x.m.unf x.tz) x.m.mt) (toHi x.fx x.fz x.tx (x.m.unf x.tz) x.m.mt) x.cr.lLo x.cr.lHi w (by omega))
  have n2 : (x.m.wd != x.m.mt) = false := by simpa using hv
  clear hz s l d tl th lb hv
  generalize toLo x.fx x.fz x.tx (x.m.unf x.tz) x.m.mt = sl at *
  generalize toHi x.fx x.fz x.tx (x.m.unf x.tz) x.m.mt = sh at *
  generalize x.cr.lLo = lo at *
  generalize x.cr.lHi = hi at *
  clear o
  go_enter Try.func10, Try.ntmps10
  go_wp2_with fail
  refine (awake_any _).mono ?_
  rintro e w1 ⟨rfl, hb1⟩
  have qw10 : w1.cell? ⟨w.heap.size, 0, none⟩ = some (.int .i64 x.m.wd) := cell_later hb1 (by simp [go_sem])
  have qw11 : w1.cell? ⟨w.heap.size, 1, none⟩ = some (.int .i64 x.m.mt) := cell_later hb1 (by simp [go_sem])
  have qw12 : w1.cell? ⟨w.heap.size, 2, none⟩ = some (.int .i64 x.m.sk) := cell_later hb1 (by simp [go_sem])
  have qw13 : w1.cell? ⟨w.heap.size, 3, none⟩ = some (.int .i64 x.m.th) := cell_later hb1 (by simp [go_sem])
  have qw14 : w1.cell? ⟨w.heap.size, 4, none⟩ = some (.int .i64 x.fx) := cell_later hb1 (by simp [go_sem])
  have qw15 : w1.cell? ⟨w.heap.size, 5, none⟩ = some (.int .i64 x.fz) := cell_later hb1 (by simp [go_sem])
  have qw16 : w1.cell? ⟨w.heap.size, 6, none⟩ = some (.int .i64 x.tx) := cell_later hb1 (by simp [go_sem])
  have qw17 : w1.cell? ⟨w.heap.size, 7, none⟩ = some (.int .i64 x.tz) := cell_later hb1 (by simp [go_sem])
  have zqw1_0 := World.block_lt_of_cell? _ _ qw10
  dsimp only at zqw1_0
  have H1 : Hid (Below w.heap.size w w1) := Lib.hid (below_after (by repeat (first | exact Below.refl _ _ | refine Below.drew ?_ | refine below_drewN ?_ _ | refine Below.setCell ?_ (by first | omega | (simp; done) | (simp; omega)) _ | refine Below.alloc ?_ (by first | omega | (simp; done) | (simp; omega)) _)) hb1 (by first | omega | (simp; done) | (simp; omega))); clear hb1
  go_wp2_with fail
  refine (HP.out _).mono ?_
  rintro e w2 ⟨rfl, hb2⟩
  have qw20 : w2.cell? ⟨w.heap.size, 0, none⟩ = some (.int .i64 x.m.wd) := cell_later hb2 (by simp [go_sem, World.cell?_alloc_past, World.frozen?_alloc_past, *])
  have qw21 : w2.cell? ⟨w.heap.size, 1, none⟩ = some (.int .i64 x.m.mt) := cell_later hb2 (by simp [go_sem, World.cell?_alloc_past, World.frozen?_alloc_past, *])
  have qw22 : w2.cell? ⟨w.heap.size, 2, none⟩ = some (.int .i64 x.m.sk) := cell_later hb2 (by simp [go_sem, World.cell?_alloc_past, World.frozen?_alloc_past, *])
  have qw23 : w2.cell? ⟨w.heap.size, 3, none⟩ = some (.int .i64 x.m.th) := cell_later hb2 (by simp [go_sem, World.cell?_alloc_past, World.frozen?_alloc_past, *])
  have qw24 : w2.cell? ⟨w.heap.size, 4, none⟩ = some (.int .i64 x.fx) := cell_later hb2 (by simp [go_sem, World.cell?_alloc_past, World.frozen?_alloc_past, *])
  have qw25 : w2.cell? ⟨w.heap.size, 5, none⟩ = some (.int .i64 x.fz) := cell_later hb2 (by simp [go_sem, World.cell?_alloc_past, World.frozen?_alloc_past, *])
  have qw26 : w2.cell? ⟨w.heap.size, 6, none⟩ = some (.int .i64 x.tx) := cell_later hb2 (by simp [go_sem, World.cell?_alloc_past, World.frozen?_alloc_past, *])
  have qw27 : w2.cell? ⟨w.heap.size, 7, none⟩ = some (.int .i64 x.tz) := cell_later hb2 (by simp [go_sem, World.cell?_alloc_past, World.frozen?_alloc_past, *])
  have zqw2_0 := World.block_lt_of_cell? _ _ qw20
  dsimp only at zqw2_0
  have H2 : Hid (Below w.heap.size w w2) := Lib.hid (below_then (by (repeat (first | (with_reducible exact H1.out) | (with_reducible refine Below.setCell ?_ ?_ _) | (with_reducible refine below_alloc_top ?_ _) | (with_reducible refine Below.drew ?_))); all_goals (first | omega | (simp; done) | (simp; omega))) hb2); clear hb2
  go_wp2_with fail
  refine (HU.out _).mono ?_
  rintro e w3 ⟨rfl, hb3⟩
  have qw30 : w3.cell? ⟨w.heap.size, 0, none⟩ = some (.int .i64 x.m.wd) := cell_later hb3 (by simp [go_sem, World.cell?_alloc_past, World.frozen?_alloc_past, *])
  have qw31 : w3.cell? ⟨w.heap.size, 1, none⟩ = some (.int .i64 x.m.mt) := cell_later hb3 (by simp [go_sem, World.cell?_alloc_past, World.frozen?_alloc_past, *])
  have qw32 : w3.cell? ⟨w.heap.size, 2, none⟩ = some (.int .i64 x.m.sk) := cell_later hb3 (by simp [go_sem, World.cell?_alloc_past, World.frozen?_alloc_past, *])
  have qw33 : w3.cell? ⟨w.heap.size, 3, none⟩ = some (.int .i64 x.m.th) := cell_later hb3 (by simp [go_sem, World.cell?_alloc_past, World.frozen?_alloc_past, *])
  have qw34 : w3.cell? ⟨w.heap.size, 4, none⟩ = some (.int .i64 x.fx) := cell_later hb3 (by simp [go_sem, World.cell?_alloc_past, World.frozen?_alloc_past, *])
  have qw35 : w3.cell? ⟨w.heap.size, 5, none⟩ = some (.int .i64 x.fz) := cell_later hb3 (by simp [go_sem, World.cell?_alloc_past, World.frozen?_alloc_past, *])
  have qw36 : w3.cell? ⟨w.heap.size, 6, none⟩ = some (.int .i64 x.tx) := cell_later hb3 (by simp [go_sem, World.cell?_alloc_past, World.frozen?_alloc_past, *])
  have qw37 : w3.cell? ⟨w.heap.size, 7, none⟩ = some (.int .i64 x.tz) := cell_later hb3 (by simp [go_sem, World.cell?_alloc_past, World.frozen?_alloc_past, *])
  have qw38 : w3.cell? ⟨w2.heap.size, 0, none⟩ = some (.int .i64 lo) := cell_later hb3 (by simp [go_sem, World.cell?_alloc_past, World.frozen?_alloc_past, *])
  have qw39 : w3.cell? ⟨w2.heap.size, 1, none⟩ = some (.int .i64 hi) := cell_later hb3 (by simp [go_sem, World.cell?_alloc_past, World.frozen?_alloc_past, *])
  have zqw3_0 := World.block_lt_of_cell? _ _ qw30
  dsimp only at zqw3_0
  have zqw3_8 := World.block_lt_of_cell? _ _ qw38
  dsimp only at zqw3_8
  have H3 : Hid (Below w.heap.size w w3) := Lib.hid (below_then (by (repeat (first | (with_reducible exact H2.out) | (with_reducible refine Below.setCell ?_ ?_ _) | (with_reducible refine below_alloc_top ?_ _) | (with_reducible refine Below.drew ?_))); all_goals (first | omega | (simp; done) | (simp; omega))) hb3); clear hb3
  go_wp2_with fail
  refine (HW.out _).mono ?_
  rintro e w4 ⟨v, rfl, hown, hb4⟩
  have qw40 : w4.cell? ⟨w.heap.size, 0, none⟩ = some (.int .i64 x.m.wd) := cell_later hb4 (by simp [go_sem, World.cell?_alloc_past, World.frozen?_alloc_past, *])
  have qw41 : w4.cell? ⟨w.heap.size, 1, none⟩ = some (.int .i64 x.m.mt) := cell_later hb4 (by simp [go_sem, World.cell?_alloc_past, World.frozen?_alloc_past, *])
  have qw42 : w4.cell? ⟨w.heap.size, 2, none⟩ = some (.int .i64 x.m.sk) := cell_later hb4 (by simp [go_sem, World.cell?_alloc_past, World.frozen?_alloc_past, *])
  have qw43 : w4.cell? ⟨w.heap.size, 3, none⟩ = some (.int .i64 x.m.th) := cell_later hb4 (by simp [go_sem, World.cell?_alloc_past, World.frozen?_alloc_past, *])
  have qw44 : w4.cell? ⟨w.heap.size, 4, none⟩ = some (.int .i64 x.fx) := cell_later hb4 (by simp [go_sem, World.cell?_alloc_past, World.frozen?_alloc_past, *])
  have qw45 : w4.cell? ⟨w.heap.size, 5, none⟩ = some (.int .i64 x.fz) := cell_later hb4 (by simp [go_sem, World.cell?_alloc_past, World.frozen?_alloc_past, *])
  have qw46 : w4.cell? ⟨w.heap.size, 6, none⟩ = some (.int .i64 x.tx) := cell_later hb4 (by simp [go_sem, World.cell?_alloc_past, World.frozen?_alloc_past, *])
  have qw47 : w4.cell? ⟨w.heap.size, 7, none⟩ = some (.int .i64 x.tz) := cell_later hb4 (by simp [go_sem, World.cell?_alloc_past, World.frozen?_alloc_past, *])
  have qw48 : w4.cell? ⟨w2.heap.size, 0, none⟩ = some (.int .i64 lo) := cell_later hb4 (by simp [go_sem, World.cell?_alloc_past, World.frozen?_alloc_past, *])
  have qw49 : w4.cell? ⟨w2.heap.size, 1, none⟩ = some (.int .i64 hi) := cell_later hb4 (by simp [go_sem, World.cell?_alloc_past, World.frozen?_alloc_past, *])
  have zqw4_0 := World.block_lt_of_cell? _ _ qw40
  dsimp only at zqw4_0
  have zqw4_8 := World.block_lt_of_cell? _ _ qw48
  dsimp only at zqw4_8
  have H4 : Hid (Below w.heap.size w w4) := Lib.hid (below_then (by (repeat (first | (with_reducible exact H3.out) | (with_reducible refine Below.setCell ?_ ?_ _) | (with_reducible refine below_alloc_top ?_ _) | (with_reducible refine Below.drew ?_))); all_goals (first | omega | (simp; done) | (simp; omega))) hb4); clear hb4
  obtain ⟨A, c, rfl, hA⟩ := row_form hown
  have HA := Lib.hid hA; clear hA hown
  obtain ⟨u1, u2, u3, u4⟩ := UF.out
  clear u3 u4
  generalize x.m.unf x.tz = uz at *
  go_wp2
  go_loopw [9] (fun i wr => ∃ k : Nat, k ≤ sn ∧ i = .int .i64 (k : Int) ∧ Below w4.heap.size w4 wr) (fun i _ => sn - (intOf i).toNat)
  case atStart => exact ⟨0, Nat.zero_le _, rfl, Below.refl _ _⟩
  case round =>
    obtain ⟨k, hk, rfl, hb⟩ := hrel
    have r0 : wr.cell? ⟨w.heap.size, 0, none⟩ = some (.int .i64 x.m.wd) := cell_later hb qw40
    have r1 : wr.cell? ⟨w.heap.size, 1, none⟩ = some (.int .i64 x.m.mt) := cell_later hb qw41
    have r2 : wr.cell? ⟨w.heap.size, 2, none⟩ = some (.int .i64 x.m.sk) := cell_later hb qw42
    have r3 : wr.cell? ⟨w.heap.size, 3, none⟩ = some (.int .i64 x.m.th) := cell_later hb qw43
    have r4 : wr.cell? ⟨w.heap.size, 4, none⟩ = some (.int .i64 x.fx) := cell_later hb qw44
    have r5 : wr.cell? ⟨w.heap.size, 5, none⟩ = some (.int .i64 x.fz) := cell_later hb qw45
    have r6 : wr.cell? ⟨w.heap.size, 6, none⟩ = some (.int .i64 x.tx) := cell_later hb qw46
    have r7 : wr.cell? ⟨w.heap.size, 7, none⟩ = some (.int .i64 x.tz) := cell_later hb qw47
    have r8 : wr.cell? ⟨w2.heap.size, 0, none⟩ = some (.int .i64 lo) := cell_later hb qw48
    have r9 : wr.cell? ⟨w2.heap.size, 1, none⟩ = some (.int .i64 hi) := cell_later hb qw49
    have sz := hb.size
    have zr0 : w.heap.size < wr.heap.size := by omega
    have zr2 : w2.heap.size < wr.heap.size := by omega
    have HB := Lib.hid hb
    by_cases hlt : k < sn
    · obtain ⟨g, rfl, hg, hc⟩ := HA.out (by omega)
      obtain ⟨g1, g2⟩ := WG.out k hlt
      have c1 := cell_later hb (hc _ _ g1)
      have c2 := cell_later hb (hc _ _ g2)
      obtain ⟨wf, i1, i2, i3, i4⟩ := WF.out k hlt
      have l0 := wf.l0; have l1 := wf.l1; clear wf
      have hin : inB (x.wl k) (min x.fx x.tx) (max x.fx x.tx) = true := (inB_iff _ _ _).2 ⟨i1, i2⟩
      have HN := Lib.hid (fun w => within_any (x.wl k) (min x.fx x.tx) (max x.fx x.tx) w)
      rw [hin] at HN
      clear hin hc g1 g2 hb
      go_wp2_with fail
      have j0 : (0 : Int) ≤ (k : Int) := Int.natCast_nonneg _
      have j1 : (k : Int) < (sn : Int) := by omega
      have ew : IntKind.i64.wrap (x.wl k + 1) = x.wl k + 1 := IntWalk.i64_in _ (by omega)
      have d1 : decide (x.wh k < x.wl k) = false := by simp; omega
      have d2 : decide (x.wl k + 1 < x.wh k) = false := by simp; omega
      go_quiet ((go_at_call 43; exact Calls.quiet_of_same ((HN.out _).mono fun e w' h => ⟨h.1, h.2.symm⟩)))
      clear ew d1 d2
      go_wp2
      go_roundw
      case rel => exact ⟨k + 1, by omega, by go_num, below_drewN HB.out _⟩
      case measure => simp [intOf]; omega
    · have U2 : Hid (decide (100000 < uz) = false) := by show _ = _; simp; omega
      have H5 : Hid (Below w.heap.size w wr) := Lib.hid (Below.trans H4.out (hb.mono H4.out.size))
      clear hb
      have hks : ¬ ((k : Int) < (sn : Int)) := by omega
      have kk : decide ((k : Int) < (sn : Int)) = false := by simp; omega
      have d2 := U2.out
      go_wp2_with fail
      refine (HO.out _).mono ?_
      rintro e w7 ⟨rfl, hb7⟩
      have qw70 : w7.cell? ⟨w.heap.size, 0, none⟩ = some (.int .i64 x.m.wd) := cell_later hb7 (by simp [go_sem, World.cell?_alloc_past, World.frozen?_alloc_past, *])
      have qw71 : w7.cell? ⟨w.heap.size, 1, none⟩ = some (.int .i64 x.m.mt) := cell_later hb7 (by simp [go_sem, World.cell?_alloc_past, World.frozen?_alloc_past, *])
      have qw72 : w7.cell? ⟨w.heap.size, 2, none⟩ = some (.int .i64 x.m.sk) := cell_later hb7 (by simp [go_sem, World.cell?_alloc_past, World.frozen?_alloc_past, *])
      have qw73 : w7.cell? ⟨w.heap.size, 3, none⟩ = some (.int .i64 x.m.th) := cell_later hb7 (by simp [go_sem, World.cell?_alloc_past, World.frozen?_alloc_past, *])
      have qw74 : w7.cell? ⟨w.heap.size, 4, none⟩ = some (.int .i64 x.fx) := cell_later hb7 (by simp [go_sem, World.cell?_alloc_past, World.frozen?_alloc_past, *])
      have qw75 : w7.cell? ⟨w.heap.size, 5, none⟩ = some (.int .i64 x.fz) := cell_later hb7 (by simp [go_sem, World.cell?_alloc_past, World.frozen?_alloc_past, *])
      have qw76 : w7.cell? ⟨w.heap.size, 6, none⟩ = some (.int .i64 x.tx) := cell_later hb7 (by simp [go_sem, World.cell?_alloc_past, World.frozen?_alloc_past, *])
      have qw77 : w7.cell? ⟨w.heap.size, 7, none⟩ = some (.int .i64 x.tz) := cell_later hb7 (by simp [go_sem, World.cell?_alloc_past, World.frozen?_alloc_past, *])
      have qw78 : w7.cell? ⟨w2.heap.size, 0, none⟩ = some (.int .i64 lo) := cell_later hb7 (by simp [go_sem, World.cell?_alloc_past, World.frozen?_alloc_past, *])
      have qw79 : w7.cell? ⟨w2.heap.size, 1, none⟩ = some (.int .i64 hi) := cell_later hb7 (by simp [go_sem, World.cell?_alloc_past, World.frozen?_alloc_past, *])
      have zqw7_0 := World.block_lt_of_cell? _ _ qw70
      dsimp only at zqw7_0
      have zqw7_8 := World.block_lt_of_cell? _ _ qw78
      dsimp only at zqw7_8
      have H7 : Hid (Below w.heap.size w w7) := Lib.hid (below_then (by (repeat (first | (with_reducible exact H5.out) | (with_reducible refine Below.setCell ?_ ?_ _) | (with_reducible refine below_alloc_top ?_ _) | (with_reducible refine Below.drew ?_))); all_goals (first | omega | (simp; done) | (simp; omega))) hb7); clear hb7
      go_wp2_with fail
      refine (HM.out _).mono ?_
      rintro e w8 ⟨rfl, hb8⟩

      have H8 : Hid (Below w.heap.size w w8) := Lib.hid (below_then (by (repeat (first | (with_reducible exact H7.out) | (with_reducible refine Below.setCell ?_ ?_ _) | (with_reducible refine below_alloc_top ?_ _) | (with_reducible refine Below.drew ?_))); all_goals (first | omega | (simp; done) | (simp; omega))) hb8); clear hb8
      go_wp2
      go_ret
      exact ⟨rfl, (by (repeat (first | (with_reducible exact H8.out) | (with_reducible refine Below.setCell ?_ ?_ _) | (with_reducible refine below_alloc_top ?_ _) | (with_reducible refine Below.drew ?_))); all_goals (first | omega | (simp; done) | (simp; omega)))⟩
set_option maxRecDepth 100000 in
set_option maxHeartbeats 1000000 in
theorem skips_ed (x : Wy) (o : x.ok) (hm : ¬ x.m.sk < 4) (hv : x.m.wd ≠ x.m.mt) (w : World) :
    Calls Try.prog 10 #[.agg #[.int .i64 x.m.wd, .int .i64 x.m.mt, .int .i64 x.m.sk, .int .i64 x.m.th, .int .i64 x.fx, .int .i64 x.fz, .int .i64 x.tx, .int .i64 x.tz]] w fun e w' => e = .returned (.bool true) ∧ Below w.heap.size w w' := by
  have HP := Lib.hid (fun w => leastOf_ok x o w)
  have HU := Lib.hid (fun w => unfolded_ok x.m o.m x.tz w o.d1 o.d2)
  have HW := Lib.hid (fun w => walls_ok x o w)
  have sk0 := o.m.c1; have sk4 := o.m.c2
  have n1 : ((x.m.sk.toNat : Int) != x.m.sk) = false := by
    rw [Int.toNat_of_nonneg sk0]; simp
  have hs : x.m.sk.toNat ≤ 4 := by omega
  have WF := Lib.hid (fun (k : Nat) (hk : k < x.m.sk.toNat) => wl_f x o k (by omega))
  have WG := Lib.hid (fun (i : Nat) (h : i < x.m.sk.toNat) => walls_get x x.m.sk.toNat i h)
  have UF := Lib.hid (unf_bounds x.m o.m x.tz o.d1 o.d2)
  generalize x.m.sk.toNat = sn at *
  have q4 : x.m.sk = 4 := by omega
  have q5 : decide (x.m.sk < 4) = false := by simp [q4]
  clear q4
  have n2 : (x.m.wd != x.m.mt) = true := by simpa using hv
  clear hv
  generalize x.cr.lLo = lo at *
  generalize x.cr.lHi = hi at *
  clear o
  go_enter Try.func10, Try.ntmps10
  go_wp2_with fail
  refine (awake_any _).mono ?_
  rintro e w1 ⟨rfl, hb1⟩
  have qw10 : w1.cell? ⟨w.heap.size, 0, none⟩ = some (.int .i64 x.m.wd) := cell_later hb1 (by simp [go_sem])
  have qw11 : w1.cell? ⟨w.heap.size, 1, none⟩ = some (.int .i64 x.m.mt) := cell_later hb1 (by simp [go_sem])
  have qw12 : w1.cell? ⟨w.heap.size, 2, none⟩ = some (.int .i64 x.m.sk) := cell_later hb1 (by simp [go_sem])
  have qw13 : w1.cell? ⟨w.heap.size, 3, none⟩ = some (.int .i64 x.m.th) := cell_later hb1 (by simp [go_sem])
  have qw14 : w1.cell? ⟨w.heap.size, 4, none⟩ = some (.int .i64 x.fx) := cell_later hb1 (by simp [go_sem])
  have qw15 : w1.cell? ⟨w.heap.size, 5, none⟩ = some (.int .i64 x.fz) := cell_later hb1 (by simp [go_sem])
  have qw16 : w1.cell? ⟨w.heap.size, 6, none⟩ = some (.int .i64 x.tx) := cell_later hb1 (by simp [go_sem])
  have qw17 : w1.cell? ⟨w.heap.size, 7, none⟩ = some (.int .i64 x.tz) := cell_later hb1 (by simp [go_sem])
  have zqw1_0 := World.block_lt_of_cell? _ _ qw10
  dsimp only at zqw1_0
  have H1 : Hid (Below w.heap.size w w1) := Lib.hid (below_after (by repeat (first | exact Below.refl _ _ | refine Below.drew ?_ | refine below_drewN ?_ _ | refine Below.setCell ?_ (by first | omega | (simp; done) | (simp; omega)) _ | refine Below.alloc ?_ (by first | omega | (simp; done) | (simp; omega)) _)) hb1 (by first | omega | (simp; done) | (simp; omega))); clear hb1
  go_wp2_with fail
  refine (HP.out _).mono ?_
  rintro e w2 ⟨rfl, hb2⟩
  have qw20 : w2.cell? ⟨w.heap.size, 0, none⟩ = some (.int .i64 x.m.wd) := cell_later hb2 (by simp [go_sem, World.cell?_alloc_past, World.frozen?_alloc_past, *])
  have qw21 : w2.cell? ⟨w.heap.size, 1, none⟩ = some (.int .i64 x.m.mt) := cell_later hb2 (by simp [go_sem, World.cell?_alloc_past, World.frozen?_alloc_past, *])
  have qw22 : w2.cell? ⟨w.heap.size, 2, none⟩ = some (.int .i64 x.m.sk) := cell_later hb2 (by simp [go_sem, World.cell?_alloc_past, World.frozen?_alloc_past, *])
  have qw23 : w2.cell? ⟨w.heap.size, 3, none⟩ = some (.int .i64 x.m.th) := cell_later hb2 (by simp [go_sem, World.cell?_alloc_past, World.frozen?_alloc_past, *])
  have qw24 : w2.cell? ⟨w.heap.size, 4, none⟩ = some (.int .i64 x.fx) := cell_later hb2 (by simp [go_sem, World.cell?_alloc_past, World.frozen?_alloc_past, *])
  have qw25 : w2.cell? ⟨w.heap.size, 5, none⟩ = some (.int .i64 x.fz) := cell_later hb2 (by simp [go_sem, World.cell?_alloc_past, World.frozen?_alloc_past, *])
  have qw26 : w2.cell? ⟨w.heap.size, 6, none⟩ = some (.int .i64 x.tx) := cell_later hb2 (by simp [go_sem, World.cell?_alloc_past, World.frozen?_alloc_past, *])
  have qw27 : w2.cell? ⟨w.heap.size, 7, none⟩ = some (.int .i64 x.tz) := cell_later hb2 (by simp [go_sem, World.cell?_alloc_past, World.frozen?_alloc_past, *])
  have zqw2_0 := World.block_lt_of_cell? _ _ qw20
  dsimp only at zqw2_0
  have H2 : Hid (Below w.heap.size w w2) := Lib.hid (below_then (by (repeat (first | (with_reducible exact H1.out) | (with_reducible refine Below.setCell ?_ ?_ _) | (with_reducible refine below_alloc_top ?_ _) | (with_reducible refine Below.drew ?_))); all_goals (first | omega | (simp; done) | (simp; omega))) hb2); clear hb2
  go_wp2_with fail
  refine (HU.out _).mono ?_
  rintro e w3 ⟨rfl, hb3⟩
  have qw30 : w3.cell? ⟨w.heap.size, 0, none⟩ = some (.int .i64 x.m.wd) := cell_later hb3 (by simp [go_sem, World.cell?_alloc_past, World.frozen?_alloc_past, *])
  have qw31 : w3.cell? ⟨w.heap.size, 1, none⟩ = some (.int .i64 x.m.mt) := cell_later hb3 (by simp [go_sem, World.cell?_alloc_past, World.frozen?_alloc_past, *])
  have qw32 : w3.cell? ⟨w.heap.size, 2, none⟩ = some (.int .i64 x.m.sk) := cell_later hb3 (by simp [go_sem, World.cell?_alloc_past, World.frozen?_alloc_past, *])
  have qw33 : w3.cell? ⟨w.heap.size, 3, none⟩ = some (.int .i64 x.m.th) := cell_later hb3 (by simp [go_sem, World.cell?_alloc_past, World.frozen?_alloc_past, *])
  have qw34 : w3.cell? ⟨w.heap.size, 4, none⟩ = some (.int .i64 x.fx) := cell_later hb3 (by simp [go_sem, World.cell?_alloc_past, World.frozen?_alloc_past, *])
  have qw35 : w3.cell? ⟨w.heap.size, 5, none⟩ = some (.int .i64 x.fz) := cell_later hb3 (by simp [go_sem, World.cell?_alloc_past, World.frozen?_alloc_past, *])
  have qw36 : w3.cell? ⟨w.heap.size, 6, none⟩ = some (.int .i64 x.tx) := cell_later hb3 (by simp [go_sem, World.cell?_alloc_past, World.frozen?_alloc_past, *])
  have qw37 : w3.cell? ⟨w.heap.size, 7, none⟩ = some (.int .i64 x.tz) := cell_later hb3 (by simp [go_sem, World.cell?_alloc_past, World.frozen?_alloc_past, *])
  have qw38 : w3.cell? ⟨w2.heap.size, 0, none⟩ = some (.int .i64 lo) := cell_later hb3 (by simp [go_sem, World.cell?_alloc_past, World.frozen?_alloc_past, *])
  have qw39 : w3.cell? ⟨w2.heap.size, 1, none⟩ = some (.int .i64 hi) := cell_later hb3 (by simp [go_sem, World.cell?_alloc_past, World.frozen?_alloc_past, *])
  have zqw3_0 := World.block_lt_of_cell? _ _ qw30
  dsimp only at zqw3_0
  have zqw3_8 := World.block_lt_of_cell? _ _ qw38
  dsimp only at zqw3_8
  have H3 : Hid (Below w.heap.size w w3) := Lib.hid (below_then (by (repeat (first | (with_reducible exact H2.out) | (with_reducible refine Below.setCell ?_ ?_ _) | (with_reducible refine below_alloc_top ?_ _) | (with_reducible refine Below.drew ?_))); all_goals (first | omega | (simp; done) | (simp; omega))) hb3); clear hb3
  go_wp2_with fail
  refine (HW.out _).mono ?_
  rintro e w4 ⟨v, rfl, hown, hb4⟩
  have qw40 : w4.cell? ⟨w.heap.size, 0, none⟩ = some (.int .i64 x.m.wd) := cell_later hb4 (by simp [go_sem, World.cell?_alloc_past, World.frozen?_alloc_past, *])
  have qw41 : w4.cell? ⟨w.heap.size, 1, none⟩ = some (.int .i64 x.m.mt) := cell_later hb4 (by simp [go_sem, World.cell?_alloc_past, World.frozen?_alloc_past, *])
  have qw42 : w4.cell? ⟨w.heap.size, 2, none⟩ = some (.int .i64 x.m.sk) := cell_later hb4 (by simp [go_sem, World.cell?_alloc_past, World.frozen?_alloc_past, *])
  have qw43 : w4.cell? ⟨w.heap.size, 3, none⟩ = some (.int .i64 x.m.th) := cell_later hb4 (by simp [go_sem, World.cell?_alloc_past, World.frozen?_alloc_past, *])
  have qw44 : w4.cell? ⟨w.heap.size, 4, none⟩ = some (.int .i64 x.fx) := cell_later hb4 (by simp [go_sem, World.cell?_alloc_past, World.frozen?_alloc_past, *])
  have qw45 : w4.cell? ⟨w.heap.size, 5, none⟩ = some (.int .i64 x.fz) := cell_later hb4 (by simp [go_sem, World.cell?_alloc_past, World.frozen?_alloc_past, *])
  have qw46 : w4.cell? ⟨w.heap.size, 6, none⟩ = some (.int .i64 x.tx) := cell_later hb4 (by simp [go_sem, World.cell?_alloc_past, World.frozen?_alloc_past, *])
  have qw47 : w4.cell? ⟨w.heap.size, 7, none⟩ = some (.int .i64 x.tz) := cell_later hb4 (by simp [go_sem, World.cell?_alloc_past, World.frozen?_alloc_past, *])
  have qw48 : w4.cell? ⟨w2.heap.size, 0, none⟩ = some (.int .i64 lo) := cell_later hb4 (by simp [go_sem, World.cell?_alloc_past, World.frozen?_alloc_past, *])
  have qw49 : w4.cell? ⟨w2.heap.size, 1, none⟩ = some (.int .i64 hi) := cell_later hb4 (by simp [go_sem, World.cell?_alloc_past, World.frozen?_alloc_past, *])
  have zqw4_0 := World.block_lt_of_cell? _ _ qw40
  dsimp only at zqw4_0
  have zqw4_8 := World.block_lt_of_cell? _ _ qw48
  dsimp only at zqw4_8
  have H4 : Hid (Below w.heap.size w w4) := Lib.hid (below_then (by (repeat (first | (with_reducible exact H3.out) | (with_reducible refine Below.setCell ?_ ?_ _) | (with_reducible refine below_alloc_top ?_ _) | (with_reducible refine Below.drew ?_))); all_goals (first | omega | (simp; done) | (simp; omega))) hb4); clear hb4
  obtain ⟨A, c, rfl, hA⟩ := row_form hown
  have HA := Lib.hid hA; clear hA hown
  obtain ⟨u1, u2, u3, u4⟩ := UF.out
  clear u3 u4
  generalize x.m.unf x.tz = uz at *
  go_wp2
  go_loopw [9] (fun i wr => ∃ k : Nat, k ≤ sn ∧ i = .int .i64 (k : Int) ∧ Below w4.heap.size w4 wr) (fun i _ => sn - (intOf i).toNat)
  case atStart => exact ⟨0, Nat.zero_le _, rfl, Below.refl _ _⟩
  case round =>
    obtain ⟨k, hk, rfl, hb⟩ := hrel
    have r0 : wr.cell? ⟨w.heap.size, 0, none⟩ = some (.int .i64 x.m.wd) := cell_later hb qw40
    have r1 : wr.cell? ⟨w.heap.size, 1, none⟩ = some (.int .i64 x.m.mt) := cell_later hb qw41
    have r2 : wr.cell? ⟨w.heap.size, 2, none⟩ = some (.int .i64 x.m.sk) := cell_later hb qw42
    have r3 : wr.cell? ⟨w.heap.size, 3, none⟩ = some (.int .i64 x.m.th) := cell_later hb qw43
    have r4 : wr.cell? ⟨w.heap.size, 4, none⟩ = some (.int .i64 x.fx) := cell_later hb qw44
    have r5 : wr.cell? ⟨w.heap.size, 5, none⟩ = some (.int .i64 x.fz) := cell_later hb qw45
    have r6 : wr.cell? ⟨w.heap.size, 6, none⟩ = some (.int .i64 x.tx) := cell_later hb qw46
    have r7 : wr.cell? ⟨w.heap.size, 7, none⟩ = some (.int .i64 x.tz) := cell_later hb qw47
    have r8 : wr.cell? ⟨w2.heap.size, 0, none⟩ = some (.int .i64 lo) := cell_later hb qw48
    have r9 : wr.cell? ⟨w2.heap.size, 1, none⟩ = some (.int .i64 hi) := cell_later hb qw49
    have sz := hb.size
    have zr0 : w.heap.size < wr.heap.size := by omega
    have zr2 : w2.heap.size < wr.heap.size := by omega
    have HB := Lib.hid hb
    by_cases hlt : k < sn
    · obtain ⟨g, rfl, hg, hc⟩ := HA.out (by omega)
      obtain ⟨g1, g2⟩ := WG.out k hlt
      have c1 := cell_later hb (hc _ _ g1)
      have c2 := cell_later hb (hc _ _ g2)
      obtain ⟨wf, i1, i2, i3, i4⟩ := WF.out k hlt
      have l0 := wf.l0; have l1 := wf.l1; clear wf
      have hin : inB (x.wl k) (min x.fx x.tx) (max x.fx x.tx) = true := (inB_iff _ _ _).2 ⟨i1, i2⟩
      have HN := Lib.hid (fun w => within_any (x.wl k) (min x.fx x.tx) (max x.fx x.tx) w)
      rw [hin] at HN
      clear hin hc g1 g2 hb
      go_wp2_with fail
      have j0 : (0 : Int) ≤ (k : Int) := Int.natCast_nonneg _
      have j1 : (k : Int) < (sn : Int) := by omega
      have ew : IntKind.i64.wrap (x.wl k + 1) = x.wl k + 1 := IntWalk.i64_in _ (by omega)
      have d1 : decide (x.wh k < x.wl k) = false := by simp; omega
      have d2 : decide (x.wl k + 1 < x.wh k) = false := by simp; omega
      go_quiet ((go_at_call 43; exact Calls.quiet_of_same ((HN.out _).mono fun e w' h => ⟨h.1, h.2.symm⟩)))
      clear ew d1 d2
      go_wp2
      go_roundw
      case rel => exact ⟨k + 1, by omega, by go_num, below_drewN HB.out _⟩
      case measure => simp [intOf]; omega
    · have U2 : Hid (decide (100000 < uz) = false) := by show _ = _; simp; omega
      have H5 : Hid (Below w.heap.size w wr) := Lib.hid (Below.trans H4.out (hb.mono H4.out.size))
      clear hb
      have hks : ¬ ((k : Int) < (sn : Int)) := by omega
      have kk : decide ((k : Int) < (sn : Int)) = false := by simp; omega
      have d2 := U2.out
      go_wp2
      go_ret
      exact ⟨rfl, (by (repeat (first | (with_reducible exact H5.out) | (with_reducible refine Below.setCell ?_ ?_ _) | (with_reducible refine below_alloc_top ?_ _) | (with_reducible refine Below.drew ?_))); all_goals (first | omega | (simp; done) | (simp; omega)))⟩
theorem skips_any (x : Wy) (w : World) :
    Calls Try.prog 10 #[.agg #[.int .i64 x.m.wd, .int .i64 x.m.mt, .int .i64 x.m.sk, .int .i64 x.m.th, .int .i64 x.fx, .int .i64 x.fz, .int .i64 x.tx, .int .i64 x.tz]] w fun e w' => e = .returned (.bool true) ∧ Below w.heap.size w w' := by
  by_cases h : wyE x = 0
  · have o := (wyE_ok x).1 h
    by_cases hm : x.m.sk < 4
    · by_cases hv : x.m.wd = x.m.mt
      · exact skips_ms x o hm hv w
      · exact skips_md x o hm hv w
    · by_cases hv : x.m.wd = x.m.mt
      · exact skips_es x o hm hv w
      · exact skips_ed x o hm hv w
  · exact skips_bad x h w
end Go.Proofs.Ytdicndakelgoeaa
