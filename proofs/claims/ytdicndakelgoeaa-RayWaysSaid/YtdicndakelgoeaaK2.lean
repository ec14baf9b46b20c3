/- RayWays: the walk -/
import Derived.Test.YtdicndakelgoeaaK1
import Derived.Test.YtdicndakelgoeaaK2a
namespace Go.Proofs.Ytdicndakelgoeaa
open Go.RowKit RayM
set_option linter.unusedSimpArgs false
set_option linter.unusedVariables false

/-- a slice of ranges with these ends lies there -/
def RowsAt (A : Option Addr) (n : Nat) (l h : Nat → Int) (w : World) : Prop :=
  0 < n → ∃ g, A = some ⟨g, 0, none⟩ ∧ ∀ i, i < n → w.cell? ⟨g, i * 2, none⟩ = some (.int .i64 (l i)) ∧ w.cell? ⟨g, i * 2 + 1, none⟩ = some (.int .i64 (h i))
theorem RowsAt.later {A : Option Addr} {n : Nat} {l h : Nat → Int} {w w' : World} (r : RowsAt A n l h w) (hb : Below w.heap.size w w') : RowsAt A n l h w' := fun hn => by
  obtain ⟨g, e, hc⟩ := r hn
  exact ⟨g, e, fun i hi => ⟨cell_later hb (hc i hi).1, cell_later hb (hc i hi).2⟩⟩
theorem rows_form {w : World} {b : Nat} {v : Value} {n : Nat} (x : Wy) (h : w.ownsRow b 26 2 v n (x.walls n)) : ∃ A c, v = .slice A n c ∧ RowsAt A n x.wl x.wh w := by
  obtain ⟨A, c, e, r⟩ := row_form h
  refine ⟨A, c, e, fun hn => ?_⟩
  obtain ⟨g, e', _, hc⟩ := r hn
  exact ⟨g, e', fun i hi => ⟨hc _ _ (walls_get x n i hi).1, hc _ _ (walls_get x n i hi).2⟩⟩
set_option maxRecDepth 100000 in
set_option maxHeartbeats 1000000 in
theorem ways_bad (x : Wy) (h : wyE x ≠ 0) (w : World) :
    Calls Try.prog 9 #[.agg #[.int .i64 x.m.wd, .int .i64 x.m.mt, .int .i64 x.m.sk, .int .i64 x.m.th, .int .i64 x.fx, .int .i64 x.fz, .int .i64 x.tx, .int .i64 x.tz]] w fun e w' => e = .returned (.bool true) ∧ Below w.heap.size w w' := by
  have HC := Lib.hid (fun w => crossOf_bad x h w)
  have HL := Lib.hid (fun w => leastOf_bad x h w)
  have HR := Lib.hid (fun w => rounded_bad x h w)
  have HW := Lib.hid (fun w => walls_bad x h w)
  have HE := Lib.hid (fun w => lawWayErr_any x w)
  have n1 : (wyE x != 0) = true := by simpa using h
  have n3 : (wyE x == wyE x) = true := by simp
  generalize wyE x = r at *
  clear h
  go_enter Try.func9, Try.ntmps9
  go_wp2_with fail
  refine (awake_any _).mono ?_
  rintro e w1 ⟨rfl, hb1⟩
  have qw10 : w1.cell? ⟨w.heap.size, 0, none⟩ = some (.int .i64 x.m.wd) := cell_later hb1 (by simp [go_sem])
  have qw11 : w1.cell? ⟨w.heap.size, 1, none⟩ = some (.int .i64 x.m.mt) := cell_later hb1 (by simp [go_sem])
  have qw12 : w1.cell? ⟨w.heap.size, 2, none⟩ = some (.int .i64 x.m.sk) := cell_later hb1 (by simp [go_sem])
  have qw13 : w1.cell? ⟨w.heap.size, 3, none⟩ = some (.int .i64 x.m.th) := cell_later hb1 (by simp [go_sem])
  have qw14 : w1.cell? ⟨w.heap.size, 4, none⟩ = some (.int .i64 x.fx) := cell_later hb1 (by simp [go_sem])
  have qw15 : w1.cell? ⟨w.heap.size, 5, none⟩ = some (.int .i64 x.fz) := cell_later hb1 (by simp [go_sem])
  have qw16 : w1.cell? ⟨w.heap.size, 6, none⟩ = some (.int .i64 x.tx) := cell_later hb1 (by simp [go_sem])
  have qw17 : w1.cell? ⟨w.heap.size, 7, none⟩ = some (.int .i64 x.tz) := cell_later hb1 (by simp [go_sem])
  have zqw1_0 := World.block_lt_of_cell? _ _ qw10
  dsimp only at zqw1_0
  have H1 : Hid (Below w.heap.size w w1) := Lib.hid (below_after (by repeat (first | exact Below.refl _ _ | refine Below.drew ?_ | refine below_drewN ?_ _ | refine Below.setCell ?_ (by first | omega | (simp; done) | (simp; omega)) _ | refine Below.alloc ?_ (by first | omega | (simp; done) | (simp; omega)) _)) hb1 (by first | omega | (simp; done) | (simp; omega))); clear hb1
  go_wp2_with fail
  refine (HC.out _).mono ?_
  rintro e w2 ⟨rfl, hb2⟩
  have qw20 : w2.cell? ⟨w.heap.size, 0, none⟩ = some (.int .i64 x.m.wd) := cell_later hb2 (by simp [go_sem, World.cell?_alloc_past, World.frozen?_alloc_past, *])
  have qw21 : w2.cell? ⟨w.heap.size, 1, none⟩ = some (.int .i64 x.m.mt) := cell_later hb2 (by simp [go_sem, World.cell?_alloc_past, World.frozen?_alloc_past, *])
  have qw22 : w2.cell? ⟨w.heap.size, 2, none⟩ = some (.int .i64 x.m.sk) := cell_later hb2 (by simp [go_sem, World.cell?_alloc_past, World.frozen?_alloc_past, *])
  have qw23 : w2.cell? ⟨w.heap.size, 3, none⟩ = some (.int .i64 x.m.th) := cell_later hb2 (by simp [go_sem, World.cell?_alloc_past, World.frozen?_alloc_past, *])
  have qw24 : w2.cell? ⟨w.heap.size, 4, none⟩ = some (.int .i64 x.fx) := cell_later hb2 (by simp [go_sem, World.cell?_alloc_past, World.frozen?_alloc_past, *])
  have qw25 : w2.cell? ⟨w.heap.size, 5, none⟩ = some (.int .i64 x.fz) := cell_later hb2 (by simp [go_sem, World.cell?_alloc_past, World.frozen?_alloc_past, *])
  have qw26 : w2.cell? ⟨w.heap.size, 6, none⟩ = some (.int .i64 x.tx) := cell_later hb2 (by simp [go_sem, World.cell?_alloc_past, World.frozen?_alloc_past, *])
  have qw27 : w2.cell? ⟨w.heap.size, 7, none⟩ = some (.int .i64 x.tz) := cell_later hb2 (by simp [go_sem, World.cell?_alloc_past, World.frozen?_alloc_past, *])
  have zqw2_0 := World.block_lt_of_cell? _ _ qw20
  dsimp only at zqw2_0
  have H2 : Hid (Below w.heap.size w w2) := Lib.hid (below_then (by (repeat (first | (with_reducible exact H1.out) | (with_reducible refine Below.setCell ?_ ?_ _) | (with_reducible refine below_alloc_top ?_ _) | (with_reducible refine Below.drew ?_))); all_goals (first | omega | (simp; done) | (simp; omega))) hb2); clear hb2
  go_wp2_with fail
  refine (HL.out _).mono ?_
  rintro e w3 ⟨rfl, hb3⟩
  have qw30 : w3.cell? ⟨w.heap.size, 0, none⟩ = some (.int .i64 x.m.wd) := cell_later hb3 (by simp [go_sem, World.cell?_alloc_past, World.frozen?_alloc_past, *])
  have qw31 : w3.cell? ⟨w.heap.size, 1, none⟩ = some (.int .i64 x.m.mt) := cell_later hb3 (by simp [go_sem, World.cell?_alloc_past, World.frozen?_alloc_past, *])
  have qw32 : w3.cell? ⟨w.heap.size, 2, none⟩ = some (.int .i64 x.m.sk) := cell_later hb3 (by simp [go_sem, World.cell?_alloc_past, World.frozen?_alloc_past, *])
  have qw33 : w3.cell? ⟨w.heap.size, 3, none⟩ = some (.int .i64 x.m.th) := cell_later hb3 (by simp [go_sem, World.cell?_alloc_past, World.frozen?_alloc_past, *])
  have qw34 : w3.cell? ⟨w.heap.size, 4, none⟩ = some (.int .i64 x.fx) := cell_later hb3 (by simp [go_sem, World.cell?_alloc_past, World.frozen?_alloc_past, *])
  have qw35 : w3.cell? ⟨w.heap.size, 5, none⟩ = some (.int .i64 x.fz) := cell_later hb3 (by simp [go_sem, World.cell?_alloc_past, World.frozen?_alloc_past, *])
  have qw36 : w3.cell? ⟨w.heap.size, 6, none⟩ = some (.int .i64 x.tx) := cell_later hb3 (by simp [go_sem, World.cell?_alloc_past, World.frozen?_alloc_past, *])
  have qw37 : w3.cell? ⟨w.heap.size, 7, none⟩ = some (.int .i64 x.tz) := cell_later hb3 (by simp [go_sem, World.cell?_alloc_past, World.frozen?_alloc_past, *])
  have qw38 : w3.cell? ⟨w2.heap.size, 0, none⟩ = some (.int .i64 0) := cell_later hb3 (by simp [go_sem, World.cell?_alloc_past, World.frozen?_alloc_past, *])
  have qw39 : w3.cell? ⟨w2.heap.size, 1, none⟩ = some (.int .i64 0) := cell_later hb3 (by simp [go_sem, World.cell?_alloc_past, World.frozen?_alloc_past, *])
  have qw310 : w3.cell? ⟨w2.heap.size, 2, none⟩ = some (.int .i64 0) := cell_later hb3 (by simp [go_sem, World.cell?_alloc_past, World.frozen?_alloc_past, *])
  have qw311 : w3.cell? ⟨w2.heap.size, 3, none⟩ = some (.int .i64 0) := cell_later hb3 (by simp [go_sem, World.cell?_alloc_past, World.frozen?_alloc_past, *])
  have qw312 : w3.cell? ⟨w2.heap.size, 4, none⟩ = some (.int .i64 0) := cell_later hb3 (by simp [go_sem, World.cell?_alloc_past, World.frozen?_alloc_past, *])
  have qw313 : w3.cell? ⟨w2.heap.size, 5, none⟩ = some (.int .i64 0) := cell_later hb3 (by simp [go_sem, World.cell?_alloc_past, World.frozen?_alloc_past, *])
  have zqw3_0 := World.block_lt_of_cell? _ _ qw30
  dsimp only at zqw3_0
  have zqw3_8 := World.block_lt_of_cell? _ _ qw38
  dsimp only at zqw3_8
  have H3 : Hid (Below w.heap.size w w3) := Lib.hid (below_then (by (repeat (first | (with_reducible exact H2.out) | (with_reducible refine Below.setCell ?_ ?_ _) | (with_reducible refine below_alloc_top ?_ _) | (with_reducible refine Below.drew ?_))); all_goals (first | omega | (simp; done) | (simp; omega))) hb3); clear hb3
  go_wp2_with fail
  refine (HR.out _).mono ?_
  rintro e w4 ⟨rfl, hb4⟩
  have qw40 : w4.cell? ⟨w.heap.size, 0, none⟩ = some (.int .i64 x.m.wd) := cell_later hb4 (by simp [go_sem, World.cell?_alloc_past, World.frozen?_alloc_past, *])
  have qw41 : w4.cell? ⟨w.heap.size, 1, none⟩ = some (.int .i64 x.m.mt) := cell_later hb4 (by simp [go_sem, World.cell?_alloc_past, World.frozen?_alloc_past, *])
  have qw42 : w4.cell? ⟨w.heap.size, 2, none⟩ = some (.int .i64 x.m.sk) := cell_later hb4 (by simp [go_sem, World.cell?_alloc_past, World.frozen?_alloc_past, *])
  have qw43 : w4.cell? ⟨w.heap.size, 3, none⟩ = some (.int .i64 x.m.th) := cell_later hb4 (by simp [go_sem, World.cell?_alloc_past, World.frozen?_alloc_past, *])
  have qw44 : w4.cell? ⟨w.heap.size, 4, none⟩ = some (.int .i64 x.fx) := cell_later hb4 (by simp [go_sem, World.cell?_alloc_past, World.frozen?_alloc_past, *])
  have qw45 : w4.cell? ⟨w.heap.size, 5, none⟩ = some (.int .i64 x.fz) := cell_later hb4 (by simp [go_sem, World.cell?_alloc_past, World.frozen?_alloc_past, *])
  have qw46 : w4.cell? ⟨w.heap.size, 6, none⟩ = some (.int .i64 x.tx) := cell_later hb4 (by simp [go_sem, World.cell?_alloc_past, World.frozen?_alloc_past, *])
  have qw47 : w4.cell? ⟨w.heap.size, 7, none⟩ = some (.int .i64 x.tz) := cell_later hb4 (by simp [go_sem, World.cell?_alloc_past, World.frozen?_alloc_past, *])
  have qw48 : w4.cell? ⟨w2.heap.size, 0, none⟩ = some (.int .i64 0) := cell_later hb4 (by simp [go_sem, World.cell?_alloc_past, World.frozen?_alloc_past, *])
  have qw49 : w4.cell? ⟨w2.heap.size, 1, none⟩ = some (.int .i64 0) := cell_later hb4 (by simp [go_sem, World.cell?_alloc_past, World.frozen?_alloc_past, *])
  have qw410 : w4.cell? ⟨w2.heap.size, 2, none⟩ = some (.int .i64 0) := cell_later hb4 (by simp [go_sem, World.cell?_alloc_past, World.frozen?_alloc_past, *])
  have qw411 : w4.cell? ⟨w2.heap.size, 3, none⟩ = some (.int .i64 0) := cell_later hb4 (by simp [go_sem, World.cell?_alloc_past, World.frozen?_alloc_past, *])
  have qw412 : w4.cell? ⟨w2.heap.size, 4, none⟩ = some (.int .i64 0) := cell_later hb4 (by simp [go_sem, World.cell?_alloc_past, World.frozen?_alloc_past, *])
  have qw413 : w4.cell? ⟨w2.heap.size, 5, none⟩ = some (.int .i64 0) := cell_later hb4 (by simp [go_sem, World.cell?_alloc_past, World.frozen?_alloc_past, *])
  have qw414 : w4.cell? ⟨w3.heap.size, 0, none⟩ = some (.int .i64 0) := cell_later hb4 (by simp [go_sem, World.cell?_alloc_past, World.frozen?_alloc_past, *])
  have qw415 : w4.cell? ⟨w3.heap.size, 1, none⟩ = some (.int .i64 0) := cell_later hb4 (by simp [go_sem, World.cell?_alloc_past, World.frozen?_alloc_past, *])
  have zqw4_0 := World.block_lt_of_cell? _ _ qw40
  dsimp only at zqw4_0
  have zqw4_8 := World.block_lt_of_cell? _ _ qw48
  dsimp only at zqw4_8
  have zqw4_14 := World.block_lt_of_cell? _ _ qw414
  dsimp only at zqw4_14
  have H4 : Hid (Below w.heap.size w w4) := Lib.hid (below_then (by (repeat (first | (with_reducible exact H3.out) | (with_reducible refine Below.setCell ?_ ?_ _) | (with_reducible refine below_alloc_top ?_ _) | (with_reducible refine Below.drew ?_))); all_goals (first | omega | (simp; done) | (simp; omega))) hb4); clear hb4
  go_wp2_with fail
  refine (HW.out _).mono ?_
  rintro e w5 ⟨rfl, hb5⟩
  have qw50 : w5.cell? ⟨w.heap.size, 0, none⟩ = some (.int .i64 x.m.wd) := cell_later hb5 (by simp [go_sem, World.cell?_alloc_past, World.frozen?_alloc_past, *])
  have qw51 : w5.cell? ⟨w.heap.size, 1, none⟩ = some (.int .i64 x.m.mt) := cell_later hb5 (by simp [go_sem, World.cell?_alloc_past, World.frozen?_alloc_past, *])
  have qw52 : w5.cell? ⟨w.heap.size, 2, none⟩ = some (.int .i64 x.m.sk) := cell_later hb5 (by simp [go_sem, World.cell?_alloc_past, World.frozen?_alloc_past, *])
  have qw53 : w5.cell? ⟨w.heap.size, 3, none⟩ = some (.int .i64 x.m.th) := cell_later hb5 (by simp [go_sem, World.cell?_alloc_past, World.frozen?_alloc_past, *])
  have qw54 : w5.cell? ⟨w.heap.size, 4, none⟩ = some (.int .i64 x.fx) := cell_later hb5 (by simp [go_sem, World.cell?_alloc_past, World.frozen?_alloc_past, *])
  have qw55 : w5.cell? ⟨w.heap.size, 5, none⟩ = some (.int .i64 x.fz) := cell_later hb5 (by simp [go_sem, World.cell?_alloc_past, World.frozen?_alloc_past, *])
  have qw56 : w5.cell? ⟨w.heap.size, 6, none⟩ = some (.int .i64 x.tx) := cell_later hb5 (by simp [go_sem, World.cell?_alloc_past, World.frozen?_alloc_past, *])
  have qw57 : w5.cell? ⟨w.heap.size, 7, none⟩ = some (.int .i64 x.tz) := cell_later hb5 (by simp [go_sem, World.cell?_alloc_past, World.frozen?_alloc_past, *])
  have qw58 : w5.cell? ⟨w2.heap.size, 0, none⟩ = some (.int .i64 0) := cell_later hb5 (by simp [go_sem, World.cell?_alloc_past, World.frozen?_alloc_past, *])
  have qw59 : w5.cell? ⟨w2.heap.size, 1, none⟩ = some (.int .i64 0) := cell_later hb5 (by simp [go_sem, World.cell?_alloc_past, World.frozen?_alloc_past, *])
  have qw510 : w5.cell? ⟨w2.heap.size, 2, none⟩ = some (.int .i64 0) := cell_later hb5 (by simp [go_sem, World.cell?_alloc_past, World.frozen?_alloc_past, *])
  have qw511 : w5.cell? ⟨w2.heap.size, 3, none⟩ = some (.int .i64 0) := cell_later hb5 (by simp [go_sem, World.cell?_alloc_past, World.frozen?_alloc_past, *])
  have qw512 : w5.cell? ⟨w2.heap.size, 4, none⟩ = some (.int .i64 0) := cell_later hb5 (by simp [go_sem, World.cell?_alloc_past, World.frozen?_alloc_past, *])
  have qw513 : w5.cell? ⟨w2.heap.size, 5, none⟩ = some (.int .i64 0) := cell_later hb5 (by simp [go_sem, World.cell?_alloc_past, World.frozen?_alloc_past, *])
  have qw514 : w5.cell? ⟨w3.heap.size, 0, none⟩ = some (.int .i64 0) := cell_later hb5 (by simp [go_sem, World.cell?_alloc_past, World.frozen?_alloc_past, *])
  have qw515 : w5.cell? ⟨w3.heap.size, 1, none⟩ = some (.int .i64 0) := cell_later hb5 (by simp [go_sem, World.cell?_alloc_past, World.frozen?_alloc_past, *])
  have zqw5_0 := World.block_lt_of_cell? _ _ qw50
  dsimp only at zqw5_0
  have zqw5_8 := World.block_lt_of_cell? _ _ qw58
  dsimp only at zqw5_8
  have zqw5_14 := World.block_lt_of_cell? _ _ qw514
  dsimp only at zqw5_14
  have H5 : Hid (Below w.heap.size w w5) := Lib.hid (below_then (by (repeat (first | (with_reducible exact H4.out) | (with_reducible refine Below.setCell ?_ ?_ _) | (with_reducible refine below_alloc_top ?_ _) | (with_reducible refine Below.drew ?_))); all_goals (first | omega | (simp; done) | (simp; omega))) hb5); clear hb5
  go_wp2_with fail
  refine (HE.out _).mono ?_
  rintro e w6 ⟨rfl, hb6⟩
  have qw60 : w6.cell? ⟨w.heap.size, 0, none⟩ = some (.int .i64 x.m.wd) := cell_later hb6 (by simp [go_sem, World.cell?_alloc_past, World.frozen?_alloc_past, *])
  have qw61 : w6.cell? ⟨w.heap.size, 1, none⟩ = some (.int .i64 x.m.mt) := cell_later hb6 (by simp [go_sem, World.cell?_alloc_past, World.frozen?_alloc_past, *])
  have qw62 : w6.cell? ⟨w.heap.size, 2, none⟩ = some (.int .i64 x.m.sk) := cell_later hb6 (by simp [go_sem, World.cell?_alloc_past, World.frozen?_alloc_past, *])
  have qw63 : w6.cell? ⟨w.heap.size, 3, none⟩ = some (.int .i64 x.m.th) := cell_later hb6 (by simp [go_sem, World.cell?_alloc_past, World.frozen?_alloc_past, *])
  have qw64 : w6.cell? ⟨w.heap.size, 4, none⟩ = some (.int .i64 x.fx) := cell_later hb6 (by simp [go_sem, World.cell?_alloc_past, World.frozen?_alloc_past, *])
  have qw65 : w6.cell? ⟨w.heap.size, 5, none⟩ = some (.int .i64 x.fz) := cell_later hb6 (by simp [go_sem, World.cell?_alloc_past, World.frozen?_alloc_past, *])
  have qw66 : w6.cell? ⟨w.heap.size, 6, none⟩ = some (.int .i64 x.tx) := cell_later hb6 (by simp [go_sem, World.cell?_alloc_past, World.frozen?_alloc_past, *])
  have qw67 : w6.cell? ⟨w.heap.size, 7, none⟩ = some (.int .i64 x.tz) := cell_later hb6 (by simp [go_sem, World.cell?_alloc_past, World.frozen?_alloc_past, *])
  have qw68 : w6.cell? ⟨w2.heap.size, 0, none⟩ = some (.int .i64 0) := cell_later hb6 (by simp [go_sem, World.cell?_alloc_past, World.frozen?_alloc_past, *])
  have qw69 : w6.cell? ⟨w2.heap.size, 1, none⟩ = some (.int .i64 0) := cell_later hb6 (by simp [go_sem, World.cell?_alloc_past, World.frozen?_alloc_past, *])
  have qw610 : w6.cell? ⟨w2.heap.size, 2, none⟩ = some (.int .i64 0) := cell_later hb6 (by simp [go_sem, World.cell?_alloc_past, World.frozen?_alloc_past, *])
  have qw611 : w6.cell? ⟨w2.heap.size, 3, none⟩ = some (.int .i64 0) := cell_later hb6 (by simp [go_sem, World.cell?_alloc_past, World.frozen?_alloc_past, *])
  have qw612 : w6.cell? ⟨w2.heap.size, 4, none⟩ = some (.int .i64 0) := cell_later hb6 (by simp [go_sem, World.cell?_alloc_past, World.frozen?_alloc_past, *])
  have qw613 : w6.cell? ⟨w2.heap.size, 5, none⟩ = some (.int .i64 0) := cell_later hb6 (by simp [go_sem, World.cell?_alloc_past, World.frozen?_alloc_past, *])
  have qw614 : w6.cell? ⟨w3.heap.size, 0, none⟩ = some (.int .i64 0) := cell_later hb6 (by simp [go_sem, World.cell?_alloc_past, World.frozen?_alloc_past, *])
  have qw615 : w6.cell? ⟨w3.heap.size, 1, none⟩ = some (.int .i64 0) := cell_later hb6 (by simp [go_sem, World.cell?_alloc_past, World.frozen?_alloc_past, *])
  have zqw6_0 := World.block_lt_of_cell? _ _ qw60
  dsimp only at zqw6_0
  have zqw6_8 := World.block_lt_of_cell? _ _ qw68
  dsimp only at zqw6_8
  have zqw6_14 := World.block_lt_of_cell? _ _ qw614
  dsimp only at zqw6_14
  have H6 : Hid (Below w.heap.size w w6) := Lib.hid (below_then (by (repeat (first | (with_reducible exact H5.out) | (with_reducible refine Below.setCell ?_ ?_ _) | (with_reducible refine below_alloc_top ?_ _) | (with_reducible refine Below.drew ?_))); all_goals (first | omega | (simp; done) | (simp; omega))) hb6); clear hb6
  go_wp2
  go_ret
  exact ⟨rfl, (by (repeat (first | (with_reducible exact H6.out) | (with_reducible refine Below.setCell ?_ ?_ _) | (with_reducible refine below_alloc_top ?_ _) | (with_reducible refine Below.drew ?_))); all_goals (first | omega | (simp; done) | (simp; omega)))⟩
set_option maxRecDepth 100000 in
set_option maxHeartbeats 1000000 in
theorem ways_ok (x : Wy) (o : x.ok) (w : World) :
    Calls Try.prog 9 #[.agg #[.int .i64 x.m.wd, .int .i64 x.m.mt, .int .i64 x.m.sk, .int .i64 x.m.th, .int .i64 x.fx, .int .i64 x.fz, .int .i64 x.tx, .int .i64 x.tz]] w fun e w' => e = .returned (.bool true) ∧ Below w.heap.size w w' := by
  have HC := Lib.hid (fun w => crossOf_ok x o w)
  have HL := Lib.hid (fun w => leastOf_ok x o w)
  have HR := Lib.hid (fun w => rounded_ok x o w)
  have HW := Lib.hid (fun w => walls_ok x o w)
  have HE := Lib.hid (fun w => lawWayErr_any x w)
  rw [(wyE_ok x).2 o] at HE
  have RC := Lib.hid (fun w => refCrossOf_any x o w)
  have RL := Lib.hid (fun w => refLeastTime_any x o w)
  have RR := Lib.hid (fun w => refRounded_any x o w)
  have RW := Lib.hid (fun w => refWalls_ok x o w)
  have lb := l_bounds x.cr (cr_ok x o)
  have le := lLo_lHi x.cr (cr_ok x o)
  have hs : x.m.sk.toNat ≤ 4 := by have := o.m.c2; omega
  generalize x.m.sk.toNat = sn at *
  generalize x.cr.lLo = lo at *
  generalize x.cr.lHi = hi at *
  generalize x.m.unf x.tz = uz at *
  have HI := Lib.hid (fun w => within_any ((lo + hi) / 2) lo hi w)
  rw [(inB_iff _ _ _).2 ⟨by omega, by omega⟩] at HI
  generalize (lo + hi) / 2 = md at *
  clear lb le o
  go_enter Try.func9, Try.ntmps9
  go_wp2_with fail
  refine (awake_any _).mono ?_
  rintro e w1 ⟨rfl, hb1⟩
  have qw10 : w1.cell? ⟨w.heap.size, 0, none⟩ = some (.int .i64 x.m.wd) := cell_later hb1 (by simp [go_sem])
  have qw11 : w1.cell? ⟨w.heap.size, 1, none⟩ = some (.int .i64 x.m.mt) := cell_later hb1 (by simp [go_sem])
  have qw12 : w1.cell? ⟨w.heap.size, 2, none⟩ = some (.int .i64 x.m.sk) := cell_later hb1 (by simp [go_sem])
  have qw13 : w1.cell? ⟨w.heap.size, 3, none⟩ = some (.int .i64 x.m.th) := cell_later hb1 (by simp [go_sem])
  have qw14 : w1.cell? ⟨w.heap.size, 4, none⟩ = some (.int .i64 x.fx) := cell_later hb1 (by simp [go_sem])
  have qw15 : w1.cell? ⟨w.heap.size, 5, none⟩ = some (.int .i64 x.fz) := cell_later hb1 (by simp [go_sem])
  have qw16 : w1.cell? ⟨w.heap.size, 6, none⟩ = some (.int .i64 x.tx) := cell_later hb1 (by simp [go_sem])
  have qw17 : w1.cell? ⟨w.heap.size, 7, none⟩ = some (.int .i64 x.tz) := cell_later hb1 (by simp [go_sem])
  have zqw1_0 := World.block_lt_of_cell? _ _ qw10
  dsimp only at zqw1_0
  have H1 : Hid (Below w.heap.size w w1) := Lib.hid (below_after (by repeat (first | exact Below.refl _ _ | refine Below.drew ?_ | refine below_drewN ?_ _ | refine Below.setCell ?_ (by first | omega | (simp; done) | (simp; omega)) _ | refine Below.alloc ?_ (by first | omega | (simp; done) | (simp; omega)) _)) hb1 (by first | omega | (simp; done) | (simp; omega))); clear hb1
  go_wp2_with fail
  refine (HC.out _).mono ?_
  rintro e w2 ⟨rfl, hb2⟩
  have qw20 : w2.cell? ⟨w.heap.size, 0, none⟩ = some (.int .i64 x.m.wd) := cell_later hb2 (by simp [go_sem, World.cell?_alloc_past, World.frozen?_alloc_past, *])
  have qw21 : w2.cell? ⟨w.heap.size, 1, none⟩ = some (.int .i64 x.m.mt) := cell_later hb2 (by simp [go_sem, World.cell?_alloc_past, World.frozen?_alloc_past, *])
  have qw22 : w2.cell? ⟨w.heap.size, 2, none⟩ = some (.int .i64 x.m.sk) := cell_later hb2 (by simp [go_sem, World.cell?_alloc_past, World.frozen?_alloc_past, *])
  have qw23 : w2.cell? ⟨w.heap.size, 3, none⟩ = some (.int .i64 x.m.th) := cell_later hb2 (by simp [go_sem, World.cell?_alloc_past, World.frozen?_alloc_past, *])
  have qw24 : w2.cell? ⟨w.heap.size, 4, none⟩ = some (.int .i64 x.fx) := cell_later hb2 (by simp [go_sem, World.cell?_alloc_past, World.frozen?_alloc_past, *])
  have qw25 : w2.cell? ⟨w.heap.size, 5, none⟩ = some (.int .i64 x.fz) := cell_later hb2 (by simp [go_sem, World.cell?_alloc_past, World.frozen?_alloc_past, *])
  have qw26 : w2.cell? ⟨w.heap.size, 6, none⟩ = some (.int .i64 x.tx) := cell_later hb2 (by simp [go_sem, World.cell?_alloc_past, World.frozen?_alloc_past, *])
  have qw27 : w2.cell? ⟨w.heap.size, 7, none⟩ = some (.int .i64 x.tz) := cell_later hb2 (by simp [go_sem, World.cell?_alloc_past, World.frozen?_alloc_past, *])
  have zqw2_0 := World.block_lt_of_cell? _ _ qw20
  dsimp only at zqw2_0
  have H2 : Hid (Below w.heap.size w w2) := Lib.hid (below_then (by (repeat (first | (with_reducible exact H1.out) | (with_reducible refine Below.setCell ?_ ?_ _) | (with_reducible refine below_alloc_top ?_ _) | (with_reducible refine Below.drew ?_))); all_goals (first | omega | (simp; done) | (simp; omega))) hb2); clear hb2
  go_wp2_with fail
  refine (HL.out _).mono ?_
  rintro e w3 ⟨rfl, hb3⟩
  have qw30 : w3.cell? ⟨w.heap.size, 0, none⟩ = some (.int .i64 x.m.wd) := cell_later hb3 (by simp [go_sem, World.cell?_alloc_past, World.frozen?_alloc_past, *])
  have qw31 : w3.cell? ⟨w.heap.size, 1, none⟩ = some (.int .i64 x.m.mt) := cell_later hb3 (by simp [go_sem, World.cell?_alloc_past, World.frozen?_alloc_past, *])
  have qw32 : w3.cell? ⟨w.heap.size, 2, none⟩ = some (.int .i64 x.m.sk) := cell_later hb3 (by simp [go_sem, World.cell?_alloc_past, World.frozen?_alloc_past, *])
  have qw33 : w3.cell? ⟨w.heap.size, 3, none⟩ = some (.int .i64 x.m.th) := cell_later hb3 (by simp [go_sem, World.cell?_alloc_past, World.frozen?_alloc_past, *])
  have qw34 : w3.cell? ⟨w.heap.size, 4, none⟩ = some (.int .i64 x.fx) := cell_later hb3 (by simp [go_sem, World.cell?_alloc_past, World.frozen?_alloc_past, *])
  have qw35 : w3.cell? ⟨w.heap.size, 5, none⟩ = some (.int .i64 x.fz) := cell_later hb3 (by simp [go_sem, World.cell?_alloc_past, World.frozen?_alloc_past, *])
  have qw36 : w3.cell? ⟨w.heap.size, 6, none⟩ = some (.int .i64 x.tx) := cell_later hb3 (by simp [go_sem, World.cell?_alloc_past, World.frozen?_alloc_past, *])
  have qw37 : w3.cell? ⟨w.heap.size, 7, none⟩ = some (.int .i64 x.tz) := cell_later hb3 (by simp [go_sem, World.cell?_alloc_past, World.frozen?_alloc_past, *])
  have qw38 : w3.cell? ⟨w2.heap.size, 0, none⟩ = some (.int .i64 x.fx) := cell_later hb3 (by simp [go_sem, World.cell?_alloc_past, World.frozen?_alloc_past, *])
  have qw39 : w3.cell? ⟨w2.heap.size, 1, none⟩ = some (.int .i64 (-x.fz)) := cell_later hb3 (by simp [go_sem, World.cell?_alloc_past, World.frozen?_alloc_past, *])
  have qw310 : w3.cell? ⟨w2.heap.size, 2, none⟩ = some (.int .i64 x.m.wd) := cell_later hb3 (by simp [go_sem, World.cell?_alloc_past, World.frozen?_alloc_past, *])
  have qw311 : w3.cell? ⟨w2.heap.size, 3, none⟩ = some (.int .i64 x.tx) := cell_later hb3 (by simp [go_sem, World.cell?_alloc_past, World.frozen?_alloc_past, *])
  have qw312 : w3.cell? ⟨w2.heap.size, 4, none⟩ = some (.int .i64 uz) := cell_later hb3 (by simp [go_sem, World.cell?_alloc_past, World.frozen?_alloc_past, *])
  have qw313 : w3.cell? ⟨w2.heap.size, 5, none⟩ = some (.int .i64 x.m.mt) := cell_later hb3 (by simp [go_sem, World.cell?_alloc_past, World.frozen?_alloc_past, *])
  have zqw3_0 := World.block_lt_of_cell? _ _ qw30
  dsimp only at zqw3_0
  have zqw3_8 := World.block_lt_of_cell? _ _ qw38
  dsimp only at zqw3_8
  have H3 : Hid (Below w.heap.size w w3) := Lib.hid (below_then (by (repeat (first | (with_reducible exact H2.out) | (with_reducible refine Below.setCell ?_ ?_ _) | (with_reducible refine below_alloc_top ?_ _) | (with_reducible refine Below.drew ?_))); all_goals (first | omega | (simp; done) | (simp; omega))) hb3); clear hb3
  go_wp2_with fail
  refine (HR.out _).mono ?_
  rintro e w4 ⟨rfl, hb4⟩
  have qw40 : w4.cell? ⟨w.heap.size, 0, none⟩ = some (.int .i64 x.m.wd) := cell_later hb4 (by simp [go_sem, World.cell?_alloc_past, World.frozen?_alloc_past, *])
  have qw41 : w4.cell? ⟨w.heap.size, 1, none⟩ = some (.int .i64 x.m.mt) := cell_later hb4 (by simp [go_sem, World.cell?_alloc_past, World.frozen?_alloc_past, *])
  have qw42 : w4.cell? ⟨w.heap.size, 2, none⟩ = some (.int .i64 x.m.sk) := cell_later hb4 (by simp [go_sem, World.cell?_alloc_past, World.frozen?_alloc_past, *])
  have qw43 : w4.cell? ⟨w.heap.size, 3, none⟩ = some (.int .i64 x.m.th) := cell_later hb4 (by simp [go_sem, World.cell?_alloc_past, World.frozen?_alloc_past, *])
  have qw44 : w4.cell? ⟨w.heap.size, 4, none⟩ = some (.int .i64 x.fx) := cell_later hb4 (by simp [go_sem, World.cell?_alloc_past, World.frozen?_alloc_past, *])
  have qw45 : w4.cell? ⟨w.heap.size, 5, none⟩ = some (.int .i64 x.fz) := cell_later hb4 (by simp [go_sem, World.cell?_alloc_past, World.frozen?_alloc_past, *])
  have qw46 : w4.cell? ⟨w.heap.size, 6, none⟩ = some (.int .i64 x.tx) := cell_later hb4 (by simp [go_sem, World.cell?_alloc_past, World.frozen?_alloc_past, *])
  have qw47 : w4.cell? ⟨w.heap.size, 7, none⟩ = some (.int .i64 x.tz) := cell_later hb4 (by simp [go_sem, World.cell?_alloc_past, World.frozen?_alloc_past, *])
  have qw48 : w4.cell? ⟨w2.heap.size, 0, none⟩ = some (.int .i64 x.fx) := cell_later hb4 (by simp [go_sem, World.cell?_alloc_past, World.frozen?_alloc_past, *])
  have qw49 : w4.cell? ⟨w2.heap.size, 1, none⟩ = some (.int .i64 (-x.fz)) := cell_later hb4 (by simp [go_sem, World.cell?_alloc_past, World.frozen?_alloc_past, *])
  have qw410 : w4.cell? ⟨w2.heap.size, 2, none⟩ = some (.int .i64 x.m.wd) := cell_later hb4 (by simp [go_sem, World.cell?_alloc_past, World.frozen?_alloc_past, *])
  have qw411 : w4.cell? ⟨w2.heap.size, 3, none⟩ = some (.int .i64 x.tx) := cell_later hb4 (by simp [go_sem, World.cell?_alloc_past, World.frozen?_alloc_past, *])
  have qw412 : w4.cell? ⟨w2.heap.size, 4, none⟩ = some (.int .i64 uz) := cell_later hb4 (by simp [go_sem, World.cell?_alloc_past, World.frozen?_alloc_past, *])
  have qw413 : w4.cell? ⟨w2.heap.size, 5, none⟩ = some (.int .i64 x.m.mt) := cell_later hb4 (by simp [go_sem, World.cell?_alloc_past, World.frozen?_alloc_past, *])
  have qw414 : w4.cell? ⟨w3.heap.size, 0, none⟩ = some (.int .i64 lo) := cell_later hb4 (by simp [go_sem, World.cell?_alloc_past, World.frozen?_alloc_past, *])
  have qw415 : w4.cell? ⟨w3.heap.size, 1, none⟩ = some (.int .i64 hi) := cell_later hb4 (by simp [go_sem, World.cell?_alloc_past, World.frozen?_alloc_past, *])
  have zqw4_0 := World.block_lt_of_cell? _ _ qw40
  dsimp only at zqw4_0
  have zqw4_8 := World.block_lt_of_cell? _ _ qw48
  dsimp only at zqw4_8
  have zqw4_14 := World.block_lt_of_cell? _ _ qw414
  dsimp only at zqw4_14
  have H4 : Hid (Below w.heap.size w w4) := Lib.hid (below_then (by (repeat (first | (with_reducible exact H3.out) | (with_reducible refine Below.setCell ?_ ?_ _) | (with_reducible refine below_alloc_top ?_ _) | (with_reducible refine Below.drew ?_))); all_goals (first | omega | (simp; done) | (simp; omega))) hb4); clear hb4
  go_wp2_with fail
  refine (HW.out _).mono ?_
  rintro e w5 ⟨v, rfl, hown, hb5⟩
  have qw50 : w5.cell? ⟨w.heap.size, 0, none⟩ = some (.int .i64 x.m.wd) := cell_later hb5 (by simp [go_sem, World.cell?_alloc_past, World.frozen?_alloc_past, *])
  have qw51 : w5.cell? ⟨w.heap.size, 1, none⟩ = some (.int .i64 x.m.mt) := cell_later hb5 (by simp [go_sem, World.cell?_alloc_past, World.frozen?_alloc_past, *])
  have qw52 : w5.cell? ⟨w.heap.size, 2, none⟩ = some (.int .i64 x.m.sk) := cell_later hb5 (by simp [go_sem, World.cell?_alloc_past, World.frozen?_alloc_past, *])
  have qw53 : w5.cell? ⟨w.heap.size, 3, none⟩ = some (.int .i64 x.m.th) := cell_later hb5 (by simp [go_sem, World.cell?_alloc_past, World.frozen?_alloc_past, *])
  have qw54 : w5.cell? ⟨w.heap.size, 4, none⟩ = some (.int .i64 x.fx) := cell_later hb5 (by simp [go_sem, World.cell?_alloc_past, World.frozen?_alloc_past, *])
  have qw55 : w5.cell? ⟨w.heap.size, 5, none⟩ = some (.int .i64 x.fz) := cell_later hb5 (by simp [go_sem, World.cell?_alloc_past, World.frozen?_alloc_past, *])
  have qw56 : w5.cell? ⟨w.heap.size, 6, none⟩ = some (.int .i64 x.tx) := cell_later hb5 (by simp [go_sem, World.cell?_alloc_past, World.frozen?_alloc_past, *])
  have qw57 : w5.cell? ⟨w.heap.size, 7, none⟩ = some (.int .i64 x.tz) := cell_later hb5 (by simp [go_sem, World.cell?_alloc_past, World.frozen?_alloc_past, *])
  have qw58 : w5.cell? ⟨w2.heap.size, 0, none⟩ = some (.int .i64 x.fx) := cell_later hb5 (by simp [go_sem, World.cell?_alloc_past, World.frozen?_alloc_past, *])
  have qw59 : w5.cell? ⟨w2.heap.size, 1, none⟩ = some (.int .i64 (-x.fz)) := cell_later hb5 (by simp [go_sem, World.cell?_alloc_past, World.frozen?_alloc_past, *])
  have qw510 : w5.cell? ⟨w2.heap.size, 2, none⟩ = some (.int .i64 x.m.wd) := cell_later hb5 (by simp [go_sem, World.cell?_alloc_past, World.frozen?_alloc_past, *])
  have qw511 : w5.cell? ⟨w2.heap.size, 3, none⟩ = some (.int .i64 x.tx) := cell_later hb5 (by simp [go_sem, World.cell?_alloc_past, World.frozen?_alloc_past, *])
  have qw512 : w5.cell? ⟨w2.heap.size, 4, none⟩ = some (.int .i64 uz) := cell_later hb5 (by simp [go_sem, World.cell?_alloc_past, World.frozen?_alloc_past, *])
  have qw513 : w5.cell? ⟨w2.heap.size, 5, none⟩ = some (.int .i64 x.m.mt) := cell_later hb5 (by simp [go_sem, World.cell?_alloc_past, World.frozen?_alloc_past, *])
  have qw514 : w5.cell? ⟨w3.heap.size, 0, none⟩ = some (.int .i64 lo) := cell_later hb5 (by simp [go_sem, World.cell?_alloc_past, World.frozen?_alloc_past, *])
  have qw515 : w5.cell? ⟨w3.heap.size, 1, none⟩ = some (.int .i64 hi) := cell_later hb5 (by simp [go_sem, World.cell?_alloc_past, World.frozen?_alloc_past, *])
  have zqw5_0 := World.block_lt_of_cell? _ _ qw50
  dsimp only at zqw5_0
  have zqw5_8 := World.block_lt_of_cell? _ _ qw58
  dsimp only at zqw5_8
  have zqw5_14 := World.block_lt_of_cell? _ _ qw514
  dsimp only at zqw5_14
  have H5 : Hid (Below w.heap.size w w5) := Lib.hid (below_then (by (repeat (first | (with_reducible exact H4.out) | (with_reducible refine Below.setCell ?_ ?_ _) | (with_reducible refine below_alloc_top ?_ _) | (with_reducible refine Below.drew ?_))); all_goals (first | omega | (simp; done) | (simp; omega))) hb5); clear hb5
  obtain ⟨A, c, rfl, ra⟩ := rows_form x hown
  clear hown
  go_wp2_with fail
  refine (HE.out _).mono ?_
  rintro e w6 ⟨rfl, hb6⟩
  have qw60 : w6.cell? ⟨w.heap.size, 0, none⟩ = some (.int .i64 x.m.wd) := cell_later hb6 (by simp [go_sem, World.cell?_alloc_past, World.frozen?_alloc_past, *])
  have qw61 : w6.cell? ⟨w.heap.size, 1, none⟩ = some (.int .i64 x.m.mt) := cell_later hb6 (by simp [go_sem, World.cell?_alloc_past, World.frozen?_alloc_past, *])
  have qw62 : w6.cell? ⟨w.heap.size, 2, none⟩ = some (.int .i64 x.m.sk) := cell_later hb6 (by simp [go_sem, World.cell?_alloc_past, World.frozen?_alloc_past, *])
  have qw63 : w6.cell? ⟨w.heap.size, 3, none⟩ = some (.int .i64 x.m.th) := cell_later hb6 (by simp [go_sem, World.cell?_alloc_past, World.frozen?_alloc_past, *])
  have qw64 : w6.cell? ⟨w.heap.size, 4, none⟩ = some (.int .i64 x.fx) := cell_later hb6 (by simp [go_sem, World.cell?_alloc_past, World.frozen?_alloc_past, *])
  have qw65 : w6.cell? ⟨w.heap.size, 5, none⟩ = some (.int .i64 x.fz) := cell_later hb6 (by simp [go_sem, World.cell?_alloc_past, World.frozen?_alloc_past, *])
  have qw66 : w6.cell? ⟨w.heap.size, 6, none⟩ = some (.int .i64 x.tx) := cell_later hb6 (by simp [go_sem, World.cell?_alloc_past, World.frozen?_alloc_past, *])
  have qw67 : w6.cell? ⟨w.heap.size, 7, none⟩ = some (.int .i64 x.tz) := cell_later hb6 (by simp [go_sem, World.cell?_alloc_past, World.frozen?_alloc_past, *])
  have qw68 : w6.cell? ⟨w2.heap.size, 0, none⟩ = some (.int .i64 x.fx) := cell_later hb6 (by simp [go_sem, World.cell?_alloc_past, World.frozen?_alloc_past, *])
  have qw69 : w6.cell? ⟨w2.heap.size, 1, none⟩ = some (.int .i64 (-x.fz)) := cell_later hb6 (by simp [go_sem, World.cell?_alloc_past, World.frozen?_alloc_past, *])
  have qw610 : w6.cell? ⟨w2.heap.size, 2, none⟩ = some (.int .i64 x.m.wd) := cell_later hb6 (by simp [go_sem, World.cell?_alloc_past, World.frozen?_alloc_past, *])
  have qw611 : w6.cell? ⟨w2.heap.size, 3, none⟩ = some (.int .i64 x.tx) := cell_later hb6 (by simp [go_sem, World.cell?_alloc_past, World.frozen?_alloc_past, *])
  have qw612 : w6.cell? ⟨w2.heap.size, 4, none⟩ = some (.int .i64 uz) := cell_later hb6 (by simp [go_sem, World.cell?_alloc_past, World.frozen?_alloc_past, *])
  have qw613 : w6.cell? ⟨w2.heap.size, 5, none⟩ = some (.int .i64 x.m.mt) := cell_later hb6 (by simp [go_sem, World.cell?_alloc_past, World.frozen?_alloc_past, *])
  have qw614 : w6.cell? ⟨w3.heap.size, 0, none⟩ = some (.int .i64 lo) := cell_later hb6 (by simp [go_sem, World.cell?_alloc_past, World.frozen?_alloc_past, *])
  have qw615 : w6.cell? ⟨w3.heap.size, 1, none⟩ = some (.int .i64 hi) := cell_later hb6 (by simp [go_sem, World.cell?_alloc_past, World.frozen?_alloc_past, *])
  have zqw6_0 := World.block_lt_of_cell? _ _ qw60
  dsimp only at zqw6_0
  have zqw6_8 := World.block_lt_of_cell? _ _ qw68
  dsimp only at zqw6_8
  have zqw6_14 := World.block_lt_of_cell? _ _ qw614
  dsimp only at zqw6_14
  have RA := Lib.hid (ra.later hb6); clear ra
  have H6 : Hid (Below w.heap.size w w6) := Lib.hid (below_then (by (repeat (first | (with_reducible exact H5.out) | (with_reducible refine Below.setCell ?_ ?_ _) | (with_reducible refine below_alloc_top ?_ _) | (with_reducible refine Below.drew ?_))); all_goals (first | omega | (simp; done) | (simp; omega))) hb6); clear hb6
  go_wp2_with fail
  have hBel := Below.refl w6.heap.size w6
  go_region_held3 (fun w' => w'.cell? ⟨w.heap.size, 0, none⟩ = some (.int .i64 x.m.wd) ∧ w'.cell? ⟨w.heap.size, 1, none⟩ = some (.int .i64 x.m.mt) ∧ w'.cell? ⟨w.heap.size, 2, none⟩ = some (.int .i64 x.m.sk) ∧ w'.cell? ⟨w.heap.size, 3, none⟩ = some (.int .i64 x.m.th) ∧ w'.cell? ⟨w.heap.size, 4, none⟩ = some (.int .i64 x.fx) ∧ w'.cell? ⟨w.heap.size, 5, none⟩ = some (.int .i64 x.fz) ∧ w'.cell? ⟨w.heap.size, 6, none⟩ = some (.int .i64 x.tx) ∧ w'.cell? ⟨w.heap.size, 7, none⟩ = some (.int .i64 x.tz) ∧ w'.cell? ⟨w2.heap.size, 0, none⟩ = some (.int .i64 x.fx) ∧ w'.cell? ⟨w2.heap.size, 1, none⟩ = some (.int .i64 (-x.fz)) ∧ w'.cell? ⟨w2.heap.size, 2, none⟩ = some (.int .i64 x.m.wd) ∧ w'.cell? ⟨w2.heap.size, 3, none⟩ = some (.int .i64 x.tx) ∧ w'.cell? ⟨w2.heap.size, 4, none⟩ = some (.int .i64 uz) ∧ w'.cell? ⟨w2.heap.size, 5, none⟩ = some (.int .i64 x.m.mt) ∧ w'.cell? ⟨w3.heap.size, 0, none⟩ = some (.int .i64 lo) ∧ w'.cell? ⟨w3.heap.size, 1, none⟩ = some (.int .i64 hi) ∧ Below w6.heap.size w6 w') (((go_split_ands; (repeat' apply And.intro) <;> first | (with_reducible assumption) | exact cell_later (by assumption) (by assumption) | exact frozen_after (by assumption) (by assumption) (by assumption) | exact below_then (by assumption) (by assumption) | exact below_alloc_top (by assumption) _ | exact cell_alloc_later (by assumption) _ | exact frozen_alloc_later (by assumption) (by assumption) _ | exact Below.drew (by assumption) | (simp [go_sem, World.cell?_alloc_past, *]; done))))
    (first
      | (go_at_call 53; refine (RC.out _).mono ?_; rintro e w' ⟨rfl, hb⟩)
      | (go_at_call 54; refine (RL.out _).mono ?_; rintro e w' ⟨rfl, hb⟩))
  go_split_ands
  have y0 : w'.cell? ⟨w.heap.size, 0, none⟩ = some (.int .i64 x.m.wd)   := by with_reducible assumption
  have y1 : w'.cell? ⟨w.heap.size, 1, none⟩ = some (.int .i64 x.m.mt)   := by with_reducible assumption
  have y2 : w'.cell? ⟨w.heap.size, 2, none⟩ = some (.int .i64 x.m.sk)   := by with_reducible assumption
  have y3 : w'.cell? ⟨w.heap.size, 3, none⟩ = some (.int .i64 x.m.th)   := by with_reducible assumption
  have y4 : w'.cell? ⟨w.heap.size, 4, none⟩ = some (.int .i64 x.fx)   := by with_reducible assumption
  have y5 : w'.cell? ⟨w.heap.size, 5, none⟩ = some (.int .i64 x.fz)   := by with_reducible assumption
  have y6 : w'.cell? ⟨w.heap.size, 6, none⟩ = some (.int .i64 x.tx)   := by with_reducible assumption
  have y7 : w'.cell? ⟨w.heap.size, 7, none⟩ = some (.int .i64 x.tz)   := by with_reducible assumption
  have y8 : w'.cell? ⟨w2.heap.size, 0, none⟩ = some (.int .i64 x.fx)   := by with_reducible assumption
  have y9 : w'.cell? ⟨w2.heap.size, 1, none⟩ = some (.int .i64 (-x.fz))   := by with_reducible assumption
  have y10 : w'.cell? ⟨w2.heap.size, 2, none⟩ = some (.int .i64 x.m.wd)   := by with_reducible assumption
  have y11 : w'.cell? ⟨w2.heap.size, 3, none⟩ = some (.int .i64 x.tx)   := by with_reducible assumption
  have y12 : w'.cell? ⟨w2.heap.size, 4, none⟩ = some (.int .i64 uz)   := by with_reducible assumption
  have y13 : w'.cell? ⟨w2.heap.size, 5, none⟩ = some (.int .i64 x.m.mt)   := by with_reducible assumption
  have y14 : w'.cell? ⟨w3.heap.size, 0, none⟩ = some (.int .i64 lo)   := by with_reducible assumption
  have y15 : w'.cell? ⟨w3.heap.size, 1, none⟩ = some (.int .i64 hi)   := by with_reducible assumption
  have yB0 : Below w6.heap.size w6 w' := by with_reducible assumption
  have RA2 := Lib.hid (RA.out.later yB0)
  have H7 : Hid (Below w.heap.size w w') := Lib.hid (Below.trans H6.out (yB0.mono H6.out.size))
  have yz0 := World.block_lt_of_cell? _ _ y0
  have yz8 := World.block_lt_of_cell? _ _ y8
  have yz14 := World.block_lt_of_cell? _ _ y14
  dsimp only at yz0 yz8 yz14
  clear yB0 hBel
  go_wp2_with fail
  refine (RR.out _).mono ?_
  rintro e w8 ⟨rfl, hb8⟩
  have qw80 : w8.cell? ⟨w.heap.size, 0, none⟩ = some (.int .i64 x.m.wd) := cell_later hb8 (by simp [go_sem, World.cell?_alloc_past, World.frozen?_alloc_past, *])
  have qw81 : w8.cell? ⟨w.heap.size, 1, none⟩ = some (.int .i64 x.m.mt) := cell_later hb8 (by simp [go_sem, World.cell?_alloc_past, World.frozen?_alloc_past, *])
  have qw82 : w8.cell? ⟨w.heap.size, 2, none⟩ = some (.int .i64 x.m.sk) := cell_later hb8 (by simp [go_sem, World.cell?_alloc_past, World.frozen?_alloc_past, *])
  have qw83 : w8.cell? ⟨w.heap.size, 3, none⟩ = some (.int .i64 x.m.th) := cell_later hb8 (by simp [go_sem, World.cell?_alloc_past, World.frozen?_alloc_past, *])
  have qw84 : w8.cell? ⟨w.heap.size, 4, none⟩ = some (.int .i64 x.fx) := cell_later hb8 (by simp [go_sem, World.cell?_alloc_past, World.frozen?_alloc_past, *])
  have qw85 : w8.cell? ⟨w.heap.size, 5, none⟩ = some (.int .i64 x.fz) := cell_later hb8 (by simp [go_sem, World.cell?_alloc_past, World.frozen?_alloc_past, *])
  have qw86 : w8.cell? ⟨w.heap.size, 6, none⟩ = some (.int .i64 x.tx) := cell_later hb8 (by simp [go_sem, World.cell?_alloc_past, World.frozen?_alloc_past, *])
  have qw87 : w8.cell? ⟨w.heap.size, 7, none⟩ = some (.int .i64 x.tz) := cell_later hb8 (by simp [go_sem, World.cell?_alloc_past, World.frozen?_alloc_past, *])
  have qw88 : w8.cell? ⟨w2.heap.size, 0, none⟩ = some (.int .i64 x.fx) := cell_later hb8 (by simp [go_sem, World.cell?_alloc_past, World.frozen?_alloc_past, *])
  have qw89 : w8.cell? ⟨w2.heap.size, 1, none⟩ = some (.int .i64 (-x.fz)) := cell_later hb8 (by simp [go_sem, World.cell?_alloc_past, World.frozen?_alloc_past, *])
  have qw810 : w8.cell? ⟨w2.heap.size, 2, none⟩ = some (.int .i64 x.m.wd) := cell_later hb8 (by simp [go_sem, World.cell?_alloc_past, World.frozen?_alloc_past, *])
  have qw811 : w8.cell? ⟨w2.heap.size, 3, none⟩ = some (.int .i64 x.tx) := cell_later hb8 (by simp [go_sem, World.cell?_alloc_past, World.frozen?_alloc_past, *])
  have qw812 : w8.cell? ⟨w2.heap.size, 4, none⟩ = some (.int .i64 uz) := cell_later hb8 (by simp [go_sem, World.cell?_alloc_past, World.frozen?_alloc_past, *])
  have qw813 : w8.cell? ⟨w2.heap.size, 5, none⟩ = some (.int .i64 x.m.mt) := cell_later hb8 (by simp [go_sem, World.cell?_alloc_past, World.frozen?_alloc_past, *])
  have qw814 : w8.cell? ⟨w3.heap.size, 0, none⟩ = some (.int .i64 lo) := cell_later hb8 (by simp [go_sem, World.cell?_alloc_past, World.frozen?_alloc_past, *])
  have qw815 : w8.cell? ⟨w3.heap.size, 1, none⟩ = some (.int .i64 hi) := cell_later hb8 (by simp [go_sem, World.cell?_alloc_past, World.frozen?_alloc_past, *])
  have zqw8_0 := World.block_lt_of_cell? _ _ qw80
  dsimp only at zqw8_0
  have zqw8_8 := World.block_lt_of_cell? _ _ qw88
  dsimp only at zqw8_8
  have zqw8_14 := World.block_lt_of_cell? _ _ qw814
  dsimp only at zqw8_14
  have RA3 := Lib.hid (RA2.out.later hb8)
  have H8 : Hid (Below w.heap.size w w8) := Lib.hid (below_then (by (repeat (first | (with_reducible exact H7.out) | (with_reducible refine Below.setCell ?_ ?_ _) | (with_reducible refine below_alloc_top ?_ _) | (with_reducible refine Below.drew ?_))); all_goals (first | omega | (simp; done) | (simp; omega))) hb8); clear hb8
  go_wp2_with fail
  refine (HI.out _).mono ?_
  rintro e w' ⟨rfl, rfl⟩
  go_wp2_with fail
  refine (RW.out _).mono ?_
  rintro e w9 ⟨v2, rfl, hown2, hb9⟩
  have qw90 : w9.cell? ⟨w.heap.size, 0, none⟩ = some (.int .i64 x.m.wd) := cell_later hb9 (by simp [go_sem, World.cell?_alloc_past, World.frozen?_alloc_past, *])
  have qw91 : w9.cell? ⟨w.heap.size, 1, none⟩ = some (.int .i64 x.m.mt) := cell_later hb9 (by simp [go_sem, World.cell?_alloc_past, World.frozen?_alloc_past, *])
  have qw92 : w9.cell? ⟨w.heap.size, 2, none⟩ = some (.int .i64 x.m.sk) := cell_later hb9 (by simp [go_sem, World.cell?_alloc_past, World.frozen?_alloc_past, *])
  have qw93 : w9.cell? ⟨w.heap.size, 3, none⟩ = some (.int .i64 x.m.th) := cell_later hb9 (by simp [go_sem, World.cell?_alloc_past, World.frozen?_alloc_past, *])
  have qw94 : w9.cell? ⟨w.heap.size, 4, none⟩ = some (.int .i64 x.fx) := cell_later hb9 (by simp [go_sem, World.cell?_alloc_past, World.frozen?_alloc_past, *])
  have qw95 : w9.cell? ⟨w.heap.size, 5, none⟩ = some (.int .i64 x.fz) := cell_later hb9 (by simp [go_sem, World.cell?_alloc_past, World.frozen?_alloc_past, *])
  have qw96 : w9.cell? ⟨w.heap.size, 6, none⟩ = some (.int .i64 x.tx) := cell_later hb9 (by simp [go_sem, World.cell?_alloc_past, World.frozen?_alloc_past, *])
  have qw97 : w9.cell? ⟨w.heap.size, 7, none⟩ = some (.int .i64 x.tz) := cell_later hb9 (by simp [go_sem, World.cell?_alloc_past, World.frozen?_alloc_past, *])
  have qw98 : w9.cell? ⟨w2.heap.size, 0, none⟩ = some (.int .i64 x.fx) := cell_later hb9 (by simp [go_sem, World.cell?_alloc_past, World.frozen?_alloc_past, *])
  have qw99 : w9.cell? ⟨w2.heap.size, 1, none⟩ = some (.int .i64 (-x.fz)) := cell_later hb9 (by simp [go_sem, World.cell?_alloc_past, World.frozen?_alloc_past, *])
  have qw910 : w9.cell? ⟨w2.heap.size, 2, none⟩ = some (.int .i64 x.m.wd) := cell_later hb9 (by simp [go_sem, World.cell?_alloc_past, World.frozen?_alloc_past, *])
  have qw911 : w9.cell? ⟨w2.heap.size, 3, none⟩ = some (.int .i64 x.tx) := cell_later hb9 (by simp [go_sem, World.cell?_alloc_past, World.frozen?_alloc_past, *])
  have qw912 : w9.cell? ⟨w2.heap.size, 4, none⟩ = some (.int .i64 uz) := cell_later hb9 (by simp [go_sem, World.cell?_alloc_past, World.frozen?_alloc_past, *])
  have qw913 : w9.cell? ⟨w2.heap.size, 5, none⟩ = some (.int .i64 x.m.mt) := cell_later hb9 (by simp [go_sem, World.cell?_alloc_past, World.frozen?_alloc_past, *])
  have qw914 : w9.cell? ⟨w3.heap.size, 0, none⟩ = some (.int .i64 lo) := cell_later hb9 (by simp [go_sem, World.cell?_alloc_past, World.frozen?_alloc_past, *])
  have qw915 : w9.cell? ⟨w3.heap.size, 1, none⟩ = some (.int .i64 hi) := cell_later hb9 (by simp [go_sem, World.cell?_alloc_past, World.frozen?_alloc_past, *])
  have zqw9_0 := World.block_lt_of_cell? _ _ qw90
  dsimp only at zqw9_0
  have zqw9_8 := World.block_lt_of_cell? _ _ qw98
  dsimp only at zqw9_8
  have zqw9_14 := World.block_lt_of_cell? _ _ qw914
  dsimp only at zqw9_14
  have RA4 := Lib.hid (RA3.out.later hb9)
  have H9 : Hid (Below w.heap.size w w9) := Lib.hid (below_then (by (repeat (first | (with_reducible exact H8.out) | (with_reducible refine Below.setCell ?_ ?_ _) | (with_reducible refine below_alloc_top ?_ _) | (with_reducible refine Below.drew ?_))); all_goals (first | omega | (simp; done) | (simp; omega))) hb9); clear hb9
  obtain ⟨A2, c2, rfl, ra2⟩ := rows_form x hown2
  clear hown2
  have RB := Lib.hid ra2; clear ra2
  go_wp2_with fail
  refine (ranges_same A A2 sn c c2 x.wl x.wh _ (by omega) RA4.out RB.out).mono ?_
  rintro e w10 ⟨rfl, hb10⟩

  have H10 : Hid (Below w.heap.size w w10) := Lib.hid (below_then (by (repeat (first | (with_reducible exact H9.out) | (with_reducible refine Below.setCell ?_ ?_ _) | (with_reducible refine below_alloc_top ?_ _) | (with_reducible refine Below.drew ?_))); all_goals (first | omega | (simp; done) | (simp; omega))) hb10); clear hb10
  go_wp2
  go_ret
  exact ⟨rfl, (by (repeat (first | (with_reducible exact H10.out) | (with_reducible refine Below.setCell ?_ ?_ _) | (with_reducible refine below_alloc_top ?_ _) | (with_reducible refine Below.drew ?_))); all_goals (first | omega | (simp; done) | (simp; omega)))⟩
theorem ways_any (x : Wy) (w : World) :
    Calls Try.prog 9 #[.agg #[.int .i64 x.m.wd, .int .i64 x.m.mt, .int .i64 x.m.sk, .int .i64 x.m.th, .int .i64 x.fx, .int .i64 x.fz, .int .i64 x.tx, .int .i64 x.tz]] w fun e w' => e = .returned (.bool true) ∧ Below w.heap.size w w' := by
  by_cases h : wyE x = 0
  · exact ways_ok x ((wyE_ok x).1 h) w
  · exact ways_bad x h w
end Go.Proofs.Ytdicndakelgoeaa
