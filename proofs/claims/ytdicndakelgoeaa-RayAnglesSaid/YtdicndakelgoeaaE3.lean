/- RayAngles: the walk -/
import Derived.Test.YtdicndakelgoeaaE2
namespace Go.Proofs.Ytdicndakelgoeaa
open Go.RowKit RayM
set_option linter.unusedSimpArgs false
set_option linter.unusedVariables false
set_option maxRecDepth 100000 in
set_option maxHeartbeats 1000000 in
theorem angles_1a (a b u v : Int) 
    (hc : ∀ w, Calls Try.prog 67 #[.int .i64 u, .int .i64 v] w fun e w' => e = .returned (.tuple #[.agg #[.int .i64 0, .int .i64 0], .int .i64 2]) ∧ Below w.heap.size w w')
    (hp : ∀ w, Calls Try.prog 68 #[.agg #[.int .i64 a, .int .i64 b], .int .i64 u, .int .i64 v] w fun e w' => e = .returned (.tuple #[.bool false, .int .i64 2]) ∧ Below w.heap.size w w')
    (hbq : ∀ w, Calls Try.prog 69 #[.agg #[.int .i64 a, .int .i64 b], .int .i64 u, .int .i64 v] w fun e w' => e = .returned (.tuple #[.agg #[.int .i64 0, .int .i64 0], .int .i64 2]) ∧ Below w.heap.size w w')
    (hu : ∀ w, Calls Try.prog 27 #[.int .i64 u] w fun e w' => e = .returned (.int .i64 2) ∧ w = w')
    (hd : ∀ w, Calls Try.prog 71 #[.agg #[.int .i64 a, .int .i64 b]] w fun e w' => e = .returned (.int .i64 0) ∧ Below w.heap.size w w')
    (w : World) : Calls Try.prog 14 #[.agg #[.int .i64 a, .int .i64 b], .int .i64 u, .int .i64 v] w fun e w' => e = .returned (.bool true) ∧ Below w.heap.size w w' := by
  have HC := Lib.hid hc
  have HP := Lib.hid hp
  have HB := Lib.hid hbq
  have HU := Lib.hid hu
  have HD := Lib.hid hd
  clear hc hp hbq hu hd
  go_enter Try.func14, Try.ntmps14
  go_wp2_with fail
  refine (awake_any _).mono ?_
  rintro e w1 ⟨rfl, hb1⟩
  have qw10 : w1.cell? ⟨w.heap.size, 0, none⟩ = some (.int .i64 a) := cell_later hb1 (by simp [go_sem])
  have qw11 : w1.cell? ⟨w.heap.size, 1, none⟩ = some (.int .i64 b) := cell_later hb1 (by simp [go_sem])
  have zqw1_0 := World.block_lt_of_cell? _ _ qw10
  dsimp only at zqw1_0
  have H1 := Lib.hid (below_after (by repeat (first | exact Below.refl _ _ | refine Below.drew ?_ | refine below_drewN ?_ _ | refine Below.setCell ?_ (by first | omega | (simp; done) | (simp; omega)) _ | refine Below.alloc ?_ (by first | omega | (simp; done) | (simp; omega)) _)) hb1 (by first | omega | (simp; done) | (simp; omega)) : Below w.heap.size w w1); clear hb1
  go_wp2_with fail
  refine (HC.out _).mono ?_
  rintro e w2 ⟨rfl, hb2⟩
  have qw20 : w2.cell? ⟨w.heap.size, 0, none⟩ = some (.int .i64 a) := cell_later hb2 (by simp [go_sem, World.cell?_alloc_past, World.frozen?_alloc_past, *])
  have qw21 : w2.cell? ⟨w.heap.size, 1, none⟩ = some (.int .i64 b) := cell_later hb2 (by simp [go_sem, World.cell?_alloc_past, World.frozen?_alloc_past, *])
  have zqw2_0 := World.block_lt_of_cell? _ _ qw20
  dsimp only at zqw2_0
  have H2 : Hid (Below w.heap.size w w2) := Lib.hid (below_then (by (repeat (first | (with_reducible exact H1.out) | (with_reducible refine Below.setCell ?_ ?_ _) | (with_reducible refine below_alloc_top ?_ _) | (with_reducible refine Below.drew ?_))); all_goals (first | omega | (simp; done) | (simp; omega))) hb2); clear hb2
  go_wp2_with fail
  refine (HP.out _).mono ?_
  rintro e w3 ⟨rfl, hb3⟩
  have qw30 : w3.cell? ⟨w.heap.size, 0, none⟩ = some (.int .i64 a) := cell_later hb3 (by simp [go_sem, World.cell?_alloc_past, World.frozen?_alloc_past, *])
  have qw31 : w3.cell? ⟨w.heap.size, 1, none⟩ = some (.int .i64 b) := cell_later hb3 (by simp [go_sem, World.cell?_alloc_past, World.frozen?_alloc_past, *])
  have qw32 : w3.cell? ⟨w2.heap.size, 0, none⟩ = some (.int .i64 0) := cell_later hb3 (by simp [go_sem, World.cell?_alloc_past, World.frozen?_alloc_past, *])
  have qw33 : w3.cell? ⟨w2.heap.size, 1, none⟩ = some (.int .i64 0) := cell_later hb3 (by simp [go_sem, World.cell?_alloc_past, World.frozen?_alloc_past, *])
  have zqw3_0 := World.block_lt_of_cell? _ _ qw30
  dsimp only at zqw3_0
  have zqw3_2 := World.block_lt_of_cell? _ _ qw32
  dsimp only at zqw3_2
  have H3 : Hid (Below w.heap.size w w3) := Lib.hid (below_then (by (repeat (first | (with_reducible exact H2.out) | (with_reducible refine Below.setCell ?_ ?_ _) | (with_reducible refine below_alloc_top ?_ _) | (with_reducible refine Below.drew ?_))); all_goals (first | omega | (simp; done) | (simp; omega))) hb3); clear hb3
  go_wp2_with fail
  refine (HB.out _).mono ?_
  rintro e w4 ⟨rfl, hb4⟩
  have qw40 : w4.cell? ⟨w.heap.size, 0, none⟩ = some (.int .i64 a) := cell_later hb4 (by simp [go_sem, World.cell?_alloc_past, World.frozen?_alloc_past, *])
  have qw41 : w4.cell? ⟨w.heap.size, 1, none⟩ = some (.int .i64 b) := cell_later hb4 (by simp [go_sem, World.cell?_alloc_past, World.frozen?_alloc_past, *])
  have qw42 : w4.cell? ⟨w2.heap.size, 0, none⟩ = some (.int .i64 0) := cell_later hb4 (by simp [go_sem, World.cell?_alloc_past, World.frozen?_alloc_past, *])
  have qw43 : w4.cell? ⟨w2.heap.size, 1, none⟩ = some (.int .i64 0) := cell_later hb4 (by simp [go_sem, World.cell?_alloc_past, World.frozen?_alloc_past, *])
  have zqw4_0 := World.block_lt_of_cell? _ _ qw40
  dsimp only at zqw4_0
  have zqw4_2 := World.block_lt_of_cell? _ _ qw42
  dsimp only at zqw4_2
  have H4 : Hid (Below w.heap.size w w4) := Lib.hid (below_then (by (repeat (first | (with_reducible exact H3.out) | (with_reducible refine Below.setCell ?_ ?_ _) | (with_reducible refine below_alloc_top ?_ _) | (with_reducible refine Below.drew ?_))); all_goals (first | omega | (simp; done) | (simp; omega))) hb4); clear hb4
  go_wp2_with (first
    | (go_at_call 27; refine (HU.out _).mono ?_; rintro e w' ⟨rfl, rfl⟩)
    | fail)
  refine (HD.out _).mono ?_
  rintro e w5 ⟨rfl, hb5⟩
  have qw50 : w5.cell? ⟨w4.heap.size, 0, none⟩ = some (.int .i64 0) := cell_later hb5 (by simp [go_sem, World.cell?_alloc_past, World.frozen?_alloc_past, *])
  have qw51 : w5.cell? ⟨w4.heap.size, 1, none⟩ = some (.int .i64 0) := cell_later hb5 (by simp [go_sem, World.cell?_alloc_past, World.frozen?_alloc_past, *])
  have zqw5_0 := World.block_lt_of_cell? _ _ qw50
  dsimp only at zqw5_0
  have H5 : Hid (Below w.heap.size w w5) := Lib.hid (below_then (by (repeat (first | (with_reducible exact H4.out) | (with_reducible refine Below.setCell ?_ ?_ _) | (with_reducible refine below_alloc_top ?_ _) | (with_reducible refine Below.drew ?_))); all_goals (first | omega | (simp; done) | (simp; omega))) hb5); clear hb5
  go_wp2
  go_ret
  exact ⟨rfl, H5.out⟩
set_option maxRecDepth 100000 in
set_option maxHeartbeats 1000000 in
theorem angles_1b (a b u v : Int) 
    (hc : ∀ w, Calls Try.prog 67 #[.int .i64 u, .int .i64 v] w fun e w' => e = .returned (.tuple #[.agg #[.int .i64 0, .int .i64 0], .int .i64 2]) ∧ Below w.heap.size w w')
    (hp : ∀ w, Calls Try.prog 68 #[.agg #[.int .i64 a, .int .i64 b], .int .i64 u, .int .i64 v] w fun e w' => e = .returned (.tuple #[.bool false, .int .i64 2]) ∧ Below w.heap.size w w')
    (hbq : ∀ w, Calls Try.prog 69 #[.agg #[.int .i64 a, .int .i64 b], .int .i64 u, .int .i64 v] w fun e w' => e = .returned (.tuple #[.agg #[.int .i64 0, .int .i64 0], .int .i64 2]) ∧ Below w.heap.size w w')
    (hu : ∀ w, Calls Try.prog 27 #[.int .i64 u] w fun e w' => e = .returned (.int .i64 2) ∧ w = w')
    (hd : ∀ w, Calls Try.prog 71 #[.agg #[.int .i64 a, .int .i64 b]] w fun e w' => e = .returned (.int .i64 2) ∧ Below w.heap.size w w')
    (w : World) : Calls Try.prog 14 #[.agg #[.int .i64 a, .int .i64 b], .int .i64 u, .int .i64 v] w fun e w' => e = .returned (.bool true) ∧ Below w.heap.size w w' := by
  have HC := Lib.hid hc
  have HP := Lib.hid hp
  have HB := Lib.hid hbq
  have HU := Lib.hid hu
  have HD := Lib.hid hd
  clear hc hp hbq hu hd
  go_enter Try.func14, Try.ntmps14
  go_wp2_with fail
  refine (awake_any _).mono ?_
  rintro e w1 ⟨rfl, hb1⟩
  have qw10 : w1.cell? ⟨w.heap.size, 0, none⟩ = some (.int .i64 a) := cell_later hb1 (by simp [go_sem])
  have qw11 : w1.cell? ⟨w.heap.size, 1, none⟩ = some (.int .i64 b) := cell_later hb1 (by simp [go_sem])
  have zqw1_0 := World.block_lt_of_cell? _ _ qw10
  dsimp only at zqw1_0
  have H1 := Lib.hid (below_after (by repeat (first | exact Below.refl _ _ | refine Below.drew ?_ | refine below_drewN ?_ _ | refine Below.setCell ?_ (by first | omega | (simp; done) | (simp; omega)) _ | refine Below.alloc ?_ (by first | omega | (simp; done) | (simp; omega)) _)) hb1 (by first | omega | (simp; done) | (simp; omega)) : Below w.heap.size w w1); clear hb1
  go_wp2_with fail
  refine (HC.out _).mono ?_
  rintro e w2 ⟨rfl, hb2⟩
  have qw20 : w2.cell? ⟨w.heap.size, 0, none⟩ = some (.int .i64 a) := cell_later hb2 (by simp [go_sem, World.cell?_alloc_past, World.frozen?_alloc_past, *])
  have qw21 : w2.cell? ⟨w.heap.size, 1, none⟩ = some (.int .i64 b) := cell_later hb2 (by simp [go_sem, World.cell?_alloc_past, World.frozen?_alloc_past, *])
  have zqw2_0 := World.block_lt_of_cell? _ _ qw20
  dsimp only at zqw2_0
  have H2 : Hid (Below w.heap.size w w2) := Lib.hid (below_then (by (repeat (first | (with_reducible exact H1.out) | (with_reducible refine Below.setCell ?_ ?_ _) | (with_reducible refine below_alloc_top ?_ _) | (with_reducible refine Below.drew ?_))); all_goals (first | omega | (simp; done) | (simp; omega))) hb2); clear hb2
  go_wp2_with fail
  refine (HP.out _).mono ?_
  rintro e w3 ⟨rfl, hb3⟩
  have qw30 : w3.cell? ⟨w.heap.size, 0, none⟩ = some (.int .i64 a) := cell_later hb3 (by simp [go_sem, World.cell?_alloc_past, World.frozen?_alloc_past, *])
  have qw31 : w3.cell? ⟨w.heap.size, 1, none⟩ = some (.int .i64 b) := cell_later hb3 (by simp [go_sem, World.cell?_alloc_past, World.frozen?_alloc_past, *])
  have qw32 : w3.cell? ⟨w2.heap.size, 0, none⟩ = some (.int .i64 0) := cell_later hb3 (by simp [go_sem, World.cell?_alloc_past, World.frozen?_alloc_past, *])
  have qw33 : w3.cell? ⟨w2.heap.size, 1, none⟩ = some (.int .i64 0) := cell_later hb3 (by simp [go_sem, World.cell?_alloc_past, World.frozen?_alloc_past, *])
  have zqw3_0 := World.block_lt_of_cell? _ _ qw30
  dsimp only at zqw3_0
  have zqw3_2 := World.block_lt_of_cell? _ _ qw32
  dsimp only at zqw3_2
  have H3 : Hid (Below w.heap.size w w3) := Lib.hid (below_then (by (repeat (first | (with_reducible exact H2.out) | (with_reducible refine Below.setCell ?_ ?_ _) | (with_reducible refine below_alloc_top ?_ _) | (with_reducible refine Below.drew ?_))); all_goals (first | omega | (simp; done) | (simp; omega))) hb3); clear hb3
  go_wp2_with fail
  refine (HB.out _).mono ?_
  rintro e w4 ⟨rfl, hb4⟩
  have qw40 : w4.cell? ⟨w.heap.size, 0, none⟩ = some (.int .i64 a) := cell_later hb4 (by simp [go_sem, World.cell?_alloc_past, World.frozen?_alloc_past, *])
  have qw41 : w4.cell? ⟨w.heap.size, 1, none⟩ = some (.int .i64 b) := cell_later hb4 (by simp [go_sem, World.cell?_alloc_past, World.frozen?_alloc_past, *])
  have qw42 : w4.cell? ⟨w2.heap.size, 0, none⟩ = some (.int .i64 0) := cell_later hb4 (by simp [go_sem, World.cell?_alloc_past, World.frozen?_alloc_past, *])
  have qw43 : w4.cell? ⟨w2.heap.size, 1, none⟩ = some (.int .i64 0) := cell_later hb4 (by simp [go_sem, World.cell?_alloc_past, World.frozen?_alloc_past, *])
  have zqw4_0 := World.block_lt_of_cell? _ _ qw40
  dsimp only at zqw4_0
  have zqw4_2 := World.block_lt_of_cell? _ _ qw42
  dsimp only at zqw4_2
  have H4 : Hid (Below w.heap.size w w4) := Lib.hid (below_then (by (repeat (first | (with_reducible exact H3.out) | (with_reducible refine Below.setCell ?_ ?_ _) | (with_reducible refine below_alloc_top ?_ _) | (with_reducible refine Below.drew ?_))); all_goals (first | omega | (simp; done) | (simp; omega))) hb4); clear hb4
  go_wp2_with (first
    | (go_at_call 27; refine (HU.out _).mono ?_; rintro e w' ⟨rfl, rfl⟩)
    | fail)
  refine (HD.out _).mono ?_
  rintro e w5 ⟨rfl, hb5⟩
  have qw50 : w5.cell? ⟨w4.heap.size, 0, none⟩ = some (.int .i64 0) := cell_later hb5 (by simp [go_sem, World.cell?_alloc_past, World.frozen?_alloc_past, *])
  have qw51 : w5.cell? ⟨w4.heap.size, 1, none⟩ = some (.int .i64 0) := cell_later hb5 (by simp [go_sem, World.cell?_alloc_past, World.frozen?_alloc_past, *])
  have zqw5_0 := World.block_lt_of_cell? _ _ qw50
  dsimp only at zqw5_0
  have H5 : Hid (Below w.heap.size w w5) := Lib.hid (below_then (by (repeat (first | (with_reducible exact H4.out) | (with_reducible refine Below.setCell ?_ ?_ _) | (with_reducible refine below_alloc_top ?_ _) | (with_reducible refine Below.drew ?_))); all_goals (first | omega | (simp; done) | (simp; omega))) hb5); clear hb5
  go_wp2
  go_ret
  exact ⟨rfl, H5.out⟩
set_option maxRecDepth 100000 in
set_option maxHeartbeats 1000000 in
theorem angles_2a (a b u v : Int) 
    (hc : ∀ w, Calls Try.prog 67 #[.int .i64 u, .int .i64 v] w fun e w' => e = .returned (.tuple #[.agg #[.int .i64 0, .int .i64 0], .int .i64 2]) ∧ Below w.heap.size w w')
    (hp : ∀ w, Calls Try.prog 68 #[.agg #[.int .i64 a, .int .i64 b], .int .i64 u, .int .i64 v] w fun e w' => e = .returned (.tuple #[.bool false, .int .i64 2]) ∧ Below w.heap.size w w')
    (hbq : ∀ w, Calls Try.prog 69 #[.agg #[.int .i64 a, .int .i64 b], .int .i64 u, .int .i64 v] w fun e w' => e = .returned (.tuple #[.agg #[.int .i64 0, .int .i64 0], .int .i64 2]) ∧ Below w.heap.size w w')
    (hu : ∀ w, Calls Try.prog 27 #[.int .i64 u] w fun e w' => e = .returned (.int .i64 0) ∧ w = w')
    (hv : ∀ w, Calls Try.prog 27 #[.int .i64 v] w fun e w' => e = .returned (.int .i64 2) ∧ w = w')
    (hd : ∀ w, Calls Try.prog 71 #[.agg #[.int .i64 a, .int .i64 b]] w fun e w' => e = .returned (.int .i64 0) ∧ Below w.heap.size w w')
    (w : World) : Calls Try.prog 14 #[.agg #[.int .i64 a, .int .i64 b], .int .i64 u, .int .i64 v] w fun e w' => e = .returned (.bool true) ∧ Below w.heap.size w w' := by
  have HC := Lib.hid hc
  have HP := Lib.hid hp
  have HB := Lib.hid hbq
  have HU := Lib.hid hu
  have HV := Lib.hid hv
  have HD := Lib.hid hd
  clear hc hp hbq hu hv hd
  go_enter Try.func14, Try.ntmps14
  go_wp2_with fail
  refine (awake_any _).mono ?_
  rintro e w1 ⟨rfl, hb1⟩
  have qw10 : w1.cell? ⟨w.heap.size, 0, none⟩ = some (.int .i64 a) := cell_later hb1 (by simp [go_sem])
  have qw11 : w1.cell? ⟨w.heap.size, 1, none⟩ = some (.int .i64 b) := cell_later hb1 (by simp [go_sem])
  have zqw1_0 := World.block_lt_of_cell? _ _ qw10
  dsimp only at zqw1_0
  have H1 := Lib.hid (below_after (by repeat (first | exact Below.refl _ _ | refine Below.drew ?_ | refine below_drewN ?_ _ | refine Below.setCell ?_ (by first | omega | (simp; done) | (simp; omega)) _ | refine Below.alloc ?_ (by first | omega | (simp; done) | (simp; omega)) _)) hb1 (by first | omega | (simp; done) | (simp; omega)) : Below w.heap.size w w1); clear hb1
  go_wp2_with fail
  refine (HC.out _).mono ?_
  rintro e w2 ⟨rfl, hb2⟩
  have qw20 : w2.cell? ⟨w.heap.size, 0, none⟩ = some (.int .i64 a) := cell_later hb2 (by simp [go_sem, World.cell?_alloc_past, World.frozen?_alloc_past, *])
  have qw21 : w2.cell? ⟨w.heap.size, 1, none⟩ = some (.int .i64 b) := cell_later hb2 (by simp [go_sem, World.cell?_alloc_past, World.frozen?_alloc_past, *])
  have zqw2_0 := World.block_lt_of_cell? _ _ qw20
  dsimp only at zqw2_0
  have H2 : Hid (Below w.heap.size w w2) := Lib.hid (below_then (by (repeat (first | (with_reducible exact H1.out) | (with_reducible refine Below.setCell ?_ ?_ _) | (with_reducible refine below_alloc_top ?_ _) | (with_reducible refine Below.drew ?_))); all_goals (first | omega | (simp; done) | (simp; omega))) hb2); clear hb2
  go_wp2_with fail
  refine (HP.out _).mono ?_
  rintro e w3 ⟨rfl, hb3⟩
  have qw30 : w3.cell? ⟨w.heap.size, 0, none⟩ = some (.int .i64 a) := cell_later hb3 (by simp [go_sem, World.cell?_alloc_past, World.frozen?_alloc_past, *])
  have qw31 : w3.cell? ⟨w.heap.size, 1, none⟩ = some (.int .i64 b) := cell_later hb3 (by simp [go_sem, World.cell?_alloc_past, World.frozen?_alloc_past, *])
  have qw32 : w3.cell? ⟨w2.heap.size, 0, none⟩ = some (.int .i64 0) := cell_later hb3 (by simp [go_sem, World.cell?_alloc_past, World.frozen?_alloc_past, *])
  have qw33 : w3.cell? ⟨w2.heap.size, 1, none⟩ = some (.int .i64 0) := cell_later hb3 (by simp [go_sem, World.cell?_alloc_past, World.frozen?_alloc_past, *])
  have zqw3_0 := World.block_lt_of_cell? _ _ qw30
  dsimp only at zqw3_0
  have zqw3_2 := World.block_lt_of_cell? _ _ qw32
  dsimp only at zqw3_2
  have H3 : Hid (Below w.heap.size w w3) := Lib.hid (below_then (by (repeat (first | (with_reducible exact H2.out) | (with_reducible refine Below.setCell ?_ ?_ _) | (with_reducible refine below_alloc_top ?_ _) | (with_reducible refine Below.drew ?_))); all_goals (first | omega | (simp; done) | (simp; omega))) hb3); clear hb3
  go_wp2_with fail
  refine (HB.out _).mono ?_
  rintro e w4 ⟨rfl, hb4⟩
  have qw40 : w4.cell? ⟨w.heap.size, 0, none⟩ = some (.int .i64 a) := cell_later hb4 (by simp [go_sem, World.cell?_alloc_past, World.frozen?_alloc_past, *])
  have qw41 : w4.cell? ⟨w.heap.size, 1, none⟩ = some (.int .i64 b) := cell_later hb4 (by simp [go_sem, World.cell?_alloc_past, World.frozen?_alloc_past, *])
  have qw42 : w4.cell? ⟨w2.heap.size, 0, none⟩ = some (.int .i64 0) := cell_later hb4 (by simp [go_sem, World.cell?_alloc_past, World.frozen?_alloc_past, *])
  have qw43 : w4.cell? ⟨w2.heap.size, 1, none⟩ = some (.int .i64 0) := cell_later hb4 (by simp [go_sem, World.cell?_alloc_past, World.frozen?_alloc_past, *])
  have zqw4_0 := World.block_lt_of_cell? _ _ qw40
  dsimp only at zqw4_0
  have zqw4_2 := World.block_lt_of_cell? _ _ qw42
  dsimp only at zqw4_2
  have H4 : Hid (Below w.heap.size w w4) := Lib.hid (below_then (by (repeat (first | (with_reducible exact H3.out) | (with_reducible refine Below.setCell ?_ ?_ _) | (with_reducible refine below_alloc_top ?_ _) | (with_reducible refine Below.drew ?_))); all_goals (first | omega | (simp; done) | (simp; omega))) hb4); clear hb4
  go_wp2_with (first
    | (go_at_call 27; refine (HU.out _).mono ?_; rintro e w' ⟨rfl, rfl⟩)
    | (go_at_call 27; refine (HV.out _).mono ?_; rintro e w' ⟨rfl, rfl⟩)
    | fail)
  refine (HD.out _).mono ?_
  rintro e w5 ⟨rfl, hb5⟩
  have qw50 : w5.cell? ⟨w4.heap.size, 0, none⟩ = some (.int .i64 0) := cell_later hb5 (by simp [go_sem, World.cell?_alloc_past, World.frozen?_alloc_past, *])
  have qw51 : w5.cell? ⟨w4.heap.size, 1, none⟩ = some (.int .i64 0) := cell_later hb5 (by simp [go_sem, World.cell?_alloc_past, World.frozen?_alloc_past, *])
  have zqw5_0 := World.block_lt_of_cell? _ _ qw50
  dsimp only at zqw5_0
  have H5 : Hid (Below w.heap.size w w5) := Lib.hid (below_then (by (repeat (first | (with_reducible exact H4.out) | (with_reducible refine Below.setCell ?_ ?_ _) | (with_reducible refine below_alloc_top ?_ _) | (with_reducible refine Below.drew ?_))); all_goals (first | omega | (simp; done) | (simp; omega))) hb5); clear hb5
  go_wp2
  go_ret
  exact ⟨rfl, H5.out⟩
set_option maxRecDepth 100000 in
set_option maxHeartbeats 1000000 in
theorem angles_2b (a b u v : Int) 
    (hc : ∀ w, Calls Try.prog 67 #[.int .i64 u, .int .i64 v] w fun e w' => e = .returned (.tuple #[.agg #[.int .i64 0, .int .i64 0], .int .i64 2]) ∧ Below w.heap.size w w')
    (hp : ∀ w, Calls Try.prog 68 #[.agg #[.int .i64 a, .int .i64 b], .int .i64 u, .int .i64 v] w fun e w' => e = .returned (.tuple #[.bool false, .int .i64 2]) ∧ Below w.heap.size w w')
    (hbq : ∀ w, Calls Try.prog 69 #[.agg #[.int .i64 a, .int .i64 b], .int .i64 u, .int .i64 v] w fun e w' => e = .returned (.tuple #[.agg #[.int .i64 0, .int .i64 0], .int .i64 2]) ∧ Below w.heap.size w w')
    (hu : ∀ w, Calls Try.prog 27 #[.int .i64 u] w fun e w' => e = .returned (.int .i64 0) ∧ w = w')
    (hv : ∀ w, Calls Try.prog 27 #[.int .i64 v] w fun e w' => e = .returned (.int .i64 2) ∧ w = w')
    (hd : ∀ w, Calls Try.prog 71 #[.agg #[.int .i64 a, .int .i64 b]] w fun e w' => e = .returned (.int .i64 2) ∧ Below w.heap.size w w')
    (w : World) : Calls Try.prog 14 #[.agg #[.int .i64 a, .int .i64 b], .int .i64 u, .int .i64 v] w fun e w' => e = .returned (.bool true) ∧ Below w.heap.size w w' := by
  have HC := Lib.hid hc
  have HP := Lib.hid hp
  have HB := Lib.hid hbq
  have HU := Lib.hid hu
  have HV := Lib.hid hv
  have HD := Lib.hid hd
  clear hc hp hbq hu hv hd
  go_enter Try.func14, Try.ntmps14
  go_wp2_with fail
  refine (awake_any _).mono ?_
  rintro e w1 ⟨rfl, hb1⟩
  have qw10 : w1.cell? ⟨w.heap.size, 0, none⟩ = some (.int .i64 a) := cell_later hb1 (by simp [go_sem])
  have qw11 : w1.cell? ⟨w.heap.size, 1, none⟩ = some (.int .i64 b) := cell_later hb1 (by simp [go_sem])
  have zqw1_0 := World.block_lt_of_cell? _ _ qw10
  dsimp only at zqw1_0
  have H1 := Lib.hid (below_after (by repeat (first | exact Below.refl _ _ | refine Below.drew ?_ | refine below_drewN ?_ _ | refine Below.setCell ?_ (by first | omega | (simp; done) | (simp; omega)) _ | refine Below.alloc ?_ (by first | omega | (simp; done) | (simp; omega)) _)) hb1 (by first | omega | (simp; done) | (simp; omega)) : Below w.heap.size w w1); clear hb1
  go_wp2_with fail
  refine (HC.out _).mono ?_
  rintro e w2 ⟨rfl, hb2⟩
  have qw20 : w2.cell? ⟨w.heap.size, 0, none⟩ = some (.int .i64 a) := cell_later hb2 (by simp [go_sem, World.cell?_alloc_past, World.frozen?_alloc_past, *])
  have qw21 : w2.cell? ⟨w.heap.size, 1, none⟩ = some (.int .i64 b) := cell_later hb2 (by simp [go_sem, World.cell?_alloc_past, World.frozen?_alloc_past, *])
  have zqw2_0 := World.block_lt_of_cell? _ _ qw20
  dsimp only at zqw2_0
  have H2 : Hid (Below w.heap.size w w2) := Lib.hid (below_then (by (repeat (first | (with_reducible exact H1.out) | (with_reducible refine Below.setCell ?_ ?_ _) | (with_reducible refine below_alloc_top ?_ _) | (with_reducible refine Below.drew ?_))); all_goals (first | omega | (simp; done) | (simp; omega))) hb2); clear hb2
  go_wp2_with fail
  refine (HP.out _).mono ?_
  rintro e w3 ⟨rfl, hb3⟩
  have qw30 : w3.cell? ⟨w.heap.size, 0, none⟩ = some (.int .i64 a) := cell_later hb3 (by simp [go_sem, World.cell?_alloc_past, World.frozen?_alloc_past, *])
  have qw31 : w3.cell? ⟨w.heap.size, 1, none⟩ = some (.int .i64 b) := cell_later hb3 (by simp [go_sem, World.cell?_alloc_past, World.frozen?_alloc_past, *])
  have qw32 : w3.cell? ⟨w2.heap.size, 0, none⟩ = some (.int .i64 0) := cell_later hb3 (by simp [go_sem, World.cell?_alloc_past, World.frozen?_alloc_past, *])
  have qw33 : w3.cell? ⟨w2.heap.size, 1, none⟩ = some (.int .i64 0) := cell_later hb3 (by simp [go_sem, World.cell?_alloc_past, World.frozen?_alloc_past, *])
  have zqw3_0 := World.block_lt_of_cell? _ _ qw30
  dsimp only at zqw3_0
  have zqw3_2 := World.block_lt_of_cell? _ _ qw32
  dsimp only at zqw3_2
  have H3 : Hid (Below w.heap.size w w3) := Lib.hid (below_then (by (repeat (first | (with_reducible exact H2.out) | (with_reducible refine Below.setCell ?_ ?_ _) | (with_reducible refine below_alloc_top ?_ _) | (with_reducible refine Below.drew ?_))); all_goals (first | omega | (simp; done) | (simp; omega))) hb3); clear hb3
  go_wp2_with fail
  refine (HB.out _).mono ?_
  rintro e w4 ⟨rfl, hb4⟩
  have qw40 : w4.cell? ⟨w.heap.size, 0, none⟩ = some (.int .i64 a) := cell_later hb4 (by simp [go_sem, World.cell?_alloc_past, World.frozen?_alloc_past, *])
  have qw41 : w4.cell? ⟨w.heap.size, 1, none⟩ = some (.int .i64 b) := cell_later hb4 (by simp [go_sem, World.cell?_alloc_past, World.frozen?_alloc_past, *])
  have qw42 : w4.cell? ⟨w2.heap.size, 0, none⟩ = some (.int .i64 0) := cell_later hb4 (by simp [go_sem, World.cell?_alloc_past, World.frozen?_alloc_past, *])
  have qw43 : w4.cell? ⟨w2.heap.size, 1, none⟩ = some (.int .i64 0) := cell_later hb4 (by simp [go_sem, World.cell?_alloc_past, World.frozen?_alloc_past, *])
  have zqw4_0 := World.block_lt_of_cell? _ _ qw40
  dsimp only at zqw4_0
  have zqw4_2 := World.block_lt_of_cell? _ _ qw42
  dsimp only at zqw4_2
  have H4 : Hid (Below w.heap.size w w4) := Lib.hid (below_then (by (repeat (first | (with_reducible exact H3.out) | (with_reducible refine Below.setCell ?_ ?_ _) | (with_reducible refine below_alloc_top ?_ _) | (with_reducible refine Below.drew ?_))); all_goals (first | omega | (simp; done) | (simp; omega))) hb4); clear hb4
  go_wp2_with (first
    | (go_at_call 27; refine (HU.out _).mono ?_; rintro e w' ⟨rfl, rfl⟩)
    | (go_at_call 27; refine (HV.out _).mono ?_; rintro e w' ⟨rfl, rfl⟩)
    | fail)
  refine (HD.out _).mono ?_
  rintro e w5 ⟨rfl, hb5⟩
  have qw50 : w5.cell? ⟨w4.heap.size, 0, none⟩ = some (.int .i64 0) := cell_later hb5 (by simp [go_sem, World.cell?_alloc_past, World.frozen?_alloc_past, *])
  have qw51 : w5.cell? ⟨w4.heap.size, 1, none⟩ = some (.int .i64 0) := cell_later hb5 (by simp [go_sem, World.cell?_alloc_past, World.frozen?_alloc_past, *])
  have zqw5_0 := World.block_lt_of_cell? _ _ qw50
  dsimp only at zqw5_0
  have H5 : Hid (Below w.heap.size w w5) := Lib.hid (below_then (by (repeat (first | (with_reducible exact H4.out) | (with_reducible refine Below.setCell ?_ ?_ _) | (with_reducible refine below_alloc_top ?_ _) | (with_reducible refine Below.drew ?_))); all_goals (first | omega | (simp; done) | (simp; omega))) hb5); clear hb5
  go_wp2
  go_ret
  exact ⟨rfl, H5.out⟩
set_option maxRecDepth 100000 in
set_option maxHeartbeats 1000000 in
theorem angles_3 (a b u v : Int) (xn xd ce : Int)
    (hc : ∀ w, Calls Try.prog 67 #[.int .i64 u, .int .i64 v] w fun e w' => e = .returned (.tuple #[.agg #[.int .i64 xn, .int .i64 xd], .int .i64 ce]) ∧ Below w.heap.size w w')
    (hp : ∀ w, Calls Try.prog 68 #[.agg #[.int .i64 a, .int .i64 b], .int .i64 u, .int .i64 v] w fun e w' => e = .returned (.tuple #[.bool false, .int .i64 2]) ∧ Below w.heap.size w w')
    (hbq : ∀ w, Calls Try.prog 69 #[.agg #[.int .i64 a, .int .i64 b], .int .i64 u, .int .i64 v] w fun e w' => e = .returned (.tuple #[.agg #[.int .i64 0, .int .i64 0], .int .i64 2]) ∧ Below w.heap.size w w')
    (hu : ∀ w, Calls Try.prog 27 #[.int .i64 u] w fun e w' => e = .returned (.int .i64 0) ∧ w = w')
    (hv : ∀ w, Calls Try.prog 27 #[.int .i64 v] w fun e w' => e = .returned (.int .i64 0) ∧ w = w')
    (hrc : ∀ w, Calls Try.prog 70 #[.int .i64 u, .int .i64 v] w fun e w' => e = .returned (.tuple #[.agg #[.int .i64 xn, .int .i64 xd], .int .i64 ce]) ∧ Below w.heap.size w w')
    (hd : ∀ w, Calls Try.prog 71 #[.agg #[.int .i64 a, .int .i64 b]] w fun e w' => e = .returned (.int .i64 2) ∧ Below w.heap.size w w')
    (w : World) : Calls Try.prog 14 #[.agg #[.int .i64 a, .int .i64 b], .int .i64 u, .int .i64 v] w fun e w' => e = .returned (.bool true) ∧ Below w.heap.size w w' := by
  have HC := Lib.hid hc
  have HP := Lib.hid hp
  have HB := Lib.hid hbq
  have HU := Lib.hid hu
  have HV := Lib.hid hv
  have HRC := Lib.hid hrc
  have HD := Lib.hid hd
  clear hc hp hbq hu hv hrc hd
  go_enter Try.func14, Try.ntmps14
  go_wp2_with fail
  refine (awake_any _).mono ?_
  rintro e w1 ⟨rfl, hb1⟩
  have qw10 : w1.cell? ⟨w.heap.size, 0, none⟩ = some (.int .i64 a) := cell_later hb1 (by simp [go_sem])
  have qw11 : w1.cell? ⟨w.heap.size, 1, none⟩ = some (.int .i64 b) := cell_later hb1 (by simp [go_sem])
  have zqw1_0 := World.block_lt_of_cell? _ _ qw10
  dsimp only at zqw1_0
  have H1 := Lib.hid (below_after (by repeat (first | exact Below.refl _ _ | refine Below.drew ?_ | refine below_drewN ?_ _ | refine Below.setCell ?_ (by first | omega | (simp; done) | (simp; omega)) _ | refine Below.alloc ?_ (by first | omega | (simp; done) | (simp; omega)) _)) hb1 (by first | omega | (simp; done) | (simp; omega)) : Below w.heap.size w w1); clear hb1
  go_wp2_with fail
  refine (HC.out _).mono ?_
  rintro e w2 ⟨rfl, hb2⟩
  have qw20 : w2.cell? ⟨w.heap.size, 0, none⟩ = some (.int .i64 a) := cell_later hb2 (by simp [go_sem, World.cell?_alloc_past, World.frozen?_alloc_past, *])
  have qw21 : w2.cell? ⟨w.heap.size, 1, none⟩ = some (.int .i64 b) := cell_later hb2 (by simp [go_sem, World.cell?_alloc_past, World.frozen?_alloc_past, *])
  have zqw2_0 := World.block_lt_of_cell? _ _ qw20
  dsimp only at zqw2_0
  have H2 : Hid (Below w.heap.size w w2) := Lib.hid (below_then (by (repeat (first | (with_reducible exact H1.out) | (with_reducible refine Below.setCell ?_ ?_ _) | (with_reducible refine below_alloc_top ?_ _) | (with_reducible refine Below.drew ?_))); all_goals (first | omega | (simp; done) | (simp; omega))) hb2); clear hb2
  go_wp2_with fail
  refine (HP.out _).mono ?_
  rintro e w3 ⟨rfl, hb3⟩
  have qw30 : w3.cell? ⟨w.heap.size, 0, none⟩ = some (.int .i64 a) := cell_later hb3 (by simp [go_sem, World.cell?_alloc_past, World.frozen?_alloc_past, *])
  have qw31 : w3.cell? ⟨w.heap.size, 1, none⟩ = some (.int .i64 b) := cell_later hb3 (by simp [go_sem, World.cell?_alloc_past, World.frozen?_alloc_past, *])
  have qw32 : w3.cell? ⟨w2.heap.size, 0, none⟩ = some (.int .i64 xn) := cell_later hb3 (by simp [go_sem, World.cell?_alloc_past, World.frozen?_alloc_past, *])
  have qw33 : w3.cell? ⟨w2.heap.size, 1, none⟩ = some (.int .i64 xd) := cell_later hb3 (by simp [go_sem, World.cell?_alloc_past, World.frozen?_alloc_past, *])
  have zqw3_0 := World.block_lt_of_cell? _ _ qw30
  dsimp only at zqw3_0
  have zqw3_2 := World.block_lt_of_cell? _ _ qw32
  dsimp only at zqw3_2
  have H3 : Hid (Below w.heap.size w w3) := Lib.hid (below_then (by (repeat (first | (with_reducible exact H2.out) | (with_reducible refine Below.setCell ?_ ?_ _) | (with_reducible refine below_alloc_top ?_ _) | (with_reducible refine Below.drew ?_))); all_goals (first | omega | (simp; done) | (simp; omega))) hb3); clear hb3
  go_wp2_with fail
  refine (HB.out _).mono ?_
  rintro e w4 ⟨rfl, hb4⟩
  have qw40 : w4.cell? ⟨w.heap.size, 0, none⟩ = some (.int .i64 a) := cell_later hb4 (by simp [go_sem, World.cell?_alloc_past, World.frozen?_alloc_past, *])
  have qw41 : w4.cell? ⟨w.heap.size, 1, none⟩ = some (.int .i64 b) := cell_later hb4 (by simp [go_sem, World.cell?_alloc_past, World.frozen?_alloc_past, *])
  have qw42 : w4.cell? ⟨w2.heap.size, 0, none⟩ = some (.int .i64 xn) := cell_later hb4 (by simp [go_sem, World.cell?_alloc_past, World.frozen?_alloc_past, *])
  have qw43 : w4.cell? ⟨w2.heap.size, 1, none⟩ = some (.int .i64 xd) := cell_later hb4 (by simp [go_sem, World.cell?_alloc_past, World.frozen?_alloc_past, *])
  have zqw4_0 := World.block_lt_of_cell? _ _ qw40
  dsimp only at zqw4_0
  have zqw4_2 := World.block_lt_of_cell? _ _ qw42
  dsimp only at zqw4_2
  have H4 : Hid (Below w.heap.size w w4) := Lib.hid (below_then (by (repeat (first | (with_reducible exact H3.out) | (with_reducible refine Below.setCell ?_ ?_ _) | (with_reducible refine below_alloc_top ?_ _) | (with_reducible refine Below.drew ?_))); all_goals (first | omega | (simp; done) | (simp; omega))) hb4); clear hb4
  have ne0 : ¬ (w.heap.size = w4.heap.size + 1) := by omega
  have ne1 : ¬ (w2.heap.size = w4.heap.size + 1) := by omega
  have ne2 : ¬ (w4.heap.size = w4.heap.size + 1) := by omega
  go_wp2_with (first
    | (go_at_call 27; refine (HU.out _).mono ?_; rintro e w' ⟨rfl, rfl⟩)
    | (go_at_call 27; refine (HV.out _).mono ?_; rintro e w' ⟨rfl, rfl⟩)
    | fail)
  refine (HRC.out _).mono ?_
  rintro e w5 ⟨rfl, hb5⟩
  have qw50 : w5.cell? ⟨w.heap.size, 0, none⟩ = some (.int .i64 a) := cell_later hb5 (by simp [go_sem, World.cell?_alloc_past, World.frozen?_alloc_past, *])
  have qw51 : w5.cell? ⟨w.heap.size, 1, none⟩ = some (.int .i64 b) := cell_later hb5 (by simp [go_sem, World.cell?_alloc_past, World.frozen?_alloc_past, *])
  have qw52 : w5.cell? ⟨w2.heap.size, 0, none⟩ = some (.int .i64 xn) := cell_later hb5 (by simp [go_sem, World.cell?_alloc_past, World.frozen?_alloc_past, *])
  have qw53 : w5.cell? ⟨w2.heap.size, 1, none⟩ = some (.int .i64 xd) := cell_later hb5 (by simp [go_sem, World.cell?_alloc_past, World.frozen?_alloc_past, *])
  have qw54 : w5.cell? ⟨w4.heap.size, 0, none⟩ = some (.int .i64 0) := cell_later hb5 (by simp [go_sem, World.cell?_alloc_past, World.frozen?_alloc_past, *])
  have qw55 : w5.cell? ⟨w4.heap.size, 1, none⟩ = some (.int .i64 0) := cell_later hb5 (by simp [go_sem, World.cell?_alloc_past, World.frozen?_alloc_past, *])
  have qw56 : w5.cell? ⟨w4.heap.size + 1, 0, none⟩ = some (.int .i64 0) := cell_later hb5 (by simp [go_sem, World.cell?_alloc_past, World.frozen?_alloc_past, *])
  have qw57 : w5.cell? ⟨w4.heap.size + 1, 1, none⟩ = some (.int .i64 0) := cell_later hb5 (by simp [go_sem, World.cell?_alloc_past, World.frozen?_alloc_past, *])
  have qw5f0 : w5.frozen? ⟨w4.heap.size + 1, 0, none⟩ = false := frozen_after hb5 (v := .int .i64 0) (by simp [go_sem, World.cell?_alloc_past, World.frozen?_alloc_past, *]) (by simp [go_sem, World.cell?_alloc_past, World.frozen?_alloc_past, *])
  have qw5f1 : w5.frozen? ⟨w4.heap.size + 1, 1, none⟩ = false := frozen_after hb5 (v := .int .i64 0) (by simp [go_sem, World.cell?_alloc_past, World.frozen?_alloc_past, *]) (by simp [go_sem, World.cell?_alloc_past, World.frozen?_alloc_past, *])
  have zqw5_0 := World.block_lt_of_cell? _ _ qw50
  dsimp only at zqw5_0
  have zqw5_2 := World.block_lt_of_cell? _ _ qw52
  dsimp only at zqw5_2
  have zqw5_4 := World.block_lt_of_cell? _ _ qw54
  dsimp only at zqw5_4
  have zqw5_6 := World.block_lt_of_cell? _ _ qw56
  dsimp only at zqw5_6
  have H5 : Hid (Below w.heap.size w w5) := Lib.hid (below_then (by (repeat (first | (with_reducible exact H4.out) | (with_reducible refine Below.setCell ?_ ?_ _) | (with_reducible refine below_alloc_top ?_ _) | (with_reducible refine Below.drew ?_))); all_goals (first | omega | (simp; done) | (simp; omega))) hb5); clear hb5
  go_wp2_with fail
  refine (HD.out _).mono ?_
  rintro e w6 ⟨rfl, hb6⟩
  have qw60 : w6.cell? ⟨w4.heap.size, 0, none⟩ = some (.int .i64 0) := cell_later hb6 (by simp [go_sem, World.cell?_alloc_past, World.frozen?_alloc_past, *])
  have qw61 : w6.cell? ⟨w4.heap.size, 1, none⟩ = some (.int .i64 0) := cell_later hb6 (by simp [go_sem, World.cell?_alloc_past, World.frozen?_alloc_past, *])
  have zqw6_0 := World.block_lt_of_cell? _ _ qw60
  dsimp only at zqw6_0
  have H6 : Hid (Below w.heap.size w w6) := Lib.hid (below_then (by (repeat (first | (with_reducible exact H5.out) | (with_reducible refine Below.setCell ?_ ?_ _) | (with_reducible refine below_alloc_top ?_ _) | (with_reducible refine Below.drew ?_))); all_goals (first | omega | (simp; done) | (simp; omega))) hb6); clear hb6
  go_wp2
  go_ret
  exact ⟨rfl, H6.out⟩
set_option maxRecDepth 100000 in
set_option maxHeartbeats 1000000 in
theorem angles_4 (a b u v : Int) (xn xd ce yn yd ge : Int) (pb : Bool)
    (hc : ∀ w, Calls Try.prog 67 #[.int .i64 u, .int .i64 v] w fun e w' => e = .returned (.tuple #[.agg #[.int .i64 xn, .int .i64 xd], .int .i64 ce]) ∧ Below w.heap.size w w')
    (hp : ∀ w, Calls Try.prog 68 #[.agg #[.int .i64 a, .int .i64 b], .int .i64 u, .int .i64 v] w fun e w' => e = .returned (.tuple #[.bool pb, .int .i64 0]) ∧ Below w.heap.size w w')
    (hbq : ∀ w, Calls Try.prog 69 #[.agg #[.int .i64 a, .int .i64 b], .int .i64 u, .int .i64 v] w fun e w' => e = .returned (.tuple #[.agg #[.int .i64 yn, .int .i64 yd], .int .i64 ge]) ∧ Below w.heap.size w w')
    (hu : ∀ w, Calls Try.prog 27 #[.int .i64 u] w fun e w' => e = .returned (.int .i64 0) ∧ w = w')
    (hv : ∀ w, Calls Try.prog 27 #[.int .i64 v] w fun e w' => e = .returned (.int .i64 0) ∧ w = w')
    (hrc : ∀ w, Calls Try.prog 70 #[.int .i64 u, .int .i64 v] w fun e w' => e = .returned (.tuple #[.agg #[.int .i64 xn, .int .i64 xd], .int .i64 ce]) ∧ Below w.heap.size w w')
    (hd : ∀ w, Calls Try.prog 71 #[.agg #[.int .i64 a, .int .i64 b]] w fun e w' => e = .returned (.int .i64 0) ∧ Below w.heap.size w w')
    (hrb : ∀ w, Calls Try.prog 72 #[.agg #[.int .i64 a, .int .i64 b], .int .i64 u, .int .i64 v] w fun e w' => e = .returned (.tuple #[.agg #[.int .i64 yn, .int .i64 yd], .int .i64 ge]) ∧ Below w.heap.size w w')
    (hrp : ∀ w, Calls Try.prog 73 #[.agg #[.int .i64 a, .int .i64 b], .int .i64 u, .int .i64 v] w fun e w' => e = .returned (.bool pb) ∧ Below w.heap.size w w')
    (w : World) : Calls Try.prog 14 #[.agg #[.int .i64 a, .int .i64 b], .int .i64 u, .int .i64 v] w fun e w' => e = .returned (.bool true) ∧ Below w.heap.size w w' := by
  have HC := Lib.hid hc
  have HP := Lib.hid hp
  have HB := Lib.hid hbq
  have HU := Lib.hid hu
  have HV := Lib.hid hv
  have HRC := Lib.hid hrc
  have HD := Lib.hid hd
  have HRB := Lib.hid hrb
  have HRP := Lib.hid hrp
  clear hc hp hbq hu hv hrc hd hrb hrp
  go_enter Try.func14, Try.ntmps14
  go_wp2_with fail
  refine (awake_any _).mono ?_
  rintro e w1 ⟨rfl, hb1⟩
  have qw10 : w1.cell? ⟨w.heap.size, 0, none⟩ = some (.int .i64 a) := cell_later hb1 (by simp [go_sem])
  have qw11 : w1.cell? ⟨w.heap.size, 1, none⟩ = some (.int .i64 b) := cell_later hb1 (by simp [go_sem])
  have zqw1_0 := World.block_lt_of_cell? _ _ qw10
  dsimp only at zqw1_0
  have H1 := Lib.hid (below_after (by repeat (first | exact Below.refl _ _ | refine Below.drew ?_ | refine below_drewN ?_ _ | refine Below.setCell ?_ (by first | omega | (simp; done) | (simp; omega)) _ | refine Below.alloc ?_ (by first | omega | (simp; done) | (simp; omega)) _)) hb1 (by first | omega | (simp; done) | (simp; omega)) : Below w.heap.size w w1); clear hb1
  go_wp2_with fail
  refine (HC.out _).mono ?_
  rintro e w2 ⟨rfl, hb2⟩
  have qw20 : w2.cell? ⟨w.heap.size, 0, none⟩ = some (.int .i64 a) := cell_later hb2 (by simp [go_sem, World.cell?_alloc_past, World.frozen?_alloc_past, *])
  have qw21 : w2.cell? ⟨w.heap.size, 1, none⟩ = some (.int .i64 b) := cell_later hb2 (by simp [go_sem, World.cell?_alloc_past, World.frozen?_alloc_past, *])
  have zqw2_0 := World.block_lt_of_cell? _ _ qw20
  dsimp only at zqw2_0
  have H2 : Hid (Below w.heap.size w w2) := Lib.hid (below_then (by (repeat (first | (with_reducible exact H1.out) | (with_reducible refine Below.setCell ?_ ?_ _) | (with_reducible refine below_alloc_top ?_ _) | (with_reducible refine Below.drew ?_))); all_goals (first | omega | (simp; done) | (simp; omega))) hb2); clear hb2
  go_wp2_with fail
  refine (HP.out _).mono ?_
  rintro e w3 ⟨rfl, hb3⟩
  have qw30 : w3.cell? ⟨w.heap.size, 0, none⟩ = some (.int .i64 a) := cell_later hb3 (by simp [go_sem, World.cell?_alloc_past, World.frozen?_alloc_past, *])
  have qw31 : w3.cell? ⟨w.heap.size, 1, none⟩ = some (.int .i64 b) := cell_later hb3 (by simp [go_sem, World.cell?_alloc_past, World.frozen?_alloc_past, *])
  have qw32 : w3.cell? ⟨w2.heap.size, 0, none⟩ = some (.int .i64 xn) := cell_later hb3 (by simp [go_sem, World.cell?_alloc_past, World.frozen?_alloc_past, *])
  have qw33 : w3.cell? ⟨w2.heap.size, 1, none⟩ = some (.int .i64 xd) := cell_later hb3 (by simp [go_sem, World.cell?_alloc_past, World.frozen?_alloc_past, *])
  have zqw3_0 := World.block_lt_of_cell? _ _ qw30
  dsimp only at zqw3_0
  have zqw3_2 := World.block_lt_of_cell? _ _ qw32
  dsimp only at zqw3_2
  have H3 : Hid (Below w.heap.size w w3) := Lib.hid (below_then (by (repeat (first | (with_reducible exact H2.out) | (with_reducible refine Below.setCell ?_ ?_ _) | (with_reducible refine below_alloc_top ?_ _) | (with_reducible refine Below.drew ?_))); all_goals (first | omega | (simp; done) | (simp; omega))) hb3); clear hb3
  go_wp2_with fail
  refine (HB.out _).mono ?_
  rintro e w4 ⟨rfl, hb4⟩
  have qw40 : w4.cell? ⟨w.heap.size, 0, none⟩ = some (.int .i64 a) := cell_later hb4 (by simp [go_sem, World.cell?_alloc_past, World.frozen?_alloc_past, *])
  have qw41 : w4.cell? ⟨w.heap.size, 1, none⟩ = some (.int .i64 b) := cell_later hb4 (by simp [go_sem, World.cell?_alloc_past, World.frozen?_alloc_past, *])
  have qw42 : w4.cell? ⟨w2.heap.size, 0, none⟩ = some (.int .i64 xn) := cell_later hb4 (by simp [go_sem, World.cell?_alloc_past, World.frozen?_alloc_past, *])
  have qw43 : w4.cell? ⟨w2.heap.size, 1, none⟩ = some (.int .i64 xd) := cell_later hb4 (by simp [go_sem, World.cell?_alloc_past, World.frozen?_alloc_past, *])
  have zqw4_0 := World.block_lt_of_cell? _ _ qw40
  dsimp only at zqw4_0
  have zqw4_2 := World.block_lt_of_cell? _ _ qw42
  dsimp only at zqw4_2
  have H4 : Hid (Below w.heap.size w w4) := Lib.hid (below_then (by (repeat (first | (with_reducible exact H3.out) | (with_reducible refine Below.setCell ?_ ?_ _) | (with_reducible refine below_alloc_top ?_ _) | (with_reducible refine Below.drew ?_))); all_goals (first | omega | (simp; done) | (simp; omega))) hb4); clear hb4
  have ne0 : ¬ (w.heap.size = w4.heap.size + 1) := by omega
  have ne1 : ¬ (w2.heap.size = w4.heap.size + 1) := by omega
  have ne2 : ¬ (w4.heap.size = w4.heap.size + 1) := by omega
  go_wp2_with (first
    | (go_at_call 27; refine (HU.out _).mono ?_; rintro e w' ⟨rfl, rfl⟩)
    | (go_at_call 27; refine (HV.out _).mono ?_; rintro e w' ⟨rfl, rfl⟩)
    | fail)
  refine (HRC.out _).mono ?_
  rintro e w5 ⟨rfl, hb5⟩
  have qw50 : w5.cell? ⟨w.heap.size, 0, none⟩ = some (.int .i64 a) := cell_later hb5 (by simp [go_sem, World.cell?_alloc_past, World.frozen?_alloc_past, *])
  have qw51 : w5.cell? ⟨w.heap.size, 1, none⟩ = some (.int .i64 b) := cell_later hb5 (by simp [go_sem, World.cell?_alloc_past, World.frozen?_alloc_past, *])
  have qw52 : w5.cell? ⟨w2.heap.size, 0, none⟩ = some (.int .i64 xn) := cell_later hb5 (by simp [go_sem, World.cell?_alloc_past, World.frozen?_alloc_past, *])
  have qw53 : w5.cell? ⟨w2.heap.size, 1, none⟩ = some (.int .i64 xd) := cell_later hb5 (by simp [go_sem, World.cell?_alloc_past, World.frozen?_alloc_past, *])
  have qw54 : w5.cell? ⟨w4.heap.size, 0, none⟩ = some (.int .i64 yn) := cell_later hb5 (by simp [go_sem, World.cell?_alloc_past, World.frozen?_alloc_past, *])
  have qw55 : w5.cell? ⟨w4.heap.size, 1, none⟩ = some (.int .i64 yd) := cell_later hb5 (by simp [go_sem, World.cell?_alloc_past, World.frozen?_alloc_past, *])
  have qw56 : w5.cell? ⟨w4.heap.size + 1, 0, none⟩ = some (.int .i64 0) := cell_later hb5 (by simp [go_sem, World.cell?_alloc_past, World.frozen?_alloc_past, *])
  have qw57 : w5.cell? ⟨w4.heap.size + 1, 1, none⟩ = some (.int .i64 0) := cell_later hb5 (by simp [go_sem, World.cell?_alloc_past, World.frozen?_alloc_past, *])
  have qw5f0 : w5.frozen? ⟨w4.heap.size + 1, 0, none⟩ = false := frozen_after hb5 (v := .int .i64 0) (by simp [go_sem, World.cell?_alloc_past, World.frozen?_alloc_past, *]) (by simp [go_sem, World.cell?_alloc_past, World.frozen?_alloc_past, *])
  have qw5f1 : w5.frozen? ⟨w4.heap.size + 1, 1, none⟩ = false := frozen_after hb5 (v := .int .i64 0) (by simp [go_sem, World.cell?_alloc_past, World.frozen?_alloc_past, *]) (by simp [go_sem, World.cell?_alloc_past, World.frozen?_alloc_past, *])
  have zqw5_0 := World.block_lt_of_cell? _ _ qw50
  dsimp only at zqw5_0
  have zqw5_2 := World.block_lt_of_cell? _ _ qw52
  dsimp only at zqw5_2
  have zqw5_4 := World.block_lt_of_cell? _ _ qw54
  dsimp only at zqw5_4
  have zqw5_6 := World.block_lt_of_cell? _ _ qw56
  dsimp only at zqw5_6
  have H5 : Hid (Below w.heap.size w w5) := Lib.hid (below_then (by (repeat (first | (with_reducible exact H4.out) | (with_reducible refine Below.setCell ?_ ?_ _) | (with_reducible refine below_alloc_top ?_ _) | (with_reducible refine Below.drew ?_))); all_goals (first | omega | (simp; done) | (simp; omega))) hb5); clear hb5
  go_wp2_with fail
  refine (HD.out _).mono ?_
  rintro e w6 ⟨rfl, hb6⟩
  have qw60 : w6.cell? ⟨w.heap.size, 0, none⟩ = some (.int .i64 a) := cell_later hb6 (by simp [go_sem, World.cell?_alloc_past, World.frozen?_alloc_past, *])
  have qw61 : w6.cell? ⟨w.heap.size, 1, none⟩ = some (.int .i64 b) := cell_later hb6 (by simp [go_sem, World.cell?_alloc_past, World.frozen?_alloc_past, *])
  have qw62 : w6.cell? ⟨w4.heap.size, 0, none⟩ = some (.int .i64 yn) := cell_later hb6 (by simp [go_sem, World.cell?_alloc_past, World.frozen?_alloc_past, *])
  have qw63 : w6.cell? ⟨w4.heap.size, 1, none⟩ = some (.int .i64 yd) := cell_later hb6 (by simp [go_sem, World.cell?_alloc_past, World.frozen?_alloc_past, *])
  have zqw6_0 := World.block_lt_of_cell? _ _ qw60
  dsimp only at zqw6_0
  have zqw6_2 := World.block_lt_of_cell? _ _ qw62
  dsimp only at zqw6_2
  have H6 : Hid (Below w.heap.size w w6) := Lib.hid (below_then (by (repeat (first | (with_reducible exact H5.out) | (with_reducible refine Below.setCell ?_ ?_ _) | (with_reducible refine below_alloc_top ?_ _) | (with_reducible refine Below.drew ?_))); all_goals (first | omega | (simp; done) | (simp; omega))) hb6); clear hb6
  go_wp2_with fail
  refine (HRB.out _).mono ?_
  rintro e w7 ⟨rfl, hb7⟩
  have qw70 : w7.cell? ⟨w.heap.size, 0, none⟩ = some (.int .i64 a) := cell_later hb7 (by simp [go_sem, World.cell?_alloc_past, World.frozen?_alloc_past, *])
  have qw71 : w7.cell? ⟨w.heap.size, 1, none⟩ = some (.int .i64 b) := cell_later hb7 (by simp [go_sem, World.cell?_alloc_past, World.frozen?_alloc_past, *])
  have qw72 : w7.cell? ⟨w4.heap.size, 0, none⟩ = some (.int .i64 yn) := cell_later hb7 (by simp [go_sem, World.cell?_alloc_past, World.frozen?_alloc_past, *])
  have qw73 : w7.cell? ⟨w4.heap.size, 1, none⟩ = some (.int .i64 yd) := cell_later hb7 (by simp [go_sem, World.cell?_alloc_past, World.frozen?_alloc_past, *])
  have zqw7_0 := World.block_lt_of_cell? _ _ qw70
  dsimp only at zqw7_0
  have zqw7_2 := World.block_lt_of_cell? _ _ qw72
  dsimp only at zqw7_2
  have H7 : Hid (Below w.heap.size w w7) := Lib.hid (below_then (by (repeat (first | (with_reducible exact H6.out) | (with_reducible refine Below.setCell ?_ ?_ _) | (with_reducible refine below_alloc_top ?_ _) | (with_reducible refine Below.drew ?_))); all_goals (first | omega | (simp; done) | (simp; omega))) hb7); clear hb7
  go_wp2_with fail
  refine (HRP.out _).mono ?_
  rintro e w8 ⟨rfl, hb8⟩
  have qw80 : w8.cell? ⟨w4.heap.size, 0, none⟩ = some (.int .i64 yn) := cell_later hb8 (by simp [go_sem, World.cell?_alloc_past, World.frozen?_alloc_past, *])
  have qw81 : w8.cell? ⟨w4.heap.size, 1, none⟩ = some (.int .i64 yd) := cell_later hb8 (by simp [go_sem, World.cell?_alloc_past, World.frozen?_alloc_past, *])
  have qw82 : w8.cell? ⟨w7.heap.size, 0, none⟩ = some (.int .i64 yn) := cell_later hb8 (by simp [go_sem, World.cell?_alloc_past, World.frozen?_alloc_past, *])
  have qw83 : w8.cell? ⟨w7.heap.size, 1, none⟩ = some (.int .i64 yd) := cell_later hb8 (by simp [go_sem, World.cell?_alloc_past, World.frozen?_alloc_past, *])
  have zqw8_0 := World.block_lt_of_cell? _ _ qw80
  dsimp only at zqw8_0
  have zqw8_2 := World.block_lt_of_cell? _ _ qw82
  dsimp only at zqw8_2
  have H8 : Hid (Below w.heap.size w w8) := Lib.hid (below_then (by (repeat (first | (with_reducible exact H7.out) | (with_reducible refine Below.setCell ?_ ?_ _) | (with_reducible refine below_alloc_top ?_ _) | (with_reducible refine Below.drew ?_))); all_goals (first | omega | (simp; done) | (simp; omega))) hb8); clear hb8
  go_wp2
  go_ret
  exact ⟨rfl, H8.out⟩
theorem unl_two (b : Bool) (h : unl b 2 ≠ 0) : unl b 2 = 2 := by cases b <;> simp_all [unl]
theorem crit_both (u v : Int) (hu : unl (inB u 500 10000) 2 = 0) (hv : unl (inB v 500 10000) 2 = 0) : ∃ xn xd ce : Int,
    (∀ w, Calls Try.prog 67 #[.int .i64 u, .int .i64 v] w fun e w' => e = .returned (.tuple #[.agg #[.int .i64 xn, .int .i64 xd], .int .i64 ce]) ∧ Below w.heap.size w w') ∧
    (∀ w, Calls Try.prog 70 #[.int .i64 u, .int .i64 v] w fun e w' => e = .returned (.tuple #[.agg #[.int .i64 xn, .int .i64 xd], .int .i64 ce]) ∧ Below w.heap.size w w') := by
  by_cases h : u < v
  · have e : csE u v = 0 := by unfold csE; rw [hu, hv, decide_eq_true h]; rfl
    exact ⟨_, _, _, fun w => critical_ok u v w e, fun w => refCritical_ok u v w e⟩
  · have e : csE u v = 12 := by unfold csE; rw [hu, hv, decide_eq_false h]; rfl
    refine ⟨0, 0, 12, fun w => ?_, fun w => refCritical_none u v w (by omega)⟩
    have := critical_bad u v w (by rw [e]; decide)
    rwa [e] at this
theorem low_b (n d : Int) (hn : 0 ≤ n) (hd : 1 ≤ d) : 0 ≤ lowN n d ∧ 1 ≤ lowD n d := by
  have h1 : 0 < Nat.gcd n.natAbs d.natAbs := Nat.gcd_pos_of_pos_right _ (by omega)
  have h2 : Nat.gcd n.natAbs d.natAbs ≤ d.natAbs := Nat.gcd_le_right _ (by omega)
  unfold lowN lowD
  refine ⟨Int.ediv_nonneg hn (by omega), Int.le_ediv_of_mul_le (by omega) (by omega)⟩
theorem beh_both (a b u v : Int) (h : paE a b u v = 0) : ∃ (yn yd ge : Int) (pb : Bool),
    (∀ w, Calls Try.prog 68 #[.agg #[.int .i64 a, .int .i64 b], .int .i64 u, .int .i64 v] w fun e w' => e = .returned (.tuple #[.bool pb, .int .i64 0]) ∧ Below w.heap.size w w') ∧
    (∀ w, Calls Try.prog 69 #[.agg #[.int .i64 a, .int .i64 b], .int .i64 u, .int .i64 v] w fun e w' => e = .returned (.tuple #[.agg #[.int .i64 yn, .int .i64 yd], .int .i64 ge]) ∧ Below w.heap.size w w') ∧
    (∀ w, Calls Try.prog 72 #[.agg #[.int .i64 a, .int .i64 b], .int .i64 u, .int .i64 v] w fun e w' => e = .returned (.tuple #[.agg #[.int .i64 yn, .int .i64 yd], .int .i64 ge]) ∧ Below w.heap.size w w') ∧
    (∀ w, Calls Try.prog 73 #[.agg #[.int .i64 a, .int .i64 b], .int .i64 u, .int .i64 v] w fun e w' => e = .returned (.bool pb) ∧ Below w.heap.size w w') := by
  have o := paE_ok a b u v h
  have f := an_f o
  have hp := fun w => passes_ok a b u v w h
  have hr := fun w => refPasses_any a b u v w o
  by_cases hk : bhN a v ≤ bhD a b u
  · rw [decide_eq_true hk] at hp hr
    obtain ⟨l1, l2⟩ := low_b (bhN a v) (bhD a b u) f.f4.1 f.f6.1
    by_cases h1 : 1000000000 < lowN (bhN a v) (bhD a b u)
    · have hs : (inB (lowN (bhN a v) (bhD a b u)) (-1000000000) 1000000000 && inB (lowD (bhN a v) (bhD a b u)) 1 1000000000) = false := by
        have : inB (lowN (bhN a v) (bhD a b u)) (-1000000000) 1000000000 = false := by
          rw [Bool.eq_false_iff]; intro k; have := (inB_iff _ _ _).1 k; omega
        rw [this]; rfl
      exact ⟨0, 0, 8, true, hp, fun w => behindSq_num a b u v h hk h1 w, fun w => refBehindSq_large a b u v o hk hs w, hr⟩
    · by_cases h2 : 1000000000 < lowD (bhN a v) (bhD a b u)
      · have hs : (inB (lowN (bhN a v) (bhD a b u)) (-1000000000) 1000000000 && inB (lowD (bhN a v) (bhD a b u)) 1 1000000000) = false := by
          have : inB (lowD (bhN a v) (bhD a b u)) 1 1000000000 = false := by
            rw [Bool.eq_false_iff]; intro k; have := (inB_iff _ _ _).1 k; omega
          rw [this, Bool.and_false]
        exact ⟨0, 0, 8, true, hp, fun w => behindSq_den a b u v h hk h1 h2 w, fun w => refBehindSq_large a b u v o hk hs w, hr⟩
      · have hs : (inB (lowN (bhN a v) (bhD a b u)) (-1000000000) 1000000000 && inB (lowD (bhN a v) (bhD a b u)) 1 1000000000) = true := by
          rw [(inB_iff _ _ _).2 ⟨by omega, by omega⟩, (inB_iff _ _ _).2 ⟨by omega, by omega⟩]; rfl
        exact ⟨_, _, 0, true, hp, fun w => behindSq_ok a b u v h hk h1 h2 w, fun w => refBehindSq_ok a b u v o hk hs w, hr⟩
  · rw [decide_eq_false hk] at hp hr
    exact ⟨0, 0, 12, false, hp, fun w => behindSq_bad a b u v false 0 12 (by decide) (by decide) w hp, fun w => refBehindSq_none a b u v o hk w, hr⟩
theorem angles_any (a b u v : Int) (w : World) : Calls Try.prog 14 #[.agg #[.int .i64 a, .int .i64 b], .int .i64 u, .int .i64 v] w fun e w' => e = .returned (.bool true) ∧ Below w.heap.size w w' := by
  have su := fun w => speedErr_any u w
  have sv := fun w => speedErr_any v w
  have sd := fun w => dirErr_any a b w
  have pbad : ∀ r, paE a b u v = r → r = 2 → (∀ w, Calls Try.prog 68 #[.agg #[.int .i64 a, .int .i64 b], .int .i64 u, .int .i64 v] w fun e w' => e = .returned (.tuple #[.bool false, .int .i64 2]) ∧ Below w.heap.size w w') := by
    intro r e1 e2 w
    have := passes_bad a b u v w (by rw [e1, e2]; decide)
    rwa [e1, e2] at this
  have dcase : dirE a b = 0 ∨ dirE a b = 2 := by
    rw [dirE_eq]
    cases (inB a (-1000) 1000 && inB b 1 1000)
    · exact Or.inr rfl
    · exact Or.inl rfl
  by_cases hu : unl (inB u 500 10000) 2 = 0
  · rw [hu] at su
    by_cases hv : unl (inB v 500 10000) 2 = 0
    · rw [hv] at sv
      obtain ⟨xn, xd, ce, c1, c2⟩ := crit_both u v hu hv
      rcases dcase with hd | hd
      · rw [hd] at sd
        have hpa : paE a b u v = 0 := by unfold paE; rw [hd, hu, hv]; rfl
        obtain ⟨yn, yd, ge, pb, p1, p2, p3, p4⟩ := beh_both a b u v hpa
        exact angles_4 a b u v xn xd ce yn yd ge pb c1 p1 p2 su sv c2 sd p3 p4 w
      · rw [hd] at sd
        have p1 := pbad _ (show paE a b u v = 2 by unfold paE; rw [hd]; rfl) rfl
        exact angles_3 a b u v xn xd ce c1 p1 (fun w => behindSq_bad a b u v false 2 2 (by decide) (by decide) w p1) su sv c2 sd w
    · have hv2 := unl_two _ hv
      rw [hv2] at sv
      have ec : csE u v = 2 := by unfold csE; rw [hu, hv2]; rfl
      have c1 : ∀ w, Calls Try.prog 67 #[.int .i64 u, .int .i64 v] w fun e w' => e = .returned (.tuple #[.agg #[.int .i64 0, .int .i64 0], .int .i64 2]) ∧ Below w.heap.size w w' := by
        intro w
        have := critical_bad u v w (by rw [ec]; decide)
        rwa [ec] at this
      have ep : paE a b u v = 2 := by
        unfold paE; rw [hu, hv2]
        rcases dcase with hd | hd <;> rw [hd] <;> rfl
      have p1 := pbad _ ep rfl
      have p2 := fun w => behindSq_bad a b u v false 2 2 (by decide) (by decide) w p1
      rcases dcase with hd | hd
      · rw [hd] at sd
        exact angles_2a a b u v c1 p1 p2 su sv sd w
      · rw [hd] at sd
        exact angles_2b a b u v c1 p1 p2 su sv sd w
  · have hu2 := unl_two _ hu
    rw [hu2] at su
    have ec : csE u v = 2 := by unfold csE; rw [hu2]; rfl
    have c1 : ∀ w, Calls Try.prog 67 #[.int .i64 u, .int .i64 v] w fun e w' => e = .returned (.tuple #[.agg #[.int .i64 0, .int .i64 0], .int .i64 2]) ∧ Below w.heap.size w w' := by
      intro w
      have := critical_bad u v w (by rw [ec]; decide)
      rwa [ec] at this
    have ep : paE a b u v = 2 := by
      unfold paE; rw [hu2]
      rcases dcase with hd | hd <;> rw [hd] <;> rfl
    have p1 := pbad _ ep rfl
    have p2 := fun w => behindSq_bad a b u v false 2 2 (by decide) (by decide) w p1
    rcases dcase with hd | hd
    · rw [hd] at sd
      exact angles_1a a b u v c1 p1 p2 su sd w
    · rw [hd] at sd
      exact angles_1b a b u v c1 p1 p2 su sd w
end Go.Proofs.Ytdicndakelgoeaa
