/- RaySnell: the walk -/
import Derived.Test.YtdicndakelgoeaaE1
import Derived.Test.YtdicndakelgoeaaC4
namespace Go.Proofs.Ytdicndakelgoeaa
open Go.RowKit RayM
set_option linter.unusedSimpArgs false
set_option linter.unusedVariables false
set_option maxRecDepth 100000 in
set_option maxHeartbeats 1000000 in
theorem snell_1 (a b u v : Int) (pe : Int) (h0 : pe ≠ 0)
    (hp : ∀ w, Calls Try.prog 68 #[.agg #[.int .i64 a, .int .i64 b], .int .i64 u, .int .i64 v] w fun e w' => e = .returned (.tuple #[.bool false, .int .i64 pe]) ∧ Below w.heap.size w w')
    (w : World) : Calls Try.prog 15 #[.agg #[.int .i64 a, .int .i64 b], .int .i64 u, .int .i64 v] w fun e w' => e = .returned (.bool true) ∧ Below w.heap.size w w' := by
  have HP := Lib.hid hp
  clear hp
  have h2 : (pe != 0) = true := by simpa using h0
  clear h0
  go_enter Try.func15, Try.ntmps15
  go_wp2_with fail
  refine (awake_any _).mono ?_
  rintro e w1 ⟨rfl, hb1⟩
  have qw10 : w1.cell? ⟨w.heap.size, 0, none⟩ = some (.int .i64 a) := cell_later hb1 (by simp [go_sem])
  have qw11 : w1.cell? ⟨w.heap.size, 1, none⟩ = some (.int .i64 b) := cell_later hb1 (by simp [go_sem])
  have zqw1_0 := World.block_lt_of_cell? _ _ qw10
  dsimp only at zqw1_0
  have H1 := Lib.hid (below_after (by repeat (first | exact Below.refl _ _ | refine Below.drew ?_ | refine below_drewN ?_ _ | refine Below.setCell ?_ (by first | omega | (simp; done) | (simp; omega)) _ | refine Below.alloc ?_ (by first | omega | (simp; done) | (simp; omega)) _)) hb1 (by first | omega | (simp; done) | (simp; omega)) : Below w.heap.size w w1); clear hb1
  go_wp2_with fail
  refine (HP.out _).mono ?_
  rintro e w2 ⟨rfl, hb2⟩
  have qw20 : w2.cell? ⟨w.heap.size, 0, none⟩ = some (.int .i64 a) := cell_later hb2 (by simp [go_sem, World.cell?_alloc_past, World.frozen?_alloc_past, *])
  have qw21 : w2.cell? ⟨w.heap.size, 1, none⟩ = some (.int .i64 b) := cell_later hb2 (by simp [go_sem, World.cell?_alloc_past, World.frozen?_alloc_past, *])
  have zqw2_0 := World.block_lt_of_cell? _ _ qw20
  dsimp only at zqw2_0
  have H2 : Hid (Below w.heap.size w w2) := Lib.hid (below_then (by (repeat (first | (with_reducible exact H1.out) | (with_reducible refine Below.setCell ?_ ?_ _) | (with_reducible refine below_alloc_top ?_ _) | (with_reducible refine Below.drew ?_))); all_goals (first | omega | (simp; done) | (simp; omega))) hb2); clear hb2
  go_wp2
  go_ret
  exact ⟨rfl, H2.out⟩
set_option maxRecDepth 100000 in
set_option maxHeartbeats 1000000 in
theorem snell_m_large (a b u v : Int) (nf : AnF a b u v) (xn xd : Int)
    (hp : ∀ w, Calls Try.prog 68 #[.agg #[.int .i64 a, .int .i64 b], .int .i64 u, .int .i64 v] w fun e w' => e = .returned (.tuple #[.bool true, .int .i64 0]) ∧ Below w.heap.size w w')
    (hc : ∀ w, Calls Try.prog 67 #[.int .i64 u, .int .i64 v] w fun e w' => e = .returned (.tuple #[.agg #[.int .i64 xn, .int .i64 xd], .int .i64 0]) ∧ Below w.heap.size w w')
    (hbq : ∀ w, Calls Try.prog 69 #[.agg #[.int .i64 a, .int .i64 b], .int .i64 u, .int .i64 v] w fun e w' => e = .returned (.tuple #[.agg #[.int .i64 0, .int .i64 0], .int .i64 8]) ∧ Below w.heap.size w w')
    (hm : ∀ w, Calls Try.prog 74 #[.int .i64 (a * a), .int .i64 (a * a + b * b), .int .i64 xn, .int .i64 xd] w fun e w' => e = .returned (.int .i64 (-1)) ∧ w = w')
    (w : World) : Calls Try.prog 15 #[.agg #[.int .i64 a, .int .i64 b], .int .i64 u, .int .i64 v] w fun e w' => e = .returned (.bool true) ∧ Below w.heap.size w w' := by
  have HP := Lib.hid hp
  have HC := Lib.hid hc
  have HB := Lib.hid hbq
  have HM := Lib.hid hm
  clear hp hc hbq hm
  obtain ⟨⟨f1, f2⟩, ⟨f3, f4⟩, ⟨f5, f6⟩, _, ⟨f9, f10⟩, _, _⟩ := nf
  go_enter Try.func15, Try.ntmps15
  go_wp2_with fail
  refine (awake_any _).mono ?_
  rintro e w1 ⟨rfl, hb1⟩
  have qw10 : w1.cell? ⟨w.heap.size, 0, none⟩ = some (.int .i64 a) := cell_later hb1 (by simp [go_sem])
  have qw11 : w1.cell? ⟨w.heap.size, 1, none⟩ = some (.int .i64 b) := cell_later hb1 (by simp [go_sem])
  have zqw1_0 := World.block_lt_of_cell? _ _ qw10
  dsimp only at zqw1_0
  have H1 := Lib.hid (below_after (by repeat (first | exact Below.refl _ _ | refine Below.drew ?_ | refine below_drewN ?_ _ | refine Below.setCell ?_ (by first | omega | (simp; done) | (simp; omega)) _ | refine Below.alloc ?_ (by first | omega | (simp; done) | (simp; omega)) _)) hb1 (by first | omega | (simp; done) | (simp; omega)) : Below w.heap.size w w1); clear hb1
  go_wp2_with fail
  refine (HP.out _).mono ?_
  rintro e w2 ⟨rfl, hb2⟩
  have qw20 : w2.cell? ⟨w.heap.size, 0, none⟩ = some (.int .i64 a) := cell_later hb2 (by simp [go_sem, World.cell?_alloc_past, World.frozen?_alloc_past, *])
  have qw21 : w2.cell? ⟨w.heap.size, 1, none⟩ = some (.int .i64 b) := cell_later hb2 (by simp [go_sem, World.cell?_alloc_past, World.frozen?_alloc_past, *])
  have zqw2_0 := World.block_lt_of_cell? _ _ qw20
  dsimp only at zqw2_0
  have H2 : Hid (Below w.heap.size w w2) := Lib.hid (below_then (by (repeat (first | (with_reducible exact H1.out) | (with_reducible refine Below.setCell ?_ ?_ _) | (with_reducible refine below_alloc_top ?_ _) | (with_reducible refine Below.drew ?_))); all_goals (first | omega | (simp; done) | (simp; omega))) hb2); clear hb2
  go_wp2_with fail
  refine (HC.out _).mono ?_
  rintro e w3 ⟨rfl, hb3⟩
  have qw30 : w3.cell? ⟨w.heap.size, 0, none⟩ = some (.int .i64 a) := cell_later hb3 (by simp [go_sem, World.cell?_alloc_past, World.frozen?_alloc_past, *])
  have qw31 : w3.cell? ⟨w.heap.size, 1, none⟩ = some (.int .i64 b) := cell_later hb3 (by simp [go_sem, World.cell?_alloc_past, World.frozen?_alloc_past, *])
  have zqw3_0 := World.block_lt_of_cell? _ _ qw30
  dsimp only at zqw3_0
  have H3 : Hid (Below w.heap.size w w3) := Lib.hid (below_then (by (repeat (first | (with_reducible exact H2.out) | (with_reducible refine Below.setCell ?_ ?_ _) | (with_reducible refine below_alloc_top ?_ _) | (with_reducible refine Below.drew ?_))); all_goals (first | omega | (simp; done) | (simp; omega))) hb3); clear hb3
  go_wp2_with fail
  refine (HB.out _).mono ?_
  rintro e w4 ⟨rfl, hb4⟩
  have qw40 : w4.cell? ⟨w.heap.size, 0, none⟩ = some (.int .i64 a) := cell_later hb4 (by simp [go_sem, World.cell?_alloc_past, World.frozen?_alloc_past, *])
  have qw41 : w4.cell? ⟨w.heap.size, 1, none⟩ = some (.int .i64 b) := cell_later hb4 (by simp [go_sem, World.cell?_alloc_past, World.frozen?_alloc_past, *])
  have qw42 : w4.cell? ⟨w3.heap.size, 0, none⟩ = some (.int .i64 xn) := cell_later hb4 (by simp [go_sem, World.cell?_alloc_past, World.frozen?_alloc_past, *])
  have qw43 : w4.cell? ⟨w3.heap.size, 1, none⟩ = some (.int .i64 xd) := cell_later hb4 (by simp [go_sem, World.cell?_alloc_past, World.frozen?_alloc_past, *])
  have zqw4_0 := World.block_lt_of_cell? _ _ qw40
  dsimp only at zqw4_0
  have zqw4_2 := World.block_lt_of_cell? _ _ qw42
  dsimp only at zqw4_2
  have H4 : Hid (Below w.heap.size w w4) := Lib.hid (below_then (by (repeat (first | (with_reducible exact H3.out) | (with_reducible refine Below.setCell ?_ ?_ _) | (with_reducible refine below_alloc_top ?_ _) | (with_reducible refine Below.drew ?_))); all_goals (first | omega | (simp; done) | (simp; omega))) hb4); clear hb4
  go_wp2_with (first
    | (go_at_call 74; (with_reducible refine (HM.out _).mono ?_); rintro e w' ⟨rfl, rfl⟩)
    | fail)
  go_ret
  exact ⟨rfl, (by (repeat (first | (with_reducible exact H4.out) | (with_reducible refine Below.setCell ?_ ?_ _) | (with_reducible refine below_alloc_top ?_ _) | (with_reducible refine Below.drew ?_))); all_goals (first | omega | (simp; done) | (simp; omega)))⟩
set_option maxRecDepth 100000 in
set_option maxHeartbeats 1000000 in
theorem snell_m_ok (a b u v : Int) (nf : AnF a b u v) (xn xd : Int) (yn yd : Int) (y0 : 0 ≤ yn) (y1 : yn ≤ yd) (y2 : yd ≤ 1000000000) (y3 : 1 ≤ yd) (y4 : 0 ≤ yn * u) (y5 : yn * u ≤ 10000000000000) (y6 : 1 ≤ yd * v) (y7 : yd * v ≤ 10000000000000)
    (hp : ∀ w, Calls Try.prog 68 #[.agg #[.int .i64 a, .int .i64 b], .int .i64 u, .int .i64 v] w fun e w' => e = .returned (.tuple #[.bool true, .int .i64 0]) ∧ Below w.heap.size w w')
    (hc : ∀ w, Calls Try.prog 67 #[.int .i64 u, .int .i64 v] w fun e w' => e = .returned (.tuple #[.agg #[.int .i64 xn, .int .i64 xd], .int .i64 0]) ∧ Below w.heap.size w w')
    (hbq : ∀ w, Calls Try.prog 69 #[.agg #[.int .i64 a, .int .i64 b], .int .i64 u, .int .i64 v] w fun e w' => e = .returned (.tuple #[.agg #[.int .i64 yn, .int .i64 yd], .int .i64 0]) ∧ Below w.heap.size w w')
    (hm : ∀ w, Calls Try.prog 74 #[.int .i64 (a * a), .int .i64 (a * a + b * b), .int .i64 xn, .int .i64 xd] w fun e w' => e = .returned (.int .i64 (-1)) ∧ w = w')
    (hn : ∀ w, Calls Try.prog 74 #[.int .i64 (yn * u), .int .i64 (yd * v), .int .i64 (a * a * v), .int .i64 ((a * a + b * b) * u)] w fun e w' => e = .returned (.int .i64 0) ∧ w = w')
    (w : World) : Calls Try.prog 15 #[.agg #[.int .i64 a, .int .i64 b], .int .i64 u, .int .i64 v] w fun e w' => e = .returned (.bool true) ∧ Below w.heap.size w w' := by
  have HP := Lib.hid hp
  have HC := Lib.hid hc
  have HB := Lib.hid hbq
  have HM := Lib.hid hm
  have HN := Lib.hid hn
  clear hp hc hbq hm hn
  obtain ⟨⟨f1, f2⟩, ⟨f3, f4⟩, ⟨f5, f6⟩, _, ⟨f9, f10⟩, _, _⟩ := nf
  have W1 := Lib.hid ((inB_iff yn 0 yd).2 ⟨y0, y1⟩)
  have W2 := Lib.hid ((inB_iff yd 1 1000000000).2 ⟨y3, y2⟩)
  go_enter Try.func15, Try.ntmps15
  go_wp2_with fail
  refine (awake_any _).mono ?_
  rintro e w1 ⟨rfl, hb1⟩
  have qw10 : w1.cell? ⟨w.heap.size, 0, none⟩ = some (.int .i64 a) := cell_later hb1 (by simp [go_sem])
  have qw11 : w1.cell? ⟨w.heap.size, 1, none⟩ = some (.int .i64 b) := cell_later hb1 (by simp [go_sem])
  have zqw1_0 := World.block_lt_of_cell? _ _ qw10
  dsimp only at zqw1_0
  have H1 := Lib.hid (below_after (by repeat (first | exact Below.refl _ _ | refine Below.drew ?_ | refine below_drewN ?_ _ | refine Below.setCell ?_ (by first | omega | (simp; done) | (simp; omega)) _ | refine Below.alloc ?_ (by first | omega | (simp; done) | (simp; omega)) _)) hb1 (by first | omega | (simp; done) | (simp; omega)) : Below w.heap.size w w1); clear hb1
  go_wp2_with fail
  refine (HP.out _).mono ?_
  rintro e w2 ⟨rfl, hb2⟩
  have qw20 : w2.cell? ⟨w.heap.size, 0, none⟩ = some (.int .i64 a) := cell_later hb2 (by simp [go_sem, World.cell?_alloc_past, World.frozen?_alloc_past, *])
  have qw21 : w2.cell? ⟨w.heap.size, 1, none⟩ = some (.int .i64 b) := cell_later hb2 (by simp [go_sem, World.cell?_alloc_past, World.frozen?_alloc_past, *])
  have zqw2_0 := World.block_lt_of_cell? _ _ qw20
  dsimp only at zqw2_0
  have H2 : Hid (Below w.heap.size w w2) := Lib.hid (below_then (by (repeat (first | (with_reducible exact H1.out) | (with_reducible refine Below.setCell ?_ ?_ _) | (with_reducible refine below_alloc_top ?_ _) | (with_reducible refine Below.drew ?_))); all_goals (first | omega | (simp; done) | (simp; omega))) hb2); clear hb2
  go_wp2_with fail
  refine (HC.out _).mono ?_
  rintro e w3 ⟨rfl, hb3⟩
  have qw30 : w3.cell? ⟨w.heap.size, 0, none⟩ = some (.int .i64 a) := cell_later hb3 (by simp [go_sem, World.cell?_alloc_past, World.frozen?_alloc_past, *])
  have qw31 : w3.cell? ⟨w.heap.size, 1, none⟩ = some (.int .i64 b) := cell_later hb3 (by simp [go_sem, World.cell?_alloc_past, World.frozen?_alloc_past, *])
  have zqw3_0 := World.block_lt_of_cell? _ _ qw30
  dsimp only at zqw3_0
  have H3 : Hid (Below w.heap.size w w3) := Lib.hid (below_then (by (repeat (first | (with_reducible exact H2.out) | (with_reducible refine Below.setCell ?_ ?_ _) | (with_reducible refine below_alloc_top ?_ _) | (with_reducible refine Below.drew ?_))); all_goals (first | omega | (simp; done) | (simp; omega))) hb3); clear hb3
  go_wp2_with fail
  refine (HB.out _).mono ?_
  rintro e w4 ⟨rfl, hb4⟩
  have qw40 : w4.cell? ⟨w.heap.size, 0, none⟩ = some (.int .i64 a) := cell_later hb4 (by simp [go_sem, World.cell?_alloc_past, World.frozen?_alloc_past, *])
  have qw41 : w4.cell? ⟨w.heap.size, 1, none⟩ = some (.int .i64 b) := cell_later hb4 (by simp [go_sem, World.cell?_alloc_past, World.frozen?_alloc_past, *])
  have qw42 : w4.cell? ⟨w3.heap.size, 0, none⟩ = some (.int .i64 xn) := cell_later hb4 (by simp [go_sem, World.cell?_alloc_past, World.frozen?_alloc_past, *])
  have qw43 : w4.cell? ⟨w3.heap.size, 1, none⟩ = some (.int .i64 xd) := cell_later hb4 (by simp [go_sem, World.cell?_alloc_past, World.frozen?_alloc_past, *])
  have zqw4_0 := World.block_lt_of_cell? _ _ qw40
  dsimp only at zqw4_0
  have zqw4_2 := World.block_lt_of_cell? _ _ qw42
  dsimp only at zqw4_2
  have H4 : Hid (Below w.heap.size w w4) := Lib.hid (below_then (by (repeat (first | (with_reducible exact H3.out) | (with_reducible refine Below.setCell ?_ ?_ _) | (with_reducible refine below_alloc_top ?_ _) | (with_reducible refine Below.drew ?_))); all_goals (first | omega | (simp; done) | (simp; omega))) hb4); clear hb4
  go_wp2_with (first
    | (go_at_call 74; (with_reducible refine (HM.out _).mono ?_); rintro e w' ⟨rfl, rfl⟩)
    | (go_at_call 74; (with_reducible refine (HN.out _).mono ?_); rintro e w' ⟨rfl, rfl⟩)
    | (go_at_call 43; refine (within_any _ _ _ _).mono ?_; rintro e w' ⟨rfl, rfl⟩; first | rw [W1.out] | rw [W2.out])
    | fail)
  go_ret
  exact ⟨rfl, (by (repeat (first | (with_reducible exact H4.out) | (with_reducible refine Below.setCell ?_ ?_ _) | (with_reducible refine below_alloc_top ?_ _) | (with_reducible refine Below.drew ?_))); all_goals (first | omega | (simp; done) | (simp; omega)))⟩
set_option maxRecDepth 100000 in
set_option maxHeartbeats 1000000 in
theorem snell_z_large (a b u v : Int) (nf : AnF a b u v) (xn xd : Int)
    (hp : ∀ w, Calls Try.prog 68 #[.agg #[.int .i64 a, .int .i64 b], .int .i64 u, .int .i64 v] w fun e w' => e = .returned (.tuple #[.bool true, .int .i64 0]) ∧ Below w.heap.size w w')
    (hc : ∀ w, Calls Try.prog 67 #[.int .i64 u, .int .i64 v] w fun e w' => e = .returned (.tuple #[.agg #[.int .i64 xn, .int .i64 xd], .int .i64 0]) ∧ Below w.heap.size w w')
    (hbq : ∀ w, Calls Try.prog 69 #[.agg #[.int .i64 a, .int .i64 b], .int .i64 u, .int .i64 v] w fun e w' => e = .returned (.tuple #[.agg #[.int .i64 0, .int .i64 0], .int .i64 8]) ∧ Below w.heap.size w w')
    (hm : ∀ w, Calls Try.prog 74 #[.int .i64 (a * a), .int .i64 (a * a + b * b), .int .i64 xn, .int .i64 xd] w fun e w' => e = .returned (.int .i64 0) ∧ w = w')
    (w : World) : Calls Try.prog 15 #[.agg #[.int .i64 a, .int .i64 b], .int .i64 u, .int .i64 v] w fun e w' => e = .returned (.bool true) ∧ Below w.heap.size w w' := by
  have HP := Lib.hid hp
  have HC := Lib.hid hc
  have HB := Lib.hid hbq
  have HM := Lib.hid hm
  clear hp hc hbq hm
  obtain ⟨⟨f1, f2⟩, ⟨f3, f4⟩, ⟨f5, f6⟩, _, ⟨f9, f10⟩, _, _⟩ := nf
  go_enter Try.func15, Try.ntmps15
  go_wp2_with fail
  refine (awake_any _).mono ?_
  rintro e w1 ⟨rfl, hb1⟩
  have qw10 : w1.cell? ⟨w.heap.size, 0, none⟩ = some (.int .i64 a) := cell_later hb1 (by simp [go_sem])
  have qw11 : w1.cell? ⟨w.heap.size, 1, none⟩ = some (.int .i64 b) := cell_later hb1 (by simp [go_sem])
  have zqw1_0 := World.block_lt_of_cell? _ _ qw10
  dsimp only at zqw1_0
  have H1 := Lib.hid (below_after (by repeat (first | exact Below.refl _ _ | refine Below.drew ?_ | refine below_drewN ?_ _ | refine Below.setCell ?_ (by first | omega | (simp; done) | (simp; omega)) _ | refine Below.alloc ?_ (by first | omega | (simp; done) | (simp; omega)) _)) hb1 (by first | omega | (simp; done) | (simp; omega)) : Below w.heap.size w w1); clear hb1
  go_wp2_with fail
  refine (HP.out _).mono ?_
  rintro e w2 ⟨rfl, hb2⟩
  have qw20 : w2.cell? ⟨w.heap.size, 0, none⟩ = some (.int .i64 a) := cell_later hb2 (by simp [go_sem, World.cell?_alloc_past, World.frozen?_alloc_past, *])
  have qw21 : w2.cell? ⟨w.heap.size, 1, none⟩ = some (.int .i64 b) := cell_later hb2 (by simp [go_sem, World.cell?_alloc_past, World.frozen?_alloc_past, *])
  have zqw2_0 := World.block_lt_of_cell? _ _ qw20
  dsimp only at zqw2_0
  have H2 : Hid (Below w.heap.size w w2) := Lib.hid (below_then (by (repeat (first | (with_reducible exact H1.out) | (with_reducible refine Below.setCell ?_ ?_ _) | (with_reducible refine below_alloc_top ?_ _) | (with_reducible refine Below.drew ?_))); all_goals (first | omega | (simp; done) | (simp; omega))) hb2); clear hb2
  go_wp2_with fail
  refine (HC.out _).mono ?_
  rintro e w3 ⟨rfl, hb3⟩
  have qw30 : w3.cell? ⟨w.heap.size, 0, none⟩ = some (.int .i64 a) := cell_later hb3 (by simp [go_sem, World.cell?_alloc_past, World.frozen?_alloc_past, *])
  have qw31 : w3.cell? ⟨w.heap.size, 1, none⟩ = some (.int .i64 b) := cell_later hb3 (by simp [go_sem, World.cell?_alloc_past, World.frozen?_alloc_past, *])
  have zqw3_0 := World.block_lt_of_cell? _ _ qw30
  dsimp only at zqw3_0
  have H3 : Hid (Below w.heap.size w w3) := Lib.hid (below_then (by (repeat (first | (with_reducible exact H2.out) | (with_reducible refine Below.setCell ?_ ?_ _) | (with_reducible refine below_alloc_top ?_ _) | (with_reducible refine Below.drew ?_))); all_goals (first | omega | (simp; done) | (simp; omega))) hb3); clear hb3
  go_wp2_with fail
  refine (HB.out _).mono ?_
  rintro e w4 ⟨rfl, hb4⟩
  have qw40 : w4.cell? ⟨w.heap.size, 0, none⟩ = some (.int .i64 a) := cell_later hb4 (by simp [go_sem, World.cell?_alloc_past, World.frozen?_alloc_past, *])
  have qw41 : w4.cell? ⟨w.heap.size, 1, none⟩ = some (.int .i64 b) := cell_later hb4 (by simp [go_sem, World.cell?_alloc_past, World.frozen?_alloc_past, *])
  have qw42 : w4.cell? ⟨w3.heap.size, 0, none⟩ = some (.int .i64 xn) := cell_later hb4 (by simp [go_sem, World.cell?_alloc_past, World.frozen?_alloc_past, *])
  have qw43 : w4.cell? ⟨w3.heap.size, 1, none⟩ = some (.int .i64 xd) := cell_later hb4 (by simp [go_sem, World.cell?_alloc_past, World.frozen?_alloc_past, *])
  have zqw4_0 := World.block_lt_of_cell? _ _ qw40
  dsimp only at zqw4_0
  have zqw4_2 := World.block_lt_of_cell? _ _ qw42
  dsimp only at zqw4_2
  have H4 : Hid (Below w.heap.size w w4) := Lib.hid (below_then (by (repeat (first | (with_reducible exact H3.out) | (with_reducible refine Below.setCell ?_ ?_ _) | (with_reducible refine below_alloc_top ?_ _) | (with_reducible refine Below.drew ?_))); all_goals (first | omega | (simp; done) | (simp; omega))) hb4); clear hb4
  go_wp2_with (first
    | (go_at_call 74; (with_reducible refine (HM.out _).mono ?_); rintro e w' ⟨rfl, rfl⟩)
    | fail)
  go_ret
  exact ⟨rfl, (by (repeat (first | (with_reducible exact H4.out) | (with_reducible refine Below.setCell ?_ ?_ _) | (with_reducible refine below_alloc_top ?_ _) | (with_reducible refine Below.drew ?_))); all_goals (first | omega | (simp; done) | (simp; omega)))⟩
set_option maxRecDepth 100000 in
set_option maxHeartbeats 1000000 in
theorem snell_z_ok (a b u v : Int) (nf : AnF a b u v) (xn xd : Int) (yn yd : Int) (y0 : 0 ≤ yn) (y1 : yn ≤ yd) (y2 : yd ≤ 1000000000) (y3 : 1 ≤ yd) (y4 : 0 ≤ yn * u) (y5 : yn * u ≤ 10000000000000) (y6 : 1 ≤ yd * v) (y7 : yd * v ≤ 10000000000000)
    (hp : ∀ w, Calls Try.prog 68 #[.agg #[.int .i64 a, .int .i64 b], .int .i64 u, .int .i64 v] w fun e w' => e = .returned (.tuple #[.bool true, .int .i64 0]) ∧ Below w.heap.size w w')
    (hc : ∀ w, Calls Try.prog 67 #[.int .i64 u, .int .i64 v] w fun e w' => e = .returned (.tuple #[.agg #[.int .i64 xn, .int .i64 xd], .int .i64 0]) ∧ Below w.heap.size w w')
    (hbq : ∀ w, Calls Try.prog 69 #[.agg #[.int .i64 a, .int .i64 b], .int .i64 u, .int .i64 v] w fun e w' => e = .returned (.tuple #[.agg #[.int .i64 yn, .int .i64 yd], .int .i64 0]) ∧ Below w.heap.size w w')
    (hm : ∀ w, Calls Try.prog 74 #[.int .i64 (a * a), .int .i64 (a * a + b * b), .int .i64 xn, .int .i64 xd] w fun e w' => e = .returned (.int .i64 0) ∧ w = w')
    (hn : ∀ w, Calls Try.prog 74 #[.int .i64 (yn * u), .int .i64 (yd * v), .int .i64 (a * a * v), .int .i64 ((a * a + b * b) * u)] w fun e w' => e = .returned (.int .i64 0) ∧ w = w')
    (w : World) : Calls Try.prog 15 #[.agg #[.int .i64 a, .int .i64 b], .int .i64 u, .int .i64 v] w fun e w' => e = .returned (.bool true) ∧ Below w.heap.size w w' := by
  have HP := Lib.hid hp
  have HC := Lib.hid hc
  have HB := Lib.hid hbq
  have HM := Lib.hid hm
  have HN := Lib.hid hn
  clear hp hc hbq hm hn
  obtain ⟨⟨f1, f2⟩, ⟨f3, f4⟩, ⟨f5, f6⟩, _, ⟨f9, f10⟩, _, _⟩ := nf
  have W1 := Lib.hid ((inB_iff yn 0 yd).2 ⟨y0, y1⟩)
  have W2 := Lib.hid ((inB_iff yd 1 1000000000).2 ⟨y3, y2⟩)
  go_enter Try.func15, Try.ntmps15
  go_wp2_with fail
  refine (awake_any _).mono ?_
  rintro e w1 ⟨rfl, hb1⟩
  have qw10 : w1.cell? ⟨w.heap.size, 0, none⟩ = some (.int .i64 a) := cell_later hb1 (by simp [go_sem])
  have qw11 : w1.cell? ⟨w.heap.size, 1, none⟩ = some (.int .i64 b) := cell_later hb1 (by simp [go_sem])
  have zqw1_0 := World.block_lt_of_cell? _ _ qw10
  dsimp only at zqw1_0
  have H1 := Lib.hid (below_after (by repeat (first | exact Below.refl _ _ | refine Below.drew ?_ | refine below_drewN ?_ _ | refine Below.setCell ?_ (by first | omega | (simp; done) | (simp; omega)) _ | refine Below.alloc ?_ (by first | omega | (simp; done) | (simp; omega)) _)) hb1 (by first | omega | (simp; done) | (simp; omega)) : Below w.heap.size w w1); clear hb1
  go_wp2_with fail
  refine (HP.out _).mono ?_
  rintro e w2 ⟨rfl, hb2⟩
  have qw20 : w2.cell? ⟨w.heap.size, 0, none⟩ = some (.int .i64 a) := cell_later hb2 (by simp [go_sem, World.cell?_alloc_past, World.frozen?_alloc_past, *])
  have qw21 : w2.cell? ⟨w.heap.size, 1, none⟩ = some (.int .i64 b) := cell_later hb2 (by simp [go_sem, World.cell?_alloc_past, World.frozen?_alloc_past, *])
  have zqw2_0 := World.block_lt_of_cell? _ _ qw20
  dsimp only at zqw2_0
  have H2 : Hid (Below w.heap.size w w2) := Lib.hid (below_then (by (repeat (first | (with_reducible exact H1.out) | (with_reducible refine Below.setCell ?_ ?_ _) | (with_reducible refine below_alloc_top ?_ _) | (with_reducible refine Below.drew ?_))); all_goals (first | omega | (simp; done) | (simp; omega))) hb2); clear hb2
  go_wp2_with fail
  refine (HC.out _).mono ?_
  rintro e w3 ⟨rfl, hb3⟩
  have qw30 : w3.cell? ⟨w.heap.size, 0, none⟩ = some (.int .i64 a) := cell_later hb3 (by simp [go_sem, World.cell?_alloc_past, World.frozen?_alloc_past, *])
  have qw31 : w3.cell? ⟨w.heap.size, 1, none⟩ = some (.int .i64 b) := cell_later hb3 (by simp [go_sem, World.cell?_alloc_past, World.frozen?_alloc_past, *])
  have zqw3_0 := World.block_lt_of_cell? _ _ qw30
  dsimp only at zqw3_0
  have H3 : Hid (Below w.heap.size w w3) := Lib.hid (below_then (by (repeat (first | (with_reducible exact H2.out) | (with_reducible refine Below.setCell ?_ ?_ _) | (with_reducible refine below_alloc_top ?_ _) | (with_reducible refine Below.drew ?_))); all_goals (first | omega | (simp; done) | (simp; omega))) hb3); clear hb3
  go_wp2_with fail
  refine (HB.out _).mono ?_
  rintro e w4 ⟨rfl, hb4⟩
  have qw40 : w4.cell? ⟨w.heap.size, 0, none⟩ = some (.int .i64 a) := cell_later hb4 (by simp [go_sem, World.cell?_alloc_past, World.frozen?_alloc_past, *])
  have qw41 : w4.cell? ⟨w.heap.size, 1, none⟩ = some (.int .i64 b) := cell_later hb4 (by simp [go_sem, World.cell?_alloc_past, World.frozen?_alloc_past, *])
  have qw42 : w4.cell? ⟨w3.heap.size, 0, none⟩ = some (.int .i64 xn) := cell_later hb4 (by simp [go_sem, World.cell?_alloc_past, World.frozen?_alloc_past, *])
  have qw43 : w4.cell? ⟨w3.heap.size, 1, none⟩ = some (.int .i64 xd) := cell_later hb4 (by simp [go_sem, World.cell?_alloc_past, World.frozen?_alloc_past, *])
  have zqw4_0 := World.block_lt_of_cell? _ _ qw40
  dsimp only at zqw4_0
  have zqw4_2 := World.block_lt_of_cell? _ _ qw42
  dsimp only at zqw4_2
  have H4 : Hid (Below w.heap.size w w4) := Lib.hid (below_then (by (repeat (first | (with_reducible exact H3.out) | (with_reducible refine Below.setCell ?_ ?_ _) | (with_reducible refine below_alloc_top ?_ _) | (with_reducible refine Below.drew ?_))); all_goals (first | omega | (simp; done) | (simp; omega))) hb4); clear hb4
  go_wp2_with (first
    | (go_at_call 74; (with_reducible refine (HM.out _).mono ?_); rintro e w' ⟨rfl, rfl⟩)
    | (go_at_call 74; (with_reducible refine (HN.out _).mono ?_); rintro e w' ⟨rfl, rfl⟩)
    | (go_at_call 43; refine (within_any _ _ _ _).mono ?_; rintro e w' ⟨rfl, rfl⟩; first | rw [W1.out] | rw [W2.out])
    | fail)
  go_ret
  exact ⟨rfl, (by (repeat (first | (with_reducible exact H4.out) | (with_reducible refine Below.setCell ?_ ?_ _) | (with_reducible refine below_alloc_top ?_ _) | (with_reducible refine Below.drew ?_))); all_goals (first | omega | (simp; done) | (simp; omega)))⟩
set_option maxRecDepth 100000 in
set_option maxHeartbeats 1000000 in
theorem snell_p_none (a b u v : Int) (nf : AnF a b u v) (xn xd : Int)
    (hp : ∀ w, Calls Try.prog 68 #[.agg #[.int .i64 a, .int .i64 b], .int .i64 u, .int .i64 v] w fun e w' => e = .returned (.tuple #[.bool false, .int .i64 0]) ∧ Below w.heap.size w w')
    (hc : ∀ w, Calls Try.prog 67 #[.int .i64 u, .int .i64 v] w fun e w' => e = .returned (.tuple #[.agg #[.int .i64 xn, .int .i64 xd], .int .i64 0]) ∧ Below w.heap.size w w')
    (hbq : ∀ w, Calls Try.prog 69 #[.agg #[.int .i64 a, .int .i64 b], .int .i64 u, .int .i64 v] w fun e w' => e = .returned (.tuple #[.agg #[.int .i64 0, .int .i64 0], .int .i64 12]) ∧ Below w.heap.size w w')
    (hm : ∀ w, Calls Try.prog 74 #[.int .i64 (a * a), .int .i64 (a * a + b * b), .int .i64 xn, .int .i64 xd] w fun e w' => e = .returned (.int .i64 1) ∧ w = w')
    (w : World) : Calls Try.prog 15 #[.agg #[.int .i64 a, .int .i64 b], .int .i64 u, .int .i64 v] w fun e w' => e = .returned (.bool true) ∧ Below w.heap.size w w' := by
  have HP := Lib.hid hp
  have HC := Lib.hid hc
  have HB := Lib.hid hbq
  have HM := Lib.hid hm
  clear hp hc hbq hm
  obtain ⟨⟨f1, f2⟩, ⟨f3, f4⟩, ⟨f5, f6⟩, _, ⟨f9, f10⟩, _, _⟩ := nf
  go_enter Try.func15, Try.ntmps15
  go_wp2_with fail
  refine (awake_any _).mono ?_
  rintro e w1 ⟨rfl, hb1⟩
  have qw10 : w1.cell? ⟨w.heap.size, 0, none⟩ = some (.int .i64 a) := cell_later hb1 (by simp [go_sem])
  have qw11 : w1.cell? ⟨w.heap.size, 1, none⟩ = some (.int .i64 b) := cell_later hb1 (by simp [go_sem])
  have zqw1_0 := World.block_lt_of_cell? _ _ qw10
  dsimp only at zqw1_0
  have H1 := Lib.hid (below_after (by repeat (first | exact Below.refl _ _ | refine Below.drew ?_ | refine below_drewN ?_ _ | refine Below.setCell ?_ (by first | omega | (simp; done) | (simp; omega)) _ | refine Below.alloc ?_ (by first | omega | (simp; done) | (simp; omega)) _)) hb1 (by first | omega | (simp; done) | (simp; omega)) : Below w.heap.size w w1); clear hb1
  go_wp2_with fail
  refine (HP.out _).mono ?_
  rintro e w2 ⟨rfl, hb2⟩
  have qw20 : w2.cell? ⟨w.heap.size, 0, none⟩ = some (.int .i64 a) := cell_later hb2 (by simp [go_sem, World.cell?_alloc_past, World.frozen?_alloc_past, *])
  have qw21 : w2.cell? ⟨w.heap.size, 1, none⟩ = some (.int .i64 b) := cell_later hb2 (by simp [go_sem, World.cell?_alloc_past, World.frozen?_alloc_past, *])
  have zqw2_0 := World.block_lt_of_cell? _ _ qw20
  dsimp only at zqw2_0
  have H2 : Hid (Below w.heap.size w w2) := Lib.hid (below_then (by (repeat (first | (with_reducible exact H1.out) | (with_reducible refine Below.setCell ?_ ?_ _) | (with_reducible refine below_alloc_top ?_ _) | (with_reducible refine Below.drew ?_))); all_goals (first | omega | (simp; done) | (simp; omega))) hb2); clear hb2
  go_wp2_with fail
  refine (HC.out _).mono ?_
  rintro e w3 ⟨rfl, hb3⟩
  have qw30 : w3.cell? ⟨w.heap.size, 0, none⟩ = some (.int .i64 a) := cell_later hb3 (by simp [go_sem, World.cell?_alloc_past, World.frozen?_alloc_past, *])
  have qw31 : w3.cell? ⟨w.heap.size, 1, none⟩ = some (.int .i64 b) := cell_later hb3 (by simp [go_sem, World.cell?_alloc_past, World.frozen?_alloc_past, *])
  have zqw3_0 := World.block_lt_of_cell? _ _ qw30
  dsimp only at zqw3_0
  have H3 : Hid (Below w.heap.size w w3) := Lib.hid (below_then (by (repeat (first | (with_reducible exact H2.out) | (with_reducible refine Below.setCell ?_ ?_ _) | (with_reducible refine below_alloc_top ?_ _) | (with_reducible refine Below.drew ?_))); all_goals (first | omega | (simp; done) | (simp; omega))) hb3); clear hb3
  go_wp2_with fail
  refine (HB.out _).mono ?_
  rintro e w4 ⟨rfl, hb4⟩
  have qw40 : w4.cell? ⟨w.heap.size, 0, none⟩ = some (.int .i64 a) := cell_later hb4 (by simp [go_sem, World.cell?_alloc_past, World.frozen?_alloc_past, *])
  have qw41 : w4.cell? ⟨w.heap.size, 1, none⟩ = some (.int .i64 b) := cell_later hb4 (by simp [go_sem, World.cell?_alloc_past, World.frozen?_alloc_past, *])
  have qw42 : w4.cell? ⟨w3.heap.size, 0, none⟩ = some (.int .i64 xn) := cell_later hb4 (by simp [go_sem, World.cell?_alloc_past, World.frozen?_alloc_past, *])
  have qw43 : w4.cell? ⟨w3.heap.size, 1, none⟩ = some (.int .i64 xd) := cell_later hb4 (by simp [go_sem, World.cell?_alloc_past, World.frozen?_alloc_past, *])
  have zqw4_0 := World.block_lt_of_cell? _ _ qw40
  dsimp only at zqw4_0
  have zqw4_2 := World.block_lt_of_cell? _ _ qw42
  dsimp only at zqw4_2
  have H4 : Hid (Below w.heap.size w w4) := Lib.hid (below_then (by (repeat (first | (with_reducible exact H3.out) | (with_reducible refine Below.setCell ?_ ?_ _) | (with_reducible refine below_alloc_top ?_ _) | (with_reducible refine Below.drew ?_))); all_goals (first | omega | (simp; done) | (simp; omega))) hb4); clear hb4
  go_wp2_with (first
    | (go_at_call 74; (with_reducible refine (HM.out _).mono ?_); rintro e w' ⟨rfl, rfl⟩)
    | fail)
  go_ret
  exact ⟨rfl, (by (repeat (first | (with_reducible exact H4.out) | (with_reducible refine Below.setCell ?_ ?_ _) | (with_reducible refine below_alloc_top ?_ _) | (with_reducible refine Below.drew ?_))); all_goals (first | omega | (simp; done) | (simp; omega)))⟩
set_option maxRecDepth 100000 in
set_option maxHeartbeats 1000000 in
theorem snell_n_large (a b u v : Int) (nf : AnF a b u v)
    (hp : ∀ w, Calls Try.prog 68 #[.agg #[.int .i64 a, .int .i64 b], .int .i64 u, .int .i64 v] w fun e w' => e = .returned (.tuple #[.bool true, .int .i64 0]) ∧ Below w.heap.size w w')
    (hc : ∀ w, Calls Try.prog 67 #[.int .i64 u, .int .i64 v] w fun e w' => e = .returned (.tuple #[.agg #[.int .i64 0, .int .i64 0], .int .i64 12]) ∧ Below w.heap.size w w')
    (hbq : ∀ w, Calls Try.prog 69 #[.agg #[.int .i64 a, .int .i64 b], .int .i64 u, .int .i64 v] w fun e w' => e = .returned (.tuple #[.agg #[.int .i64 0, .int .i64 0], .int .i64 8]) ∧ Below w.heap.size w w')
    (w : World) : Calls Try.prog 15 #[.agg #[.int .i64 a, .int .i64 b], .int .i64 u, .int .i64 v] w fun e w' => e = .returned (.bool true) ∧ Below w.heap.size w w' := by
  have HP := Lib.hid hp
  have HC := Lib.hid hc
  have HB := Lib.hid hbq
  clear hp hc hbq
  obtain ⟨⟨f1, f2⟩, ⟨f3, f4⟩, ⟨f5, f6⟩, _, ⟨f9, f10⟩, _, _⟩ := nf
  go_enter Try.func15, Try.ntmps15
  go_wp2_with fail
  refine (awake_any _).mono ?_
  rintro e w1 ⟨rfl, hb1⟩
  have qw10 : w1.cell? ⟨w.heap.size, 0, none⟩ = some (.int .i64 a) := cell_later hb1 (by simp [go_sem])
  have qw11 : w1.cell? ⟨w.heap.size, 1, none⟩ = some (.int .i64 b) := cell_later hb1 (by simp [go_sem])
  have zqw1_0 := World.block_lt_of_cell? _ _ qw10
  dsimp only at zqw1_0
  have H1 := Lib.hid (below_after (by repeat (first | exact Below.refl _ _ | refine Below.drew ?_ | refine below_drewN ?_ _ | refine Below.setCell ?_ (by first | omega | (simp; done) | (simp; omega)) _ | refine Below.alloc ?_ (by first | omega | (simp; done) | (simp; omega)) _)) hb1 (by first | omega | (simp; done) | (simp; omega)) : Below w.heap.size w w1); clear hb1
  go_wp2_with fail
  refine (HP.out _).mono ?_
  rintro e w2 ⟨rfl, hb2⟩
  have qw20 : w2.cell? ⟨w.heap.size, 0, none⟩ = some (.int .i64 a) := cell_later hb2 (by simp [go_sem, World.cell?_alloc_past, World.frozen?_alloc_past, *])
  have qw21 : w2.cell? ⟨w.heap.size, 1, none⟩ = some (.int .i64 b) := cell_later hb2 (by simp [go_sem, World.cell?_alloc_past, World.frozen?_alloc_past, *])
  have zqw2_0 := World.block_lt_of_cell? _ _ qw20
  dsimp only at zqw2_0
  have H2 : Hid (Below w.heap.size w w2) := Lib.hid (below_then (by (repeat (first | (with_reducible exact H1.out) | (with_reducible refine Below.setCell ?_ ?_ _) | (with_reducible refine below_alloc_top ?_ _) | (with_reducible refine Below.drew ?_))); all_goals (first | omega | (simp; done) | (simp; omega))) hb2); clear hb2
  go_wp2_with fail
  refine (HC.out _).mono ?_
  rintro e w3 ⟨rfl, hb3⟩
  have qw30 : w3.cell? ⟨w.heap.size, 0, none⟩ = some (.int .i64 a) := cell_later hb3 (by simp [go_sem, World.cell?_alloc_past, World.frozen?_alloc_past, *])
  have qw31 : w3.cell? ⟨w.heap.size, 1, none⟩ = some (.int .i64 b) := cell_later hb3 (by simp [go_sem, World.cell?_alloc_past, World.frozen?_alloc_past, *])
  have zqw3_0 := World.block_lt_of_cell? _ _ qw30
  dsimp only at zqw3_0
  have H3 : Hid (Below w.heap.size w w3) := Lib.hid (below_then (by (repeat (first | (with_reducible exact H2.out) | (with_reducible refine Below.setCell ?_ ?_ _) | (with_reducible refine below_alloc_top ?_ _) | (with_reducible refine Below.drew ?_))); all_goals (first | omega | (simp; done) | (simp; omega))) hb3); clear hb3
  go_wp2_with fail
  refine (HB.out _).mono ?_
  rintro e w4 ⟨rfl, hb4⟩
  have qw40 : w4.cell? ⟨w.heap.size, 0, none⟩ = some (.int .i64 a) := cell_later hb4 (by simp [go_sem, World.cell?_alloc_past, World.frozen?_alloc_past, *])
  have qw41 : w4.cell? ⟨w.heap.size, 1, none⟩ = some (.int .i64 b) := cell_later hb4 (by simp [go_sem, World.cell?_alloc_past, World.frozen?_alloc_past, *])
  have qw42 : w4.cell? ⟨w3.heap.size, 0, none⟩ = some (.int .i64 0) := cell_later hb4 (by simp [go_sem, World.cell?_alloc_past, World.frozen?_alloc_past, *])
  have qw43 : w4.cell? ⟨w3.heap.size, 1, none⟩ = some (.int .i64 0) := cell_later hb4 (by simp [go_sem, World.cell?_alloc_past, World.frozen?_alloc_past, *])
  have zqw4_0 := World.block_lt_of_cell? _ _ qw40
  dsimp only at zqw4_0
  have zqw4_2 := World.block_lt_of_cell? _ _ qw42
  dsimp only at zqw4_2
  have H4 : Hid (Below w.heap.size w w4) := Lib.hid (below_then (by (repeat (first | (with_reducible exact H3.out) | (with_reducible refine Below.setCell ?_ ?_ _) | (with_reducible refine below_alloc_top ?_ _) | (with_reducible refine Below.drew ?_))); all_goals (first | omega | (simp; done) | (simp; omega))) hb4); clear hb4
  go_wp2_with (first
    | fail)
  go_ret
  exact ⟨rfl, (by (repeat (first | (with_reducible exact H4.out) | (with_reducible refine Below.setCell ?_ ?_ _) | (with_reducible refine below_alloc_top ?_ _) | (with_reducible refine Below.drew ?_))); all_goals (first | omega | (simp; done) | (simp; omega)))⟩
set_option maxRecDepth 100000 in
set_option maxHeartbeats 1000000 in
theorem snell_n_ok (a b u v : Int) (nf : AnF a b u v) (yn yd : Int) (y0 : 0 ≤ yn) (y1 : yn ≤ yd) (y2 : yd ≤ 1000000000) (y3 : 1 ≤ yd) (y4 : 0 ≤ yn * u) (y5 : yn * u ≤ 10000000000000) (y6 : 1 ≤ yd * v) (y7 : yd * v ≤ 10000000000000)
    (hp : ∀ w, Calls Try.prog 68 #[.agg #[.int .i64 a, .int .i64 b], .int .i64 u, .int .i64 v] w fun e w' => e = .returned (.tuple #[.bool true, .int .i64 0]) ∧ Below w.heap.size w w')
    (hc : ∀ w, Calls Try.prog 67 #[.int .i64 u, .int .i64 v] w fun e w' => e = .returned (.tuple #[.agg #[.int .i64 0, .int .i64 0], .int .i64 12]) ∧ Below w.heap.size w w')
    (hbq : ∀ w, Calls Try.prog 69 #[.agg #[.int .i64 a, .int .i64 b], .int .i64 u, .int .i64 v] w fun e w' => e = .returned (.tuple #[.agg #[.int .i64 yn, .int .i64 yd], .int .i64 0]) ∧ Below w.heap.size w w')
    (hn : ∀ w, Calls Try.prog 74 #[.int .i64 (yn * u), .int .i64 (yd * v), .int .i64 (a * a * v), .int .i64 ((a * a + b * b) * u)] w fun e w' => e = .returned (.int .i64 0) ∧ w = w')
    (w : World) : Calls Try.prog 15 #[.agg #[.int .i64 a, .int .i64 b], .int .i64 u, .int .i64 v] w fun e w' => e = .returned (.bool true) ∧ Below w.heap.size w w' := by
  have HP := Lib.hid hp
  have HC := Lib.hid hc
  have HB := Lib.hid hbq
  have HN := Lib.hid hn
  clear hp hc hbq hn
  obtain ⟨⟨f1, f2⟩, ⟨f3, f4⟩, ⟨f5, f6⟩, _, ⟨f9, f10⟩, _, _⟩ := nf
  have W1 := Lib.hid ((inB_iff yn 0 yd).2 ⟨y0, y1⟩)
  have W2 := Lib.hid ((inB_iff yd 1 1000000000).2 ⟨y3, y2⟩)
  go_enter Try.func15, Try.ntmps15
  go_wp2_with fail
  refine (awake_any _).mono ?_
  rintro e w1 ⟨rfl, hb1⟩
  have qw10 : w1.cell? ⟨w.heap.size, 0, none⟩ = some (.int .i64 a) := cell_later hb1 (by simp [go_sem])
  have qw11 : w1.cell? ⟨w.heap.size, 1, none⟩ = some (.int .i64 b) := cell_later hb1 (by simp [go_sem])
  have zqw1_0 := World.block_lt_of_cell? _ _ qw10
  dsimp only at zqw1_0
  have H1 := Lib.hid (below_after (by repeat (first | exact Below.refl _ _ | refine Below.drew ?_ | refine below_drewN ?_ _ | refine Below.setCell ?_ (by first | omega | (simp; done) | (simp; omega)) _ | refine Below.alloc ?_ (by first | omega | (simp; done) | (simp; omega)) _)) hb1 (by first | omega | (simp; done) | (simp; omega)) : Below w.heap.size w w1); clear hb1
  go_wp2_with fail
  refine (HP.out _).mono ?_
  rintro e w2 ⟨rfl, hb2⟩
  have qw20 : w2.cell? ⟨w.heap.size, 0, none⟩ = some (.int .i64 a) := cell_later hb2 (by simp [go_sem, World.cell?_alloc_past, World.frozen?_alloc_past, *])
  have qw21 : w2.cell? ⟨w.heap.size, 1, none⟩ = some (.int .i64 b) := cell_later hb2 (by simp [go_sem, World.cell?_alloc_past, World.frozen?_alloc_past, *])
  have zqw2_0 := World.block_lt_of_cell? _ _ qw20
  dsimp only at zqw2_0
  have H2 : Hid (Below w.heap.size w w2) := Lib.hid (below_then (by (repeat (first | (with_reducible exact H1.out) | (with_reducible refine Below.setCell ?_ ?_ _) | (with_reducible refine below_alloc_top ?_ _) | (with_reducible refine Below.drew ?_))); all_goals (first | omega | (simp; done) | (simp; omega))) hb2); clear hb2
  go_wp2_with fail
  refine (HC.out _).mono ?_
  rintro e w3 ⟨rfl, hb3⟩
  have qw30 : w3.cell? ⟨w.heap.size, 0, none⟩ = some (.int .i64 a) := cell_later hb3 (by simp [go_sem, World.cell?_alloc_past, World.frozen?_alloc_past, *])
  have qw31 : w3.cell? ⟨w.heap.size, 1, none⟩ = some (.int .i64 b) := cell_later hb3 (by simp [go_sem, World.cell?_alloc_past, World.frozen?_alloc_past, *])
  have zqw3_0 := World.block_lt_of_cell? _ _ qw30
  dsimp only at zqw3_0
  have H3 : Hid (Below w.heap.size w w3) := Lib.hid (below_then (by (repeat (first | (with_reducible exact H2.out) | (with_reducible refine Below.setCell ?_ ?_ _) | (with_reducible refine below_alloc_top ?_ _) | (with_reducible refine Below.drew ?_))); all_goals (first | omega | (simp; done) | (simp; omega))) hb3); clear hb3
  go_wp2_with fail
  refine (HB.out _).mono ?_
  rintro e w4 ⟨rfl, hb4⟩
  have qw40 : w4.cell? ⟨w.heap.size, 0, none⟩ = some (.int .i64 a) := cell_later hb4 (by simp [go_sem, World.cell?_alloc_past, World.frozen?_alloc_past, *])
  have qw41 : w4.cell? ⟨w.heap.size, 1, none⟩ = some (.int .i64 b) := cell_later hb4 (by simp [go_sem, World.cell?_alloc_past, World.frozen?_alloc_past, *])
  have qw42 : w4.cell? ⟨w3.heap.size, 0, none⟩ = some (.int .i64 0) := cell_later hb4 (by simp [go_sem, World.cell?_alloc_past, World.frozen?_alloc_past, *])
  have qw43 : w4.cell? ⟨w3.heap.size, 1, none⟩ = some (.int .i64 0) := cell_later hb4 (by simp [go_sem, World.cell?_alloc_past, World.frozen?_alloc_past, *])
  have zqw4_0 := World.block_lt_of_cell? _ _ qw40
  dsimp only at zqw4_0
  have zqw4_2 := World.block_lt_of_cell? _ _ qw42
  dsimp only at zqw4_2
  have H4 : Hid (Below w.heap.size w w4) := Lib.hid (below_then (by (repeat (first | (with_reducible exact H3.out) | (with_reducible refine Below.setCell ?_ ?_ _) | (with_reducible refine below_alloc_top ?_ _) | (with_reducible refine Below.drew ?_))); all_goals (first | omega | (simp; done) | (simp; omega))) hb4); clear hb4
  go_wp2_with (first
    | (go_at_call 74; (with_reducible refine (HN.out _).mono ?_); rintro e w' ⟨rfl, rfl⟩)
    | (go_at_call 43; refine (within_any _ _ _ _).mono ?_; rintro e w' ⟨rfl, rfl⟩; first | rw [W1.out] | rw [W2.out])
    | fail)
  go_ret
  exact ⟨rfl, (by (repeat (first | (with_reducible exact H4.out) | (with_reducible refine Below.setCell ?_ ?_ _) | (with_reducible refine below_alloc_top ?_ _) | (with_reducible refine Below.drew ?_))); all_goals (first | omega | (simp; done) | (simp; omega)))⟩
theorem g_dvd (n d : Int) : (Nat.gcd n.natAbs d.natAbs : Int) ∣ n ∧ (Nat.gcd n.natAbs d.natAbs : Int) ∣ d :=
  ⟨Int.ofNat_dvd_left.2 (Nat.gcd_dvd_left _ _), Int.ofNat_dvd_left.2 (Nat.gcd_dvd_right _ _)⟩
structure LowF (n d : Int) : Prop where
  la : 0 ≤ lowN n d
  lb : 1 ≤ lowD n d
  lc : lowN n d ≤ n
  ld : lowD n d ≤ d
  le : lowN n d * d = n * lowD n d
theorem low_f (n d : Int) (hn : 0 ≤ n) (hd : 1 ≤ d) : LowF n d := by
  have h1 : 0 < Nat.gcd n.natAbs d.natAbs := Nat.gcd_pos_of_pos_right _ (by omega)
  have h2 : Nat.gcd n.natAbs d.natAbs ≤ d.natAbs := Nat.gcd_le_right _ (by omega)
  obtain ⟨k1, k2⟩ := g_dvd n d
  have e1 : lowN n d * (Nat.gcd n.natAbs d.natAbs : Int) = n := Int.ediv_mul_cancel k1
  have e2 : lowD n d * (Nat.gcd n.natAbs d.natAbs : Int) = d := Int.ediv_mul_cancel k2
  refine ⟨Int.ediv_nonneg hn (by omega), Int.le_ediv_of_mul_le (by omega) (by omega), Int.ediv_le_self _ hn, Int.ediv_le_self _ (by omega), ?_⟩
  generalize lowN n d = x at *
  generalize lowD n d = y at *
  generalize (Nat.gcd n.natAbs d.natAbs : Int) = g at *
  rw [← e1, ← e2]
  ac_rfl
theorem low_le (n d : Int) (hn : 0 ≤ n) (hd : 1 ≤ d) (h : n ≤ d) : lowN n d ≤ lowD n d := by
  have h1 : 0 < Nat.gcd n.natAbs d.natAbs := Nat.gcd_pos_of_pos_right _ (by omega)
  exact Int.ediv_le_ediv (by omega) h
theorem sg_scale (p q r s c d : Int) (hc : 0 < c) (hd : 0 < d) (h : p * c - q * c = r * d - s * d) : sg p q = sg r s := by
  have x1 := sg_cases p q
  have x2 := sg_cases r s
  rcases Int.lt_trichotomy p q with k | k | k
  · have a := Int.mul_lt_mul_of_pos_right k hc
    have : r < s := by
      rcases Int.lt_or_le r s with j | j
      · exact j
      · have := Int.mul_le_mul_of_nonneg_right j (show 0 ≤ d by omega); omega
    omega
  · subst k
    have : r = s := by
      rcases Int.lt_trichotomy r s with j | j | j
      · have := Int.mul_lt_mul_of_pos_right j hd; omega
      · exact j
      · have := Int.mul_lt_mul_of_pos_right j hd; omega
    omega
  · have a := Int.mul_lt_mul_of_pos_right k hc
    have : s < r := by
      rcases Int.lt_or_le s r with j | j
      · exact j
      · have := Int.mul_le_mul_of_nonneg_right j (show 0 ≤ d by omega); omega
    omega
theorem cmp_crit (a b u v : Int) (o : AnOk a b u v) (w : World) :
    Calls Try.prog 74 #[.int .i64 (a * a), .int .i64 (a * a + b * b), .int .i64 (lowN (u * u) (v * v)), .int .i64 (lowD (u * u) (v * v))] w fun e w' => e = .returned (.int .i64 (sg (bhN a v) (bhD a b u))) ∧ w = w' := by
  have nf := an_f o
  have v2 : 1 ≤ v * v ∧ v * v ≤ 100000000 := mul_in v v 1 10000 1 10000 (by omega) (by omega) (by have := o.v0; omega) o.v1 (by have := o.v0; omega) o.v1
  have l := low_f (u * u) (v * v) (by have := nf.f7; omega) v2.1
  have e : sg (a * a * lowD (u * u) (v * v)) (lowN (u * u) (v * v) * (a * a + b * b)) = sg (bhN a v) (bhD a b u) := by
    apply sg_scale _ _ _ _ (v * v) (lowD (u * u) (v * v)) (by omega) (by have := l.lb; omega)
    have q1 : a * a * lowD (u * u) (v * v) * (v * v) = bhN a v * lowD (u * u) (v * v) := by
      unfold bhN
      generalize lowD (u * u) (v * v) = y
      ac_rfl
    have q2 : lowN (u * u) (v * v) * (a * a + b * b) * (v * v) = bhD a b u * lowD (u * u) (v * v) := by
      have := l.le
      unfold bhD
      generalize a * a + b * b = p
      rw [show lowN (u * u) (v * v) * p * (v * v) = lowN (u * u) (v * v) * (v * v) * p by ac_rfl, this]
      ac_rfl
    omega
  rw [← e]
  have := l.la; have := l.lb; have := l.lc; have := l.ld; have := nf.f1; have := nf.f2; have := nf.f7
  exact compare_any _ _ _ _ w (by omega) (by omega) (by omega) (by omega) (by omega) (by omega) (by omega) (by omega)
theorem cmp_back (a b u v yn yd : Int) (o : AnOk a b u v) (he : yn * bhD a b u = bhN a v * yd) (y4 : 0 ≤ yn * u) (y5 : yn * u ≤ 10000000000000) (y6 : 1 ≤ yd * v) (y7 : yd * v ≤ 10000000000000) (w : World) :
    Calls Try.prog 74 #[.int .i64 (yn * u), .int .i64 (yd * v), .int .i64 (a * a * v), .int .i64 ((a * a + b * b) * u)] w fun e w' => e = .returned (.int .i64 0) ∧ w = w' := by
  have nf := an_f o
  have e : sg (yn * u * ((a * a + b * b) * u)) (a * a * v * (yd * v)) = 0 := by
    have q1 : yn * u * ((a * a + b * b) * u) = yn * bhD a b u := by unfold bhD; generalize a * a + b * b = p; ac_rfl
    have q2 : a * a * v * (yd * v) = bhN a v * yd := by unfold bhN; ac_rfl
    rw [q1, q2, he]; simp [sg]
  rw [← e]
  have := nf.f3; have := nf.f5
  exact compare_any _ _ _ _ w (by omega) (by omega) (by omega) (by omega) (by omega) (by omega) (by omega) (by omega)
theorem snell_any (a b u v : Int) (w : World) : Calls Try.prog 15 #[.agg #[.int .i64 a, .int .i64 b], .int .i64 u, .int .i64 v] w fun e w' => e = .returned (.bool true) ∧ Below w.heap.size w w' := by
  by_cases h : paE a b u v = 0
  · have o := paE_ok a b u v h
    have nf := an_f o
    have hu : unl (inB u 500 10000) 2 = 0 := (unl_inB _ _ _ _ (by decide)).2 ⟨o.u0, o.u1⟩
    have hv : unl (inB v 500 10000) 2 = 0 := (unl_inB _ _ _ _ (by decide)).2 ⟨o.v0, o.v1⟩
    have hp := fun w => passes_ok a b u v w h
    have hm := fun w => cmp_crit a b u v o w
    have sc := sg_cases (bhN a v) (bhD a b u)
    by_cases hk : bhN a v ≤ bhD a b u
    · rw [decide_eq_true hk] at hp
      have l := low_f (bhN a v) (bhD a b u) nf.f4.1 nf.f6.1
      have ll := low_le (bhN a v) (bhD a b u) nf.f4.1 nf.f6.1 hk
      have beh : (∀ w, Calls Try.prog 69 #[.agg #[.int .i64 a, .int .i64 b], .int .i64 u, .int .i64 v] w fun e w' => e = .returned (.tuple #[.agg #[.int .i64 0, .int .i64 0], .int .i64 8]) ∧ Below w.heap.size w w') ∨
          (∃ yn yd : Int, 0 ≤ yn ∧ yn ≤ yd ∧ yd ≤ 1000000000 ∧ 1 ≤ yd ∧ yn * bhD a b u = bhN a v * yd ∧ ∀ w, Calls Try.prog 69 #[.agg #[.int .i64 a, .int .i64 b], .int .i64 u, .int .i64 v] w fun e w' => e = .returned (.tuple #[.agg #[.int .i64 yn, .int .i64 yd], .int .i64 0]) ∧ Below w.heap.size w w') := by
        by_cases h1 : 1000000000 < lowN (bhN a v) (bhD a b u)
        · exact Or.inl fun w => behindSq_num a b u v h hk h1 w
        · by_cases h2 : 1000000000 < lowD (bhN a v) (bhD a b u)
          · exact Or.inl fun w => behindSq_den a b u v h hk h1 h2 w
          · exact Or.inr ⟨_, _, l.la, ll, by omega, l.lb, l.le, fun w => behindSq_ok a b u v h hk h1 h2 w⟩
      by_cases hlt : u < v
      · have e : csE u v = 0 := by unfold csE; rw [hu, hv, decide_eq_true hlt]; rfl
        have hc := fun w => critical_ok u v w e
        have s2 : sg (bhN a v) (bhD a b u) = -1 ∨ sg (bhN a v) (bhD a b u) = 0 := by omega
        rcases beh with hb | ⟨yn, yd, y0, y1, y2, y3, ye, hb⟩
        · rcases s2 with s2 | s2
          · rw [s2] at hm; exact snell_m_large a b u v nf _ _ hp hc hb hm w
          · rw [s2] at hm; exact snell_z_large a b u v nf _ _ hp hc hb hm w
        · have z1 := mul_in yn u 0 1000000000 1 10000 (by omega) (by omega) y0 (by omega) (by have := o.u0; omega) o.u1
          have z2 := mul_in yd v 1 1000000000 1 10000 (by omega) (by omega) y3 (by omega) (by have := o.v0; omega) o.v1
          have hn := fun w => cmp_back a b u v yn yd o ye (by omega) (by omega) (by omega) (by omega) w
          rcases s2 with s2 | s2
          · rw [s2] at hm; exact snell_m_ok a b u v nf _ _ yn yd y0 y1 y2 y3 (by omega) (by omega) (by omega) (by omega) hp hc hb hm hn w
          · rw [s2] at hm; exact snell_z_ok a b u v nf _ _ yn yd y0 y1 y2 y3 (by omega) (by omega) (by omega) (by omega) hp hc hb hm hn w
      · have e : csE u v = 12 := by unfold csE; rw [hu, hv, decide_eq_false hlt]; rfl
        have hc : ∀ w, Calls Try.prog 67 #[.int .i64 u, .int .i64 v] w fun e w' => e = .returned (.tuple #[.agg #[.int .i64 0, .int .i64 0], .int .i64 12]) ∧ Below w.heap.size w w' := by
          intro w
          have := critical_bad u v w (by rw [e]; decide)
          rwa [e] at this
        rcases beh with hb | ⟨yn, yd, y0, y1, y2, y3, ye, hb⟩
        · exact snell_n_large a b u v nf hp hc hb w
        · have z1 := mul_in yn u 0 1000000000 1 10000 (by omega) (by omega) y0 (by omega) (by have := o.u0; omega) o.u1
          have z2 := mul_in yd v 1 1000000000 1 10000 (by omega) (by omega) y3 (by omega) (by have := o.v0; omega) o.v1
          have hn := fun w => cmp_back a b u v yn yd o ye (by omega) (by omega) (by omega) (by omega) w
          exact snell_n_ok a b u v nf yn yd y0 y1 y2 y3 (by omega) (by omega) (by omega) (by omega) hp hc hb hn w
    · rw [decide_eq_false hk] at hp
      have hlt : u < v := by
        rcases Int.lt_or_le u v with j | j
        · exact j
        · refine absurd ?_ hk
          unfold bhN bhD
          have b1 := nf.f1; have b2 := nf.f2; have b3 := nf.f3; have b5 := nf.f5; have := o.v0
          exact mul_le _ _ _ _ b3.1 (by omega) (mul_le _ _ _ _ b1.1 (by omega) (by omega) j) j
      have e : csE u v = 0 := by unfold csE; rw [hu, hv, decide_eq_true hlt]; rfl
      have hc := fun w => critical_ok u v w e
      have s2 : sg (bhN a v) (bhD a b u) = 1 := by omega
      rw [s2] at hm
      exact snell_p_none a b u v nf _ _ hp hc (fun w => behindSq_bad a b u v false 0 12 (by decide) (by decide) w hp) hm w
  · exact snell_1 a b u v _ h (fun w => passes_bad a b u v w h) w
end Go.Proofs.Ytdicndakelgoeaa
