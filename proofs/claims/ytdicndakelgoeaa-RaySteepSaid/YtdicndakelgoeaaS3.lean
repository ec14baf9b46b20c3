/- RaySteep: the walk -/
import Derived.Test.YtdicndakelgoeaaS2
namespace Go.Proofs.Ytdicndakelgoeaa
open Go.RowKit RayM
set_option linter.unusedSimpArgs false
set_option linter.unusedVariables false
theorem st_facts (n d : Int) (h : stE n d = 0) : 0 ≤ n ∧ n ≤ 1000000000 ∧ 1 ≤ d ∧ d ≤ 1000000000 := by
  unfold stE at h
  cases hl : lowB n d
  · rw [hl] at h; simp at h
  · rw [hl] at h
    have hd : 0 < d := by unfold lowB at hl; simp at hl; exact hl.1
    cases hi : (inB n 0 1000000000 && decide (d ≤ 1000000000))
    · rw [hi] at h; simp [unl] at h
    · rw [Bool.and_eq_true, decide_eq_true_eq, inB_iff] at hi
      omega
theorem steep_both (a b n d m k : Int) (in0 : I64 n) (id0 : I64 d) (im0 : I64 m) (ik0 : I64 k) (hd : dirE a b = 0) : ∃ (bb : Bool) (r : Int),
    (∀ w, Calls Try.prog 75 #[.agg #[.int .i64 a, .int .i64 b], .agg #[.int .i64 n, .int .i64 d], .agg #[.int .i64 m, .int .i64 k]] w fun e w' => e = .returned (.tuple #[.bool bb, .int .i64 r]) ∧ Below w.heap.size w w') ∧ (∀ w, Calls Try.prog 76 #[.agg #[.int .i64 a, .int .i64 b], .agg #[.int .i64 n, .int .i64 d], .agg #[.int .i64 m, .int .i64 k]] w fun e w' => e = .returned (.tuple #[.bool bb, .int .i64 r]) ∧ Below w.heap.size w w') := by
  by_cases h : fst [stE n d, stE m k] = 0
  · have h3 : fst [dirE a b, stE n d, stE m k] = 0 := by rw [hd]; exact h
    have z := (fst_zero [stE n d, stE m k]).1 h
    simp only [List.mem_cons, List.not_mem_nil, or_false, forall_eq_or_imp, forall_eq] at z
    obtain ⟨n0, n1, d0, d1⟩ := st_facts n d z.1
    obtain ⟨m0, m1, k0, k1⟩ := st_facts m k z.2
    have hd' := hd
    unfold dirE at hd'
    rw [fst_zero] at hd'
    simp only [List.mem_cons, List.not_mem_nil, or_false, forall_eq_or_imp, forall_eq, unl_inB _ _ _ _ (show (2 : Int) ≠ 0 by decide)] at hd'
    obtain ⟨⟨a0, a1⟩, ⟨b0, b1⟩⟩ := hd'
    have o : SwOk (a.natAbs : Int) b n d m k := ⟨by omega, by omega, b0, b1, n0, n1, d0, d1, m0, m1, k0, k1⟩
    have sc := sg_cases (n * k) (m * d)
    by_cases hk : m * d < n * k
    · exact ⟨false, 9, fun w => sw_order a b n d m k in0 id0 im0 ik0 o h3 hk w, fun w => rsw_order a b n d m k in0 id0 im0 ik0 o h (by omega) w⟩
    · have s2 : sg (n * k) (m * d) = -1 ∨ sg (n * k) (m * d) = 0 := by omega
      by_cases c1 : n * b ≤ a.natAbs * d
      · by_cases c2 : a.natAbs * k ≤ m * b
        · refine ⟨true, 0, fun w => sw_yy a b n d m k in0 id0 im0 ik0 o h3 hk c1 c2 w, fun w => ?_⟩
          rcases s2 with s2 | s2
          · exact rsw_m_yy a b n d m k in0 id0 im0 ik0 o h s2 c1 c2 w
          · exact rsw_z_yy a b n d m k in0 id0 im0 ik0 o h s2 c1 c2 w
        · refine ⟨false, 0, fun w => sw_yn a b n d m k in0 id0 im0 ik0 o h3 hk c1 c2 w, fun w => ?_⟩
          rcases s2 with s2 | s2
          · exact rsw_m_yn a b n d m k in0 id0 im0 ik0 o h s2 c1 c2 w
          · exact rsw_z_yn a b n d m k in0 id0 im0 ik0 o h s2 c1 c2 w
      · refine ⟨false, 0, fun w => sw_n a b n d m k in0 id0 im0 ik0 o h3 hk c1 w, fun w => ?_⟩
        rcases s2 with s2 | s2
        · exact rsw_m_n a b n d m k in0 id0 im0 ik0 o h s2 c1 w
        · exact rsw_z_n a b n d m k in0 id0 im0 ik0 o h s2 c1 w
  · have h3 : fst [dirE a b, stE n d, stE m k] = fst [stE n d, stE m k] := by rw [hd]; rfl
    exact ⟨false, _, fun w => sw_bad a b n d m k in0 id0 im0 ik0 _ h h3 w, fun w => rsw_bad a b n d m k in0 id0 im0 ik0 _ h rfl w⟩
set_option maxRecDepth 100000 in
set_option maxHeartbeats 1000000 in
theorem steep_1 (a b n d m k : Int) (h13 : (∀ w, Calls Try.prog 75 #[.agg #[.int .i64 a, .int .i64 b], .agg #[.int .i64 n, .int .i64 d], .agg #[.int .i64 m, .int .i64 k]] w fun e w' => e = .returned (.tuple #[.bool false, .int .i64 2]) ∧ Below w.heap.size w w')) (h14 : (∀ w, Calls Try.prog 71 #[.agg #[.int .i64 a, .int .i64 b]] w fun e w' => e = .returned (.int .i64 2) ∧ Below w.heap.size w w')) (w : World) :
    Calls Try.prog 16 #[.agg #[.int .i64 a, .int .i64 b], .agg #[.int .i64 n, .int .i64 d], .agg #[.int .i64 m, .int .i64 k]] w fun e w' => e = .returned (.bool true) ∧ Below w.heap.size w w' := by
  have HA := Lib.hid h13; have HB := Lib.hid h14; clear h13 h14
  go_enter Try.func16, Try.ntmps16
  go_wp2_with fail
  refine (awake_any _).mono ?_
  rintro e w1 ⟨rfl, hb1⟩
  have qw10 : w1.cell? ⟨w.heap.size, 0, none⟩ = some (.int .i64 a) := cell_later hb1 (by simp [go_sem])
  have qw11 : w1.cell? ⟨w.heap.size, 1, none⟩ = some (.int .i64 b) := cell_later hb1 (by simp [go_sem])
  have qw12 : w1.cell? ⟨w.heap.size + 1, 0, none⟩ = some (.int .i64 n) := cell_later hb1 (by simp [go_sem])
  have qw13 : w1.cell? ⟨w.heap.size + 1, 1, none⟩ = some (.int .i64 d) := cell_later hb1 (by simp [go_sem])
  have qw14 : w1.cell? ⟨w.heap.size + 1 + 1, 0, none⟩ = some (.int .i64 m) := cell_later hb1 (by simp [go_sem])
  have qw15 : w1.cell? ⟨w.heap.size + 1 + 1, 1, none⟩ = some (.int .i64 k) := cell_later hb1 (by simp [go_sem])
  have zqw1_0 := World.block_lt_of_cell? _ _ qw10
  dsimp only at zqw1_0
  have zqw1_2 := World.block_lt_of_cell? _ _ qw12
  dsimp only at zqw1_2
  have zqw1_4 := World.block_lt_of_cell? _ _ qw14
  dsimp only at zqw1_4
  have H1 := Lib.hid (below_after (by repeat (first | exact Below.refl _ _ | refine Below.drew ?_ | refine below_drewN ?_ _ | refine Below.setCell ?_ (by first | omega | (simp; done) | (simp; omega)) _ | refine Below.alloc ?_ (by first | omega | (simp; done) | (simp; omega)) _)) hb1 (by first | omega | (simp; done) | (simp; omega)) : Below w.heap.size w w1); clear hb1
  go_wp2_with fail
  refine (HA.out _).mono ?_
  rintro e w2 ⟨rfl, hb2⟩
  have qw20 : w2.cell? ⟨w.heap.size, 0, none⟩ = some (.int .i64 a) := cell_later hb2 (by simp [go_sem, World.cell?_alloc_past, World.frozen?_alloc_past, *])
  have qw21 : w2.cell? ⟨w.heap.size, 1, none⟩ = some (.int .i64 b) := cell_later hb2 (by simp [go_sem, World.cell?_alloc_past, World.frozen?_alloc_past, *])
  have qw22 : w2.cell? ⟨w.heap.size + 1, 0, none⟩ = some (.int .i64 n) := cell_later hb2 (by simp [go_sem, World.cell?_alloc_past, World.frozen?_alloc_past, *])
  have qw23 : w2.cell? ⟨w.heap.size + 1, 1, none⟩ = some (.int .i64 d) := cell_later hb2 (by simp [go_sem, World.cell?_alloc_past, World.frozen?_alloc_past, *])
  have qw24 : w2.cell? ⟨w.heap.size + 1 + 1, 0, none⟩ = some (.int .i64 m) := cell_later hb2 (by simp [go_sem, World.cell?_alloc_past, World.frozen?_alloc_past, *])
  have qw25 : w2.cell? ⟨w.heap.size + 1 + 1, 1, none⟩ = some (.int .i64 k) := cell_later hb2 (by simp [go_sem, World.cell?_alloc_past, World.frozen?_alloc_past, *])
  have zqw2_0 := World.block_lt_of_cell? _ _ qw20
  dsimp only at zqw2_0
  have zqw2_2 := World.block_lt_of_cell? _ _ qw22
  dsimp only at zqw2_2
  have zqw2_4 := World.block_lt_of_cell? _ _ qw24
  dsimp only at zqw2_4
  have H2 : Hid (Below w.heap.size w w2) := Lib.hid (below_then (by (repeat (first | (with_reducible exact H1.out) | (with_reducible refine Below.setCell ?_ ?_ _) | (with_reducible refine below_alloc_top ?_ _) | (with_reducible refine Below.drew ?_))); all_goals (first | omega | (simp; done) | (simp; omega))) hb2); clear hb2
  go_wp2_with fail
  refine (HB.out _).mono ?_
  rintro e w3 ⟨rfl, hb3⟩
  have qw30 : w3.cell? ⟨w.heap.size, 0, none⟩ = some (.int .i64 a) := cell_later hb3 (by simp [go_sem, World.cell?_alloc_past, World.frozen?_alloc_past, *])
  have qw31 : w3.cell? ⟨w.heap.size, 1, none⟩ = some (.int .i64 b) := cell_later hb3 (by simp [go_sem, World.cell?_alloc_past, World.frozen?_alloc_past, *])
  have qw32 : w3.cell? ⟨w.heap.size + 1, 0, none⟩ = some (.int .i64 n) := cell_later hb3 (by simp [go_sem, World.cell?_alloc_past, World.frozen?_alloc_past, *])
  have qw33 : w3.cell? ⟨w.heap.size + 1, 1, none⟩ = some (.int .i64 d) := cell_later hb3 (by simp [go_sem, World.cell?_alloc_past, World.frozen?_alloc_past, *])
  have qw34 : w3.cell? ⟨w.heap.size + 1 + 1, 0, none⟩ = some (.int .i64 m) := cell_later hb3 (by simp [go_sem, World.cell?_alloc_past, World.frozen?_alloc_past, *])
  have qw35 : w3.cell? ⟨w.heap.size + 1 + 1, 1, none⟩ = some (.int .i64 k) := cell_later hb3 (by simp [go_sem, World.cell?_alloc_past, World.frozen?_alloc_past, *])
  have zqw3_0 := World.block_lt_of_cell? _ _ qw30
  dsimp only at zqw3_0
  have zqw3_2 := World.block_lt_of_cell? _ _ qw32
  dsimp only at zqw3_2
  have zqw3_4 := World.block_lt_of_cell? _ _ qw34
  dsimp only at zqw3_4
  have H3 : Hid (Below w.heap.size w w3) := Lib.hid (below_then (by (repeat (first | (with_reducible exact H2.out) | (with_reducible refine Below.setCell ?_ ?_ _) | (with_reducible refine below_alloc_top ?_ _) | (with_reducible refine Below.drew ?_))); all_goals (first | omega | (simp; done) | (simp; omega))) hb3); clear hb3
  go_wp2
  go_ret
  exact ⟨rfl, H3.out⟩
set_option maxRecDepth 100000 in
set_option maxHeartbeats 1000000 in
theorem steep_2 (a b n d m k : Int) (bb : Bool) (r : Int) (h13 : (∀ w, Calls Try.prog 75 #[.agg #[.int .i64 a, .int .i64 b], .agg #[.int .i64 n, .int .i64 d], .agg #[.int .i64 m, .int .i64 k]] w fun e w' => e = .returned (.tuple #[.bool bb, .int .i64 r]) ∧ Below w.heap.size w w')) (h14 : (∀ w, Calls Try.prog 71 #[.agg #[.int .i64 a, .int .i64 b]] w fun e w' => e = .returned (.int .i64 0) ∧ Below w.heap.size w w')) (h15 : (∀ w, Calls Try.prog 76 #[.agg #[.int .i64 a, .int .i64 b], .agg #[.int .i64 n, .int .i64 d], .agg #[.int .i64 m, .int .i64 k]] w fun e w' => e = .returned (.tuple #[.bool bb, .int .i64 r]) ∧ Below w.heap.size w w')) (w : World) :
    Calls Try.prog 16 #[.agg #[.int .i64 a, .int .i64 b], .agg #[.int .i64 n, .int .i64 d], .agg #[.int .i64 m, .int .i64 k]] w fun e w' => e = .returned (.bool true) ∧ Below w.heap.size w w' := by
  have HA := Lib.hid h13; have HB := Lib.hid h14; have HC := Lib.hid h15; clear h13 h14 h15
  go_enter Try.func16, Try.ntmps16
  go_wp2_with fail
  refine (awake_any _).mono ?_
  rintro e w1 ⟨rfl, hb1⟩
  have qw10 : w1.cell? ⟨w.heap.size, 0, none⟩ = some (.int .i64 a) := cell_later hb1 (by simp [go_sem])
  have qw11 : w1.cell? ⟨w.heap.size, 1, none⟩ = some (.int .i64 b) := cell_later hb1 (by simp [go_sem])
  have qw12 : w1.cell? ⟨w.heap.size + 1, 0, none⟩ = some (.int .i64 n) := cell_later hb1 (by simp [go_sem])
  have qw13 : w1.cell? ⟨w.heap.size + 1, 1, none⟩ = some (.int .i64 d) := cell_later hb1 (by simp [go_sem])
  have qw14 : w1.cell? ⟨w.heap.size + 1 + 1, 0, none⟩ = some (.int .i64 m) := cell_later hb1 (by simp [go_sem])
  have qw15 : w1.cell? ⟨w.heap.size + 1 + 1, 1, none⟩ = some (.int .i64 k) := cell_later hb1 (by simp [go_sem])
  have zqw1_0 := World.block_lt_of_cell? _ _ qw10
  dsimp only at zqw1_0
  have zqw1_2 := World.block_lt_of_cell? _ _ qw12
  dsimp only at zqw1_2
  have zqw1_4 := World.block_lt_of_cell? _ _ qw14
  dsimp only at zqw1_4
  have H1 := Lib.hid (below_after (by repeat (first | exact Below.refl _ _ | refine Below.drew ?_ | refine below_drewN ?_ _ | refine Below.setCell ?_ (by first | omega | (simp; done) | (simp; omega)) _ | refine Below.alloc ?_ (by first | omega | (simp; done) | (simp; omega)) _)) hb1 (by first | omega | (simp; done) | (simp; omega)) : Below w.heap.size w w1); clear hb1
  go_wp2_with fail
  refine (HA.out _).mono ?_
  rintro e w2 ⟨rfl, hb2⟩
  have qw20 : w2.cell? ⟨w.heap.size, 0, none⟩ = some (.int .i64 a) := cell_later hb2 (by simp [go_sem, World.cell?_alloc_past, World.frozen?_alloc_past, *])
  have qw21 : w2.cell? ⟨w.heap.size, 1, none⟩ = some (.int .i64 b) := cell_later hb2 (by simp [go_sem, World.cell?_alloc_past, World.frozen?_alloc_past, *])
  have qw22 : w2.cell? ⟨w.heap.size + 1, 0, none⟩ = some (.int .i64 n) := cell_later hb2 (by simp [go_sem, World.cell?_alloc_past, World.frozen?_alloc_past, *])
  have qw23 : w2.cell? ⟨w.heap.size + 1, 1, none⟩ = some (.int .i64 d) := cell_later hb2 (by simp [go_sem, World.cell?_alloc_past, World.frozen?_alloc_past, *])
  have qw24 : w2.cell? ⟨w.heap.size + 1 + 1, 0, none⟩ = some (.int .i64 m) := cell_later hb2 (by simp [go_sem, World.cell?_alloc_past, World.frozen?_alloc_past, *])
  have qw25 : w2.cell? ⟨w.heap.size + 1 + 1, 1, none⟩ = some (.int .i64 k) := cell_later hb2 (by simp [go_sem, World.cell?_alloc_past, World.frozen?_alloc_past, *])
  have zqw2_0 := World.block_lt_of_cell? _ _ qw20
  dsimp only at zqw2_0
  have zqw2_2 := World.block_lt_of_cell? _ _ qw22
  dsimp only at zqw2_2
  have zqw2_4 := World.block_lt_of_cell? _ _ qw24
  dsimp only at zqw2_4
  have H2 : Hid (Below w.heap.size w w2) := Lib.hid (below_then (by (repeat (first | (with_reducible exact H1.out) | (with_reducible refine Below.setCell ?_ ?_ _) | (with_reducible refine below_alloc_top ?_ _) | (with_reducible refine Below.drew ?_))); all_goals (first | omega | (simp; done) | (simp; omega))) hb2); clear hb2
  go_wp2_with fail
  refine (HB.out _).mono ?_
  rintro e w3 ⟨rfl, hb3⟩
  have qw30 : w3.cell? ⟨w.heap.size, 0, none⟩ = some (.int .i64 a) := cell_later hb3 (by simp [go_sem, World.cell?_alloc_past, World.frozen?_alloc_past, *])
  have qw31 : w3.cell? ⟨w.heap.size, 1, none⟩ = some (.int .i64 b) := cell_later hb3 (by simp [go_sem, World.cell?_alloc_past, World.frozen?_alloc_past, *])
  have qw32 : w3.cell? ⟨w.heap.size + 1, 0, none⟩ = some (.int .i64 n) := cell_later hb3 (by simp [go_sem, World.cell?_alloc_past, World.frozen?_alloc_past, *])
  have qw33 : w3.cell? ⟨w.heap.size + 1, 1, none⟩ = some (.int .i64 d) := cell_later hb3 (by simp [go_sem, World.cell?_alloc_past, World.frozen?_alloc_past, *])
  have qw34 : w3.cell? ⟨w.heap.size + 1 + 1, 0, none⟩ = some (.int .i64 m) := cell_later hb3 (by simp [go_sem, World.cell?_alloc_past, World.frozen?_alloc_past, *])
  have qw35 : w3.cell? ⟨w.heap.size + 1 + 1, 1, none⟩ = some (.int .i64 k) := cell_later hb3 (by simp [go_sem, World.cell?_alloc_past, World.frozen?_alloc_past, *])
  have zqw3_0 := World.block_lt_of_cell? _ _ qw30
  dsimp only at zqw3_0
  have zqw3_2 := World.block_lt_of_cell? _ _ qw32
  dsimp only at zqw3_2
  have zqw3_4 := World.block_lt_of_cell? _ _ qw34
  dsimp only at zqw3_4
  have H3 : Hid (Below w.heap.size w w3) := Lib.hid (below_then (by (repeat (first | (with_reducible exact H2.out) | (with_reducible refine Below.setCell ?_ ?_ _) | (with_reducible refine below_alloc_top ?_ _) | (with_reducible refine Below.drew ?_))); all_goals (first | omega | (simp; done) | (simp; omega))) hb3); clear hb3
  go_wp2_with fail
  refine (HC.out _).mono ?_
  rintro e w4 ⟨rfl, hb4⟩
  have qw40 : w4.cell? ⟨w.heap.size, 0, none⟩ = some (.int .i64 a) := cell_later hb4 (by simp [go_sem, World.cell?_alloc_past, World.frozen?_alloc_past, *])
  have qw41 : w4.cell? ⟨w.heap.size, 1, none⟩ = some (.int .i64 b) := cell_later hb4 (by simp [go_sem, World.cell?_alloc_past, World.frozen?_alloc_past, *])
  have qw42 : w4.cell? ⟨w.heap.size + 1, 0, none⟩ = some (.int .i64 n) := cell_later hb4 (by simp [go_sem, World.cell?_alloc_past, World.frozen?_alloc_past, *])
  have qw43 : w4.cell? ⟨w.heap.size + 1, 1, none⟩ = some (.int .i64 d) := cell_later hb4 (by simp [go_sem, World.cell?_alloc_past, World.frozen?_alloc_past, *])
  have qw44 : w4.cell? ⟨w.heap.size + 1 + 1, 0, none⟩ = some (.int .i64 m) := cell_later hb4 (by simp [go_sem, World.cell?_alloc_past, World.frozen?_alloc_past, *])
  have qw45 : w4.cell? ⟨w.heap.size + 1 + 1, 1, none⟩ = some (.int .i64 k) := cell_later hb4 (by simp [go_sem, World.cell?_alloc_past, World.frozen?_alloc_past, *])
  have zqw4_0 := World.block_lt_of_cell? _ _ qw40
  dsimp only at zqw4_0
  have zqw4_2 := World.block_lt_of_cell? _ _ qw42
  dsimp only at zqw4_2
  have zqw4_4 := World.block_lt_of_cell? _ _ qw44
  dsimp only at zqw4_4
  have H4 : Hid (Below w.heap.size w w4) := Lib.hid (below_then (by (repeat (first | (with_reducible exact H3.out) | (with_reducible refine Below.setCell ?_ ?_ _) | (with_reducible refine below_alloc_top ?_ _) | (with_reducible refine Below.drew ?_))); all_goals (first | omega | (simp; done) | (simp; omega))) hb4); clear hb4
  go_wp2
  go_ret
  exact ⟨rfl, H4.out⟩
theorem steep_any (a b n d m k : Int) (in0 : I64 n) (id0 : I64 d) (im0 : I64 m) (ik0 : I64 k) (w : World) :
    Calls Try.prog 16 #[.agg #[.int .i64 a, .int .i64 b], .agg #[.int .i64 n, .int .i64 d], .agg #[.int .i64 m, .int .i64 k]] w fun e w' => e = .returned (.bool true) ∧ Below w.heap.size w w' := by
  have sd := fun w => dirErr_any a b w
  by_cases hd : dirE a b = 0
  · obtain ⟨bb, r, h1, h2⟩ := steep_both a b n d m k in0 id0 im0 ik0 hd
    rw [hd] at sd
    exact steep_2 a b n d m k bb r h1 sd h2 w
  · have h2 : dirE a b = 2 := by
      have := dirE_eq a b
      rw [this] at hd ⊢
      cases hb : (inB a (-1000) 1000 && inB b 1 1000)
      · rfl
      · rw [hb] at hd; exact absurd rfl hd
    have h3 : fst [dirE a b, stE n d, stE m k] = 2 := by rw [h2]; rfl
    rw [h2] at sd
    exact steep_1 a b n d m k (fun w => sw_bad a b n d m k in0 id0 im0 ik0 2 (by decide) h3 w) sd w
end Go.Proofs.Ytdicndakelgoeaa
