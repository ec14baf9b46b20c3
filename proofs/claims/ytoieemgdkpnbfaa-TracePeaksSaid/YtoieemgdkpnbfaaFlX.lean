/- the first square of a gate -/
import Derived.Test.YtoieemgdkpnbfaaFlV
namespace Go.Proofs.Ytoieemgdkpnbfaa
open Go.RowKit RayM
set_option linter.unusedSimpArgs false
set_option linter.unusedVariables false
theorem fnd_cases (s : Nat → Int) (q : Int) : ∀ m k, (∃ j, j < m ∧ fnd s q k m = (k + j, 0)) ∨ fnd s q k m = (0, 12)
  | 0, k => .inr rfl
  | m + 1, k => by
    by_cases h : q ≤ s k
    · exact .inl ⟨0, by omega, by show (if q ≤ s k then (k, 0) else _) = _; rw [if_pos h]; rfl⟩
    · have e : fnd s q k (m + 1) = fnd s q (k + 1) m := by show (if q ≤ s k then (k, 0) else fnd s q (k + 1) m) = _; rw [if_neg h]
      rcases fnd_cases s q m (k + 1) with ⟨j, hj, r⟩ | r
      · exact .inl ⟨j + 1, by omega, by rw [e, r]; congr 1; omega⟩
      · exact .inr (by rw [e, r])
theorem indexFunc_yes (s : Nat → Int) (q : Int) (b F n c B j : Nat) (w : World) (hn : F + n ≤ 61) (hs : VAt b 61 (fun i => .int .i64 (s i)) w) (h : w.cell? ⟨B, 0, none⟩ = some (.int .i64 q)) (hj : fnd s q F n = (F + j, 0)) :
    Calls Try.prog 68 #[.slice (some ⟨b, F, none⟩) n c, .func (.func 69) #[] #[.pointer (some ⟨B, 0, none⟩)]] w fun e w' => e = .returned (.int .i64 (j : Int)) ∧ w' = w := by
  have := indexFunc_any s q b F n c B w hn hs h
  rw [hj] at this
  dsimp only at this
  rw [if_pos rfl, show ((F + j : Nat) : Int) - F = j by omega] at this
  exact this
theorem indexFunc_no (s : Nat → Int) (q : Int) (b F n c B : Nat) (w : World) (hn : F + n ≤ 61) (hs : VAt b 61 (fun i => .int .i64 (s i)) w) (h : w.cell? ⟨B, 0, none⟩ = some (.int .i64 q)) (hj : fnd s q F n = (0, 12)) :
    Calls Try.prog 68 #[.slice (some ⟨b, F, none⟩) n c, .func (.func 69) #[] #[.pointer (some ⟨B, 0, none⟩)]] w fun e w' => e = .returned (.int .i64 (-1)) ∧ w' = w := by
  have := indexFunc_any s q b F n c B w hn hs h
  rw [hj] at this
  exact this
set_option maxRecDepth 100000 in
set_option maxHeartbeats 4000000 in
theorem tFirstAbove_yes (l : Nat → Int) (F T : Nat) (q : Int) (w : World) (hl : ∀ i, i < 64 → -2047 ≤ l i ∧ l i ≤ 2047) (hF : F ≤ T) (hT : T ≤ 60) (hq : 0 ≤ q) (j : Nat) (hj : fnd (sqA l) q F (T + 1 - F) = (F + j, 0)) (hj2 : F + j ≤ T) :
    Calls Try.prog 31 #[.agg (vls 64 (fv l)).toArray, .agg #[.int .i64 (F : Int), .int .i64 (T : Int)], .int .i64 q] w fun e w' => e = .returned (.tuple #[.int .i64 ((F + j : Nat) : Int), .int .i64 0]) ∧ Below w.heap.size w w' := by
  have HJ := Lib.hid hj; clear hj
  have HA := Lib.hid (fun w => envelope_any l (few_in hl) w)
  rw [(ctE_zero l).2 hl] at HA
  simp only [if_true] at HA
  have HG := Lib.hid (fun w => gateErr_any (F : Int) (T : Int) w)
  rw [(gaE_zero (F : Int) (T : Int)).2 ⟨by omega, by omega, by omega⟩] at HG
  have EF : Hid (fst [0, 0, 0] = 0) := (rfl : fst [0, 0, 0] = 0)
  have hu : unl (decide (0 ≤ q)) 2 = 0 := by rw [decide_eq_true hq]; rfl
  have hd : decide (0 ≤ q) = true := by simpa using hq
  go_enter Try.func31, Try.ntmps31
  go_wp2_with (first
    | ((with_reducible refine wpList_box_named rfl 26 _ rfl 3 rfl 64 (fv l) rfl ?_); intro w1 N1; have s1 := N1.size; have ct1 := N1.at'; have zt1 := N1.free; have b1 : Hid (Below w.heap.size w w1) := Lib.hid N1.below; clear N1)
    | ((with_reducible refine wpList_box_lit rfl 63 _ rfl 4 rfl #[.int .i64 (F : Int), .int .i64 (T : Int)] rfl ?_); intro w2 N2; have s2 := N2.size; have ct2 := ct1.later N2.below; have zt2 := zt1.later ct1 N2.below; have cg2 := N2.at'; have zg2 := N2.free; have b2 : Hid (Below w.heap.size w w2) := Lib.hid (below_then b1.out N2.below); clear N2; rw [s1] at s2 cg2 zg2; have yg0_2 : w2.cell? ⟨w.heap.size + 1, 0, none⟩ = some (.int .i64 (F : Int)) := cg2 0 (by simp); have xg0_2 : w2.frozen? ⟨w.heap.size + 1, 0, none⟩ = false := zg2 0 (by simp); have yg1_2 : w2.cell? ⟨w.heap.size + 1, 1, none⟩ = some (.int .i64 (T : Int)) := cg2 1 (by simp); have xg1_2 : w2.frozen? ⟨w.heap.size + 1, 1, none⟩ = false := zg2 1 (by simp))
    | ((with_reducible refine wpList_box_int rfl 3 _ rfl 5 rfl q rfl ?_); intro w3 N3; have s3 := N3.size; have ct3 := ct2.later N3.below; have zt3 := zt2.later ct2 N3.below; have cg3 := cg2.later N3.below; have zg3 := zg2.later cg2 N3.below; have cx3 := N3.at'; have zx3 := N3.free; have b3 : Hid (Below w.heap.size w w3) := Lib.hid (below_then b2.out N3.below); clear N3; rw [s2] at s3 cx3 zx3; clear yg0_2 xg0_2 yg1_2 xg1_2; have yg0_3 : w3.cell? ⟨w.heap.size + 1, 0, none⟩ = some (.int .i64 (F : Int)) := cg3 0 (by simp); have xg0_3 : w3.frozen? ⟨w.heap.size + 1, 0, none⟩ = false := zg3 0 (by simp); have yg1_3 : w3.cell? ⟨w.heap.size + 1, 1, none⟩ = some (.int .i64 (T : Int)) := cg3 1 (by simp); have xg1_3 : w3.frozen? ⟨w.heap.size + 1, 1, none⟩ = false := zg3 1 (by simp); have yx0_3 : w3.cell? ⟨w.heap.size + 1 + 1, 0, none⟩ = some (.int .i64 q) := cx3 0 (by simp); have xx0_3 : w3.frozen? ⟨w.heap.size + 1 + 1, 0, none⟩ = false := zx3 0 (by simp))
    | (with_reducible refine wpList_load_at rfl 26 _ rfl _ 64 (fv l) rfl ct3 _ Try.underlying26 rfl infoV ?_)
    | (go_at_call 26; (with_reducible refine (HA.out _).mono ?_); rintro e w4 ⟨rfl, hb4⟩; have ct4 := ct3.later hb4; have zt4 := zt3.later ct3 hb4; have cg4 := cg3.later hb4; have zg4 := zg3.later cg3 hb4; have cx4 := cx3.later hb4; have zx4 := zx3.later cx3 hb4; have b4 : Hid (Below w.heap.size w w4) := Lib.hid (below_then b3.out hb4); have s4' := hb4.size; rw [s3] at s4'; clear yg0_3 xg0_3 yg1_3 xg1_3; clear yx0_3 xx0_3; have yg0_4 : w4.cell? ⟨w.heap.size + 1, 0, none⟩ = some (.int .i64 (F : Int)) := cg4 0 (by simp); have xg0_4 : w4.frozen? ⟨w.heap.size + 1, 0, none⟩ = false := zg4 0 (by simp); have yg1_4 : w4.cell? ⟨w.heap.size + 1, 1, none⟩ = some (.int .i64 (T : Int)) := cg4 1 (by simp); have xg1_4 : w4.frozen? ⟨w.heap.size + 1, 1, none⟩ = false := zg4 1 (by simp); have yx0_4 : w4.cell? ⟨w.heap.size + 1 + 1, 0, none⟩ = some (.int .i64 q) := cx4 0 (by simp); have xx0_4 : w4.frozen? ⟨w.heap.size + 1 + 1, 0, none⟩ = false := zx4 0 (by simp); have lg4 := World.block_lt_of_cell? _ _ yg0_4; dsimp only at lg4; have lx4 := World.block_lt_of_cell? _ _ yx0_4; dsimp only at lx4; clear hb4)
    | ((with_reducible refine wpList_alloc_named rfl 52 rfl 8 rfl 61 (ziv) zeroI ?_); intro w5 N5; have s5 := N5.size; have ct5 := ct4.later N5.below; have zt5 := zt4.later ct4 N5.below; have cg5 := cg4.later N5.below; have zg5 := zg4.later cg4 N5.below; have cx5 := cx4.later N5.below; have zx5 := zx4.later cx4 N5.below; have cs5 := N5.at'; have zs5 := N5.free; have b5 : Hid (Below w.heap.size w w5) := Lib.hid (below_then b4.out N5.below); clear N5; have s5' := Nat.le_of_eq s5.symm; clear yg0_4 xg0_4 yg1_4 xg1_4; clear yx0_4 xx0_4; have yg0_5 : w5.cell? ⟨w.heap.size + 1, 0, none⟩ = some (.int .i64 (F : Int)) := cg5 0 (by simp); have xg0_5 : w5.frozen? ⟨w.heap.size + 1, 0, none⟩ = false := zg5 0 (by simp); have yg1_5 : w5.cell? ⟨w.heap.size + 1, 1, none⟩ = some (.int .i64 (T : Int)) := cg5 1 (by simp); have xg1_5 : w5.frozen? ⟨w.heap.size + 1, 1, none⟩ = false := zg5 1 (by simp); have yx0_5 : w5.cell? ⟨w.heap.size + 1 + 1, 0, none⟩ = some (.int .i64 q) := cx5 0 (by simp); have xx0_5 : w5.frozen? ⟨w.heap.size + 1 + 1, 0, none⟩ = false := zx5 0 (by simp))
    | ((with_reducible refine wpList_store_at rfl 52 _ _ rfl _ 61 _ (sqv l) rfl rfl cs5 zs5 (fun _ _ => rfl) infoI ?_); intro w6 S6 B6 cs6 zs6 O6 P6; have ct6 := O6 _ _ _ (by omega) ct5; have zt6 := P6 _ _ zt5; have cg6 := O6 _ _ _ (by omega) cg5; have zg6 := P6 _ _ zg5; have cx6 := O6 _ _ _ (by omega) cx5; have zx6 := P6 _ _ zx5; have b6 : Hid (Below w.heap.size w w6) := Lib.hid (B6 _ _ (by omega) b5.out); have s6' := Nat.le_of_eq S6.symm; clear yg0_5 xg0_5 yg1_5 xg1_5; clear yx0_5 xx0_5; have yg0_6 : w6.cell? ⟨w.heap.size + 1, 0, none⟩ = some (.int .i64 (F : Int)) := cg6 0 (by simp); have xg0_6 : w6.frozen? ⟨w.heap.size + 1, 0, none⟩ = false := zg6 0 (by simp); have yg1_6 : w6.cell? ⟨w.heap.size + 1, 1, none⟩ = some (.int .i64 (T : Int)) := cg6 1 (by simp); have xg1_6 : w6.frozen? ⟨w.heap.size + 1, 1, none⟩ = false := zg6 1 (by simp); have yx0_6 : w6.cell? ⟨w.heap.size + 1 + 1, 0, none⟩ = some (.int .i64 q) := cx6 0 (by simp); have xx0_6 : w6.frozen? ⟨w.heap.size + 1 + 1, 0, none⟩ = false := zx6 0 (by simp); clear S6 B6 O6 P6))
  go_region_held3 (fun w' => w'.cell? ⟨w.heap.size + 1, 0, none⟩ = some (.int .i64 (F : Int)) ∧ w'.cell? ⟨w.heap.size + 1, 1, none⟩ = some (.int .i64 (T : Int)) ∧ w'.cell? ⟨w.heap.size + 1 + 1, 0, none⟩ = some (.int .i64 q) ∧ Below w6.heap.size w6 w') (((go_split_ands; (repeat' apply And.intro) <;> first | (with_reducible assumption) | (with_reducible exact (Below.refl _ _).drew) | exact cell_alloc_later (by with_reducible assumption) _ | exact cell_drew' (by with_reducible assumption) | exact cell_drew' (cell_alloc_later (by with_reducible assumption) _) | exact cell_later (by with_reducible assumption) (by with_reducible assumption) | exact below_then (by with_reducible assumption) (by with_reducible assumption) | exact below_alloc_top (by with_reducible assumption) _ | exact Below.drew (by with_reducible assumption) | exact Below.drew (below_alloc_top (by with_reducible assumption) _))))
    (first
      | (go_at_call 66; (with_reducible refine (HG.out _).mono ?_); rintro e w' ⟨rfl, hb⟩)
      | (go_at_call 67; (with_reducible refine (unless_any _ _ _).mono ?_); rintro e w' ⟨rfl, rfl⟩)
      | (go_at_call 50; refine (firstError_any _ [0, 0, 0] _ (by simp) (by first | exact cells_drew _ _ (by first | rfl | assumption | simp) _ _ | exact cells_new _ _ (by first | rfl | assumption | simp) _ _)).mono ?_; rw [EF.out]; rintro e w' ⟨rfl, rfl⟩))
  generalize w'.alloc (Obj.cells #[.int .i64 0, .int .i64 0, .int .i64 (unl true 2)] 28) = W1 at *
  go_split_ands
  have y0 : W1.cell? ⟨w.heap.size + 1, 0, none⟩ = some (.int .i64 (F : Int)) := by with_reducible assumption
  have y1 : W1.cell? ⟨w.heap.size + 1, 1, none⟩ = some (.int .i64 (T : Int)) := by with_reducible assumption
  have y2 : W1.cell? ⟨w.heap.size + 1 + 1, 0, none⟩ = some (.int .i64 q) := by with_reducible assumption
  have hb7 : Below w6.heap.size w6 W1 := by with_reducible assumption
  have cs7 := cs6.later hb7
  have b7 : Hid (Below w.heap.size w W1) := Lib.hid (below_then b6.out hb7)
  have k0 : (0 : Int) ≤ (F : Int) := Int.natCast_nonneg _
  have k1 : (F : Int) ≤ (T : Int) + 1 := by omega
  have k2 : (T : Int) + 1 ≤ 61 := by omega
  have k3 : (0 : Int) ≤ (T : Int) := Int.natCast_nonneg _
  go_wp2_with fail
  refine (indexFunc_yes (sqA l) q w4.heap.size F (T + 1 - F) _ _ _ _ (by omega) cs7 y2 HJ.out).mono ?_
  rintro e w'' ⟨rfl, rfl⟩
  have n0 : (0 : Int) ≤ (j : Int) := Int.natCast_nonneg _
  have n1 : ¬ (j : Int) < 0 := by omega
  have n2 : (F : Int) + (j : Int) ≤ 60 := by omega
  go_wp2
  go_ret2
  exact ⟨rfl, b7.out⟩
set_option maxRecDepth 100000 in
set_option maxHeartbeats 4000000 in
theorem tFirstAbove_no (l : Nat → Int) (F T : Nat) (q : Int) (w : World) (hl : ∀ i, i < 64 → -2047 ≤ l i ∧ l i ≤ 2047) (hF : F ≤ T) (hT : T ≤ 60) (hq : 0 ≤ q) (hj : fnd (sqA l) q F (T + 1 - F) = (0, 12)) :
    Calls Try.prog 31 #[.agg (vls 64 (fv l)).toArray, .agg #[.int .i64 (F : Int), .int .i64 (T : Int)], .int .i64 q] w fun e w' => e = .returned (.tuple #[.int .i64 0, .int .i64 12]) ∧ Below w.heap.size w w' := by
  have HJ := Lib.hid hj; clear hj
  have HA := Lib.hid (fun w => envelope_any l (few_in hl) w)
  rw [(ctE_zero l).2 hl] at HA
  simp only [if_true] at HA
  have HG := Lib.hid (fun w => gateErr_any (F : Int) (T : Int) w)
  rw [(gaE_zero (F : Int) (T : Int)).2 ⟨by omega, by omega, by omega⟩] at HG
  have EF : Hid (fst [0, 0, 0] = 0) := (rfl : fst [0, 0, 0] = 0)
  have hu : unl (decide (0 ≤ q)) 2 = 0 := by rw [decide_eq_true hq]; rfl
  have hd : decide (0 ≤ q) = true := by simpa using hq
  go_enter Try.func31, Try.ntmps31
  go_wp2_with (first
    | ((with_reducible refine wpList_box_named rfl 26 _ rfl 3 rfl 64 (fv l) rfl ?_); intro w1 N1; have s1 := N1.size; have ct1 := N1.at'; have zt1 := N1.free; have b1 : Hid (Below w.heap.size w w1) := Lib.hid N1.below; clear N1)
    | ((with_reducible refine wpList_box_lit rfl 63 _ rfl 4 rfl #[.int .i64 (F : Int), .int .i64 (T : Int)] rfl ?_); intro w2 N2; have s2 := N2.size; have ct2 := ct1.later N2.below; have zt2 := zt1.later ct1 N2.below; have cg2 := N2.at'; have zg2 := N2.free; have b2 : Hid (Below w.heap.size w w2) := Lib.hid (below_then b1.out N2.below); clear N2; rw [s1] at s2 cg2 zg2; have yg0_2 : w2.cell? ⟨w.heap.size + 1, 0, none⟩ = some (.int .i64 (F : Int)) := cg2 0 (by simp); have xg0_2 : w2.frozen? ⟨w.heap.size + 1, 0, none⟩ = false := zg2 0 (by simp); have yg1_2 : w2.cell? ⟨w.heap.size + 1, 1, none⟩ = some (.int .i64 (T : Int)) := cg2 1 (by simp); have xg1_2 : w2.frozen? ⟨w.heap.size + 1, 1, none⟩ = false := zg2 1 (by simp))
    | ((with_reducible refine wpList_box_int rfl 3 _ rfl 5 rfl q rfl ?_); intro w3 N3; have s3 := N3.size; have ct3 := ct2.later N3.below; have zt3 := zt2.later ct2 N3.below; have cg3 := cg2.later N3.below; have zg3 := zg2.later cg2 N3.below; have cx3 := N3.at'; have zx3 := N3.free; have b3 : Hid (Below w.heap.size w w3) := Lib.hid (below_then b2.out N3.below); clear N3; rw [s2] at s3 cx3 zx3; clear yg0_2 xg0_2 yg1_2 xg1_2; have yg0_3 : w3.cell? ⟨w.heap.size + 1, 0, none⟩ = some (.int .i64 (F : Int)) := cg3 0 (by simp); have xg0_3 : w3.frozen? ⟨w.heap.size + 1, 0, none⟩ = false := zg3 0 (by simp); have yg1_3 : w3.cell? ⟨w.heap.size + 1, 1, none⟩ = some (.int .i64 (T : Int)) := cg3 1 (by simp); have xg1_3 : w3.frozen? ⟨w.heap.size + 1, 1, none⟩ = false := zg3 1 (by simp); have yx0_3 : w3.cell? ⟨w.heap.size + 1 + 1, 0, none⟩ = some (.int .i64 q) := cx3 0 (by simp); have xx0_3 : w3.frozen? ⟨w.heap.size + 1 + 1, 0, none⟩ = false := zx3 0 (by simp))
    | (with_reducible refine wpList_load_at rfl 26 _ rfl _ 64 (fv l) rfl ct3 _ Try.underlying26 rfl infoV ?_)
    | (go_at_call 26; (with_reducible refine (HA.out _).mono ?_); rintro e w4 ⟨rfl, hb4⟩; have ct4 := ct3.later hb4; have zt4 := zt3.later ct3 hb4; have cg4 := cg3.later hb4; have zg4 := zg3.later cg3 hb4; have cx4 := cx3.later hb4; have zx4 := zx3.later cx3 hb4; have b4 : Hid (Below w.heap.size w w4) := Lib.hid (below_then b3.out hb4); have s4' := hb4.size; rw [s3] at s4'; clear yg0_3 xg0_3 yg1_3 xg1_3; clear yx0_3 xx0_3; have yg0_4 : w4.cell? ⟨w.heap.size + 1, 0, none⟩ = some (.int .i64 (F : Int)) := cg4 0 (by simp); have xg0_4 : w4.frozen? ⟨w.heap.size + 1, 0, none⟩ = false := zg4 0 (by simp); have yg1_4 : w4.cell? ⟨w.heap.size + 1, 1, none⟩ = some (.int .i64 (T : Int)) := cg4 1 (by simp); have xg1_4 : w4.frozen? ⟨w.heap.size + 1, 1, none⟩ = false := zg4 1 (by simp); have yx0_4 : w4.cell? ⟨w.heap.size + 1 + 1, 0, none⟩ = some (.int .i64 q) := cx4 0 (by simp); have xx0_4 : w4.frozen? ⟨w.heap.size + 1 + 1, 0, none⟩ = false := zx4 0 (by simp); have lg4 := World.block_lt_of_cell? _ _ yg0_4; dsimp only at lg4; have lx4 := World.block_lt_of_cell? _ _ yx0_4; dsimp only at lx4; clear hb4)
    | ((with_reducible refine wpList_alloc_named rfl 52 rfl 8 rfl 61 (ziv) zeroI ?_); intro w5 N5; have s5 := N5.size; have ct5 := ct4.later N5.below; have zt5 := zt4.later ct4 N5.below; have cg5 := cg4.later N5.below; have zg5 := zg4.later cg4 N5.below; have cx5 := cx4.later N5.below; have zx5 := zx4.later cx4 N5.below; have cs5 := N5.at'; have zs5 := N5.free; have b5 : Hid (Below w.heap.size w w5) := Lib.hid (below_then b4.out N5.below); clear N5; have s5' := Nat.le_of_eq s5.symm; clear yg0_4 xg0_4 yg1_4 xg1_4; clear yx0_4 xx0_4; have yg0_5 : w5.cell? ⟨w.heap.size + 1, 0, none⟩ = some (.int .i64 (F : Int)) := cg5 0 (by simp); have xg0_5 : w5.frozen? ⟨w.heap.size + 1, 0, none⟩ = false := zg5 0 (by simp); have yg1_5 : w5.cell? ⟨w.heap.size + 1, 1, none⟩ = some (.int .i64 (T : Int)) := cg5 1 (by simp); have xg1_5 : w5.frozen? ⟨w.heap.size + 1, 1, none⟩ = false := zg5 1 (by simp); have yx0_5 : w5.cell? ⟨w.heap.size + 1 + 1, 0, none⟩ = some (.int .i64 q) := cx5 0 (by simp); have xx0_5 : w5.frozen? ⟨w.heap.size + 1 + 1, 0, none⟩ = false := zx5 0 (by simp))
    | ((with_reducible refine wpList_store_at rfl 52 _ _ rfl _ 61 _ (sqv l) rfl rfl cs5 zs5 (fun _ _ => rfl) infoI ?_); intro w6 S6 B6 cs6 zs6 O6 P6; have ct6 := O6 _ _ _ (by omega) ct5; have zt6 := P6 _ _ zt5; have cg6 := O6 _ _ _ (by omega) cg5; have zg6 := P6 _ _ zg5; have cx6 := O6 _ _ _ (by omega) cx5; have zx6 := P6 _ _ zx5; have b6 : Hid (Below w.heap.size w w6) := Lib.hid (B6 _ _ (by omega) b5.out); have s6' := Nat.le_of_eq S6.symm; clear yg0_5 xg0_5 yg1_5 xg1_5; clear yx0_5 xx0_5; have yg0_6 : w6.cell? ⟨w.heap.size + 1, 0, none⟩ = some (.int .i64 (F : Int)) := cg6 0 (by simp); have xg0_6 : w6.frozen? ⟨w.heap.size + 1, 0, none⟩ = false := zg6 0 (by simp); have yg1_6 : w6.cell? ⟨w.heap.size + 1, 1, none⟩ = some (.int .i64 (T : Int)) := cg6 1 (by simp); have xg1_6 : w6.frozen? ⟨w.heap.size + 1, 1, none⟩ = false := zg6 1 (by simp); have yx0_6 : w6.cell? ⟨w.heap.size + 1 + 1, 0, none⟩ = some (.int .i64 q) := cx6 0 (by simp); have xx0_6 : w6.frozen? ⟨w.heap.size + 1 + 1, 0, none⟩ = false := zx6 0 (by simp); clear S6 B6 O6 P6))
  go_region_held3 (fun w' => w'.cell? ⟨w.heap.size + 1, 0, none⟩ = some (.int .i64 (F : Int)) ∧ w'.cell? ⟨w.heap.size + 1, 1, none⟩ = some (.int .i64 (T : Int)) ∧ w'.cell? ⟨w.heap.size + 1 + 1, 0, none⟩ = some (.int .i64 q) ∧ Below w6.heap.size w6 w') (((go_split_ands; (repeat' apply And.intro) <;> first | (with_reducible assumption) | (with_reducible exact (Below.refl _ _).drew) | exact cell_alloc_later (by with_reducible assumption) _ | exact cell_drew' (by with_reducible assumption) | exact cell_drew' (cell_alloc_later (by with_reducible assumption) _) | exact cell_later (by with_reducible assumption) (by with_reducible assumption) | exact below_then (by with_reducible assumption) (by with_reducible assumption) | exact below_alloc_top (by with_reducible assumption) _ | exact Below.drew (by with_reducible assumption) | exact Below.drew (below_alloc_top (by with_reducible assumption) _))))
    (first
      | (go_at_call 66; (with_reducible refine (HG.out _).mono ?_); rintro e w' ⟨rfl, hb⟩)
      | (go_at_call 67; (with_reducible refine (unless_any _ _ _).mono ?_); rintro e w' ⟨rfl, rfl⟩)
      | (go_at_call 50; refine (firstError_any _ [0, 0, 0] _ (by simp) (by first | exact cells_drew _ _ (by first | rfl | assumption | simp) _ _ | exact cells_new _ _ (by first | rfl | assumption | simp) _ _)).mono ?_; rw [EF.out]; rintro e w' ⟨rfl, rfl⟩))
  generalize w'.alloc (Obj.cells #[.int .i64 0, .int .i64 0, .int .i64 (unl true 2)] 28) = W1 at *
  go_split_ands
  have y0 : W1.cell? ⟨w.heap.size + 1, 0, none⟩ = some (.int .i64 (F : Int)) := by with_reducible assumption
  have y1 : W1.cell? ⟨w.heap.size + 1, 1, none⟩ = some (.int .i64 (T : Int)) := by with_reducible assumption
  have y2 : W1.cell? ⟨w.heap.size + 1 + 1, 0, none⟩ = some (.int .i64 q) := by with_reducible assumption
  have hb7 : Below w6.heap.size w6 W1 := by with_reducible assumption
  have cs7 := cs6.later hb7
  have b7 : Hid (Below w.heap.size w W1) := Lib.hid (below_then b6.out hb7)
  have k0 : (0 : Int) ≤ (F : Int) := Int.natCast_nonneg _
  have k1 : (F : Int) ≤ (T : Int) + 1 := by omega
  have k2 : (T : Int) + 1 ≤ 61 := by omega
  have k3 : (0 : Int) ≤ (T : Int) := Int.natCast_nonneg _
  go_wp2_with fail
  refine (indexFunc_no (sqA l) q w4.heap.size F (T + 1 - F) _ _ _ (by omega) cs7 y2 HJ.out).mono ?_
  rintro e w'' ⟨rfl, rfl⟩
  go_wp2
  go_ret2
  exact ⟨rfl, b7.out⟩
set_option maxRecDepth 100000 in
set_option maxHeartbeats 4000000 in
theorem tFirstAbove_bad (l : Nat → Int) (f t q : Int) (w : World) (hl : Few l) (hX : fst [ctE l, gaE f t, unl (decide (0 ≤ q)) 2] ≠ 0) :
    Calls Try.prog 31 #[.agg (vls 64 (fv l)).toArray, .agg #[.int .i64 f, .int .i64 t], .int .i64 q] w fun e w' => e = .returned (.tuple #[.int .i64 0, .int .i64 (fst [ctE l, gaE f t, unl (decide (0 ≤ q)) 2])]) ∧ Below w.heap.size w w' := by
  have HA := Lib.hid (fun w => envelope_any l hl w)
  have HG := Lib.hid (fun w => gateErr_any f t w)
  generalize ctE l = E0 at *
  generalize gaE f t = G0 at *
  generalize hxx : fst [E0, G0, unl (decide (0 ≤ q)) 2] = X0 at *
  have EF := Lib.hid hxx; clear hxx
  have nz : (X0 != 0) = true := by simpa using hX
  have hone : ∀ i, i < 61 → ((if E0 = 0 then sqv l else ziv) i).oneCell' = true := fun i _ => by split <;> rfl
  generalize (if E0 = 0 then sqv l else ziv) = SQ at *
  clear hX
  generalize hdq : decide (0 ≤ q) = dq at *
  go_enter Try.func31, Try.ntmps31
  go_wp2_with (first
    | ((with_reducible refine wpList_box_named rfl 26 _ rfl 3 rfl 64 (fv l) rfl ?_); intro w1 N1; have s1 := N1.size; have ct1 := N1.at'; have zt1 := N1.free; have b1 : Hid (Below w.heap.size w w1) := Lib.hid N1.below; clear N1)
    | ((with_reducible refine wpList_box_lit rfl 63 _ rfl 4 rfl #[.int .i64 f, .int .i64 t] rfl ?_); intro w2 N2; have s2 := N2.size; have ct2 := ct1.later N2.below; have zt2 := zt1.later ct1 N2.below; have cg2 := N2.at'; have zg2 := N2.free; have b2 : Hid (Below w.heap.size w w2) := Lib.hid (below_then b1.out N2.below); clear N2; rw [s1] at s2 cg2 zg2; have yg0_2 : w2.cell? ⟨w.heap.size + 1, 0, none⟩ = some (.int .i64 f) := cg2 0 (by simp); have xg0_2 : w2.frozen? ⟨w.heap.size + 1, 0, none⟩ = false := zg2 0 (by simp); have yg1_2 : w2.cell? ⟨w.heap.size + 1, 1, none⟩ = some (.int .i64 t) := cg2 1 (by simp); have xg1_2 : w2.frozen? ⟨w.heap.size + 1, 1, none⟩ = false := zg2 1 (by simp))
    | ((with_reducible refine wpList_box_int rfl 3 _ rfl 5 rfl q rfl ?_); intro w3 N3; have s3 := N3.size; have ct3 := ct2.later N3.below; have zt3 := zt2.later ct2 N3.below; have cg3 := cg2.later N3.below; have zg3 := zg2.later cg2 N3.below; have cx3 := N3.at'; have zx3 := N3.free; have b3 : Hid (Below w.heap.size w w3) := Lib.hid (below_then b2.out N3.below); clear N3; rw [s2] at s3 cx3 zx3; clear yg0_2 xg0_2 yg1_2 xg1_2; have yg0_3 : w3.cell? ⟨w.heap.size + 1, 0, none⟩ = some (.int .i64 f) := cg3 0 (by simp); have xg0_3 : w3.frozen? ⟨w.heap.size + 1, 0, none⟩ = false := zg3 0 (by simp); have yg1_3 : w3.cell? ⟨w.heap.size + 1, 1, none⟩ = some (.int .i64 t) := cg3 1 (by simp); have xg1_3 : w3.frozen? ⟨w.heap.size + 1, 1, none⟩ = false := zg3 1 (by simp); have yx0_3 : w3.cell? ⟨w.heap.size + 1 + 1, 0, none⟩ = some (.int .i64 q) := cx3 0 (by simp); have xx0_3 : w3.frozen? ⟨w.heap.size + 1 + 1, 0, none⟩ = false := zx3 0 (by simp))
    | (with_reducible refine wpList_load_at rfl 26 _ rfl _ 64 (fv l) rfl ct3 _ Try.underlying26 rfl infoV ?_)
    | (go_at_call 26; (with_reducible refine (HA.out _).mono ?_); rintro e w4 ⟨rfl, hb4⟩; have ct4 := ct3.later hb4; have zt4 := zt3.later ct3 hb4; have cg4 := cg3.later hb4; have zg4 := zg3.later cg3 hb4; have cx4 := cx3.later hb4; have zx4 := zx3.later cx3 hb4; have b4 : Hid (Below w.heap.size w w4) := Lib.hid (below_then b3.out hb4); have s4' := hb4.size; rw [s3] at s4'; clear yg0_3 xg0_3 yg1_3 xg1_3; clear yx0_3 xx0_3; have yg0_4 : w4.cell? ⟨w.heap.size + 1, 0, none⟩ = some (.int .i64 f) := cg4 0 (by simp); have xg0_4 : w4.frozen? ⟨w.heap.size + 1, 0, none⟩ = false := zg4 0 (by simp); have yg1_4 : w4.cell? ⟨w.heap.size + 1, 1, none⟩ = some (.int .i64 t) := cg4 1 (by simp); have xg1_4 : w4.frozen? ⟨w.heap.size + 1, 1, none⟩ = false := zg4 1 (by simp); have yx0_4 : w4.cell? ⟨w.heap.size + 1 + 1, 0, none⟩ = some (.int .i64 q) := cx4 0 (by simp); have xx0_4 : w4.frozen? ⟨w.heap.size + 1 + 1, 0, none⟩ = false := zx4 0 (by simp); have lg4 := World.block_lt_of_cell? _ _ yg0_4; dsimp only at lg4; have lx4 := World.block_lt_of_cell? _ _ yx0_4; dsimp only at lx4; clear hb4)
    | ((with_reducible refine wpList_alloc_named rfl 52 rfl 8 rfl 61 (ziv) zeroI ?_); intro w5 N5; have s5 := N5.size; have ct5 := ct4.later N5.below; have zt5 := zt4.later ct4 N5.below; have cg5 := cg4.later N5.below; have zg5 := zg4.later cg4 N5.below; have cx5 := cx4.later N5.below; have zx5 := zx4.later cx4 N5.below; have cs5 := N5.at'; have zs5 := N5.free; have b5 : Hid (Below w.heap.size w w5) := Lib.hid (below_then b4.out N5.below); clear N5; have s5' := Nat.le_of_eq s5.symm; clear yg0_4 xg0_4 yg1_4 xg1_4; clear yx0_4 xx0_4; have yg0_5 : w5.cell? ⟨w.heap.size + 1, 0, none⟩ = some (.int .i64 f) := cg5 0 (by simp); have xg0_5 : w5.frozen? ⟨w.heap.size + 1, 0, none⟩ = false := zg5 0 (by simp); have yg1_5 : w5.cell? ⟨w.heap.size + 1, 1, none⟩ = some (.int .i64 t) := cg5 1 (by simp); have xg1_5 : w5.frozen? ⟨w.heap.size + 1, 1, none⟩ = false := zg5 1 (by simp); have yx0_5 : w5.cell? ⟨w.heap.size + 1 + 1, 0, none⟩ = some (.int .i64 q) := cx5 0 (by simp); have xx0_5 : w5.frozen? ⟨w.heap.size + 1 + 1, 0, none⟩ = false := zx5 0 (by simp))
    | ((with_reducible refine wpList_store_at rfl 52 _ _ rfl _ 61 _ (SQ) rfl rfl cs5 zs5 (hone) infoI ?_); intro w6 S6 B6 cs6 zs6 O6 P6; have ct6 := O6 _ _ _ (by omega) ct5; have zt6 := P6 _ _ zt5; have cg6 := O6 _ _ _ (by omega) cg5; have zg6 := P6 _ _ zg5; have cx6 := O6 _ _ _ (by omega) cx5; have zx6 := P6 _ _ zx5; have b6 : Hid (Below w.heap.size w w6) := Lib.hid (B6 _ _ (by omega) b5.out); have s6' := Nat.le_of_eq S6.symm; clear yg0_5 xg0_5 yg1_5 xg1_5; clear yx0_5 xx0_5; have yg0_6 : w6.cell? ⟨w.heap.size + 1, 0, none⟩ = some (.int .i64 f) := cg6 0 (by simp); have xg0_6 : w6.frozen? ⟨w.heap.size + 1, 0, none⟩ = false := zg6 0 (by simp); have yg1_6 : w6.cell? ⟨w.heap.size + 1, 1, none⟩ = some (.int .i64 t) := cg6 1 (by simp); have xg1_6 : w6.frozen? ⟨w.heap.size + 1, 1, none⟩ = false := zg6 1 (by simp); have yx0_6 : w6.cell? ⟨w.heap.size + 1 + 1, 0, none⟩ = some (.int .i64 q) := cx6 0 (by simp); have xx0_6 : w6.frozen? ⟨w.heap.size + 1 + 1, 0, none⟩ = false := zx6 0 (by simp); clear S6 B6 O6 P6))
  go_region_held3 (fun w' => w'.cell? ⟨w.heap.size + 1, 0, none⟩ = some (.int .i64 f) ∧ w'.cell? ⟨w.heap.size + 1, 1, none⟩ = some (.int .i64 t) ∧ w'.cell? ⟨w.heap.size + 1 + 1, 0, none⟩ = some (.int .i64 q) ∧ Below w6.heap.size w6 w') (((go_split_ands; (repeat' apply And.intro) <;> first | (with_reducible assumption) | (with_reducible exact (Below.refl _ _).drew) | exact cell_alloc_later (by with_reducible assumption) _ | exact cell_drew' (by with_reducible assumption) | exact cell_drew' (cell_alloc_later (by with_reducible assumption) _) | exact cell_later (by with_reducible assumption) (by with_reducible assumption) | exact below_then (by with_reducible assumption) (by with_reducible assumption) | exact below_alloc_top (by with_reducible assumption) _ | exact Below.drew (by with_reducible assumption) | exact Below.drew (below_alloc_top (by with_reducible assumption) _))))
    (first
      | (go_at_call 66; (with_reducible refine (HG.out _).mono ?_); rintro e w' ⟨rfl, hb⟩)
      | (go_at_call 67; (with_reducible refine (unless_any _ _ _).mono ?_); rintro e w' ⟨rfl, rfl⟩)
      | (go_at_call 50; refine (firstError_any _ [E0, G0, unl dq 2] _ (by simp) (by first | exact cells_drew _ _ (by first | rfl | assumption | simp) _ _ | exact cells_new _ _ (by first | rfl | assumption | simp) _ _)).mono ?_; rw [EF.out]; rintro e w' ⟨rfl, rfl⟩))
  generalize w'.alloc (Obj.cells #[.int .i64 E0, .int .i64 G0, .int .i64 (unl dq 2)] 28) = W1 at *
  go_split_ands
  have hb7 : Below w6.heap.size w6 W1 := by with_reducible assumption
  have b7 : Hid (Below w.heap.size w W1) := Lib.hid (below_then b6.out hb7)
  go_wp2
  go_ret2
  exact ⟨rfl, b7.out⟩
end Go.Proofs.Ytoieemgdkpnbfaa
