/- the peak of a gate -/
import Derived.Test.YtoieemgdkpnbfaaFl6
namespace Go.Proofs.Ytoieemgdkpnbfaa
open Go.RowKit RayM
set_option linter.unusedSimpArgs false
set_option linter.unusedVariables false
/-- the error of a gate -/
def gaE (f t : Int) : Int := fst [unl (inB f 0 60) 2, unl (inB t 0 60) 2, unl (decide (f ≤ t)) 9]
theorem gaE_zero (f t : Int) : gaE f t = 0 ↔ 0 ≤ f ∧ f ≤ t ∧ t ≤ 60 := by
  unfold gaE
  rw [fst_zero]
  simp only [List.mem_cons, List.not_mem_nil, or_false, forall_eq_or_imp, forall_eq, unl_inB _ _ _ _ (show (2 : Int) ≠ 0 by decide)]
  have : unl (decide (f ≤ t)) 9 = 0 ↔ f ≤ t := by
    by_cases h : f ≤ t <;> simp [unl, h]
  rw [this]; omega
set_option maxRecDepth 100000 in
set_option maxHeartbeats 1000000 in
theorem gateErr_any (f t : Int) (w : World) :
    Calls Try.prog 66 #[.agg #[.int .i64 f, .int .i64 t]] w fun e w' => e = .returned (.int .i64 (gaE f t)) ∧ Below w.heap.size w w' := by
  unfold gaE
  go_enter Try.func66, Try.ntmps66
  go_wp2_with (first
    | ((with_reducible refine wpList_box_lit rfl 63 _ rfl 1 rfl #[.int .i64 f, .int .i64 t] rfl ?_); intro w1 N1; have s1 := N1.size; have cg1 := N1.at'; have zg1 := N1.free; have b1 : Hid (Below w.heap.size w w1) := Lib.hid N1.below; clear N1; have yg0_1 : w1.cell? ⟨w.heap.size, 0, none⟩ = some (.int .i64 f) := cg1 0 (by simp); have xg0_1 : w1.frozen? ⟨w.heap.size, 0, none⟩ = false := zg1 0 (by simp); have yg1_1 : w1.cell? ⟨w.heap.size, 1, none⟩ = some (.int .i64 t) := cg1 1 (by simp); have xg1_1 : w1.frozen? ⟨w.heap.size, 1, none⟩ = false := zg1 1 (by simp)))
  go_region_held3 (fun w' => w'.cell? ⟨w.heap.size, 0, none⟩ = some (.int .i64 f) ∧ w'.cell? ⟨w.heap.size, 1, none⟩ = some (.int .i64 t)) (((go_split_ands; (repeat' apply And.intro) <;> first | (with_reducible assumption) | exact cell_alloc_later (by with_reducible assumption) _ | exact frozen_alloc_later (by with_reducible assumption) (by with_reducible assumption) _ | exact cell_drew' (by with_reducible assumption) | exact cell_drew' (cell_alloc_later (by with_reducible assumption) _) | exact cell_later (by with_reducible assumption) (by with_reducible assumption) | (simp [go_sem, World.cell?_alloc_past, *]; done))))
    (first
      | (go_at_call 54; (with_reducible refine (isWithin_any _ _ _ _).mono ?_); rintro e w' ⟨rfl, rfl⟩)
      | (go_at_call 67; (with_reducible refine (unless_any _ _ _).mono ?_); rintro e w' ⟨rfl, rfl⟩)
      | (go_at_call 50; refine (firstError_any _ [unl (inB f 0 60) 2, unl (inB t 0 60) 2, unl (decide (f ≤ t)) 9] _ (by simp) (by first | exact cells_drew _ _ (by first | rfl | assumption | simp) _ _ | exact cells_new _ _ (by first | rfl | assumption | simp) _ _)).mono ?_; rintro e w' ⟨rfl, rfl⟩))
  go_wp2
  go_ret
  exact ⟨rfl, Below.drew (below_alloc_top b1.out _)⟩
/-- the greatest square of a gate, and where it is -/
def pk (s : Nat → Int) (f : Nat) : Nat → Nat × Int
  | 0 => (f, s f)
  | m + 1 => if (pk s f m).2 < s (f + m) then (f + m, s (f + m)) else pk s f m
def pkP (l : Nat → Int) (f t : Int) : Nat × Int := pk (sqA l) f.toNat (t.toNat + 1 - f.toNat)
def pkE (l : Nat → Int) (f t : Int) : Int := fst [ctE l, gaE f t]
theorem fst2 (a b : Int) : fst [a, b] = 0 ↔ a = 0 ∧ b = 0 := by rw [fst_zero]; simp
theorem zeroP : (Try.prog.info? 65).map (fun i => (i.zero, i.size)) = some (some (.agg #[.int .i64 0, .int .i64 0]), (#[Value.int .i64 0, .int .i64 0]).size) := by kernel_rfl
set_option maxRecDepth 100000 in
set_option maxHeartbeats 1000000 in
theorem peakIn_any (l : Nat → Int) (f t : Int) (hl : Few l) (w : World) :
    Calls Try.prog 30 #[.agg (vls 64 (fv l)).toArray, .agg #[.int .i64 f, .int .i64 t]] w fun e w' => e = .returned (if pkE l f t = 0 then .tuple #[.agg #[.int .i64 (pkP l f t).1, .int .i64 (pkP l f t).2], .int .i64 0] else .tuple #[.agg #[.int .i64 0, .int .i64 0], .int .i64 (pkE l f t)]) ∧ Below w.heap.size w w' := by
  have HA := Lib.hid (fun w => envelope_any l hl w)
  have HG := Lib.hid (fun w => gateErr_any f t w)
  have GZ := Lib.hid (gaE_zero f t)
  have EF0 : fst [ctE l, gaE f t] = pkE l f t := rfl
  have PP : Hid (pkP l f t = pk (sqA l) f.toNat (t.toNat + 1 - f.toNat)) := (rfl : _ = _)
  generalize pkP l f t = P0 at *
  generalize pkE l f t = X0 at *
  generalize ctE l = E0 at *
  generalize gaE f t = G0 at *
  have EF := Lib.hid EF0
  by_cases hz : X0 = 0
  · rw [hz] at EF0
    obtain ⟨rfl, rfl⟩ := (fst2 _ _).1 EF0
    subst hz
    clear EF0
    simp only [if_true] at HA ⊢
    obtain ⟨f0, ft, t1⟩ := GZ.out.1 rfl
    clear GZ
    go_enter Try.func30, Try.ntmps30
    go_wp2_with (first
      | ((with_reducible refine wpList_box_named rfl 26 _ rfl 2 rfl 64 (fv l) rfl ?_); intro w1 N1; have s1 := N1.size; have ct1 := N1.at'; have zt1 := N1.free; have b1 : Hid (Below w.heap.size w w1) := Lib.hid N1.below; clear N1)
      | ((with_reducible refine wpList_box_lit rfl 63 _ rfl 3 rfl #[.int .i64 f, .int .i64 t] rfl ?_); intro w2 N2; have s2 := N2.size; have ct2 := ct1.later N2.below; have zt2 := zt1.later ct1 N2.below; have cg2 := N2.at'; have zg2 := N2.free; have b2 : Hid (Below w.heap.size w w2) := Lib.hid (below_then b1.out N2.below); clear N2; rw [s1] at s2 cg2 zg2; have yg0_2 : w2.cell? ⟨w.heap.size + 1, 0, none⟩ = some (.int .i64 f) := cg2 0 (by simp); have xg0_2 : w2.frozen? ⟨w.heap.size + 1, 0, none⟩ = false := zg2 0 (by simp); have yg1_2 : w2.cell? ⟨w.heap.size + 1, 1, none⟩ = some (.int .i64 t) := cg2 1 (by simp); have xg1_2 : w2.frozen? ⟨w.heap.size + 1, 1, none⟩ = false := zg2 1 (by simp))
      | ((with_reducible refine wpList_alloc_lit rfl 65 rfl 4 rfl #[.int .i64 0, .int .i64 0] zeroP ?_); intro w3 N3; have s3 := N3.size; have ct3 := ct2.later N3.below; have zt3 := zt2.later ct2 N3.below; have cg3 := cg2.later N3.below; have zg3 := zg2.later cg2 N3.below; have cr3 := N3.at'; have zr3 := N3.free; have b3 : Hid (Below w.heap.size w w3) := Lib.hid (below_then b2.out N3.below); clear N3; rw [s2] at s3 cr3 zr3; clear yg0_2 xg0_2 yg1_2 xg1_2; have yg0_3 : w3.cell? ⟨w.heap.size + 1, 0, none⟩ = some (.int .i64 f) := cg3 0 (by simp); have xg0_3 : w3.frozen? ⟨w.heap.size + 1, 0, none⟩ = false := zg3 0 (by simp); have yg1_3 : w3.cell? ⟨w.heap.size + 1, 1, none⟩ = some (.int .i64 t) := cg3 1 (by simp); have xg1_3 : w3.frozen? ⟨w.heap.size + 1, 1, none⟩ = false := zg3 1 (by simp); have yr0_3 : w3.cell? ⟨w.heap.size + 1 + 1, 0, none⟩ = some (.int .i64 0) := cr3 0 (by simp); have xr0_3 : w3.frozen? ⟨w.heap.size + 1 + 1, 0, none⟩ = false := zr3 0 (by simp); have yr1_3 : w3.cell? ⟨w.heap.size + 1 + 1, 1, none⟩ = some (.int .i64 0) := cr3 1 (by simp); have xr1_3 : w3.frozen? ⟨w.heap.size + 1 + 1, 1, none⟩ = false := zr3 1 (by simp))
      | (with_reducible refine wpList_load_at rfl 26 _ rfl _ 64 (fv l) rfl ct3 _ Try.underlying26 rfl infoV ?_)
      | (go_at_call 26; (with_reducible refine (HA.out _).mono ?_); rintro e w4 ⟨rfl, hb4⟩; have ct4 := ct3.later hb4; have zt4 := zt3.later ct3 hb4; have cg4 := cg3.later hb4; have zg4 := zg3.later cg3 hb4; have cr4 := cr3.later hb4; have zr4 := zr3.later cr3 hb4; have b4 : Hid (Below w.heap.size w w4) := Lib.hid (below_then b3.out hb4); have s4' := hb4.size; rw [s3] at s4'; clear yg0_3 xg0_3 yg1_3 xg1_3; clear yr0_3 xr0_3 yr1_3 xr1_3; have yg0_4 : w4.cell? ⟨w.heap.size + 1, 0, none⟩ = some (.int .i64 f) := cg4 0 (by simp); have xg0_4 : w4.frozen? ⟨w.heap.size + 1, 0, none⟩ = false := zg4 0 (by simp); have yg1_4 : w4.cell? ⟨w.heap.size + 1, 1, none⟩ = some (.int .i64 t) := cg4 1 (by simp); have xg1_4 : w4.frozen? ⟨w.heap.size + 1, 1, none⟩ = false := zg4 1 (by simp); have yr0_4 : w4.cell? ⟨w.heap.size + 1 + 1, 0, none⟩ = some (.int .i64 0) := cr4 0 (by simp); have xr0_4 : w4.frozen? ⟨w.heap.size + 1 + 1, 0, none⟩ = false := zr4 0 (by simp); have yr1_4 : w4.cell? ⟨w.heap.size + 1 + 1, 1, none⟩ = some (.int .i64 0) := cr4 1 (by simp); have xr1_4 : w4.frozen? ⟨w.heap.size + 1 + 1, 1, none⟩ = false := zr4 1 (by simp); have lg4 := World.block_lt_of_cell? _ _ yg0_4; dsimp only at lg4; have lr4 := World.block_lt_of_cell? _ _ yr0_4; dsimp only at lr4; clear hb4)
      | ((with_reducible refine wpList_alloc_named rfl 52 rfl 6 rfl 61 (ziv) zeroI ?_); intro w5 N5; have s5 := N5.size; have ct5 := ct4.later N5.below; have zt5 := zt4.later ct4 N5.below; have cg5 := cg4.later N5.below; have zg5 := zg4.later cg4 N5.below; have cr5 := cr4.later N5.below; have zr5 := zr4.later cr4 N5.below; have cq5 := N5.at'; have zq5 := N5.free; have b5 : Hid (Below w.heap.size w w5) := Lib.hid (below_then b4.out N5.below); clear N5; have s5' := Nat.le_of_eq s5.symm; clear yg0_4 xg0_4 yg1_4 xg1_4; clear yr0_4 xr0_4 yr1_4 xr1_4; have yg0_5 : w5.cell? ⟨w.heap.size + 1, 0, none⟩ = some (.int .i64 f) := cg5 0 (by simp); have xg0_5 : w5.frozen? ⟨w.heap.size + 1, 0, none⟩ = false := zg5 0 (by simp); have yg1_5 : w5.cell? ⟨w.heap.size + 1, 1, none⟩ = some (.int .i64 t) := cg5 1 (by simp); have xg1_5 : w5.frozen? ⟨w.heap.size + 1, 1, none⟩ = false := zg5 1 (by simp); have yr0_5 : w5.cell? ⟨w.heap.size + 1 + 1, 0, none⟩ = some (.int .i64 0) := cr5 0 (by simp); have xr0_5 : w5.frozen? ⟨w.heap.size + 1 + 1, 0, none⟩ = false := zr5 0 (by simp); have yr1_5 : w5.cell? ⟨w.heap.size + 1 + 1, 1, none⟩ = some (.int .i64 0) := cr5 1 (by simp); have xr1_5 : w5.frozen? ⟨w.heap.size + 1 + 1, 1, none⟩ = false := zr5 1 (by simp))
      | ((with_reducible refine wpList_store_at rfl 52 _ _ rfl _ 61 _ (sqv l) rfl rfl cq5 zq5 (fun _ _ => rfl) infoI ?_); intro w6 S6 B6 cq6 zq6 O6 P6; have ct6 := O6 _ _ _ (by omega) ct5; have zt6 := P6 _ _ zt5; have cg6 := O6 _ _ _ (by omega) cg5; have zg6 := P6 _ _ zg5; have cr6 := O6 _ _ _ (by omega) cr5; have zr6 := P6 _ _ zr5; have b6 : Hid (Below w.heap.size w w6) := Lib.hid (B6 _ _ (by omega) b5.out); have s6' := Nat.le_of_eq S6.symm; clear yg0_5 xg0_5 yg1_5 xg1_5; clear yr0_5 xr0_5 yr1_5 xr1_5; have yg0_6 : w6.cell? ⟨w.heap.size + 1, 0, none⟩ = some (.int .i64 f) := cg6 0 (by simp); have xg0_6 : w6.frozen? ⟨w.heap.size + 1, 0, none⟩ = false := zg6 0 (by simp); have yg1_6 : w6.cell? ⟨w.heap.size + 1, 1, none⟩ = some (.int .i64 t) := cg6 1 (by simp); have xg1_6 : w6.frozen? ⟨w.heap.size + 1, 1, none⟩ = false := zg6 1 (by simp); have yr0_6 : w6.cell? ⟨w.heap.size + 1 + 1, 0, none⟩ = some (.int .i64 0) := cr6 0 (by simp); have xr0_6 : w6.frozen? ⟨w.heap.size + 1 + 1, 0, none⟩ = false := zr6 0 (by simp); have yr1_6 : w6.cell? ⟨w.heap.size + 1 + 1, 1, none⟩ = some (.int .i64 0) := cr6 1 (by simp); have xr1_6 : w6.frozen? ⟨w.heap.size + 1 + 1, 1, none⟩ = false := zr6 1 (by simp); clear S6 B6 O6 P6)
      | (go_at_call 66; (with_reducible refine (HG.out _).mono ?_); rintro e w7 ⟨rfl, hb7⟩; have ct7 := ct6.later hb7; have zt7 := zt6.later ct6 hb7; have cg7 := cg6.later hb7; have zg7 := zg6.later cg6 hb7; have cr7 := cr6.later hb7; have zr7 := zr6.later cr6 hb7; have cq7 := cq6.later hb7; have zq7 := zq6.later cq6 hb7; have b7 : Hid (Below w.heap.size w w7) := Lib.hid (below_then b6.out hb7); have s7' := hb7.size; clear yg0_6 xg0_6 yg1_6 xg1_6; clear yr0_6 xr0_6 yr1_6 xr1_6; have yg0_7 : w7.cell? ⟨w.heap.size + 1, 0, none⟩ = some (.int .i64 f) := cg7 0 (by simp); have xg0_7 : w7.frozen? ⟨w.heap.size + 1, 0, none⟩ = false := zg7 0 (by simp); have yg1_7 : w7.cell? ⟨w.heap.size + 1, 1, none⟩ = some (.int .i64 t) := cg7 1 (by simp); have xg1_7 : w7.frozen? ⟨w.heap.size + 1, 1, none⟩ = false := zg7 1 (by simp); have yr0_7 : w7.cell? ⟨w.heap.size + 1 + 1, 0, none⟩ = some (.int .i64 0) := cr7 0 (by simp); have xr0_7 : w7.frozen? ⟨w.heap.size + 1 + 1, 0, none⟩ = false := zr7 0 (by simp); have yr1_7 : w7.cell? ⟨w.heap.size + 1 + 1, 1, none⟩ = some (.int .i64 0) := cr7 1 (by simp); have xr1_7 : w7.frozen? ⟨w.heap.size + 1 + 1, 1, none⟩ = false := zr7 1 (by simp); have lg7 := World.block_lt_of_cell? _ _ yg0_7; dsimp only at lg7; have lr7 := World.block_lt_of_cell? _ _ yr0_7; dsimp only at lr7; clear hb7)
      | (go_at_call 50; refine (firstError_any _ [0, 0] _ (by simp) (by first | exact cells_drew _ _ (by first | rfl | assumption | simp) _ _ | exact cells_new _ _ (by first | rfl | assumption | simp) _ _)).mono ?_; rw [EF.out]; rintro e w' ⟨rfl, rfl⟩))
    obtain ⟨w8, hw8⟩ : ∃ q, q = w7.alloc (.cells #[.int .i64 0, .int .i64 0] 28) := ⟨_, rfl⟩
    rw [← hw8]
    have hb8 : Below w7.heap.size w7 w8 := by rw [hw8]; exact (below_new _ _)
    have ct8 := ct7.later hb8
    have zt8 := zt7.later ct7 hb8
    have cg8 := cg7.later hb8
    have zg8 := zg7.later cg7 hb8
    have cr8 := cr7.later hb8
    have zr8 := zr7.later cr7 hb8
    have cq8 := cq7.later hb8
    have zq8 := zq7.later cq7 hb8
    have b8 : Hid (Below w.heap.size w w8) := Lib.hid (below_then b7.out hb8)
    have s8' := hb8.size
    clear yg0_7 xg0_7 yg1_7 xg1_7
    clear yr0_7 xr0_7 yr1_7 xr1_7
    have yg0_8 : w8.cell? ⟨w.heap.size + 1, 0, none⟩ = some (.int .i64 f) := cg8 0 (by simp)
    have xg0_8 : w8.frozen? ⟨w.heap.size + 1, 0, none⟩ = false := zg8 0 (by simp)
    have yg1_8 : w8.cell? ⟨w.heap.size + 1, 1, none⟩ = some (.int .i64 t) := cg8 1 (by simp)
    have xg1_8 : w8.frozen? ⟨w.heap.size + 1, 1, none⟩ = false := zg8 1 (by simp)
    have yr0_8 : w8.cell? ⟨w.heap.size + 1 + 1, 0, none⟩ = some (.int .i64 0) := cr8 0 (by simp)
    have xr0_8 : w8.frozen? ⟨w.heap.size + 1 + 1, 0, none⟩ = false := zr8 0 (by simp)
    have yr1_8 : w8.cell? ⟨w.heap.size + 1 + 1, 1, none⟩ = some (.int .i64 0) := cr8 1 (by simp)
    have xr1_8 : w8.frozen? ⟨w.heap.size + 1 + 1, 1, none⟩ = false := zr8 1 (by simp)
    clear hw8 hb8
    obtain ⟨F, rfl⟩ : ∃ F : Nat, f = (F : Int) := ⟨f.toNat, by omega⟩
    have hF : F < 61 := by omega
    have q0 : w8.cell? ⟨w4.heap.size, F, none⟩ = some (.int .i64 (sqA l F)) := cq8 F hF
    have j0 : (0 : Int) ≤ (F : Int) := Int.natCast_nonneg _
    have j1 : (F : Int) < 61 := by omega
    have hl1 : w.heap.size + 1 < w8.heap.size := by omega
    have hl2 : w4.heap.size < w8.heap.size := by omega
    go_wp2
    go_region
    go_wp2
    obtain ⟨w9, hw9⟩ : ∃ q, q = (w8.alloc (.cells #[.int .i64 (F : Int), .int .i64 (sqA l F)] 65)).drew := ⟨_, rfl⟩
    rw [← hw9]
    have hb9 : Below w8.heap.size w8 w9 := by rw [hw9]; exact (below_new _ _).drew
    have ct9 := ct8.later hb9
    have zt9 := zt8.later ct8 hb9
    have cg9 := cg8.later hb9
    have zg9 := zg8.later cg8 hb9
    have cr9 := cr8.later hb9
    have zr9 := zr8.later cr8 hb9
    have cq9 := cq8.later hb9
    have zq9 := zq8.later cq8 hb9
    have b9 : Hid (Below w.heap.size w w9) := Lib.hid (below_then b8.out hb9)
    have s9' := hb9.size
    clear yg0_8 xg0_8 yg1_8 xg1_8
    clear yr0_8 xr0_8 yr1_8 xr1_8
    have cp9 : VAt w8.heap.size (#[.int .i64 (F : Int), .int .i64 (sqA l F)] : Array Value).size (cel #[.int .i64 (F : Int), .int .i64 (sqA l F)]) w9 := by rw [hw9]; exact (VAt.newc _ _ _).drew
    have zp9 : Fz w8.heap.size (#[.int .i64 (F : Int), .int .i64 (sqA l F)] : Array Value).size w9 := by rw [hw9]; exact (Fz.new _ _ _ ⟨_, _, rfl⟩).drew
    have s9 : w9.heap.size = w8.heap.size + 1 := by rw [hw9]; simp [go_sem]
    replace s9' := Nat.le_of_eq s9.symm; clear s9
    have yg0_9 : w9.cell? ⟨w.heap.size + 1, 0, none⟩ = some (.int .i64 (F : Int)) := cg9 0 (by simp)
    have xg0_9 : w9.frozen? ⟨w.heap.size + 1, 0, none⟩ = false := zg9 0 (by simp)
    have yg1_9 : w9.cell? ⟨w.heap.size + 1, 1, none⟩ = some (.int .i64 t) := cg9 1 (by simp)
    have xg1_9 : w9.frozen? ⟨w.heap.size + 1, 1, none⟩ = false := zg9 1 (by simp)
    have yr0_9 : w9.cell? ⟨w.heap.size + 1 + 1, 0, none⟩ = some (.int .i64 0) := cr9 0 (by simp)
    have xr0_9 : w9.frozen? ⟨w.heap.size + 1 + 1, 0, none⟩ = false := zr9 0 (by simp)
    have yr1_9 : w9.cell? ⟨w.heap.size + 1 + 1, 1, none⟩ = some (.int .i64 0) := cr9 1 (by simp)
    have xr1_9 : w9.frozen? ⟨w.heap.size + 1 + 1, 1, none⟩ = false := zr9 1 (by simp)
    have yp0_9 : w9.cell? ⟨w8.heap.size, 0, none⟩ = some (.int .i64 (F : Int)) := cp9 0 (by simp)
    have xp0_9 : w9.frozen? ⟨w8.heap.size, 0, none⟩ = false := zp9 0 (by simp)
    have yp1_9 : w9.cell? ⟨w8.heap.size, 1, none⟩ = some (.int .i64 (sqA l F)) := cp9 1 (by simp)
    have xp1_9 : w9.frozen? ⟨w8.heap.size, 1, none⟩ = false := zp9 1 (by simp)
    clear hw9 hb9
    have PR : Hid (∀ m, pk (sqA l) F (m + 1) = if (pk (sqA l) F m).2 < sqA l (F + m) then (F + m, sqA l (F + m)) else pk (sqA l) F m) := fun m => rfl
    have pk0 : pk (sqA l) F 0 = (F, sqA l F) := rfl
    have PK0 := Lib.hid pk0; clear pk0
    obtain ⟨n, hn⟩ : ∃ n : Nat, t = ((F + n : Nat) : Int) := ⟨(t - F).toNat, by omega⟩
    have hP : P0 = pk (sqA l) F (n + 1) := by rw [PP.out]; congr 1; omega
    have HP := Lib.hid hP; clear hP
    have HN := Lib.hid hn; 
    have hn2 : F + n < 61 := by omega
    clear hn
    rw [← show w8.heap.size = w8.heap.size from rfl] at *
    go_loopw [9] (fun s9 wr => ∃ M : Nat, F ≤ M ∧ M ≤ F + n + 1 ∧ s9 = .int .i64 (M : Int) ∧ wr.cell? ⟨w.heap.size + 1, 1, none⟩ = some (.int .i64 t) ∧ VAt w4.heap.size 61 (sqv l) wr ∧ wr.cell? ⟨w8.heap.size, 0, none⟩ = some (.int .i64 ((pk (sqA l) F (M - F)).1 : Nat)) ∧ wr.cell? ⟨w8.heap.size, 1, none⟩ = some (.int .i64 (pk (sqA l) F (M - F)).2) ∧ wr.frozen? ⟨w8.heap.size, 0, none⟩ = false ∧ wr.frozen? ⟨w8.heap.size, 1, none⟩ = false ∧ wr.cell? ⟨w.heap.size + 1 + 1, 0, none⟩ = some (.int .i64 0) ∧ wr.cell? ⟨w.heap.size + 1 + 1, 1, none⟩ = some (.int .i64 0) ∧ wr.frozen? ⟨w.heap.size + 1 + 1, 0, none⟩ = false ∧ wr.frozen? ⟨w.heap.size + 1 + 1, 1, none⟩ = false ∧ Hid (Below w.heap.size w wr)) (fun s9 _ => F + n + 1 - (intOf s9).toNat)
    case atStart => exact ⟨F, by omega, by omega, rfl, yg1_9, cq9, by rw [Nat.sub_self, PK0.out]; exact yp0_9, by rw [Nat.sub_self, PK0.out]; exact yp1_9, xp0_9, xp1_9, yr0_9, yr1_9, xr0_9, xr1_9, b9⟩
    case round =>
      have k1 : w.heap.size + 1 ≠ w8.heap.size := by omega
      have k2 : w.heap.size + 1 + 1 ≠ w8.heap.size := by omega
      have k3 : w4.heap.size ≠ w8.heap.size := by omega
      have k4 : w.heap.size ≤ w8.heap.size := by omega
      clear ct9 zt9 cg9 zg9 cr9 zr9 cp9 zp9 cq9 zq9 b9 s9' yg0_9 yg1_9 xg0_9 xg1_9 yp0_9 yp1_9 xp0_9 xp1_9 yr0_9 yr1_9 xr0_9 xr1_9 q0 hl1 hl2 s8' b8 ct8 zt8 cg8 zg8 cr8 zr8 cq8 zq8
      obtain ⟨M, hM0, hM, rfl, gk, qk, p0, p1, pf0, pf1, r0, r1, rf0, rf1, bk⟩ := hrel
      have jj0 : (0 : Int) ≤ (M : Int) := Int.natCast_nonneg _
      by_cases hlt : M ≤ F + n
      · have jj1 : (M : Int) ≤ t := by rw [HN.out]; omega
        have jj2 : (M : Int) < 61 := by omega
        have q1 : wr.cell? ⟨w4.heap.size, M, none⟩ = some (.int .i64 (sqA l M)) := qk M (by omega)
        have hr := PR.out (M - F)
        rw [show M - F + 1 = M + 1 - F by omega, show F + (M - F) = M by omega] at hr
        have HR := Lib.hid hr; clear hr
        generalize hpp : pk (sqA l) F (M - F) = pp at *
        clear hpp
        obtain ⟨A, B⟩ := pp
        dsimp only at p0 p1
        by_cases hg : B < sqA l M
        · have hd : decide (B < sqA l M) = true := by simpa using hg
          have hr2 : pk (sqA l) F (M + 1 - F) = (M, sqA l M) := by rw [HR.out]; dsimp only; rw [if_pos hg]
          have HR2 := Lib.hid hr2
          clear hr2 HR
          generalize sqA l M = SM at *
          go_wp2
          go_quiet (fail)
          generalize hwq : World.drewN wr _ = wq
          have hbq : Below wr.heap.size wr wq := by rw [← hwq]; exact below_drewN (Below.refl _ _) _
          have gq := cell_later hbq gk
          have qq := qk.later hbq
          have u0 := cell_later hbq p0
          have u1 := cell_later hbq p1
          have uf0 := frozen_after hbq p0 pf0
          have uf1 := frozen_after hbq p1 pf1
          have v0 := cell_later hbq r0
          have v1 := cell_later hbq r1
          have vf0 := frozen_after hbq r0 rf0
          have vf1 := frozen_after hbq r1 rf1
          have q2 := cell_later hbq q1
          have bq : Hid (Below w.heap.size w wq) := Lib.hid (below_then bk.out hbq)
          clear hwq hbq gk qk p0 p1 pf0 pf1 r0 r1 rf0 rf1 q1 bk
          go_wp2
          go_roundw
          case rel => exact ⟨M + 1, by omega, by omega, by go_num, setO (.inl k1) (setO (.inl k1) gq), (qq.other _ _ k3 _).other _ _ k3 _, by rw [HR2.out]; exact setO (.inr (by simp)) (setS u0), by rw [HR2.out]; exact setS (setO (.inr (by simp)) u1), by rw [World.frozen?_setCell, World.frozen?_setCell]; exact uf0, by rw [World.frozen?_setCell, World.frozen?_setCell]; exact uf1, setO (.inl k2) (setO (.inl k2) v0), setO (.inl k2) (setO (.inl k2) v1), by rw [World.frozen?_setCell, World.frozen?_setCell]; exact vf0, by rw [World.frozen?_setCell, World.frozen?_setCell]; exact vf1, Lib.hid ((bq.out.setCell k4 _).setCell k4 _)⟩
          case measure => simp [intOf]; omega
        · have hd : decide (B < sqA l M) = false := by simpa using hg
          have hr2 : pk (sqA l) F (M + 1 - F) = (A, B) := by rw [HR.out]; dsimp only; rw [if_neg hg]
          have HR2 := Lib.hid hr2
          clear hr2 HR
          generalize sqA l M = SM at *
          go_wp2
          go_quiet (fail)
          generalize hwq : World.drewN wr _ = wq
          have hbq : Below wr.heap.size wr wq := by rw [← hwq]; exact below_drewN (Below.refl _ _) _
          have gq := cell_later hbq gk
          have qq := qk.later hbq
          have u0 := cell_later hbq p0
          have u1 := cell_later hbq p1
          have uf0 := frozen_after hbq p0 pf0
          have uf1 := frozen_after hbq p1 pf1
          have v0 := cell_later hbq r0
          have v1 := cell_later hbq r1
          have vf0 := frozen_after hbq r0 rf0
          have vf1 := frozen_after hbq r1 rf1
          have q2 := cell_later hbq q1
          have bq : Hid (Below w.heap.size w wq) := Lib.hid (below_then bk.out hbq)
          clear hwq hbq gk qk p0 p1 pf0 pf1 r0 r1 rf0 rf1 q1 bk
          go_wp2
          go_roundw
          case rel => exact ⟨M + 1, by omega, by omega, by go_num, gq, qq, by rw [HR2.out]; exact u0, by rw [HR2.out]; exact u1, uf0, uf1, v0, v1, vf0, vf1, bq⟩
          case measure => simp [intOf]; omega
      · have jj1 : ¬ (M : Int) ≤ t := by rw [HN.out]; omega
        obtain rfl : M = F + n + 1 := by omega
        rw [show F + n + 1 - F = n + 1 by omega] at p0 p1
        rw [← HP.out] at p0 p1
        go_wp2
        refine bodyPost_ret (v := .tuple #[.agg #[.int .i64 P0.1, .int .i64 P0.2], .int .i64 0]) ?_ rfl ⟨rfl, (bk.out.setCell (by dsimp only; omega) _).setCell (by dsimp only; omega) _⟩
        simp [results, Try.results30, go_sem, r0, r1]
  · have nz : (X0 != 0) = true := by simpa using hz
    rw [if_neg hz]
    clear hz PP GZ EF0
    have hone : ∀ i, i < 61 → ((if E0 = 0 then sqv l else ziv) i).oneCell' = true := fun i _ => by split <;> rfl
    generalize (if E0 = 0 then sqv l else ziv) = SQ at *
    go_enter Try.func30, Try.ntmps30
    go_wp2_with (first
      | ((with_reducible refine wpList_box_named rfl 26 _ rfl 2 rfl 64 (fv l) rfl ?_); intro w1 N1; have s1 := N1.size; have ct1 := N1.at'; have zt1 := N1.free; have b1 : Hid (Below w.heap.size w w1) := Lib.hid N1.below; clear N1)
      | ((with_reducible refine wpList_box_lit rfl 63 _ rfl 3 rfl #[.int .i64 f, .int .i64 t] rfl ?_); intro w2 N2; have s2 := N2.size; have ct2 := ct1.later N2.below; have zt2 := zt1.later ct1 N2.below; have cg2 := N2.at'; have zg2 := N2.free; have b2 : Hid (Below w.heap.size w w2) := Lib.hid (below_then b1.out N2.below); clear N2; rw [s1] at s2 cg2 zg2; have yg0_2 : w2.cell? ⟨w.heap.size + 1, 0, none⟩ = some (.int .i64 f) := cg2 0 (by simp); have xg0_2 : w2.frozen? ⟨w.heap.size + 1, 0, none⟩ = false := zg2 0 (by simp); have yg1_2 : w2.cell? ⟨w.heap.size + 1, 1, none⟩ = some (.int .i64 t) := cg2 1 (by simp); have xg1_2 : w2.frozen? ⟨w.heap.size + 1, 1, none⟩ = false := zg2 1 (by simp))
      | ((with_reducible refine wpList_alloc_lit rfl 65 rfl 4 rfl #[.int .i64 0, .int .i64 0] zeroP ?_); intro w3 N3; have s3 := N3.size; have ct3 := ct2.later N3.below; have zt3 := zt2.later ct2 N3.below; have cg3 := cg2.later N3.below; have zg3 := zg2.later cg2 N3.below; have cr3 := N3.at'; have zr3 := N3.free; have b3 : Hid (Below w.heap.size w w3) := Lib.hid (below_then b2.out N3.below); clear N3; rw [s2] at s3 cr3 zr3; clear yg0_2 xg0_2 yg1_2 xg1_2; have yg0_3 : w3.cell? ⟨w.heap.size + 1, 0, none⟩ = some (.int .i64 f) := cg3 0 (by simp); have xg0_3 : w3.frozen? ⟨w.heap.size + 1, 0, none⟩ = false := zg3 0 (by simp); have yg1_3 : w3.cell? ⟨w.heap.size + 1, 1, none⟩ = some (.int .i64 t) := cg3 1 (by simp); have xg1_3 : w3.frozen? ⟨w.heap.size + 1, 1, none⟩ = false := zg3 1 (by simp); have yr0_3 : w3.cell? ⟨w.heap.size + 1 + 1, 0, none⟩ = some (.int .i64 0) := cr3 0 (by simp); have xr0_3 : w3.frozen? ⟨w.heap.size + 1 + 1, 0, none⟩ = false := zr3 0 (by simp); have yr1_3 : w3.cell? ⟨w.heap.size + 1 + 1, 1, none⟩ = some (.int .i64 0) := cr3 1 (by simp); have xr1_3 : w3.frozen? ⟨w.heap.size + 1 + 1, 1, none⟩ = false := zr3 1 (by simp))
      | (with_reducible refine wpList_load_at rfl 26 _ rfl _ 64 (fv l) rfl ct3 _ Try.underlying26 rfl infoV ?_)
      | (go_at_call 26; (with_reducible refine (HA.out _).mono ?_); rintro e w4 ⟨rfl, hb4⟩; have ct4 := ct3.later hb4; have zt4 := zt3.later ct3 hb4; have cg4 := cg3.later hb4; have zg4 := zg3.later cg3 hb4; have cr4 := cr3.later hb4; have zr4 := zr3.later cr3 hb4; have b4 : Hid (Below w.heap.size w w4) := Lib.hid (below_then b3.out hb4); have s4' := hb4.size; rw [s3] at s4'; clear yg0_3 xg0_3 yg1_3 xg1_3; clear yr0_3 xr0_3 yr1_3 xr1_3; have yg0_4 : w4.cell? ⟨w.heap.size + 1, 0, none⟩ = some (.int .i64 f) := cg4 0 (by simp); have xg0_4 : w4.frozen? ⟨w.heap.size + 1, 0, none⟩ = false := zg4 0 (by simp); have yg1_4 : w4.cell? ⟨w.heap.size + 1, 1, none⟩ = some (.int .i64 t) := cg4 1 (by simp); have xg1_4 : w4.frozen? ⟨w.heap.size + 1, 1, none⟩ = false := zg4 1 (by simp); have yr0_4 : w4.cell? ⟨w.heap.size + 1 + 1, 0, none⟩ = some (.int .i64 0) := cr4 0 (by simp); have xr0_4 : w4.frozen? ⟨w.heap.size + 1 + 1, 0, none⟩ = false := zr4 0 (by simp); have yr1_4 : w4.cell? ⟨w.heap.size + 1 + 1, 1, none⟩ = some (.int .i64 0) := cr4 1 (by simp); have xr1_4 : w4.frozen? ⟨w.heap.size + 1 + 1, 1, none⟩ = false := zr4 1 (by simp); have lg4 := World.block_lt_of_cell? _ _ yg0_4; dsimp only at lg4; have lr4 := World.block_lt_of_cell? _ _ yr0_4; dsimp only at lr4; clear hb4)
      | ((with_reducible refine wpList_alloc_named rfl 52 rfl 6 rfl 61 (ziv) zeroI ?_); intro w5 N5; have s5 := N5.size; have ct5 := ct4.later N5.below; have zt5 := zt4.later ct4 N5.below; have cg5 := cg4.later N5.below; have zg5 := zg4.later cg4 N5.below; have cr5 := cr4.later N5.below; have zr5 := zr4.later cr4 N5.below; have cq5 := N5.at'; have zq5 := N5.free; have b5 : Hid (Below w.heap.size w w5) := Lib.hid (below_then b4.out N5.below); clear N5; have s5' := Nat.le_of_eq s5.symm; clear yg0_4 xg0_4 yg1_4 xg1_4; clear yr0_4 xr0_4 yr1_4 xr1_4; have yg0_5 : w5.cell? ⟨w.heap.size + 1, 0, none⟩ = some (.int .i64 f) := cg5 0 (by simp); have xg0_5 : w5.frozen? ⟨w.heap.size + 1, 0, none⟩ = false := zg5 0 (by simp); have yg1_5 : w5.cell? ⟨w.heap.size + 1, 1, none⟩ = some (.int .i64 t) := cg5 1 (by simp); have xg1_5 : w5.frozen? ⟨w.heap.size + 1, 1, none⟩ = false := zg5 1 (by simp); have yr0_5 : w5.cell? ⟨w.heap.size + 1 + 1, 0, none⟩ = some (.int .i64 0) := cr5 0 (by simp); have xr0_5 : w5.frozen? ⟨w.heap.size + 1 + 1, 0, none⟩ = false := zr5 0 (by simp); have yr1_5 : w5.cell? ⟨w.heap.size + 1 + 1, 1, none⟩ = some (.int .i64 0) := cr5 1 (by simp); have xr1_5 : w5.frozen? ⟨w.heap.size + 1 + 1, 1, none⟩ = false := zr5 1 (by simp))
      | ((with_reducible refine wpList_store_at rfl 52 _ _ rfl _ 61 _ (SQ) rfl rfl cq5 zq5 hone infoI ?_); intro w6 S6 B6 cq6 zq6 O6 P6; have ct6 := O6 _ _ _ (by omega) ct5; have zt6 := P6 _ _ zt5; have cg6 := O6 _ _ _ (by omega) cg5; have zg6 := P6 _ _ zg5; have cr6 := O6 _ _ _ (by omega) cr5; have zr6 := P6 _ _ zr5; have b6 : Hid (Below w.heap.size w w6) := Lib.hid (B6 _ _ (by omega) b5.out); have s6' := Nat.le_of_eq S6.symm; clear yg0_5 xg0_5 yg1_5 xg1_5; clear yr0_5 xr0_5 yr1_5 xr1_5; have yg0_6 : w6.cell? ⟨w.heap.size + 1, 0, none⟩ = some (.int .i64 f) := cg6 0 (by simp); have xg0_6 : w6.frozen? ⟨w.heap.size + 1, 0, none⟩ = false := zg6 0 (by simp); have yg1_6 : w6.cell? ⟨w.heap.size + 1, 1, none⟩ = some (.int .i64 t) := cg6 1 (by simp); have xg1_6 : w6.frozen? ⟨w.heap.size + 1, 1, none⟩ = false := zg6 1 (by simp); have yr0_6 : w6.cell? ⟨w.heap.size + 1 + 1, 0, none⟩ = some (.int .i64 0) := cr6 0 (by simp); have xr0_6 : w6.frozen? ⟨w.heap.size + 1 + 1, 0, none⟩ = false := zr6 0 (by simp); have yr1_6 : w6.cell? ⟨w.heap.size + 1 + 1, 1, none⟩ = some (.int .i64 0) := cr6 1 (by simp); have xr1_6 : w6.frozen? ⟨w.heap.size + 1 + 1, 1, none⟩ = false := zr6 1 (by simp); clear S6 B6 O6 P6)
      | (go_at_call 66; (with_reducible refine (HG.out _).mono ?_); rintro e w7 ⟨rfl, hb7⟩; have ct7 := ct6.later hb7; have zt7 := zt6.later ct6 hb7; have cg7 := cg6.later hb7; have zg7 := zg6.later cg6 hb7; have cr7 := cr6.later hb7; have zr7 := zr6.later cr6 hb7; have cq7 := cq6.later hb7; have zq7 := zq6.later cq6 hb7; have b7 : Hid (Below w.heap.size w w7) := Lib.hid (below_then b6.out hb7); have s7' := hb7.size; clear yg0_6 xg0_6 yg1_6 xg1_6; clear yr0_6 xr0_6 yr1_6 xr1_6; have yg0_7 : w7.cell? ⟨w.heap.size + 1, 0, none⟩ = some (.int .i64 f) := cg7 0 (by simp); have xg0_7 : w7.frozen? ⟨w.heap.size + 1, 0, none⟩ = false := zg7 0 (by simp); have yg1_7 : w7.cell? ⟨w.heap.size + 1, 1, none⟩ = some (.int .i64 t) := cg7 1 (by simp); have xg1_7 : w7.frozen? ⟨w.heap.size + 1, 1, none⟩ = false := zg7 1 (by simp); have yr0_7 : w7.cell? ⟨w.heap.size + 1 + 1, 0, none⟩ = some (.int .i64 0) := cr7 0 (by simp); have xr0_7 : w7.frozen? ⟨w.heap.size + 1 + 1, 0, none⟩ = false := zr7 0 (by simp); have yr1_7 : w7.cell? ⟨w.heap.size + 1 + 1, 1, none⟩ = some (.int .i64 0) := cr7 1 (by simp); have xr1_7 : w7.frozen? ⟨w.heap.size + 1 + 1, 1, none⟩ = false := zr7 1 (by simp); have lg7 := World.block_lt_of_cell? _ _ yg0_7; dsimp only at lg7; have lr7 := World.block_lt_of_cell? _ _ yr0_7; dsimp only at lr7; clear hb7)
      | (go_at_call 50; refine (firstError_any _ [E0, G0] _ (by simp) (by first | exact cells_drew _ _ (by first | rfl | assumption | simp) _ _ | exact cells_new _ _ (by first | rfl | assumption | simp) _ _)).mono ?_; rw [EF.out]; rintro e w' ⟨rfl, rfl⟩))
    refine bodyPost_ret (v := .tuple #[.agg #[.int .i64 0, .int .i64 0], .int .i64 X0]) ?_ rfl ⟨rfl, below_alloc_top ((b7.out.setCell (by first | omega | (simp; omega)) _).setCell (by first | omega | (simp; omega)) _) _⟩
    simp [results, Try.results30, go_sem, World.cell?_alloc_past, yr0_7, yr1_7, lr7]
end Go.Proofs.Ytoieemgdkpnbfaa
