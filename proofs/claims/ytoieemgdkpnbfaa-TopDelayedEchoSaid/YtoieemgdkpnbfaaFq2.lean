/- the examples of chapter 3, once more; whole numbers as fractions -/
import Derived.Test.YtoieemgdkpnbfaaFl13
namespace Go.Proofs.Ytoieemgdkpnbfaa
open Go.RowKit RayM
set_option linter.unusedSimpArgs false
set_option linter.unusedVariables false
set_option maxRecDepth 100000 in
set_option maxHeartbeats 4000000 in
theorem traced_any (w : World) : Calls Try.prog 46 #[] w fun e w' => e = .returned (.bool true) ∧ Below w.heap.size w w' := by
  go_enter Try.func46, Try.ntmps46
  go_wp2_with (first
    | (go_at_call 48; (with_reducible refine (spike10_any _).mono ?_); rintro e w1 ⟨rfl, hb1⟩; have b1 : Hid (Below w.heap.size w w1) := Lib.hid hb1; have s1' := hb1.size; clear hb1)
    | (go_at_call 30; (with_reducible refine (exPeak _).mono ?_); rintro e w2 ⟨rfl, hb2⟩; have b2 : Hid (Below w.heap.size w w2) := Lib.hid (below_then b1.out hb2); have s2' := hb2.size; clear hb2)
    | ((with_reducible refine wpList_alloc_lit rfl 65 rfl 1 rfl #[.int .i64 0, .int .i64 0] zeroP ?_); intro w3 N3; have s3 := N3.size; have cp3 := N3.at'; have zp3 := N3.free; have b3 : Hid (Below w.heap.size w w3) := Lib.hid (below_then b2.out N3.below); clear N3; have s3' := Nat.le_of_eq s3.symm; clear s3; have yp0_3 : w3.cell? ⟨w2.heap.size, 0, none⟩ = some (.int .i64 0) := cp3 0 (by simp); have xp0_3 : w3.frozen? ⟨w2.heap.size, 0, none⟩ = false := zp3 0 (by simp); have yp1_3 : w3.cell? ⟨w2.heap.size, 1, none⟩ = some (.int .i64 0) := cp3 1 (by simp); have xp1_3 : w3.frozen? ⟨w2.heap.size, 1, none⟩ = false := zp3 1 (by simp))
    | ((with_reducible refine wpList_store_lit rfl 65 _ _ rfl _ _ _ #[.int .i64 7, .int .i64 10000] rfl rfl cp3 zp3 rfl (oneP _ _ _ rfl) infoP ?_); intro w4 S4 B4 cp4 zp4 O4 P4; have b4 : Hid (Below w.heap.size w w4) := Lib.hid (B4 _ _ (by omega) b3.out); have s4' := Nat.le_of_eq S4.symm; clear yp0_3 xp0_3 yp1_3 xp1_3; have yp0_4 : w4.cell? ⟨w2.heap.size, 0, none⟩ = some (.int .i64 7) := cp4 0 (by simp); have xp0_4 : w4.frozen? ⟨w2.heap.size, 0, none⟩ = false := zp4 0 (by simp); have yp1_4 : w4.cell? ⟨w2.heap.size, 1, none⟩ = some (.int .i64 10000) := cp4 1 (by simp); have xp1_4 : w4.frozen? ⟨w2.heap.size, 1, none⟩ = false := zp4 1 (by simp); clear S4 B4 O4 P4)
    | (go_at_call 48; (with_reducible refine (spike10_any _).mono ?_); rintro e w5 ⟨rfl, hb5⟩; have cp5 := cp4.later hb5; have zp5 := zp4.later cp4 hb5; have b5 : Hid (Below w.heap.size w w5) := Lib.hid (below_then b4.out hb5); have s5' := hb5.size; clear yp0_4 xp0_4 yp1_4 xp1_4; have yp0_5 : w5.cell? ⟨w2.heap.size, 0, none⟩ = some (.int .i64 7) := cp5 0 (by simp); have xp0_5 : w5.frozen? ⟨w2.heap.size, 0, none⟩ = false := zp5 0 (by simp); have yp1_5 : w5.cell? ⟨w2.heap.size, 1, none⟩ = some (.int .i64 10000) := cp5 1 (by simp); have xp1_5 : w5.frozen? ⟨w2.heap.size, 1, none⟩ = false := zp5 1 (by simp); have lp5 := World.block_lt_of_cell? _ _ yp0_5; dsimp only at lp5; clear hb5)
    | (go_at_call 48; (with_reducible refine (spike13_any _).mono ?_); rintro e w6 ⟨rfl, hb6⟩; have cp6 := cp5.later hb6; have zp6 := zp5.later cp5 hb6; have b6 : Hid (Below w.heap.size w w6) := Lib.hid (below_then b5.out hb6); have s6' := hb6.size; clear yp0_5 xp0_5 yp1_5 xp1_5; have yp0_6 : w6.cell? ⟨w2.heap.size, 0, none⟩ = some (.int .i64 7) := cp6 0 (by simp); have xp0_6 : w6.frozen? ⟨w2.heap.size, 0, none⟩ = false := zp6 0 (by simp); have yp1_6 : w6.cell? ⟨w2.heap.size, 1, none⟩ = some (.int .i64 10000) := cp6 1 (by simp); have xp1_6 : w6.frozen? ⟨w2.heap.size, 1, none⟩ = false := zp6 1 (by simp); have lp6 := World.block_lt_of_cell? _ _ yp0_6; dsimp only at lp6; clear hb6)
    | (go_at_call 35; (with_reducible refine (exLag _).mono ?_); rintro e w7 ⟨rfl, hb7⟩; have cp7 := cp6.later hb7; have zp7 := zp6.later cp6 hb7; have b7 : Hid (Below w.heap.size w w7) := Lib.hid (below_then b6.out hb7); have s7' := hb7.size; clear yp0_6 xp0_6 yp1_6 xp1_6; have yp0_7 : w7.cell? ⟨w2.heap.size, 0, none⟩ = some (.int .i64 7) := cp7 0 (by simp); have xp0_7 : w7.frozen? ⟨w2.heap.size, 0, none⟩ = false := zp7 0 (by simp); have yp1_7 : w7.cell? ⟨w2.heap.size, 1, none⟩ = some (.int .i64 10000) := cp7 1 (by simp); have xp1_7 : w7.frozen? ⟨w2.heap.size, 1, none⟩ = false := zp7 1 (by simp); have lp7 := World.block_lt_of_cell? _ _ yp0_7; dsimp only at lp7; clear hb7))
  go_ret
  exact ⟨rfl, b7.out⟩
set_option maxRecDepth 100000 in
set_option maxHeartbeats 1000000 in
theorem whole_any (g : Int) (w : World) : Calls Try.prog 24 #[.int .i64 g] w fun e w' => e = .returned (.agg #[.int .i64 g, .int .i64 1]) ∧ Below w.heap.size w w' := by
  go_enter Try.func24, Try.ntmps24
  go_wp2
  exact bodyPost_ret (v := .agg #[.int .i64 g, .int .i64 1]) (by simp [results, Try.results24, go_sem]) rfl ⟨rfl, (by repeat (first | exact Below.refl _ _ | refine Below.drew ?_ | refine below_drewN ?_ _ | refine Below.setCell ?_ (by first | omega | (simp; done) | (simp; omega)) _ | refine Below.alloc ?_ (by first | omega | (simp; done) | (simp; omega)) _))⟩
end Go.Proofs.Ytoieemgdkpnbfaa
