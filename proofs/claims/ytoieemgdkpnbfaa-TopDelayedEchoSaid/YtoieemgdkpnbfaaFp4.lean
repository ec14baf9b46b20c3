/- gains: the walk -/
import Derived.Test.YtoieemgdkpnbfaaFp3
import Derived.Test.YtoieemgdkpnbfaaFm7
import Derived.Test.YtoieemgdkpnbfaaFl13
import Derived.Test.YtoieemgdkpnbfaaFlI
import Derived.Deep.DeepCutAuto
namespace Go.Proofs.Ytoieemgdkpnbfaa
open Go.RowKit RayM
set_option linter.unusedSimpArgs false
set_option linter.unusedVariables false
set_option maxRecDepth 100000 in
set_option maxHeartbeats 1000000 in
theorem whole_one (w : World) : Calls Try.prog 24 #[.int .i64 1] w fun e w' => e = .returned (.agg #[.int .i64 1, .int .i64 1]) ∧ Below w.heap.size w w' := by
  go_enter Try.func24, Try.ntmps24
  go_wp2
  exact bodyPost_ret (v := .agg #[.int .i64 1, .int .i64 1]) (by simp [results, Try.results24, go_sem]) rfl ⟨rfl, (by repeat (first | exact Below.refl _ _ | refine Below.drew ?_ | refine below_drewN ?_ _ | refine Below.setCell ?_ (by first | omega | (simp; done) | (simp; omega)) _ | refine Below.alloc ?_ (by first | omega | (simp; done) | (simp; omega)) _))⟩
set_option maxRecDepth 100000 in
set_option maxHeartbeats 1000000 in
theorem tg_long (A : Option Addr) (m c : Nat) (n d : Int) (w : World) (hn : ¬ m ≤ 64) :
    Calls Try.prog 4 #[.slice A m c, .agg #[.int .i64 n, .int .i64 d]] w fun e w' => e = .returned (.bool true) ∧ Below w.heap.size w w' := by
  have j2 : (64 : Int) < (m : Int) := by omega
  go_enter Try.func4, Try.ntmps4
  go_wp2_with (first
    | ((with_reducible refine wpList_box_lit rfl 41 _ rfl 3 rfl #[.int .i64 n, .int .i64 d] rfl ?_); intro w1 N1; have s1 := N1.size; have cq1 := N1.at'; have zq1 := N1.free; have b1 : Hid (Below w.heap.size w w1) := Lib.hid N1.below; clear N1; have yq0_1 : w1.cell? ⟨w.heap.size, 0, none⟩ = some (.int .i64 n) := cq1 0 (by simp); have xq0_1 : w1.frozen? ⟨w.heap.size, 0, none⟩ = false := zq1 0 (by simp); have yq1_1 : w1.cell? ⟨w.heap.size, 1, none⟩ = some (.int .i64 d) := cq1 1 (by simp); have xq1_1 : w1.frozen? ⟨w.heap.size, 1, none⟩ = false := zq1 1 (by simp))
    | (go_at_call 12; (with_reducible refine (awake_any _).mono ?_); rintro e w2 ⟨rfl, hb2⟩; have cq2 := cq1.later hb2; have zq2 := zq1.later cq1 hb2; have b2 : Hid (Below w.heap.size w w2) := Lib.hid (below_then b1.out hb2); have s2' := hb2.size; rw [s1] at s2'; clear yq0_1 xq0_1 yq1_1 xq1_1; have yq0_2 : w2.cell? ⟨w.heap.size, 0, none⟩ = some (.int .i64 n) := cq2 0 (by simp); have xq0_2 : w2.frozen? ⟨w.heap.size, 0, none⟩ = false := zq2 0 (by simp); have yq1_2 : w2.cell? ⟨w.heap.size, 1, none⟩ = some (.int .i64 d) := cq2 1 (by simp); have xq1_2 : w2.frozen? ⟨w.heap.size, 1, none⟩ = false := zq2 1 (by simp); have lq2 := World.block_lt_of_cell? _ _ yq0_2; dsimp only at lq2; clear hb2))
  go_ret
  exact ⟨rfl, b2.out⟩
set_option maxRecDepth 100000 in
set_option maxHeartbeats 6000000 in
theorem tg_A (A : Option Addr) (m c : Nat) (l F : Nat → Int) (n d ia : Int) (w : World) (hn : m ≤ 64) (h : InAt A m l w) (X : Int) (hX : X ≠ 0) (MA : Hid (∀ w, InAt A m l w → Calls Try.prog 13 #[.slice A m c] w fun e w' => e = .returned (.agg (vls 64 (fv F)).toArray) ∧ Below w.heap.size w w')) (GA : Hid (∀ w, Calls Try.prog 21 #[.agg (vls 64 (fv F)).toArray, .agg #[.int .i64 n, .int .i64 d]] w fun e w' => e = .returned (.tuple #[.agg (vls 64 (fv fun _ => 0)).toArray, .int .i64 0, .int .i64 X]) ∧ Below w.heap.size w w')) (CA : Hid (∀ w, Calls Try.prog 16 #[.agg (vls 64 (fv F)).toArray] w fun e w' => e = .returned (.tuple #[.int .i64 ia, .int .i64 X]) ∧ Below w.heap.size w w')) (G2 : Hid (∀ w, Calls Try.prog 21 #[.agg (vls 64 (fv F)).toArray, .agg #[.int .i64 1, .int .i64 1]] w fun e w' => e = .returned (.tuple #[.agg (vls 64 (fv fun _ => 0)).toArray, .int .i64 0, .int .i64 X]) ∧ Below w.heap.size w w')) :
    Calls Try.prog 4 #[.slice A m c, .agg #[.int .i64 n, .int .i64 d]] w fun e w' => e = .returned (.bool true) ∧ Below w.heap.size w w' := by
  have HX := Lib.hid h; clear h
  have j2 : (m : Int) ≤ 64 := by omega
  have nz : (X != 0) = true := by simpa using hX
  have nz2 : (X == 0) = false := by simpa using hX
  go_enter Try.func4, Try.ntmps4
  go_wp2_with (first
    | ((with_reducible refine wpList_box_lit rfl 41 _ rfl 3 rfl #[.int .i64 n, .int .i64 d] rfl ?_); intro w1 N1; have s1 := N1.size; have cq1 := N1.at'; have zq1 := N1.free; have b1 : Hid (Below w.heap.size w w1) := Lib.hid N1.below; clear N1; have yq0_1 : w1.cell? ⟨w.heap.size, 0, none⟩ = some (.int .i64 n) := cq1 0 (by simp); have xq0_1 : w1.frozen? ⟨w.heap.size, 0, none⟩ = false := zq1 0 (by simp); have yq1_1 : w1.cell? ⟨w.heap.size, 1, none⟩ = some (.int .i64 d) := cq1 1 (by simp); have xq1_1 : w1.frozen? ⟨w.heap.size, 1, none⟩ = false := zq1 1 (by simp))
    | (go_at_call 12; (with_reducible refine (awake_any _).mono ?_); rintro e w2 ⟨rfl, hb2⟩; have cq2 := cq1.later hb2; have zq2 := zq1.later cq1 hb2; have b2 : Hid (Below w.heap.size w w2) := Lib.hid (below_then b1.out hb2); have s2' := hb2.size; rw [s1] at s2'; clear yq0_1 xq0_1 yq1_1 xq1_1; have yq0_2 : w2.cell? ⟨w.heap.size, 0, none⟩ = some (.int .i64 n) := cq2 0 (by simp); have xq0_2 : w2.frozen? ⟨w.heap.size, 0, none⟩ = false := zq2 0 (by simp); have yq1_2 : w2.cell? ⟨w.heap.size, 1, none⟩ = some (.int .i64 d) := cq2 1 (by simp); have xq1_2 : w2.frozen? ⟨w.heap.size, 1, none⟩ = false := zq2 1 (by simp); have lq2 := World.block_lt_of_cell? _ _ yq0_2; dsimp only at lq2; clear hb2)
    | (go_at_call 13; (with_reducible refine (MA.out _ (HX.out.later b2.out)).mono ?_); rintro e w3 ⟨rfl, hb3⟩; have cq3 := cq2.later hb3; have zq3 := zq2.later cq2 hb3; have b3 : Hid (Below w.heap.size w w3) := Lib.hid (below_then b2.out hb3); have s3' := hb3.size; clear yq0_2 xq0_2 yq1_2 xq1_2; have yq0_3 : w3.cell? ⟨w.heap.size, 0, none⟩ = some (.int .i64 n) := cq3 0 (by simp); have xq0_3 : w3.frozen? ⟨w.heap.size, 0, none⟩ = false := zq3 0 (by simp); have yq1_3 : w3.cell? ⟨w.heap.size, 1, none⟩ = some (.int .i64 d) := cq3 1 (by simp); have xq1_3 : w3.frozen? ⟨w.heap.size, 1, none⟩ = false := zq3 1 (by simp); have lq3 := World.block_lt_of_cell? _ _ yq0_3; dsimp only at lq3; clear hb3)
    | ((with_reducible refine wpList_alloc_named rfl 26 rfl 5 rfl 64 (fv fun _ => 0) zeroT ?_); intro w4 N4; have s4 := N4.size; have cq4 := cq3.later N4.below; have zq4 := zq3.later cq3 N4.below; have ca4 := N4.at'; have za4 := N4.free; have b4 : Hid (Below w.heap.size w w4) := Lib.hid (below_then b3.out N4.below); clear N4; have s4' := Nat.le_of_eq s4.symm; clear s4; clear yq0_3 xq0_3 yq1_3 xq1_3; have yq0_4 : w4.cell? ⟨w.heap.size, 0, none⟩ = some (.int .i64 n) := cq4 0 (by simp); have xq0_4 : w4.frozen? ⟨w.heap.size, 0, none⟩ = false := zq4 0 (by simp); have yq1_4 : w4.cell? ⟨w.heap.size, 1, none⟩ = some (.int .i64 d) := cq4 1 (by simp); have xq1_4 : w4.frozen? ⟨w.heap.size, 1, none⟩ = false := zq4 1 (by simp))
    | ((with_reducible refine wpList_store_at rfl 26 _ _ rfl _ 64 _ (fv F) rfl rfl ca4 za4 (fv_one _) infoV ?_); intro w5 S5 B5 ca5 za5 O5 P5; have cq5 := O5 _ _ _ (by omega) cq4; have zq5 := P5 _ _ zq4; have b5 : Hid (Below w.heap.size w w5) := Lib.hid (B5 _ _ (by omega) b4.out); have s5' := Nat.le_of_eq S5.symm; clear yq0_4 xq0_4 yq1_4 xq1_4; have yq0_5 : w5.cell? ⟨w.heap.size, 0, none⟩ = some (.int .i64 n) := cq5 0 (by simp); have xq0_5 : w5.frozen? ⟨w.heap.size, 0, none⟩ = false := zq5 0 (by simp); have yq1_5 : w5.cell? ⟨w.heap.size, 1, none⟩ = some (.int .i64 d) := cq5 1 (by simp); have xq1_5 : w5.frozen? ⟨w.heap.size, 1, none⟩ = false := zq5 1 (by simp); clear S5 B5 O5 P5)
    | (with_reducible refine wpList_load_at rfl 26 _ rfl _ 64 (fv F) rfl ca5 _ Try.underlying26 rfl infoV ?_)
    | (go_at_call 21; (with_reducible refine (GA.out _).mono ?_); rintro e w6 ⟨rfl, hb6⟩; have cq6 := cq5.later hb6; have zq6 := zq5.later cq5 hb6; have ca6 := ca5.later hb6; have za6 := za5.later ca5 hb6; have b6 : Hid (Below w.heap.size w w6) := Lib.hid (below_then b5.out hb6); have s6' := hb6.size; clear yq0_5 xq0_5 yq1_5 xq1_5; have yq0_6 : w6.cell? ⟨w.heap.size, 0, none⟩ = some (.int .i64 n) := cq6 0 (by simp); have xq0_6 : w6.frozen? ⟨w.heap.size, 0, none⟩ = false := zq6 0 (by simp); have yq1_6 : w6.cell? ⟨w.heap.size, 1, none⟩ = some (.int .i64 d) := cq6 1 (by simp); have xq1_6 : w6.frozen? ⟨w.heap.size, 1, none⟩ = false := zq6 1 (by simp); have lq6 := World.block_lt_of_cell? _ _ yq0_6; dsimp only at lq6; clear hb6)
    | ((with_reducible refine wpList_alloc_named rfl 26 rfl 6 rfl 64 (fv fun _ => 0) zeroT ?_); intro w7 N7; have s7 := N7.size; have cq7 := cq6.later N7.below; have zq7 := zq6.later cq6 N7.below; have ca7 := ca6.later N7.below; have za7 := za6.later ca6 N7.below; have cr7 := N7.at'; have zr7 := N7.free; have b7 : Hid (Below w.heap.size w w7) := Lib.hid (below_then b6.out N7.below); clear N7; have s7' := Nat.le_of_eq s7.symm; clear s7; clear yq0_6 xq0_6 yq1_6 xq1_6; have yq0_7 : w7.cell? ⟨w.heap.size, 0, none⟩ = some (.int .i64 n) := cq7 0 (by simp); have xq0_7 : w7.frozen? ⟨w.heap.size, 0, none⟩ = false := zq7 0 (by simp); have yq1_7 : w7.cell? ⟨w.heap.size, 1, none⟩ = some (.int .i64 d) := cq7 1 (by simp); have xq1_7 : w7.frozen? ⟨w.heap.size, 1, none⟩ = false := zq7 1 (by simp))
    | ((with_reducible refine wpList_store_at rfl 26 _ _ rfl _ 64 _ (fv fun _ => 0) rfl rfl cr7 zr7 (fv_one _) infoV ?_); intro w8 S8 B8 cr8 zr8 O8 P8; have cq8 := O8 _ _ _ (by omega) cq7; have zq8 := P8 _ _ zq7; have ca8 := O8 _ _ _ (by omega) ca7; have za8 := P8 _ _ za7; have b8 : Hid (Below w.heap.size w w8) := Lib.hid (B8 _ _ (by omega) b7.out); have s8' := Nat.le_of_eq S8.symm; clear yq0_7 xq0_7 yq1_7 xq1_7; have yq0_8 : w8.cell? ⟨w.heap.size, 0, none⟩ = some (.int .i64 n) := cq8 0 (by simp); have xq0_8 : w8.frozen? ⟨w.heap.size, 0, none⟩ = false := zq8 0 (by simp); have yq1_8 : w8.cell? ⟨w.heap.size, 1, none⟩ = some (.int .i64 d) := cq8 1 (by simp); have xq1_8 : w8.frozen? ⟨w.heap.size, 1, none⟩ = false := zq8 1 (by simp); clear S8 B8 O8 P8)
    | (with_reducible refine wpList_load_at rfl 26 _ rfl _ 64 (fv F) rfl ca8 _ Try.underlying26 rfl infoV ?_)
    | (go_at_call 16; (with_reducible refine (CA.out _).mono ?_); rintro e w9 ⟨rfl, hb9⟩; have cq9 := cq8.later hb9; have zq9 := zq8.later cq8 hb9; have ca9 := ca8.later hb9; have za9 := za8.later ca8 hb9; have cr9 := cr8.later hb9; have zr9 := zr8.later cr8 hb9; have b9 : Hid (Below w.heap.size w w9) := Lib.hid (below_then b8.out hb9); have s9' := hb9.size; clear yq0_8 xq0_8 yq1_8 xq1_8; have yq0_9 : w9.cell? ⟨w.heap.size, 0, none⟩ = some (.int .i64 n) := cq9 0 (by simp); have xq0_9 : w9.frozen? ⟨w.heap.size, 0, none⟩ = false := zq9 0 (by simp); have yq1_9 : w9.cell? ⟨w.heap.size, 1, none⟩ = some (.int .i64 d) := cq9 1 (by simp); have xq1_9 : w9.frozen? ⟨w.heap.size, 1, none⟩ = false := zq9 1 (by simp); have lq9 := World.block_lt_of_cell? _ _ yq0_9; dsimp only at lq9; clear hb9)
    | ((with_reducible refine wpList_alloc_named rfl 26 rfl 11 rfl 64 (fv fun _ => 0) zeroT ?_); intro w10 N10; have s10 := N10.size; have cq10 := cq9.later N10.below; have zq10 := zq9.later cq9 N10.below; have ca10 := ca9.later N10.below; have za10 := za9.later ca9 N10.below; have cr10 := cr9.later N10.below; have zr10 := zr9.later cr9 N10.below; have cu10 := N10.at'; have zu10 := N10.free; have b10 : Hid (Below w.heap.size w w10) := Lib.hid (below_then b9.out N10.below); clear N10; have s10' := Nat.le_of_eq s10.symm; clear s10; clear yq0_9 xq0_9 yq1_9 xq1_9; have yq0_10 : w10.cell? ⟨w.heap.size, 0, none⟩ = some (.int .i64 n) := cq10 0 (by simp); have xq0_10 : w10.frozen? ⟨w.heap.size, 0, none⟩ = false := zq10 0 (by simp); have yq1_10 : w10.cell? ⟨w.heap.size, 1, none⟩ = some (.int .i64 d) := cq10 1 (by simp); have xq1_10 : w10.frozen? ⟨w.heap.size, 1, none⟩ = false := zq10 1 (by simp))
    | (refine wpList_load_if (by rfl) 26 _ rfl _ 64 (fv fun _ => 0) rfl cr10 _ Try.underlying26 rfl infoV ?_)
    | (refine wpList_load_if (by rfl) 26 _ rfl _ 64 (fv fun _ => 0) rfl cu10 _ Try.underlying26 rfl infoV ?_)
    | (go_at_call 20; (with_reducible refine (sameTrace_any (fun _ => 0) _).mono ?_); rintro e w11 ⟨rfl, hb11⟩; have cq11 := cq10.later hb11; have zq11 := zq10.later cq10 hb11; have ca11 := ca10.later hb11; have za11 := za10.later ca10 hb11; have cr11 := cr10.later hb11; have zr11 := zr10.later cr10 hb11; have cu11 := cu10.later hb11; have zu11 := zu10.later cu10 hb11; have b11 : Hid (Below w.heap.size w w11) := Lib.hid (below_then b10.out hb11); have s11' := hb11.size; clear yq0_10 xq0_10 yq1_10 xq1_10; have yq0_11 : w11.cell? ⟨w.heap.size, 0, none⟩ = some (.int .i64 n) := cq11 0 (by simp); have xq0_11 : w11.frozen? ⟨w.heap.size, 0, none⟩ = false := zq11 0 (by simp); have yq1_11 : w11.cell? ⟨w.heap.size, 1, none⟩ = some (.int .i64 d) := cq11 1 (by simp); have xq1_11 : w11.frozen? ⟨w.heap.size, 1, none⟩ = false := zq11 1 (by simp); have lq11 := World.block_lt_of_cell? _ _ yq0_11; dsimp only at lq11; clear hb11))
  go_cut [13, 14, 15] (fun s13 s14 s15 wx => ∃ X' : Nat, s13 = .pointer (some ⟨X', 0, none⟩) ∧ s14 = .int .i64 0 ∧ s15 = .int .i64 X ∧ VAt X' 64 (fv fun _ => 0) wx ∧ VAt (w3.heap.size) 64 (fv F) wx ∧ Hid (Below w.heap.size w wx))
  case first =>
    refine wp_region_held_drew (S := fun w' => VAt (w3.heap.size) 64 (fv F) w') (by kernel_rfl) (ca11.drew) (fun hHeld => ?_)
    clear hHeld
    try clear cq1
    try clear zq1
    try clear b1
    try clear cq2
    try clear zq2
    try clear b2
    try clear cq3
    try clear zq3
    try clear b3
    try clear cq4
    try clear zq4
    try clear ca4
    try clear za4
    try clear b4
    try clear cq5
    try clear zq5
    try clear b5
    try clear cq6
    try clear zq6
    try clear ca6
    try clear za6
    try clear b6
    try clear cq7
    try clear zq7
    try clear ca7
    try clear za7
    try clear cr7
    try clear zr7
    try clear b7
    try clear cq8
    try clear zq8
    try clear ca8
    try clear za8
    try clear b8
    try clear cq9
    try clear zq9
    try clear ca9
    try clear za9
    try clear cr9
    try clear zr9
    try clear b9
    try clear cq10
    try clear zq10
    try clear ca10
    try clear za10
    try clear cr10
    try clear zr10
    try clear cu10
    try clear zu10
    try clear b10
    try clear cq11
    try clear zq11
    try clear cr11
    try clear zr11
    try clear cu11
    try clear zu11
    generalize hwd : World.drew w11 = wd
    have hbd : Below w11.heap.size w11 wd := by rw [← hwd]; exact (Below.refl _ _).drew
    have ca12 := ca11.later hbd
    have b12 : Hid (Below w.heap.size w wd) := Lib.hid (below_then b11.out hbd)
    have s12' := hbd.size
    refine' takeH (i := 0) (d := 64) (v := .agg (vls 64 (fv F)).toArray) rfl rfl (by kernel_rfl) (by kernel_rfl) (by kernel_rfl) (fun _ _ _ h => h) (yieldsIf_load_mid (by rfl) _ _ rfl _ _ rfl (vls 64 (fv F)) _ (fun w' h => h.range) Try.underlying26 rfl (by rw [vls_length]; exact infoV)) (ca12 : VAt (w3.heap.size) 64 (fv F) wd) ?_
    try simp only [Act.put, List.setIfInBounds_toArray, List.set_cons_zero, List.set_cons_succ]
    refine wpAnyH_ready (rs := [1, 7]) (by kernel_rfl) (by simp) ?_
    refine AllReadyH.cons rfl (fun K hK => ?_) ?_
    · go_simp
      (go_at_call 24; (with_reducible refine (whole_one _).mono ?_); rintro e wd13 ⟨rfl, hbx⟩)
      have ca13 := ca12.later hbx
      have b13 : Hid (Below w.heap.size w wd13) := Lib.hid (below_then b12.out hbx)
      have s13' := hbx.size
      refine hK.out _ _ ca13 (fun _ => ?_)
      clear hK K
      try simp only [Act.put, List.setIfInBounds_toArray, List.set_cons_zero, List.set_cons_succ]
      refine wpAnyH_ready (rs := [2, 7]) (by kernel_rfl) (by simp) ?_
      refine AllReadyH.cons rfl (fun K hK => ?_) ?_
      · go_simp
        (go_at_call 21; (with_reducible refine (G2.out _).mono ?_); rintro e wd14 ⟨rfl, hbx⟩)
        have ca14 := ca13.later hbx
        have b14 : Hid (Below w.heap.size w wd14) := Lib.hid (below_then b13.out hbx)
        have s14' := hbx.size
        refine hK.out _ _ ca14 (fun _ => ?_)
        clear hK K
        try simp only [Act.put, List.setIfInBounds_toArray, List.set_cons_zero, List.set_cons_succ]
        refine takeH (i := 3) (d := 63) (v := .tuple #[.agg (vls 64 (fv fun _ => 0)).toArray, .int .i64 0, .int .i64 X]) rfl rfl (by kernel_rfl) (by kernel_rfl) (by kernel_rfl) (fun _ _ _ h => h) (Or.inl ⟨by first | kernel_rfl | rfl, ?_⟩) ca14 ?_
        · intro w' hSw; go_simp
        try simp only [Act.put, List.setIfInBounds_toArray, List.set_cons_zero, List.set_cons_succ]
        refine takeH (i := 4) (d := 67) (v := .agg (vls 64 (fv fun _ => 0)).toArray) rfl rfl (by kernel_rfl) (by kernel_rfl) (by kernel_rfl) (fun _ _ _ h => h) (Or.inl ⟨by first | kernel_rfl | rfl, ?_⟩) ca14 ?_
        · intro w' hSw; go_simp
        try simp only [Act.put, List.setIfInBounds_toArray, List.set_cons_zero, List.set_cons_succ]
        refine takeH (i := 5) (d := 68) (v := .int .i64 0) rfl rfl (by kernel_rfl) (by kernel_rfl) (by kernel_rfl) (fun _ _ _ h => h) (Or.inl ⟨by first | kernel_rfl | rfl, ?_⟩) ca14 ?_
        · intro w' hSw; go_simp
        try simp only [Act.put, List.setIfInBounds_toArray, List.set_cons_zero, List.set_cons_succ]
        refine takeH (i := 6) (d := 69) (v := .int .i64 X) rfl rfl (by kernel_rfl) (by kernel_rfl) (by kernel_rfl) (fun _ _ _ h => h) (Or.inl ⟨by first | kernel_rfl | rfl, ?_⟩) ca14 ?_
        · intro w' hSw; go_simp
        try simp only [Act.put, List.setIfInBounds_toArray, List.set_cons_zero, List.set_cons_succ]
        refine wpAnyH_ready (rs := [7]) (by kernel_rfl) (by simp) ?_
        refine ready_alloc rfl (by rfl) 26 rfl 13 rfl 64 (fv fun _ => 0) zeroT (fun wd15 Nx => ?_) ?_
        · have ca15 := ca14.later Nx.below
          have cX15 := Nx.at'
          have zX15 := Nx.free
          have b15 : Hid (Below w.heap.size w wd15) := Lib.hid (below_then b14.out Nx.below)
          have s15' := Nat.le_of_eq Nx.size.symm
          clear Nx
          refine ⟨ca15, ?_⟩
          try simp only [Act.put, List.setIfInBounds_toArray, List.set_cons_zero, List.set_cons_succ]
          have ne1 : w3.heap.size ≠ wd14.heap.size := by omega
          have ge1 : w.heap.size ≤ wd14.heap.size := by omega
          refine wpAnyH_ready (rs := [8]) (by kernel_rfl) (by simp) ?_
          refine ready_store rfl (by rfl) 26 _ _ rfl rfl _ 64 (fv fun _ => 0) (fv fun _ => 0) rfl rfl cX15 zX15 (fv_one _) infoV (fun wA sA bA cA zA oA pA => ⟨oA _ _ _ ne1 ca15, ?_⟩) AllReadyH.nil
          try simp only [Act.put, List.setIfInBounds_toArray, List.set_cons_zero, List.set_cons_succ]
          have caA := oA _ _ _ ne1 ca15
          refine takeH (i := 9) (d := 14) (v := .int .i64 0) rfl rfl (by kernel_rfl) (by kernel_rfl) (by kernel_rfl) (fun _ _ _ h => h) (Or.inl ⟨by first | kernel_rfl | rfl, ?_⟩) caA ?_
          · intro w' hSw; go_simp
          try simp only [Act.put, List.setIfInBounds_toArray, List.set_cons_zero, List.set_cons_succ]
          refine takeH (i := 10) (d := 15) (v := .int .i64 X) rfl rfl (by kernel_rfl) (by kernel_rfl) (by kernel_rfl) (fun _ _ _ h => h) (Or.inl ⟨by first | kernel_rfl | rfl, ?_⟩) caA ?_
          · intro w' hSw; go_simp
          try simp only [Act.put, List.setIfInBounds_toArray, List.set_cons_zero, List.set_cons_succ]
          refine wpAnyH_done (by kernel_rfl) ?_ _
          have BB : Hid (Below w.heap.size w wA) := Lib.hid (bA _ _ ge1 b15.out)
          go_wp2_with fail
          go_meet
          exact ⟨_, rfl, rfl, rfl, cA, caA, BB⟩
        exact AllReadyH.nil
      refine ready_alloc rfl (by rfl) 26 rfl 13 rfl 64 (fv fun _ => 0) zeroT (fun wd14 Nx => ?_) ?_
      · have ca14 := ca13.later Nx.below
        have cX14 := Nx.at'
        have zX14 := Nx.free
        have b14 : Hid (Below w.heap.size w wd14) := Lib.hid (below_then b13.out Nx.below)
        have s14' := Nat.le_of_eq Nx.size.symm
        clear Nx
        refine ⟨ca14, ?_⟩
        try simp only [Act.put, List.setIfInBounds_toArray, List.set_cons_zero, List.set_cons_succ]
        refine wpAnyH_ready (rs := [2]) (by kernel_rfl) (by simp) ?_
        refine AllReadyH.cons rfl (fun K hK => ?_) ?_
        · go_simp
          (go_at_call 21; (with_reducible refine (G2.out _).mono ?_); rintro e wd15 ⟨rfl, hbx⟩)
          have ca15 := ca14.later hbx
          have cX15 := cX14.later hbx
          have zX15 := zX14.later cX14 hbx
          have b15 : Hid (Below w.heap.size w wd15) := Lib.hid (below_then b14.out hbx)
          have s15' := hbx.size
          refine hK.out _ _ ca15 (fun _ => ?_)
          clear hK K
          try simp only [Act.put, List.setIfInBounds_toArray, List.set_cons_zero, List.set_cons_succ]
          refine takeH (i := 3) (d := 63) (v := .tuple #[.agg (vls 64 (fv fun _ => 0)).toArray, .int .i64 0, .int .i64 X]) rfl rfl (by kernel_rfl) (by kernel_rfl) (by kernel_rfl) (fun _ _ _ h => h) (Or.inl ⟨by first | kernel_rfl | rfl, ?_⟩) ca15 ?_
          · intro w' hSw; go_simp
          try simp only [Act.put, List.setIfInBounds_toArray, List.set_cons_zero, List.set_cons_succ]
          refine takeH (i := 4) (d := 67) (v := .agg (vls 64 (fv fun _ => 0)).toArray) rfl rfl (by kernel_rfl) (by kernel_rfl) (by kernel_rfl) (fun _ _ _ h => h) (Or.inl ⟨by first | kernel_rfl | rfl, ?_⟩) ca15 ?_
          · intro w' hSw; go_simp
          try simp only [Act.put, List.setIfInBounds_toArray, List.set_cons_zero, List.set_cons_succ]
          refine takeH (i := 5) (d := 68) (v := .int .i64 0) rfl rfl (by kernel_rfl) (by kernel_rfl) (by kernel_rfl) (fun _ _ _ h => h) (Or.inl ⟨by first | kernel_rfl | rfl, ?_⟩) ca15 ?_
          · intro w' hSw; go_simp
          try simp only [Act.put, List.setIfInBounds_toArray, List.set_cons_zero, List.set_cons_succ]
          refine takeH (i := 6) (d := 69) (v := .int .i64 X) rfl rfl (by kernel_rfl) (by kernel_rfl) (by kernel_rfl) (fun _ _ _ h => h) (Or.inl ⟨by first | kernel_rfl | rfl, ?_⟩) ca15 ?_
          · intro w' hSw; go_simp
          try simp only [Act.put, List.setIfInBounds_toArray, List.set_cons_zero, List.set_cons_succ]
          have ne1 : w3.heap.size ≠ wd13.heap.size := by omega
          have ge1 : w.heap.size ≤ wd13.heap.size := by omega
          refine wpAnyH_ready (rs := [8]) (by kernel_rfl) (by simp) ?_
          refine ready_store rfl (by rfl) 26 _ _ rfl rfl _ 64 (fv fun _ => 0) (fv fun _ => 0) rfl rfl cX15 zX15 (fv_one _) infoV (fun wA sA bA cA zA oA pA => ⟨oA _ _ _ ne1 ca15, ?_⟩) AllReadyH.nil
          try simp only [Act.put, List.setIfInBounds_toArray, List.set_cons_zero, List.set_cons_succ]
          have caA := oA _ _ _ ne1 ca15
          refine takeH (i := 9) (d := 14) (v := .int .i64 0) rfl rfl (by kernel_rfl) (by kernel_rfl) (by kernel_rfl) (fun _ _ _ h => h) (Or.inl ⟨by first | kernel_rfl | rfl, ?_⟩) caA ?_
          · intro w' hSw; go_simp
          try simp only [Act.put, List.setIfInBounds_toArray, List.set_cons_zero, List.set_cons_succ]
          refine takeH (i := 10) (d := 15) (v := .int .i64 X) rfl rfl (by kernel_rfl) (by kernel_rfl) (by kernel_rfl) (fun _ _ _ h => h) (Or.inl ⟨by first | kernel_rfl | rfl, ?_⟩) caA ?_
          · intro w' hSw; go_simp
          try simp only [Act.put, List.setIfInBounds_toArray, List.set_cons_zero, List.set_cons_succ]
          refine wpAnyH_done (by kernel_rfl) ?_ _
          have BB : Hid (Below w.heap.size w wA) := Lib.hid (bA _ _ ge1 b15.out)
          go_wp2_with fail
          go_meet
          exact ⟨_, rfl, rfl, rfl, cA, caA, BB⟩
        exact AllReadyH.nil
      exact AllReadyH.nil
    refine ready_alloc rfl (by rfl) 26 rfl 13 rfl 64 (fv fun _ => 0) zeroT (fun wd13 Nx => ?_) ?_
    · have ca13 := ca12.later Nx.below
      have cX13 := Nx.at'
      have zX13 := Nx.free
      have b13 : Hid (Below w.heap.size w wd13) := Lib.hid (below_then b12.out Nx.below)
      have s13' := Nat.le_of_eq Nx.size.symm
      clear Nx
      refine ⟨ca13, ?_⟩
      try simp only [Act.put, List.setIfInBounds_toArray, List.set_cons_zero, List.set_cons_succ]
      refine wpAnyH_ready (rs := [1]) (by kernel_rfl) (by simp) ?_
      refine AllReadyH.cons rfl (fun K hK => ?_) ?_
      · go_simp
        (go_at_call 24; (with_reducible refine (whole_one _).mono ?_); rintro e wd14 ⟨rfl, hbx⟩)
        have ca14 := ca13.later hbx
        have cX14 := cX13.later hbx
        have zX14 := zX13.later cX13 hbx
        have b14 : Hid (Below w.heap.size w wd14) := Lib.hid (below_then b13.out hbx)
        have s14' := hbx.size
        refine hK.out _ _ ca14 (fun _ => ?_)
        clear hK K
        try simp only [Act.put, List.setIfInBounds_toArray, List.set_cons_zero, List.set_cons_succ]
        refine wpAnyH_ready (rs := [2]) (by kernel_rfl) (by simp) ?_
        refine AllReadyH.cons rfl (fun K hK => ?_) ?_
        · go_simp
          (go_at_call 21; (with_reducible refine (G2.out _).mono ?_); rintro e wd15 ⟨rfl, hbx⟩)
          have ca15 := ca14.later hbx
          have cX15 := cX14.later hbx
          have zX15 := zX14.later cX14 hbx
          have b15 : Hid (Below w.heap.size w wd15) := Lib.hid (below_then b14.out hbx)
          have s15' := hbx.size
          refine hK.out _ _ ca15 (fun _ => ?_)
          clear hK K
          try simp only [Act.put, List.setIfInBounds_toArray, List.set_cons_zero, List.set_cons_succ]
          refine takeH (i := 3) (d := 63) (v := .tuple #[.agg (vls 64 (fv fun _ => 0)).toArray, .int .i64 0, .int .i64 X]) rfl rfl (by kernel_rfl) (by kernel_rfl) (by kernel_rfl) (fun _ _ _ h => h) (Or.inl ⟨by first | kernel_rfl | rfl, ?_⟩) ca15 ?_
          · intro w' hSw; go_simp
          try simp only [Act.put, List.setIfInBounds_toArray, List.set_cons_zero, List.set_cons_succ]
          refine takeH (i := 4) (d := 67) (v := .agg (vls 64 (fv fun _ => 0)).toArray) rfl rfl (by kernel_rfl) (by kernel_rfl) (by kernel_rfl) (fun _ _ _ h => h) (Or.inl ⟨by first | kernel_rfl | rfl, ?_⟩) ca15 ?_
          · intro w' hSw; go_simp
          try simp only [Act.put, List.setIfInBounds_toArray, List.set_cons_zero, List.set_cons_succ]
          refine takeH (i := 5) (d := 68) (v := .int .i64 0) rfl rfl (by kernel_rfl) (by kernel_rfl) (by kernel_rfl) (fun _ _ _ h => h) (Or.inl ⟨by first | kernel_rfl | rfl, ?_⟩) ca15 ?_
          · intro w' hSw; go_simp
          try simp only [Act.put, List.setIfInBounds_toArray, List.set_cons_zero, List.set_cons_succ]
          refine takeH (i := 6) (d := 69) (v := .int .i64 X) rfl rfl (by kernel_rfl) (by kernel_rfl) (by kernel_rfl) (fun _ _ _ h => h) (Or.inl ⟨by first | kernel_rfl | rfl, ?_⟩) ca15 ?_
          · intro w' hSw; go_simp
          try simp only [Act.put, List.setIfInBounds_toArray, List.set_cons_zero, List.set_cons_succ]
          have ne1 : w3.heap.size ≠ wd.heap.size := by omega
          have ge1 : w.heap.size ≤ wd.heap.size := by omega
          refine wpAnyH_ready (rs := [8]) (by kernel_rfl) (by simp) ?_
          refine ready_store rfl (by rfl) 26 _ _ rfl rfl _ 64 (fv fun _ => 0) (fv fun _ => 0) rfl rfl cX15 zX15 (fv_one _) infoV (fun wA sA bA cA zA oA pA => ⟨oA _ _ _ ne1 ca15, ?_⟩) AllReadyH.nil
          try simp only [Act.put, List.setIfInBounds_toArray, List.set_cons_zero, List.set_cons_succ]
          have caA := oA _ _ _ ne1 ca15
          refine takeH (i := 9) (d := 14) (v := .int .i64 0) rfl rfl (by kernel_rfl) (by kernel_rfl) (by kernel_rfl) (fun _ _ _ h => h) (Or.inl ⟨by first | kernel_rfl | rfl, ?_⟩) caA ?_
          · intro w' hSw; go_simp
          try simp only [Act.put, List.setIfInBounds_toArray, List.set_cons_zero, List.set_cons_succ]
          refine takeH (i := 10) (d := 15) (v := .int .i64 X) rfl rfl (by kernel_rfl) (by kernel_rfl) (by kernel_rfl) (fun _ _ _ h => h) (Or.inl ⟨by first | kernel_rfl | rfl, ?_⟩) caA ?_
          · intro w' hSw; go_simp
          try simp only [Act.put, List.setIfInBounds_toArray, List.set_cons_zero, List.set_cons_succ]
          refine wpAnyH_done (by kernel_rfl) ?_ _
          have BB : Hid (Below w.heap.size w wA) := Lib.hid (bA _ _ ge1 b15.out)
          go_wp2_with fail
          go_meet
          exact ⟨_, rfl, rfl, rfl, cA, caA, BB⟩
        exact AllReadyH.nil
      exact AllReadyH.nil
    exact AllReadyH.nil
  case rest =>
    obtain ⟨X', rfl, rfl, rfl, cX, ca, bq⟩ := hcut
    try clear s1
    try clear cq1
    try clear zq1
    try clear b1
    try clear cq2
    try clear zq2
    try clear b2
    try clear s2'
    try clear cq3
    try clear zq3
    try clear b3
    try clear s3'
    try clear s4
    try clear cq4
    try clear zq4
    try clear ca4
    try clear za4
    try clear b4
    try clear s4'
    try clear cq5
    try clear zq5
    try clear b5
    try clear s5'
    try clear cq6
    try clear zq6
    try clear ca6
    try clear za6
    try clear b6
    try clear s6'
    try clear s7
    try clear cq7
    try clear zq7
    try clear ca7
    try clear za7
    try clear cr7
    try clear zr7
    try clear b7
    try clear s7'
    try clear cq8
    try clear zq8
    try clear ca8
    try clear za8
    try clear b8
    try clear s8'
    try clear cq9
    try clear zq9
    try clear ca9
    try clear za9
    try clear cr9
    try clear zr9
    try clear b9
    try clear s9'
    try clear s10
    try clear cq10
    try clear zq10
    try clear ca10
    try clear za10
    try clear cr10
    try clear zr10
    try clear cu10
    try clear zu10
    try clear b10
    try clear s10'
    try clear cq11
    try clear zq11
    try clear ca11
    try clear za11
    try clear cr11
    try clear zr11
    try clear cu11
    try clear zu11
    try clear b11
    try clear s11'
    go_wp2_with (first
      | (with_reducible refine wpList_load_at rfl 26 _ rfl _ 64 (fv F) rfl ca _ Try.underlying26 rfl infoV ?_)
      | (go_at_call 16; (with_reducible refine (CA.out _).mono ?_); rintro e w8 ⟨rfl, hb8⟩; have ca8 := ca.later hb8; have cX8 := cX.later hb8; have b8 : Hid (Below w.heap.size w w8) := Lib.hid (below_then bq.out hb8); clear hb8)
      | (refine wpList_load_if (by rfl) 26 _ rfl _ 64 (fv fun _ => 0) rfl cX8 _ Try.underlying26 rfl infoV ?_)
      | (refine wpList_load_if (by rfl) 26 _ rfl _ 64 (fv F) rfl ca8 _ Try.underlying26 rfl infoV ?_)
      | (go_at_call 20; (with_reducible refine (sameTrace_any F _).mono ?_); rintro e w9 ⟨rfl, hb9⟩; have b9 : Hid (Below w.heap.size w w9) := Lib.hid (below_then b8.out hb9); clear hb9))
    go_ret
    exact ⟨rfl, b8.out⟩
set_option maxRecDepth 100000 in
set_option maxHeartbeats 6000000 in
theorem tg_B (A : Option Addr) (m c : Nat) (l F : Nat → Int) (n d ia : Int) (w : World) (hn : m ≤ 64) (h : InAt A m l w) (X : Int) (hX : X ≠ 0) (MA : Hid (∀ w, InAt A m l w → Calls Try.prog 13 #[.slice A m c] w fun e w' => e = .returned (.agg (vls 64 (fv F)).toArray) ∧ Below w.heap.size w w')) (GA : Hid (∀ w, Calls Try.prog 21 #[.agg (vls 64 (fv F)).toArray, .agg #[.int .i64 n, .int .i64 d]] w fun e w' => e = .returned (.tuple #[.agg (vls 64 (fv fun _ => 0)).toArray, .int .i64 0, .int .i64 X]) ∧ Below w.heap.size w w')) (CA : Hid (∀ w, Calls Try.prog 16 #[.agg (vls 64 (fv F)).toArray] w fun e w' => e = .returned (.tuple #[.int .i64 ia, .int .i64 0]) ∧ Below w.heap.size w w')) (G2 : Hid (∀ w, Calls Try.prog 21 #[.agg (vls 64 (fv F)).toArray, .agg #[.int .i64 1, .int .i64 1]] w fun e w' => e = .returned (.tuple #[.agg (vls 64 (fv F)).toArray, .int .i64 0, .int .i64 0]) ∧ Below w.heap.size w w')) (GE : Hid (∀ w, Calls Try.prog 22 #[.agg #[.int .i64 n, .int .i64 d]] w fun e w' => e = .returned (.int .i64 X) ∧ Below w.heap.size w w')) :
    Calls Try.prog 4 #[.slice A m c, .agg #[.int .i64 n, .int .i64 d]] w fun e w' => e = .returned (.bool true) ∧ Below w.heap.size w w' := by
  have HX := Lib.hid h; clear h
  have j2 : (m : Int) ≤ 64 := by omega
  have nz : (X != 0) = true := by simpa using hX
  have nz2 : (X == 0) = false := by simpa using hX
  go_enter Try.func4, Try.ntmps4
  go_wp2_with (first
    | ((with_reducible refine wpList_box_lit rfl 41 _ rfl 3 rfl #[.int .i64 n, .int .i64 d] rfl ?_); intro w1 N1; have s1 := N1.size; have cq1 := N1.at'; have zq1 := N1.free; have b1 : Hid (Below w.heap.size w w1) := Lib.hid N1.below; clear N1; have yq0_1 : w1.cell? ⟨w.heap.size, 0, none⟩ = some (.int .i64 n) := cq1 0 (by simp); have xq0_1 : w1.frozen? ⟨w.heap.size, 0, none⟩ = false := zq1 0 (by simp); have yq1_1 : w1.cell? ⟨w.heap.size, 1, none⟩ = some (.int .i64 d) := cq1 1 (by simp); have xq1_1 : w1.frozen? ⟨w.heap.size, 1, none⟩ = false := zq1 1 (by simp))
    | (go_at_call 12; (with_reducible refine (awake_any _).mono ?_); rintro e w2 ⟨rfl, hb2⟩; have cq2 := cq1.later hb2; have zq2 := zq1.later cq1 hb2; have b2 : Hid (Below w.heap.size w w2) := Lib.hid (below_then b1.out hb2); have s2' := hb2.size; rw [s1] at s2'; clear yq0_1 xq0_1 yq1_1 xq1_1; have yq0_2 : w2.cell? ⟨w.heap.size, 0, none⟩ = some (.int .i64 n) := cq2 0 (by simp); have xq0_2 : w2.frozen? ⟨w.heap.size, 0, none⟩ = false := zq2 0 (by simp); have yq1_2 : w2.cell? ⟨w.heap.size, 1, none⟩ = some (.int .i64 d) := cq2 1 (by simp); have xq1_2 : w2.frozen? ⟨w.heap.size, 1, none⟩ = false := zq2 1 (by simp); have lq2 := World.block_lt_of_cell? _ _ yq0_2; dsimp only at lq2; clear hb2)
    | (go_at_call 13; (with_reducible refine (MA.out _ (HX.out.later b2.out)).mono ?_); rintro e w3 ⟨rfl, hb3⟩; have cq3 := cq2.later hb3; have zq3 := zq2.later cq2 hb3; have b3 : Hid (Below w.heap.size w w3) := Lib.hid (below_then b2.out hb3); have s3' := hb3.size; clear yq0_2 xq0_2 yq1_2 xq1_2; have yq0_3 : w3.cell? ⟨w.heap.size, 0, none⟩ = some (.int .i64 n) := cq3 0 (by simp); have xq0_3 : w3.frozen? ⟨w.heap.size, 0, none⟩ = false := zq3 0 (by simp); have yq1_3 : w3.cell? ⟨w.heap.size, 1, none⟩ = some (.int .i64 d) := cq3 1 (by simp); have xq1_3 : w3.frozen? ⟨w.heap.size, 1, none⟩ = false := zq3 1 (by simp); have lq3 := World.block_lt_of_cell? _ _ yq0_3; dsimp only at lq3; clear hb3)
    | ((with_reducible refine wpList_alloc_named rfl 26 rfl 5 rfl 64 (fv fun _ => 0) zeroT ?_); intro w4 N4; have s4 := N4.size; have cq4 := cq3.later N4.below; have zq4 := zq3.later cq3 N4.below; have ca4 := N4.at'; have za4 := N4.free; have b4 : Hid (Below w.heap.size w w4) := Lib.hid (below_then b3.out N4.below); clear N4; have s4' := Nat.le_of_eq s4.symm; clear s4; clear yq0_3 xq0_3 yq1_3 xq1_3; have yq0_4 : w4.cell? ⟨w.heap.size, 0, none⟩ = some (.int .i64 n) := cq4 0 (by simp); have xq0_4 : w4.frozen? ⟨w.heap.size, 0, none⟩ = false := zq4 0 (by simp); have yq1_4 : w4.cell? ⟨w.heap.size, 1, none⟩ = some (.int .i64 d) := cq4 1 (by simp); have xq1_4 : w4.frozen? ⟨w.heap.size, 1, none⟩ = false := zq4 1 (by simp))
    | ((with_reducible refine wpList_store_at rfl 26 _ _ rfl _ 64 _ (fv F) rfl rfl ca4 za4 (fv_one _) infoV ?_); intro w5 S5 B5 ca5 za5 O5 P5; have cq5 := O5 _ _ _ (by omega) cq4; have zq5 := P5 _ _ zq4; have b5 : Hid (Below w.heap.size w w5) := Lib.hid (B5 _ _ (by omega) b4.out); have s5' := Nat.le_of_eq S5.symm; clear yq0_4 xq0_4 yq1_4 xq1_4; have yq0_5 : w5.cell? ⟨w.heap.size, 0, none⟩ = some (.int .i64 n) := cq5 0 (by simp); have xq0_5 : w5.frozen? ⟨w.heap.size, 0, none⟩ = false := zq5 0 (by simp); have yq1_5 : w5.cell? ⟨w.heap.size, 1, none⟩ = some (.int .i64 d) := cq5 1 (by simp); have xq1_5 : w5.frozen? ⟨w.heap.size, 1, none⟩ = false := zq5 1 (by simp); clear S5 B5 O5 P5)
    | (with_reducible refine wpList_load_at rfl 26 _ rfl _ 64 (fv F) rfl ca5 _ Try.underlying26 rfl infoV ?_)
    | (go_at_call 21; (with_reducible refine (GA.out _).mono ?_); rintro e w6 ⟨rfl, hb6⟩; have cq6 := cq5.later hb6; have zq6 := zq5.later cq5 hb6; have ca6 := ca5.later hb6; have za6 := za5.later ca5 hb6; have b6 : Hid (Below w.heap.size w w6) := Lib.hid (below_then b5.out hb6); have s6' := hb6.size; clear yq0_5 xq0_5 yq1_5 xq1_5; have yq0_6 : w6.cell? ⟨w.heap.size, 0, none⟩ = some (.int .i64 n) := cq6 0 (by simp); have xq0_6 : w6.frozen? ⟨w.heap.size, 0, none⟩ = false := zq6 0 (by simp); have yq1_6 : w6.cell? ⟨w.heap.size, 1, none⟩ = some (.int .i64 d) := cq6 1 (by simp); have xq1_6 : w6.frozen? ⟨w.heap.size, 1, none⟩ = false := zq6 1 (by simp); have lq6 := World.block_lt_of_cell? _ _ yq0_6; dsimp only at lq6; clear hb6)
    | ((with_reducible refine wpList_alloc_named rfl 26 rfl 6 rfl 64 (fv fun _ => 0) zeroT ?_); intro w7 N7; have s7 := N7.size; have cq7 := cq6.later N7.below; have zq7 := zq6.later cq6 N7.below; have ca7 := ca6.later N7.below; have za7 := za6.later ca6 N7.below; have cr7 := N7.at'; have zr7 := N7.free; have b7 : Hid (Below w.heap.size w w7) := Lib.hid (below_then b6.out N7.below); clear N7; have s7' := Nat.le_of_eq s7.symm; clear s7; clear yq0_6 xq0_6 yq1_6 xq1_6; have yq0_7 : w7.cell? ⟨w.heap.size, 0, none⟩ = some (.int .i64 n) := cq7 0 (by simp); have xq0_7 : w7.frozen? ⟨w.heap.size, 0, none⟩ = false := zq7 0 (by simp); have yq1_7 : w7.cell? ⟨w.heap.size, 1, none⟩ = some (.int .i64 d) := cq7 1 (by simp); have xq1_7 : w7.frozen? ⟨w.heap.size, 1, none⟩ = false := zq7 1 (by simp))
    | ((with_reducible refine wpList_store_at rfl 26 _ _ rfl _ 64 _ (fv fun _ => 0) rfl rfl cr7 zr7 (fv_one _) infoV ?_); intro w8 S8 B8 cr8 zr8 O8 P8; have cq8 := O8 _ _ _ (by omega) cq7; have zq8 := P8 _ _ zq7; have ca8 := O8 _ _ _ (by omega) ca7; have za8 := P8 _ _ za7; have b8 : Hid (Below w.heap.size w w8) := Lib.hid (B8 _ _ (by omega) b7.out); have s8' := Nat.le_of_eq S8.symm; clear yq0_7 xq0_7 yq1_7 xq1_7; have yq0_8 : w8.cell? ⟨w.heap.size, 0, none⟩ = some (.int .i64 n) := cq8 0 (by simp); have xq0_8 : w8.frozen? ⟨w.heap.size, 0, none⟩ = false := zq8 0 (by simp); have yq1_8 : w8.cell? ⟨w.heap.size, 1, none⟩ = some (.int .i64 d) := cq8 1 (by simp); have xq1_8 : w8.frozen? ⟨w.heap.size, 1, none⟩ = false := zq8 1 (by simp); clear S8 B8 O8 P8)
    | (with_reducible refine wpList_load_at rfl 26 _ rfl _ 64 (fv F) rfl ca8 _ Try.underlying26 rfl infoV ?_)
    | (go_at_call 16; (with_reducible refine (CA.out _).mono ?_); rintro e w9 ⟨rfl, hb9⟩; have cq9 := cq8.later hb9; have zq9 := zq8.later cq8 hb9; have ca9 := ca8.later hb9; have za9 := za8.later ca8 hb9; have cr9 := cr8.later hb9; have zr9 := zr8.later cr8 hb9; have b9 : Hid (Below w.heap.size w w9) := Lib.hid (below_then b8.out hb9); have s9' := hb9.size; clear yq0_8 xq0_8 yq1_8 xq1_8; have yq0_9 : w9.cell? ⟨w.heap.size, 0, none⟩ = some (.int .i64 n) := cq9 0 (by simp); have xq0_9 : w9.frozen? ⟨w.heap.size, 0, none⟩ = false := zq9 0 (by simp); have yq1_9 : w9.cell? ⟨w.heap.size, 1, none⟩ = some (.int .i64 d) := cq9 1 (by simp); have xq1_9 : w9.frozen? ⟨w.heap.size, 1, none⟩ = false := zq9 1 (by simp); have lq9 := World.block_lt_of_cell? _ _ yq0_9; dsimp only at lq9; clear hb9)
    | (go_at_call 22; (with_reducible refine (GE.out _).mono ?_); rintro e w10 ⟨rfl, hb10⟩; have cq10 := cq9.later hb10; have zq10 := zq9.later cq9 hb10; have ca10 := ca9.later hb10; have za10 := za9.later ca9 hb10; have cr10 := cr9.later hb10; have zr10 := zr9.later cr9 hb10; have b10 : Hid (Below w.heap.size w w10) := Lib.hid (below_then b9.out hb10); have s10' := hb10.size; clear yq0_9 xq0_9 yq1_9 xq1_9; have yq0_10 : w10.cell? ⟨w.heap.size, 0, none⟩ = some (.int .i64 n) := cq10 0 (by simp); have xq0_10 : w10.frozen? ⟨w.heap.size, 0, none⟩ = false := zq10 0 (by simp); have yq1_10 : w10.cell? ⟨w.heap.size, 1, none⟩ = some (.int .i64 d) := cq10 1 (by simp); have xq1_10 : w10.frozen? ⟨w.heap.size, 1, none⟩ = false := zq10 1 (by simp); have lq10 := World.block_lt_of_cell? _ _ yq0_10; dsimp only at lq10; clear hb10)
    | ((with_reducible refine wpList_alloc_named rfl 26 rfl 11 rfl 64 (fv fun _ => 0) zeroT ?_); intro w11 N11; have s11 := N11.size; have cq11 := cq10.later N11.below; have zq11 := zq10.later cq10 N11.below; have ca11 := ca10.later N11.below; have za11 := za10.later ca10 N11.below; have cr11 := cr10.later N11.below; have zr11 := zr10.later cr10 N11.below; have cu11 := N11.at'; have zu11 := N11.free; have b11 : Hid (Below w.heap.size w w11) := Lib.hid (below_then b10.out N11.below); clear N11; have s11' := Nat.le_of_eq s11.symm; clear s11; clear yq0_10 xq0_10 yq1_10 xq1_10; have yq0_11 : w11.cell? ⟨w.heap.size, 0, none⟩ = some (.int .i64 n) := cq11 0 (by simp); have xq0_11 : w11.frozen? ⟨w.heap.size, 0, none⟩ = false := zq11 0 (by simp); have yq1_11 : w11.cell? ⟨w.heap.size, 1, none⟩ = some (.int .i64 d) := cq11 1 (by simp); have xq1_11 : w11.frozen? ⟨w.heap.size, 1, none⟩ = false := zq11 1 (by simp))
    | (refine wpList_load_if (by rfl) 26 _ rfl _ 64 (fv fun _ => 0) rfl cr11 _ Try.underlying26 rfl infoV ?_)
    | (refine wpList_load_if (by rfl) 26 _ rfl _ 64 (fv fun _ => 0) rfl cu11 _ Try.underlying26 rfl infoV ?_)
    | (go_at_call 20; (with_reducible refine (sameTrace_any (fun _ => 0) _).mono ?_); rintro e w12 ⟨rfl, hb12⟩; have cq12 := cq11.later hb12; have zq12 := zq11.later cq11 hb12; have ca12 := ca11.later hb12; have za12 := za11.later ca11 hb12; have cr12 := cr11.later hb12; have zr12 := zr11.later cr11 hb12; have cu12 := cu11.later hb12; have zu12 := zu11.later cu11 hb12; have b12 : Hid (Below w.heap.size w w12) := Lib.hid (below_then b11.out hb12); have s12' := hb12.size; clear yq0_11 xq0_11 yq1_11 xq1_11; have yq0_12 : w12.cell? ⟨w.heap.size, 0, none⟩ = some (.int .i64 n) := cq12 0 (by simp); have xq0_12 : w12.frozen? ⟨w.heap.size, 0, none⟩ = false := zq12 0 (by simp); have yq1_12 : w12.cell? ⟨w.heap.size, 1, none⟩ = some (.int .i64 d) := cq12 1 (by simp); have xq1_12 : w12.frozen? ⟨w.heap.size, 1, none⟩ = false := zq12 1 (by simp); have lq12 := World.block_lt_of_cell? _ _ yq0_12; dsimp only at lq12; clear hb12))
  go_cut [13, 14, 15] (fun s13 s14 s15 wx => ∃ X' : Nat, s13 = .pointer (some ⟨X', 0, none⟩) ∧ s14 = .int .i64 0 ∧ s15 = .int .i64 0 ∧ VAt X' 64 (fv F) wx ∧ VAt (w3.heap.size) 64 (fv F) wx ∧ Hid (Below w.heap.size w wx))
  case first =>
    refine wp_region_held_drew (S := fun w' => VAt (w3.heap.size) 64 (fv F) w') (by kernel_rfl) (ca12.drew) (fun hHeld => ?_)
    clear hHeld
    try clear cq1
    try clear zq1
    try clear b1
    try clear cq2
    try clear zq2
    try clear b2
    try clear cq3
    try clear zq3
    try clear b3
    try clear cq4
    try clear zq4
    try clear ca4
    try clear za4
    try clear b4
    try clear cq5
    try clear zq5
    try clear b5
    try clear cq6
    try clear zq6
    try clear ca6
    try clear za6
    try clear b6
    try clear cq7
    try clear zq7
    try clear ca7
    try clear za7
    try clear cr7
    try clear zr7
    try clear b7
    try clear cq8
    try clear zq8
    try clear ca8
    try clear za8
    try clear b8
    try clear cq9
    try clear zq9
    try clear ca9
    try clear za9
    try clear cr9
    try clear zr9
    try clear b9
    try clear cq10
    try clear zq10
    try clear ca10
    try clear za10
    try clear cr10
    try clear zr10
    try clear b10
    try clear cq11
    try clear zq11
    try clear ca11
    try clear za11
    try clear cr11
    try clear zr11
    try clear cu11
    try clear zu11
    try clear b11
    try clear cq12
    try clear zq12
    try clear cr12
    try clear zr12
    try clear cu12
    try clear zu12
    generalize hwd : World.drew w12 = wd
    have hbd : Below w12.heap.size w12 wd := by rw [← hwd]; exact (Below.refl _ _).drew
    have ca13 := ca12.later hbd
    have b13 : Hid (Below w.heap.size w wd) := Lib.hid (below_then b12.out hbd)
    have s13' := hbd.size
    refine' takeH (i := 0) (d := 64) (v := .agg (vls 64 (fv F)).toArray) rfl rfl (by kernel_rfl) (by kernel_rfl) (by kernel_rfl) (fun _ _ _ h => h) (yieldsIf_load_mid (by rfl) _ _ rfl _ _ rfl (vls 64 (fv F)) _ (fun w' h => h.range) Try.underlying26 rfl (by rw [vls_length]; exact infoV)) (ca13 : VAt (w3.heap.size) 64 (fv F) wd) ?_
    try simp only [Act.put, List.setIfInBounds_toArray, List.set_cons_zero, List.set_cons_succ]
    refine wpAnyH_ready (rs := [1, 7]) (by kernel_rfl) (by simp) ?_
    refine AllReadyH.cons rfl (fun K hK => ?_) ?_
    · go_simp
      (go_at_call 24; (with_reducible refine (whole_one _).mono ?_); rintro e wd14 ⟨rfl, hbx⟩)
      have ca14 := ca13.later hbx
      have b14 : Hid (Below w.heap.size w wd14) := Lib.hid (below_then b13.out hbx)
      have s14' := hbx.size
      refine hK.out _ _ ca14 (fun _ => ?_)
      clear hK K
      try simp only [Act.put, List.setIfInBounds_toArray, List.set_cons_zero, List.set_cons_succ]
      refine wpAnyH_ready (rs := [2, 7]) (by kernel_rfl) (by simp) ?_
      refine AllReadyH.cons rfl (fun K hK => ?_) ?_
      · go_simp
        (go_at_call 21; (with_reducible refine (G2.out _).mono ?_); rintro e wd15 ⟨rfl, hbx⟩)
        have ca15 := ca14.later hbx
        have b15 : Hid (Below w.heap.size w wd15) := Lib.hid (below_then b14.out hbx)
        have s15' := hbx.size
        refine hK.out _ _ ca15 (fun _ => ?_)
        clear hK K
        try simp only [Act.put, List.setIfInBounds_toArray, List.set_cons_zero, List.set_cons_succ]
        refine takeH (i := 3) (d := 63) (v := .tuple #[.agg (vls 64 (fv F)).toArray, .int .i64 0, .int .i64 0]) rfl rfl (by kernel_rfl) (by kernel_rfl) (by kernel_rfl) (fun _ _ _ h => h) (Or.inl ⟨by first | kernel_rfl | rfl, ?_⟩) ca15 ?_
        · intro w' hSw; go_simp
        try simp only [Act.put, List.setIfInBounds_toArray, List.set_cons_zero, List.set_cons_succ]
        refine takeH (i := 4) (d := 67) (v := .agg (vls 64 (fv F)).toArray) rfl rfl (by kernel_rfl) (by kernel_rfl) (by kernel_rfl) (fun _ _ _ h => h) (Or.inl ⟨by first | kernel_rfl | rfl, ?_⟩) ca15 ?_
        · intro w' hSw; go_simp
        try simp only [Act.put, List.setIfInBounds_toArray, List.set_cons_zero, List.set_cons_succ]
        refine takeH (i := 5) (d := 68) (v := .int .i64 0) rfl rfl (by kernel_rfl) (by kernel_rfl) (by kernel_rfl) (fun _ _ _ h => h) (Or.inl ⟨by first | kernel_rfl | rfl, ?_⟩) ca15 ?_
        · intro w' hSw; go_simp
        try simp only [Act.put, List.setIfInBounds_toArray, List.set_cons_zero, List.set_cons_succ]
        refine takeH (i := 6) (d := 69) (v := .int .i64 0) rfl rfl (by kernel_rfl) (by kernel_rfl) (by kernel_rfl) (fun _ _ _ h => h) (Or.inl ⟨by first | kernel_rfl | rfl, ?_⟩) ca15 ?_
        · intro w' hSw; go_simp
        try simp only [Act.put, List.setIfInBounds_toArray, List.set_cons_zero, List.set_cons_succ]
        refine wpAnyH_ready (rs := [7]) (by kernel_rfl) (by simp) ?_
        refine ready_alloc rfl (by rfl) 26 rfl 13 rfl 64 (fv fun _ => 0) zeroT (fun wd16 Nx => ?_) ?_
        · have ca16 := ca15.later Nx.below
          have cX16 := Nx.at'
          have zX16 := Nx.free
          have b16 : Hid (Below w.heap.size w wd16) := Lib.hid (below_then b15.out Nx.below)
          have s16' := Nat.le_of_eq Nx.size.symm
          clear Nx
          refine ⟨ca16, ?_⟩
          try simp only [Act.put, List.setIfInBounds_toArray, List.set_cons_zero, List.set_cons_succ]
          have ne1 : w3.heap.size ≠ wd15.heap.size := by omega
          have ge1 : w.heap.size ≤ wd15.heap.size := by omega
          refine wpAnyH_ready (rs := [8]) (by kernel_rfl) (by simp) ?_
          refine ready_store rfl (by rfl) 26 _ _ rfl rfl _ 64 (fv fun _ => 0) (fv F) rfl rfl cX16 zX16 (fv_one _) infoV (fun wA sA bA cA zA oA pA => ⟨oA _ _ _ ne1 ca16, ?_⟩) AllReadyH.nil
          try simp only [Act.put, List.setIfInBounds_toArray, List.set_cons_zero, List.set_cons_succ]
          have caA := oA _ _ _ ne1 ca16
          refine takeH (i := 9) (d := 14) (v := .int .i64 0) rfl rfl (by kernel_rfl) (by kernel_rfl) (by kernel_rfl) (fun _ _ _ h => h) (Or.inl ⟨by first | kernel_rfl | rfl, ?_⟩) caA ?_
          · intro w' hSw; go_simp
          try simp only [Act.put, List.setIfInBounds_toArray, List.set_cons_zero, List.set_cons_succ]
          refine takeH (i := 10) (d := 15) (v := .int .i64 0) rfl rfl (by kernel_rfl) (by kernel_rfl) (by kernel_rfl) (fun _ _ _ h => h) (Or.inl ⟨by first | kernel_rfl | rfl, ?_⟩) caA ?_
          · intro w' hSw; go_simp
          try simp only [Act.put, List.setIfInBounds_toArray, List.set_cons_zero, List.set_cons_succ]
          refine wpAnyH_done (by kernel_rfl) ?_ _
          have BB : Hid (Below w.heap.size w wA) := Lib.hid (bA _ _ ge1 b16.out)
          go_wp2_with fail
          go_meet
          exact ⟨_, rfl, rfl, rfl, cA, caA, BB⟩
        exact AllReadyH.nil
      refine ready_alloc rfl (by rfl) 26 rfl 13 rfl 64 (fv fun _ => 0) zeroT (fun wd15 Nx => ?_) ?_
      · have ca15 := ca14.later Nx.below
        have cX15 := Nx.at'
        have zX15 := Nx.free
        have b15 : Hid (Below w.heap.size w wd15) := Lib.hid (below_then b14.out Nx.below)
        have s15' := Nat.le_of_eq Nx.size.symm
        clear Nx
        refine ⟨ca15, ?_⟩
        try simp only [Act.put, List.setIfInBounds_toArray, List.set_cons_zero, List.set_cons_succ]
        refine wpAnyH_ready (rs := [2]) (by kernel_rfl) (by simp) ?_
        refine AllReadyH.cons rfl (fun K hK => ?_) ?_
        · go_simp
          (go_at_call 21; (with_reducible refine (G2.out _).mono ?_); rintro e wd16 ⟨rfl, hbx⟩)
          have ca16 := ca15.later hbx
          have cX16 := cX15.later hbx
          have zX16 := zX15.later cX15 hbx
          have b16 : Hid (Below w.heap.size w wd16) := Lib.hid (below_then b15.out hbx)
          have s16' := hbx.size
          refine hK.out _ _ ca16 (fun _ => ?_)
          clear hK K
          try simp only [Act.put, List.setIfInBounds_toArray, List.set_cons_zero, List.set_cons_succ]
          refine takeH (i := 3) (d := 63) (v := .tuple #[.agg (vls 64 (fv F)).toArray, .int .i64 0, .int .i64 0]) rfl rfl (by kernel_rfl) (by kernel_rfl) (by kernel_rfl) (fun _ _ _ h => h) (Or.inl ⟨by first | kernel_rfl | rfl, ?_⟩) ca16 ?_
          · intro w' hSw; go_simp
          try simp only [Act.put, List.setIfInBounds_toArray, List.set_cons_zero, List.set_cons_succ]
          refine takeH (i := 4) (d := 67) (v := .agg (vls 64 (fv F)).toArray) rfl rfl (by kernel_rfl) (by kernel_rfl) (by kernel_rfl) (fun _ _ _ h => h) (Or.inl ⟨by first | kernel_rfl | rfl, ?_⟩) ca16 ?_
          · intro w' hSw; go_simp
          try simp only [Act.put, List.setIfInBounds_toArray, List.set_cons_zero, List.set_cons_succ]
          refine takeH (i := 5) (d := 68) (v := .int .i64 0) rfl rfl (by kernel_rfl) (by kernel_rfl) (by kernel_rfl) (fun _ _ _ h => h) (Or.inl ⟨by first | kernel_rfl | rfl, ?_⟩) ca16 ?_
          · intro w' hSw; go_simp
          try simp only [Act.put, List.setIfInBounds_toArray, List.set_cons_zero, List.set_cons_succ]
          refine takeH (i := 6) (d := 69) (v := .int .i64 0) rfl rfl (by kernel_rfl) (by kernel_rfl) (by kernel_rfl) (fun _ _ _ h => h) (Or.inl ⟨by first | kernel_rfl | rfl, ?_⟩) ca16 ?_
          · intro w' hSw; go_simp
          try simp only [Act.put, List.setIfInBounds_toArray, List.set_cons_zero, List.set_cons_succ]
          have ne1 : w3.heap.size ≠ wd14.heap.size := by omega
          have ge1 : w.heap.size ≤ wd14.heap.size := by omega
          refine wpAnyH_ready (rs := [8]) (by kernel_rfl) (by simp) ?_
          refine ready_store rfl (by rfl) 26 _ _ rfl rfl _ 64 (fv fun _ => 0) (fv F) rfl rfl cX16 zX16 (fv_one _) infoV (fun wA sA bA cA zA oA pA => ⟨oA _ _ _ ne1 ca16, ?_⟩) AllReadyH.nil
          try simp only [Act.put, List.setIfInBounds_toArray, List.set_cons_zero, List.set_cons_succ]
          have caA := oA _ _ _ ne1 ca16
          refine takeH (i := 9) (d := 14) (v := .int .i64 0) rfl rfl (by kernel_rfl) (by kernel_rfl) (by kernel_rfl) (fun _ _ _ h => h) (Or.inl ⟨by first | kernel_rfl | rfl, ?_⟩) caA ?_
          · intro w' hSw; go_simp
          try simp only [Act.put, List.setIfInBounds_toArray, List.set_cons_zero, List.set_cons_succ]
          refine takeH (i := 10) (d := 15) (v := .int .i64 0) rfl rfl (by kernel_rfl) (by kernel_rfl) (by kernel_rfl) (fun _ _ _ h => h) (Or.inl ⟨by first | kernel_rfl | rfl, ?_⟩) caA ?_
          · intro w' hSw; go_simp
          try simp only [Act.put, List.setIfInBounds_toArray, List.set_cons_zero, List.set_cons_succ]
          refine wpAnyH_done (by kernel_rfl) ?_ _
          have BB : Hid (Below w.heap.size w wA) := Lib.hid (bA _ _ ge1 b16.out)
          go_wp2_with fail
          go_meet
          exact ⟨_, rfl, rfl, rfl, cA, caA, BB⟩
        exact AllReadyH.nil
      exact AllReadyH.nil
    refine ready_alloc rfl (by rfl) 26 rfl 13 rfl 64 (fv fun _ => 0) zeroT (fun wd14 Nx => ?_) ?_
    · have ca14 := ca13.later Nx.below
      have cX14 := Nx.at'
      have zX14 := Nx.free
      have b14 : Hid (Below w.heap.size w wd14) := Lib.hid (below_then b13.out Nx.below)
      have s14' := Nat.le_of_eq Nx.size.symm
      clear Nx
      refine ⟨ca14, ?_⟩
      try simp only [Act.put, List.setIfInBounds_toArray, List.set_cons_zero, List.set_cons_succ]
      refine wpAnyH_ready (rs := [1]) (by kernel_rfl) (by simp) ?_
      refine AllReadyH.cons rfl (fun K hK => ?_) ?_
      · go_simp
        (go_at_call 24; (with_reducible refine (whole_one _).mono ?_); rintro e wd15 ⟨rfl, hbx⟩)
        have ca15 := ca14.later hbx
        have cX15 := cX14.later hbx
        have zX15 := zX14.later cX14 hbx
        have b15 : Hid (Below w.heap.size w wd15) := Lib.hid (below_then b14.out hbx)
        have s15' := hbx.size
        refine hK.out _ _ ca15 (fun _ => ?_)
        clear hK K
        try simp only [Act.put, List.setIfInBounds_toArray, List.set_cons_zero, List.set_cons_succ]
        refine wpAnyH_ready (rs := [2]) (by kernel_rfl) (by simp) ?_
        refine AllReadyH.cons rfl (fun K hK => ?_) ?_
        · go_simp
          (go_at_call 21; (with_reducible refine (G2.out _).mono ?_); rintro e wd16 ⟨rfl, hbx⟩)
          have ca16 := ca15.later hbx
          have cX16 := cX15.later hbx
          have zX16 := zX15.later cX15 hbx
          have b16 : Hid (Below w.heap.size w wd16) := Lib.hid (below_then b15.out hbx)
          have s16' := hbx.size
          refine hK.out _ _ ca16 (fun _ => ?_)
          clear hK K
          try simp only [Act.put, List.setIfInBounds_toArray, List.set_cons_zero, List.set_cons_succ]
          refine takeH (i := 3) (d := 63) (v := .tuple #[.agg (vls 64 (fv F)).toArray, .int .i64 0, .int .i64 0]) rfl rfl (by kernel_rfl) (by kernel_rfl) (by kernel_rfl) (fun _ _ _ h => h) (Or.inl ⟨by first | kernel_rfl | rfl, ?_⟩) ca16 ?_
          · intro w' hSw; go_simp
          try simp only [Act.put, List.setIfInBounds_toArray, List.set_cons_zero, List.set_cons_succ]
          refine takeH (i := 4) (d := 67) (v := .agg (vls 64 (fv F)).toArray) rfl rfl (by kernel_rfl) (by kernel_rfl) (by kernel_rfl) (fun _ _ _ h => h) (Or.inl ⟨by first | kernel_rfl | rfl, ?_⟩) ca16 ?_
          · intro w' hSw; go_simp
          try simp only [Act.put, List.setIfInBounds_toArray, List.set_cons_zero, List.set_cons_succ]
          refine takeH (i := 5) (d := 68) (v := .int .i64 0) rfl rfl (by kernel_rfl) (by kernel_rfl) (by kernel_rfl) (fun _ _ _ h => h) (Or.inl ⟨by first | kernel_rfl | rfl, ?_⟩) ca16 ?_
          · intro w' hSw; go_simp
          try simp only [Act.put, List.setIfInBounds_toArray, List.set_cons_zero, List.set_cons_succ]
          refine takeH (i := 6) (d := 69) (v := .int .i64 0) rfl rfl (by kernel_rfl) (by kernel_rfl) (by kernel_rfl) (fun _ _ _ h => h) (Or.inl ⟨by first | kernel_rfl | rfl, ?_⟩) ca16 ?_
          · intro w' hSw; go_simp
          try simp only [Act.put, List.setIfInBounds_toArray, List.set_cons_zero, List.set_cons_succ]
          have ne1 : w3.heap.size ≠ wd.heap.size := by omega
          have ge1 : w.heap.size ≤ wd.heap.size := by omega
          refine wpAnyH_ready (rs := [8]) (by kernel_rfl) (by simp) ?_
          refine ready_store rfl (by rfl) 26 _ _ rfl rfl _ 64 (fv fun _ => 0) (fv F) rfl rfl cX16 zX16 (fv_one _) infoV (fun wA sA bA cA zA oA pA => ⟨oA _ _ _ ne1 ca16, ?_⟩) AllReadyH.nil
          try simp only [Act.put, List.setIfInBounds_toArray, List.set_cons_zero, List.set_cons_succ]
          have caA := oA _ _ _ ne1 ca16
          refine takeH (i := 9) (d := 14) (v := .int .i64 0) rfl rfl (by kernel_rfl) (by kernel_rfl) (by kernel_rfl) (fun _ _ _ h => h) (Or.inl ⟨by first | kernel_rfl | rfl, ?_⟩) caA ?_
          · intro w' hSw; go_simp
          try simp only [Act.put, List.setIfInBounds_toArray, List.set_cons_zero, List.set_cons_succ]
          refine takeH (i := 10) (d := 15) (v := .int .i64 0) rfl rfl (by kernel_rfl) (by kernel_rfl) (by kernel_rfl) (fun _ _ _ h => h) (Or.inl ⟨by first | kernel_rfl | rfl, ?_⟩) caA ?_
          · intro w' hSw; go_simp
          try simp only [Act.put, List.setIfInBounds_toArray, List.set_cons_zero, List.set_cons_succ]
          refine wpAnyH_done (by kernel_rfl) ?_ _
          have BB : Hid (Below w.heap.size w wA) := Lib.hid (bA _ _ ge1 b16.out)
          go_wp2_with fail
          go_meet
          exact ⟨_, rfl, rfl, rfl, cA, caA, BB⟩
        exact AllReadyH.nil
      exact AllReadyH.nil
    exact AllReadyH.nil
  case rest =>
    obtain ⟨X', rfl, rfl, rfl, cX, ca, bq⟩ := hcut
    try clear s1
    try clear cq1
    try clear zq1
    try clear b1
    try clear cq2
    try clear zq2
    try clear b2
    try clear s2'
    try clear cq3
    try clear zq3
    try clear b3
    try clear s3'
    try clear s4
    try clear cq4
    try clear zq4
    try clear ca4
    try clear za4
    try clear b4
    try clear s4'
    try clear cq5
    try clear zq5
    try clear b5
    try clear s5'
    try clear cq6
    try clear zq6
    try clear ca6
    try clear za6
    try clear b6
    try clear s6'
    try clear s7
    try clear cq7
    try clear zq7
    try clear ca7
    try clear za7
    try clear cr7
    try clear zr7
    try clear b7
    try clear s7'
    try clear cq8
    try clear zq8
    try clear ca8
    try clear za8
    try clear b8
    try clear s8'
    try clear cq9
    try clear zq9
    try clear ca9
    try clear za9
    try clear cr9
    try clear zr9
    try clear b9
    try clear s9'
    try clear cq10
    try clear zq10
    try clear ca10
    try clear za10
    try clear cr10
    try clear zr10
    try clear b10
    try clear s10'
    try clear s11
    try clear cq11
    try clear zq11
    try clear ca11
    try clear za11
    try clear cr11
    try clear zr11
    try clear cu11
    try clear zu11
    try clear b11
    try clear s11'
    try clear cq12
    try clear zq12
    try clear ca12
    try clear za12
    try clear cr12
    try clear zr12
    try clear cu12
    try clear zu12
    try clear b12
    try clear s12'
    go_wp2_with (first
      | (with_reducible refine wpList_load_at rfl 26 _ rfl _ 64 (fv F) rfl ca _ Try.underlying26 rfl infoV ?_)
      | (go_at_call 16; (with_reducible refine (CA.out _).mono ?_); rintro e w8 ⟨rfl, hb8⟩; have ca8 := ca.later hb8; have cX8 := cX.later hb8; have b8 : Hid (Below w.heap.size w w8) := Lib.hid (below_then bq.out hb8); clear hb8)
      | (refine wpList_load_if (by rfl) 26 _ rfl _ 64 (fv F) rfl cX8 _ Try.underlying26 rfl infoV ?_)
      | (refine wpList_load_if (by rfl) 26 _ rfl _ 64 (fv F) rfl ca8 _ Try.underlying26 rfl infoV ?_)
      | (go_at_call 20; (with_reducible refine (sameTrace_any F _).mono ?_); rintro e w9 ⟨rfl, hb9⟩; have b9 : Hid (Below w.heap.size w w9) := Lib.hid (below_then b8.out hb9); clear hb9))
    go_ret
    exact ⟨rfl, b9.out⟩
set_option maxRecDepth 100000 in
set_option maxHeartbeats 6000000 in
theorem tg_C (A : Option Addr) (m c : Nat) (l F : Nat → Int) (n d ia : Int) (w : World) (hn : m ≤ 64) (h : InAt A m l w) (T : Nat → Int) (N : Int) (MA : Hid (∀ w, InAt A m l w → Calls Try.prog 13 #[.slice A m c] w fun e w' => e = .returned (.agg (vls 64 (fv F)).toArray) ∧ Below w.heap.size w w')) (GA : Hid (∀ w, Calls Try.prog 21 #[.agg (vls 64 (fv F)).toArray, .agg #[.int .i64 n, .int .i64 d]] w fun e w' => e = .returned (.tuple #[.agg (vls 64 (fv T)).toArray, .int .i64 N, .int .i64 0]) ∧ Below w.heap.size w w')) (CA : Hid (∀ w, Calls Try.prog 16 #[.agg (vls 64 (fv F)).toArray] w fun e w' => e = .returned (.tuple #[.int .i64 ia, .int .i64 0]) ∧ Below w.heap.size w w')) (G2 : Hid (∀ w, Calls Try.prog 21 #[.agg (vls 64 (fv F)).toArray, .agg #[.int .i64 1, .int .i64 1]] w fun e w' => e = .returned (.tuple #[.agg (vls 64 (fv F)).toArray, .int .i64 0, .int .i64 0]) ∧ Below w.heap.size w w')) (GE : Hid (∀ w, Calls Try.prog 22 #[.agg #[.int .i64 n, .int .i64 d]] w fun e w' => e = .returned (.int .i64 0) ∧ Below w.heap.size w w')) (RG : Hid (∀ w, Calls Try.prog 23 #[.agg (vls 64 (fv F)).toArray, .agg #[.int .i64 n, .int .i64 d]] w fun e w' => e = .returned (.tuple #[.agg (vls 64 (fv T)).toArray, .int .i64 N]) ∧ Below w.heap.size w w')) :
    Calls Try.prog 4 #[.slice A m c, .agg #[.int .i64 n, .int .i64 d]] w fun e w' => e = .returned (.bool true) ∧ Below w.heap.size w w' := by
  have HX := Lib.hid h; clear h
  have j2 : (m : Int) ≤ 64 := by omega
  go_enter Try.func4, Try.ntmps4
  go_wp2_with (first
    | ((with_reducible refine wpList_box_lit rfl 41 _ rfl 3 rfl #[.int .i64 n, .int .i64 d] rfl ?_); intro w1 N1; have s1 := N1.size; have cq1 := N1.at'; have zq1 := N1.free; have b1 : Hid (Below w.heap.size w w1) := Lib.hid N1.below; clear N1; have yq0_1 : w1.cell? ⟨w.heap.size, 0, none⟩ = some (.int .i64 n) := cq1 0 (by simp); have xq0_1 : w1.frozen? ⟨w.heap.size, 0, none⟩ = false := zq1 0 (by simp); have yq1_1 : w1.cell? ⟨w.heap.size, 1, none⟩ = some (.int .i64 d) := cq1 1 (by simp); have xq1_1 : w1.frozen? ⟨w.heap.size, 1, none⟩ = false := zq1 1 (by simp))
    | (go_at_call 12; (with_reducible refine (awake_any _).mono ?_); rintro e w2 ⟨rfl, hb2⟩; have cq2 := cq1.later hb2; have zq2 := zq1.later cq1 hb2; have b2 : Hid (Below w.heap.size w w2) := Lib.hid (below_then b1.out hb2); have s2' := hb2.size; rw [s1] at s2'; clear yq0_1 xq0_1 yq1_1 xq1_1; have yq0_2 : w2.cell? ⟨w.heap.size, 0, none⟩ = some (.int .i64 n) := cq2 0 (by simp); have xq0_2 : w2.frozen? ⟨w.heap.size, 0, none⟩ = false := zq2 0 (by simp); have yq1_2 : w2.cell? ⟨w.heap.size, 1, none⟩ = some (.int .i64 d) := cq2 1 (by simp); have xq1_2 : w2.frozen? ⟨w.heap.size, 1, none⟩ = false := zq2 1 (by simp); have lq2 := World.block_lt_of_cell? _ _ yq0_2; dsimp only at lq2; clear hb2)
    | (go_at_call 13; (with_reducible refine (MA.out _ (HX.out.later b2.out)).mono ?_); rintro e w3 ⟨rfl, hb3⟩; have cq3 := cq2.later hb3; have zq3 := zq2.later cq2 hb3; have b3 : Hid (Below w.heap.size w w3) := Lib.hid (below_then b2.out hb3); have s3' := hb3.size; clear yq0_2 xq0_2 yq1_2 xq1_2; have yq0_3 : w3.cell? ⟨w.heap.size, 0, none⟩ = some (.int .i64 n) := cq3 0 (by simp); have xq0_3 : w3.frozen? ⟨w.heap.size, 0, none⟩ = false := zq3 0 (by simp); have yq1_3 : w3.cell? ⟨w.heap.size, 1, none⟩ = some (.int .i64 d) := cq3 1 (by simp); have xq1_3 : w3.frozen? ⟨w.heap.size, 1, none⟩ = false := zq3 1 (by simp); have lq3 := World.block_lt_of_cell? _ _ yq0_3; dsimp only at lq3; clear hb3)
    | ((with_reducible refine wpList_alloc_named rfl 26 rfl 5 rfl 64 (fv fun _ => 0) zeroT ?_); intro w4 N4; have s4 := N4.size; have cq4 := cq3.later N4.below; have zq4 := zq3.later cq3 N4.below; have ca4 := N4.at'; have za4 := N4.free; have b4 : Hid (Below w.heap.size w w4) := Lib.hid (below_then b3.out N4.below); clear N4; have s4' := Nat.le_of_eq s4.symm; clear s4; clear yq0_3 xq0_3 yq1_3 xq1_3; have yq0_4 : w4.cell? ⟨w.heap.size, 0, none⟩ = some (.int .i64 n) := cq4 0 (by simp); have xq0_4 : w4.frozen? ⟨w.heap.size, 0, none⟩ = false := zq4 0 (by simp); have yq1_4 : w4.cell? ⟨w.heap.size, 1, none⟩ = some (.int .i64 d) := cq4 1 (by simp); have xq1_4 : w4.frozen? ⟨w.heap.size, 1, none⟩ = false := zq4 1 (by simp))
    | ((with_reducible refine wpList_store_at rfl 26 _ _ rfl _ 64 _ (fv F) rfl rfl ca4 za4 (fv_one _) infoV ?_); intro w5 S5 B5 ca5 za5 O5 P5; have cq5 := O5 _ _ _ (by omega) cq4; have zq5 := P5 _ _ zq4; have b5 : Hid (Below w.heap.size w w5) := Lib.hid (B5 _ _ (by omega) b4.out); have s5' := Nat.le_of_eq S5.symm; clear yq0_4 xq0_4 yq1_4 xq1_4; have yq0_5 : w5.cell? ⟨w.heap.size, 0, none⟩ = some (.int .i64 n) := cq5 0 (by simp); have xq0_5 : w5.frozen? ⟨w.heap.size, 0, none⟩ = false := zq5 0 (by simp); have yq1_5 : w5.cell? ⟨w.heap.size, 1, none⟩ = some (.int .i64 d) := cq5 1 (by simp); have xq1_5 : w5.frozen? ⟨w.heap.size, 1, none⟩ = false := zq5 1 (by simp); clear S5 B5 O5 P5)
    | (with_reducible refine wpList_load_at rfl 26 _ rfl _ 64 (fv F) rfl ca5 _ Try.underlying26 rfl infoV ?_)
    | (go_at_call 21; (with_reducible refine (GA.out _).mono ?_); rintro e w6 ⟨rfl, hb6⟩; have cq6 := cq5.later hb6; have zq6 := zq5.later cq5 hb6; have ca6 := ca5.later hb6; have za6 := za5.later ca5 hb6; have b6 : Hid (Below w.heap.size w w6) := Lib.hid (below_then b5.out hb6); have s6' := hb6.size; clear yq0_5 xq0_5 yq1_5 xq1_5; have yq0_6 : w6.cell? ⟨w.heap.size, 0, none⟩ = some (.int .i64 n) := cq6 0 (by simp); have xq0_6 : w6.frozen? ⟨w.heap.size, 0, none⟩ = false := zq6 0 (by simp); have yq1_6 : w6.cell? ⟨w.heap.size, 1, none⟩ = some (.int .i64 d) := cq6 1 (by simp); have xq1_6 : w6.frozen? ⟨w.heap.size, 1, none⟩ = false := zq6 1 (by simp); have lq6 := World.block_lt_of_cell? _ _ yq0_6; dsimp only at lq6; clear hb6)
    | ((with_reducible refine wpList_alloc_named rfl 26 rfl 6 rfl 64 (fv fun _ => 0) zeroT ?_); intro w7 N7; have s7 := N7.size; have cq7 := cq6.later N7.below; have zq7 := zq6.later cq6 N7.below; have ca7 := ca6.later N7.below; have za7 := za6.later ca6 N7.below; have cr7 := N7.at'; have zr7 := N7.free; have b7 : Hid (Below w.heap.size w w7) := Lib.hid (below_then b6.out N7.below); clear N7; have s7' := Nat.le_of_eq s7.symm; clear s7; clear yq0_6 xq0_6 yq1_6 xq1_6; have yq0_7 : w7.cell? ⟨w.heap.size, 0, none⟩ = some (.int .i64 n) := cq7 0 (by simp); have xq0_7 : w7.frozen? ⟨w.heap.size, 0, none⟩ = false := zq7 0 (by simp); have yq1_7 : w7.cell? ⟨w.heap.size, 1, none⟩ = some (.int .i64 d) := cq7 1 (by simp); have xq1_7 : w7.frozen? ⟨w.heap.size, 1, none⟩ = false := zq7 1 (by simp))
    | ((with_reducible refine wpList_store_at rfl 26 _ _ rfl _ 64 _ (fv T) rfl rfl cr7 zr7 (fv_one _) infoV ?_); intro w8 S8 B8 cr8 zr8 O8 P8; have cq8 := O8 _ _ _ (by omega) cq7; have zq8 := P8 _ _ zq7; have ca8 := O8 _ _ _ (by omega) ca7; have za8 := P8 _ _ za7; have b8 : Hid (Below w.heap.size w w8) := Lib.hid (B8 _ _ (by omega) b7.out); have s8' := Nat.le_of_eq S8.symm; clear yq0_7 xq0_7 yq1_7 xq1_7; have yq0_8 : w8.cell? ⟨w.heap.size, 0, none⟩ = some (.int .i64 n) := cq8 0 (by simp); have xq0_8 : w8.frozen? ⟨w.heap.size, 0, none⟩ = false := zq8 0 (by simp); have yq1_8 : w8.cell? ⟨w.heap.size, 1, none⟩ = some (.int .i64 d) := cq8 1 (by simp); have xq1_8 : w8.frozen? ⟨w.heap.size, 1, none⟩ = false := zq8 1 (by simp); clear S8 B8 O8 P8)
    | (with_reducible refine wpList_load_at rfl 26 _ rfl _ 64 (fv F) rfl ca8 _ Try.underlying26 rfl infoV ?_)
    | (go_at_call 16; (with_reducible refine (CA.out _).mono ?_); rintro e w9 ⟨rfl, hb9⟩; have cq9 := cq8.later hb9; have zq9 := zq8.later cq8 hb9; have ca9 := ca8.later hb9; have za9 := za8.later ca8 hb9; have cr9 := cr8.later hb9; have zr9 := zr8.later cr8 hb9; have b9 : Hid (Below w.heap.size w w9) := Lib.hid (below_then b8.out hb9); have s9' := hb9.size; clear yq0_8 xq0_8 yq1_8 xq1_8; have yq0_9 : w9.cell? ⟨w.heap.size, 0, none⟩ = some (.int .i64 n) := cq9 0 (by simp); have xq0_9 : w9.frozen? ⟨w.heap.size, 0, none⟩ = false := zq9 0 (by simp); have yq1_9 : w9.cell? ⟨w.heap.size, 1, none⟩ = some (.int .i64 d) := cq9 1 (by simp); have xq1_9 : w9.frozen? ⟨w.heap.size, 1, none⟩ = false := zq9 1 (by simp); have lq9 := World.block_lt_of_cell? _ _ yq0_9; dsimp only at lq9; clear hb9)
    | (go_at_call 22; (with_reducible refine (GE.out _).mono ?_); rintro e w10 ⟨rfl, hb10⟩; have cq10 := cq9.later hb10; have zq10 := zq9.later cq9 hb10; have ca10 := ca9.later hb10; have za10 := za9.later ca9 hb10; have cr10 := cr9.later hb10; have zr10 := zr9.later cr9 hb10; have b10 : Hid (Below w.heap.size w w10) := Lib.hid (below_then b9.out hb10); have s10' := hb10.size; clear yq0_9 xq0_9 yq1_9 xq1_9; have yq0_10 : w10.cell? ⟨w.heap.size, 0, none⟩ = some (.int .i64 n) := cq10 0 (by simp); have xq0_10 : w10.frozen? ⟨w.heap.size, 0, none⟩ = false := zq10 0 (by simp); have yq1_10 : w10.cell? ⟨w.heap.size, 1, none⟩ = some (.int .i64 d) := cq10 1 (by simp); have xq1_10 : w10.frozen? ⟨w.heap.size, 1, none⟩ = false := zq10 1 (by simp); have lq10 := World.block_lt_of_cell? _ _ yq0_10; dsimp only at lq10; clear hb10)
    | ((with_reducible refine wpList_alloc_named rfl 26 rfl 11 rfl 64 (fv fun _ => 0) zeroT ?_); intro w11 N11; have s11 := N11.size; have cq11 := cq10.later N11.below; have zq11 := zq10.later cq10 N11.below; have ca11 := ca10.later N11.below; have za11 := za10.later ca10 N11.below; have cr11 := cr10.later N11.below; have zr11 := zr10.later cr10 N11.below; have cu11 := N11.at'; have zu11 := N11.free; have b11 : Hid (Below w.heap.size w w11) := Lib.hid (below_then b10.out N11.below); clear N11; have s11' := Nat.le_of_eq s11.symm; clear s11; clear yq0_10 xq0_10 yq1_10 xq1_10; have yq0_11 : w11.cell? ⟨w.heap.size, 0, none⟩ = some (.int .i64 n) := cq11 0 (by simp); have xq0_11 : w11.frozen? ⟨w.heap.size, 0, none⟩ = false := zq11 0 (by simp); have yq1_11 : w11.cell? ⟨w.heap.size, 1, none⟩ = some (.int .i64 d) := cq11 1 (by simp); have xq1_11 : w11.frozen? ⟨w.heap.size, 1, none⟩ = false := zq11 1 (by simp))
    | (with_reducible refine wpList_load_at rfl 26 _ rfl _ 64 (fv F) rfl ca11 _ Try.underlying26 rfl infoV ?_)
    | (go_at_call 23; (with_reducible refine (RG.out _).mono ?_); rintro e w12 ⟨rfl, hb12⟩; have cq12 := cq11.later hb12; have zq12 := zq11.later cq11 hb12; have ca12 := ca11.later hb12; have za12 := za11.later ca11 hb12; have cr12 := cr11.later hb12; have zr12 := zr11.later cr11 hb12; have cu12 := cu11.later hb12; have zu12 := zu11.later cu11 hb12; have b12 : Hid (Below w.heap.size w w12) := Lib.hid (below_then b11.out hb12); have s12' := hb12.size; clear yq0_11 xq0_11 yq1_11 xq1_11; have yq0_12 : w12.cell? ⟨w.heap.size, 0, none⟩ = some (.int .i64 n) := cq12 0 (by simp); have xq0_12 : w12.frozen? ⟨w.heap.size, 0, none⟩ = false := zq12 0 (by simp); have yq1_12 : w12.cell? ⟨w.heap.size, 1, none⟩ = some (.int .i64 d) := cq12 1 (by simp); have xq1_12 : w12.frozen? ⟨w.heap.size, 1, none⟩ = false := zq12 1 (by simp); have lq12 := World.block_lt_of_cell? _ _ yq0_12; dsimp only at lq12; clear hb12)
    | ((with_reducible refine wpList_store_at rfl 26 _ _ rfl _ 64 _ (fv T) rfl rfl cu12 zu12 (fv_one _) infoV ?_); intro w13 S13 B13 cu13 zu13 O13 P13; have cq13 := O13 _ _ _ (by omega) cq12; have zq13 := P13 _ _ zq12; have ca13 := O13 _ _ _ (by omega) ca12; have za13 := P13 _ _ za12; have cr13 := O13 _ _ _ (by omega) cr12; have zr13 := P13 _ _ zr12; have b13 : Hid (Below w.heap.size w w13) := Lib.hid (B13 _ _ (by omega) b12.out); have s13' := Nat.le_of_eq S13.symm; clear yq0_12 xq0_12 yq1_12 xq1_12; have yq0_13 : w13.cell? ⟨w.heap.size, 0, none⟩ = some (.int .i64 n) := cq13 0 (by simp); have xq0_13 : w13.frozen? ⟨w.heap.size, 0, none⟩ = false := zq13 0 (by simp); have yq1_13 : w13.cell? ⟨w.heap.size, 1, none⟩ = some (.int .i64 d) := cq13 1 (by simp); have xq1_13 : w13.frozen? ⟨w.heap.size, 1, none⟩ = false := zq13 1 (by simp); clear S13 B13 O13 P13)
    | (refine wpList_load_if (by rfl) 26 _ rfl _ 64 (fv T) rfl cr13 _ Try.underlying26 rfl infoV ?_)
    | (refine wpList_load_if (by rfl) 26 _ rfl _ 64 (fv T) rfl cu13 _ Try.underlying26 rfl infoV ?_)
    | (go_at_call 20; (with_reducible refine (sameTrace_any (T) _).mono ?_); rintro e w14 ⟨rfl, hb14⟩; have cq14 := cq13.later hb14; have zq14 := zq13.later cq13 hb14; have ca14 := ca13.later hb14; have za14 := za13.later ca13 hb14; have cr14 := cr13.later hb14; have zr14 := zr13.later cr13 hb14; have cu14 := cu13.later hb14; have zu14 := zu13.later cu13 hb14; have b14 : Hid (Below w.heap.size w w14) := Lib.hid (below_then b13.out hb14); have s14' := hb14.size; clear yq0_13 xq0_13 yq1_13 xq1_13; have yq0_14 : w14.cell? ⟨w.heap.size, 0, none⟩ = some (.int .i64 n) := cq14 0 (by simp); have xq0_14 : w14.frozen? ⟨w.heap.size, 0, none⟩ = false := zq14 0 (by simp); have yq1_14 : w14.cell? ⟨w.heap.size, 1, none⟩ = some (.int .i64 d) := cq14 1 (by simp); have xq1_14 : w14.frozen? ⟨w.heap.size, 1, none⟩ = false := zq14 1 (by simp); have lq14 := World.block_lt_of_cell? _ _ yq0_14; dsimp only at lq14; clear hb14))
  go_cut [13, 14, 15] (fun s13 s14 s15 wx => ∃ X' : Nat, s13 = .pointer (some ⟨X', 0, none⟩) ∧ s14 = .int .i64 0 ∧ s15 = .int .i64 0 ∧ VAt X' 64 (fv F) wx ∧ VAt (w3.heap.size) 64 (fv F) wx ∧ Hid (Below w.heap.size w wx))
  case first =>
    refine wp_region_held_drew (S := fun w' => VAt (w3.heap.size) 64 (fv F) w') (by kernel_rfl) (ca14.drew) (fun hHeld => ?_)
    clear hHeld
    try clear cq1
    try clear zq1
    try clear b1
    try clear cq2
    try clear zq2
    try clear b2
    try clear cq3
    try clear zq3
    try clear b3
    try clear cq4
    try clear zq4
    try clear ca4
    try clear za4
    try clear b4
    try clear cq5
    try clear zq5
    try clear b5
    try clear cq6
    try clear zq6
    try clear ca6
    try clear za6
    try clear b6
    try clear cq7
    try clear zq7
    try clear ca7
    try clear za7
    try clear cr7
    try clear zr7
    try clear b7
    try clear cq8
    try clear zq8
    try clear ca8
    try clear za8
    try clear b8
    try clear cq9
    try clear zq9
    try clear ca9
    try clear za9
    try clear cr9
    try clear zr9
    try clear b9
    try clear cq10
    try clear zq10
    try clear ca10
    try clear za10
    try clear cr10
    try clear zr10
    try clear b10
    try clear cq11
    try clear zq11
    try clear ca11
    try clear za11
    try clear cr11
    try clear zr11
    try clear cu11
    try clear zu11
    try clear b11
    try clear cq12
    try clear zq12
    try clear ca12
    try clear za12
    try clear cr12
    try clear zr12
    try clear cu12
    try clear zu12
    try clear b12
    try clear cq13
    try clear zq13
    try clear ca13
    try clear za13
    try clear cr13
    try clear zr13
    try clear b13
    try clear cq14
    try clear zq14
    try clear cr14
    try clear zr14
    try clear cu14
    try clear zu14
    generalize hwd : World.drew w14 = wd
    have hbd : Below w14.heap.size w14 wd := by rw [← hwd]; exact (Below.refl _ _).drew
    have ca15 := ca14.later hbd
    have b15 : Hid (Below w.heap.size w wd) := Lib.hid (below_then b14.out hbd)
    have s15' := hbd.size
    refine' takeH (i := 0) (d := 64) (v := .agg (vls 64 (fv F)).toArray) rfl rfl (by kernel_rfl) (by kernel_rfl) (by kernel_rfl) (fun _ _ _ h => h) (yieldsIf_load_mid (by rfl) _ _ rfl _ _ rfl (vls 64 (fv F)) _ (fun w' h => h.range) Try.underlying26 rfl (by rw [vls_length]; exact infoV)) (ca15 : VAt (w3.heap.size) 64 (fv F) wd) ?_
    try simp only [Act.put, List.setIfInBounds_toArray, List.set_cons_zero, List.set_cons_succ]
    refine wpAnyH_ready (rs := [1, 7]) (by kernel_rfl) (by simp) ?_
    refine AllReadyH.cons rfl (fun K hK => ?_) ?_
    · go_simp
      (go_at_call 24; (with_reducible refine (whole_one _).mono ?_); rintro e wd16 ⟨rfl, hbx⟩)
      have ca16 := ca15.later hbx
      have b16 : Hid (Below w.heap.size w wd16) := Lib.hid (below_then b15.out hbx)
      have s16' := hbx.size
      refine hK.out _ _ ca16 (fun _ => ?_)
      clear hK K
      try simp only [Act.put, List.setIfInBounds_toArray, List.set_cons_zero, List.set_cons_succ]
      refine wpAnyH_ready (rs := [2, 7]) (by kernel_rfl) (by simp) ?_
      refine AllReadyH.cons rfl (fun K hK => ?_) ?_
      · go_simp
        (go_at_call 21; (with_reducible refine (G2.out _).mono ?_); rintro e wd17 ⟨rfl, hbx⟩)
        have ca17 := ca16.later hbx
        have b17 : Hid (Below w.heap.size w wd17) := Lib.hid (below_then b16.out hbx)
        have s17' := hbx.size
        refine hK.out _ _ ca17 (fun _ => ?_)
        clear hK K
        try simp only [Act.put, List.setIfInBounds_toArray, List.set_cons_zero, List.set_cons_succ]
        refine takeH (i := 3) (d := 63) (v := .tuple #[.agg (vls 64 (fv F)).toArray, .int .i64 0, .int .i64 0]) rfl rfl (by kernel_rfl) (by kernel_rfl) (by kernel_rfl) (fun _ _ _ h => h) (Or.inl ⟨by first | kernel_rfl | rfl, ?_⟩) ca17 ?_
        · intro w' hSw; go_simp
        try simp only [Act.put, List.setIfInBounds_toArray, List.set_cons_zero, List.set_cons_succ]
        refine takeH (i := 4) (d := 67) (v := .agg (vls 64 (fv F)).toArray) rfl rfl (by kernel_rfl) (by kernel_rfl) (by kernel_rfl) (fun _ _ _ h => h) (Or.inl ⟨by first | kernel_rfl | rfl, ?_⟩) ca17 ?_
        · intro w' hSw; go_simp
        try simp only [Act.put, List.setIfInBounds_toArray, List.set_cons_zero, List.set_cons_succ]
        refine takeH (i := 5) (d := 68) (v := .int .i64 0) rfl rfl (by kernel_rfl) (by kernel_rfl) (by kernel_rfl) (fun _ _ _ h => h) (Or.inl ⟨by first | kernel_rfl | rfl, ?_⟩) ca17 ?_
        · intro w' hSw; go_simp
        try simp only [Act.put, List.setIfInBounds_toArray, List.set_cons_zero, List.set_cons_succ]
        refine takeH (i := 6) (d := 69) (v := .int .i64 0) rfl rfl (by kernel_rfl) (by kernel_rfl) (by kernel_rfl) (fun _ _ _ h => h) (Or.inl ⟨by first | kernel_rfl | rfl, ?_⟩) ca17 ?_
        · intro w' hSw; go_simp
        try simp only [Act.put, List.setIfInBounds_toArray, List.set_cons_zero, List.set_cons_succ]
        refine wpAnyH_ready (rs := [7]) (by kernel_rfl) (by simp) ?_
        refine ready_alloc rfl (by rfl) 26 rfl 13 rfl 64 (fv fun _ => 0) zeroT (fun wd18 Nx => ?_) ?_
        · have ca18 := ca17.later Nx.below
          have cX18 := Nx.at'
          have zX18 := Nx.free
          have b18 : Hid (Below w.heap.size w wd18) := Lib.hid (below_then b17.out Nx.below)
          have s18' := Nat.le_of_eq Nx.size.symm
          clear Nx
          refine ⟨ca18, ?_⟩
          try simp only [Act.put, List.setIfInBounds_toArray, List.set_cons_zero, List.set_cons_succ]
          have ne1 : w3.heap.size ≠ wd17.heap.size := by omega
          have ge1 : w.heap.size ≤ wd17.heap.size := by omega
          refine wpAnyH_ready (rs := [8]) (by kernel_rfl) (by simp) ?_
          refine ready_store rfl (by rfl) 26 _ _ rfl rfl _ 64 (fv fun _ => 0) (fv F) rfl rfl cX18 zX18 (fv_one _) infoV (fun wA sA bA cA zA oA pA => ⟨oA _ _ _ ne1 ca18, ?_⟩) AllReadyH.nil
          try simp only [Act.put, List.setIfInBounds_toArray, List.set_cons_zero, List.set_cons_succ]
          have caA := oA _ _ _ ne1 ca18
          refine takeH (i := 9) (d := 14) (v := .int .i64 0) rfl rfl (by kernel_rfl) (by kernel_rfl) (by kernel_rfl) (fun _ _ _ h => h) (Or.inl ⟨by first | kernel_rfl | rfl, ?_⟩) caA ?_
          · intro w' hSw; go_simp
          try simp only [Act.put, List.setIfInBounds_toArray, List.set_cons_zero, List.set_cons_succ]
          refine takeH (i := 10) (d := 15) (v := .int .i64 0) rfl rfl (by kernel_rfl) (by kernel_rfl) (by kernel_rfl) (fun _ _ _ h => h) (Or.inl ⟨by first | kernel_rfl | rfl, ?_⟩) caA ?_
          · intro w' hSw; go_simp
          try simp only [Act.put, List.setIfInBounds_toArray, List.set_cons_zero, List.set_cons_succ]
          refine wpAnyH_done (by kernel_rfl) ?_ _
          have BB : Hid (Below w.heap.size w wA) := Lib.hid (bA _ _ ge1 b18.out)
          go_wp2_with fail
          go_meet
          exact ⟨_, rfl, rfl, rfl, cA, caA, BB⟩
        exact AllReadyH.nil
      refine ready_alloc rfl (by rfl) 26 rfl 13 rfl 64 (fv fun _ => 0) zeroT (fun wd17 Nx => ?_) ?_
      · have ca17 := ca16.later Nx.below
        have cX17 := Nx.at'
        have zX17 := Nx.free
        have b17 : Hid (Below w.heap.size w wd17) := Lib.hid (below_then b16.out Nx.below)
        have s17' := Nat.le_of_eq Nx.size.symm
        clear Nx
        refine ⟨ca17, ?_⟩
        try simp only [Act.put, List.setIfInBounds_toArray, List.set_cons_zero, List.set_cons_succ]
        refine wpAnyH_ready (rs := [2]) (by kernel_rfl) (by simp) ?_
        refine AllReadyH.cons rfl (fun K hK => ?_) ?_
        · go_simp
          (go_at_call 21; (with_reducible refine (G2.out _).mono ?_); rintro e wd18 ⟨rfl, hbx⟩)
          have ca18 := ca17.later hbx
          have cX18 := cX17.later hbx
          have zX18 := zX17.later cX17 hbx
          have b18 : Hid (Below w.heap.size w wd18) := Lib.hid (below_then b17.out hbx)
          have s18' := hbx.size
          refine hK.out _ _ ca18 (fun _ => ?_)
          clear hK K
          try simp only [Act.put, List.setIfInBounds_toArray, List.set_cons_zero, List.set_cons_succ]
          refine takeH (i := 3) (d := 63) (v := .tuple #[.agg (vls 64 (fv F)).toArray, .int .i64 0, .int .i64 0]) rfl rfl (by kernel_rfl) (by kernel_rfl) (by kernel_rfl) (fun _ _ _ h => h) (Or.inl ⟨by first | kernel_rfl | rfl, ?_⟩) ca18 ?_
          · intro w' hSw; go_simp
          try simp only [Act.put, List.setIfInBounds_toArray, List.set_cons_zero, List.set_cons_succ]
          refine takeH (i := 4) (d := 67) (v := .agg (vls 64 (fv F)).toArray) rfl rfl (by kernel_rfl) (by kernel_rfl) (by kernel_rfl) (fun _ _ _ h => h) (Or.inl ⟨by first | kernel_rfl | rfl, ?_⟩) ca18 ?_
          · intro w' hSw; go_simp
          try simp only [Act.put, List.setIfInBounds_toArray, List.set_cons_zero, List.set_cons_succ]
          refine takeH (i := 5) (d := 68) (v := .int .i64 0) rfl rfl (by kernel_rfl) (by kernel_rfl) (by kernel_rfl) (fun _ _ _ h => h) (Or.inl ⟨by first | kernel_rfl | rfl, ?_⟩) ca18 ?_
          · intro w' hSw; go_simp
          try simp only [Act.put, List.setIfInBounds_toArray, List.set_cons_zero, List.set_cons_succ]
          refine takeH (i := 6) (d := 69) (v := .int .i64 0) rfl rfl (by kernel_rfl) (by kernel_rfl) (by kernel_rfl) (fun _ _ _ h => h) (Or.inl ⟨by first | kernel_rfl | rfl, ?_⟩) ca18 ?_
          · intro w' hSw; go_simp
          try simp only [Act.put, List.setIfInBounds_toArray, List.set_cons_zero, List.set_cons_succ]
          have ne1 : w3.heap.size ≠ wd16.heap.size := by omega
          have ge1 : w.heap.size ≤ wd16.heap.size := by omega
          refine wpAnyH_ready (rs := [8]) (by kernel_rfl) (by simp) ?_
          refine ready_store rfl (by rfl) 26 _ _ rfl rfl _ 64 (fv fun _ => 0) (fv F) rfl rfl cX18 zX18 (fv_one _) infoV (fun wA sA bA cA zA oA pA => ⟨oA _ _ _ ne1 ca18, ?_⟩) AllReadyH.nil
          try simp only [Act.put, List.setIfInBounds_toArray, List.set_cons_zero, List.set_cons_succ]
          have caA := oA _ _ _ ne1 ca18
          refine takeH (i := 9) (d := 14) (v := .int .i64 0) rfl rfl (by kernel_rfl) (by kernel_rfl) (by kernel_rfl) (fun _ _ _ h => h) (Or.inl ⟨by first | kernel_rfl | rfl, ?_⟩) caA ?_
          · intro w' hSw; go_simp
          try simp only [Act.put, List.setIfInBounds_toArray, List.set_cons_zero, List.set_cons_succ]
          refine takeH (i := 10) (d := 15) (v := .int .i64 0) rfl rfl (by kernel_rfl) (by kernel_rfl) (by kernel_rfl) (fun _ _ _ h => h) (Or.inl ⟨by first | kernel_rfl | rfl, ?_⟩) caA ?_
          · intro w' hSw; go_simp
          try simp only [Act.put, List.setIfInBounds_toArray, List.set_cons_zero, List.set_cons_succ]
          refine wpAnyH_done (by kernel_rfl) ?_ _
          have BB : Hid (Below w.heap.size w wA) := Lib.hid (bA _ _ ge1 b18.out)
          go_wp2_with fail
          go_meet
          exact ⟨_, rfl, rfl, rfl, cA, caA, BB⟩
        exact AllReadyH.nil
      exact AllReadyH.nil
    refine ready_alloc rfl (by rfl) 26 rfl 13 rfl 64 (fv fun _ => 0) zeroT (fun wd16 Nx => ?_) ?_
    · have ca16 := ca15.later Nx.below
      have cX16 := Nx.at'
      have zX16 := Nx.free
      have b16 : Hid (Below w.heap.size w wd16) := Lib.hid (below_then b15.out Nx.below)
      have s16' := Nat.le_of_eq Nx.size.symm
      clear Nx
      refine ⟨ca16, ?_⟩
      try simp only [Act.put, List.setIfInBounds_toArray, List.set_cons_zero, List.set_cons_succ]
      refine wpAnyH_ready (rs := [1]) (by kernel_rfl) (by simp) ?_
      refine AllReadyH.cons rfl (fun K hK => ?_) ?_
      · go_simp
        (go_at_call 24; (with_reducible refine (whole_one _).mono ?_); rintro e wd17 ⟨rfl, hbx⟩)
        have ca17 := ca16.later hbx
        have cX17 := cX16.later hbx
        have zX17 := zX16.later cX16 hbx
        have b17 : Hid (Below w.heap.size w wd17) := Lib.hid (below_then b16.out hbx)
        have s17' := hbx.size
        refine hK.out _ _ ca17 (fun _ => ?_)
        clear hK K
        try simp only [Act.put, List.setIfInBounds_toArray, List.set_cons_zero, List.set_cons_succ]
        refine wpAnyH_ready (rs := [2]) (by kernel_rfl) (by simp) ?_
        refine AllReadyH.cons rfl (fun K hK => ?_) ?_
        · go_simp
          (go_at_call 21; (with_reducible refine (G2.out _).mono ?_); rintro e wd18 ⟨rfl, hbx⟩)
          have ca18 := ca17.later hbx
          have cX18 := cX17.later hbx
          have zX18 := zX17.later cX17 hbx
          have b18 : Hid (Below w.heap.size w wd18) := Lib.hid (below_then b17.out hbx)
          have s18' := hbx.size
          refine hK.out _ _ ca18 (fun _ => ?_)
          clear hK K
          try simp only [Act.put, List.setIfInBounds_toArray, List.set_cons_zero, List.set_cons_succ]
          refine takeH (i := 3) (d := 63) (v := .tuple #[.agg (vls 64 (fv F)).toArray, .int .i64 0, .int .i64 0]) rfl rfl (by kernel_rfl) (by kernel_rfl) (by kernel_rfl) (fun _ _ _ h => h) (Or.inl ⟨by first | kernel_rfl | rfl, ?_⟩) ca18 ?_
          · intro w' hSw; go_simp
          try simp only [Act.put, List.setIfInBounds_toArray, List.set_cons_zero, List.set_cons_succ]
          refine takeH (i := 4) (d := 67) (v := .agg (vls 64 (fv F)).toArray) rfl rfl (by kernel_rfl) (by kernel_rfl) (by kernel_rfl) (fun _ _ _ h => h) (Or.inl ⟨by first | kernel_rfl | rfl, ?_⟩) ca18 ?_
          · intro w' hSw; go_simp
          try simp only [Act.put, List.setIfInBounds_toArray, List.set_cons_zero, List.set_cons_succ]
          refine takeH (i := 5) (d := 68) (v := .int .i64 0) rfl rfl (by kernel_rfl) (by kernel_rfl) (by kernel_rfl) (fun _ _ _ h => h) (Or.inl ⟨by first | kernel_rfl | rfl, ?_⟩) ca18 ?_
          · intro w' hSw; go_simp
          try simp only [Act.put, List.setIfInBounds_toArray, List.set_cons_zero, List.set_cons_succ]
          refine takeH (i := 6) (d := 69) (v := .int .i64 0) rfl rfl (by kernel_rfl) (by kernel_rfl) (by kernel_rfl) (fun _ _ _ h => h) (Or.inl ⟨by first | kernel_rfl | rfl, ?_⟩) ca18 ?_
          · intro w' hSw; go_simp
          try simp only [Act.put, List.setIfInBounds_toArray, List.set_cons_zero, List.set_cons_succ]
          have ne1 : w3.heap.size ≠ wd.heap.size := by omega
          have ge1 : w.heap.size ≤ wd.heap.size := by omega
          refine wpAnyH_ready (rs := [8]) (by kernel_rfl) (by simp) ?_
          refine ready_store rfl (by rfl) 26 _ _ rfl rfl _ 64 (fv fun _ => 0) (fv F) rfl rfl cX18 zX18 (fv_one _) infoV (fun wA sA bA cA zA oA pA => ⟨oA _ _ _ ne1 ca18, ?_⟩) AllReadyH.nil
          try simp only [Act.put, List.setIfInBounds_toArray, List.set_cons_zero, List.set_cons_succ]
          have caA := oA _ _ _ ne1 ca18
          refine takeH (i := 9) (d := 14) (v := .int .i64 0) rfl rfl (by kernel_rfl) (by kernel_rfl) (by kernel_rfl) (fun _ _ _ h => h) (Or.inl ⟨by first | kernel_rfl | rfl, ?_⟩) caA ?_
          · intro w' hSw; go_simp
          try simp only [Act.put, List.setIfInBounds_toArray, List.set_cons_zero, List.set_cons_succ]
          refine takeH (i := 10) (d := 15) (v := .int .i64 0) rfl rfl (by kernel_rfl) (by kernel_rfl) (by kernel_rfl) (fun _ _ _ h => h) (Or.inl ⟨by first | kernel_rfl | rfl, ?_⟩) caA ?_
          · intro w' hSw; go_simp
          try simp only [Act.put, List.setIfInBounds_toArray, List.set_cons_zero, List.set_cons_succ]
          refine wpAnyH_done (by kernel_rfl) ?_ _
          have BB : Hid (Below w.heap.size w wA) := Lib.hid (bA _ _ ge1 b18.out)
          go_wp2_with fail
          go_meet
          exact ⟨_, rfl, rfl, rfl, cA, caA, BB⟩
        exact AllReadyH.nil
      exact AllReadyH.nil
    exact AllReadyH.nil
  case rest =>
    obtain ⟨X', rfl, rfl, rfl, cX, ca, bq⟩ := hcut
    try clear s1
    try clear cq1
    try clear zq1
    try clear b1
    try clear cq2
    try clear zq2
    try clear b2
    try clear s2'
    try clear cq3
    try clear zq3
    try clear b3
    try clear s3'
    try clear s4
    try clear cq4
    try clear zq4
    try clear ca4
    try clear za4
    try clear b4
    try clear s4'
    try clear cq5
    try clear zq5
    try clear b5
    try clear s5'
    try clear cq6
    try clear zq6
    try clear ca6
    try clear za6
    try clear b6
    try clear s6'
    try clear s7
    try clear cq7
    try clear zq7
    try clear ca7
    try clear za7
    try clear cr7
    try clear zr7
    try clear b7
    try clear s7'
    try clear cq8
    try clear zq8
    try clear ca8
    try clear za8
    try clear b8
    try clear s8'
    try clear cq9
    try clear zq9
    try clear ca9
    try clear za9
    try clear cr9
    try clear zr9
    try clear b9
    try clear s9'
    try clear cq10
    try clear zq10
    try clear ca10
    try clear za10
    try clear cr10
    try clear zr10
    try clear b10
    try clear s10'
    try clear s11
    try clear cq11
    try clear zq11
    try clear ca11
    try clear za11
    try clear cr11
    try clear zr11
    try clear cu11
    try clear zu11
    try clear b11
    try clear s11'
    try clear cq12
    try clear zq12
    try clear ca12
    try clear za12
    try clear cr12
    try clear zr12
    try clear cu12
    try clear zu12
    try clear b12
    try clear s12'
    try clear cq13
    try clear zq13
    try clear ca13
    try clear za13
    try clear cr13
    try clear zr13
    try clear b13
    try clear s13'
    try clear cq14
    try clear zq14
    try clear ca14
    try clear za14
    try clear cr14
    try clear zr14
    try clear cu14
    try clear zu14
    try clear b14
    try clear s14'
    go_wp2_with (first
      | (with_reducible refine wpList_load_at rfl 26 _ rfl _ 64 (fv F) rfl ca _ Try.underlying26 rfl infoV ?_)
      | (go_at_call 16; (with_reducible refine (CA.out _).mono ?_); rintro e w8 ⟨rfl, hb8⟩; have ca8 := ca.later hb8; have cX8 := cX.later hb8; have b8 : Hid (Below w.heap.size w w8) := Lib.hid (below_then bq.out hb8); clear hb8)
      | (refine wpList_load_if (by rfl) 26 _ rfl _ 64 (fv F) rfl cX8 _ Try.underlying26 rfl infoV ?_)
      | (refine wpList_load_if (by rfl) 26 _ rfl _ 64 (fv F) rfl ca8 _ Try.underlying26 rfl infoV ?_)
      | (go_at_call 20; (with_reducible refine (sameTrace_any F _).mono ?_); rintro e w9 ⟨rfl, hb9⟩; have b9 : Hid (Below w.heap.size w w9) := Lib.hid (below_then b8.out hb9); clear hb9))
    go_ret
    exact ⟨rfl, b9.out⟩
end Go.Proofs.Ytoieemgdkpnbfaa
