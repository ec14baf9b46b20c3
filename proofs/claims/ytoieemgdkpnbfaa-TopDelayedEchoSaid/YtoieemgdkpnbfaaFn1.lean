/- samples that are added and moved: the walk -/
import Derived.Test.YtoieemgdkpnbfaaFlQ
import Derived.Test.YtoieemgdkpnbfaaFlM
import Derived.Test.YtoieemgdkpnbfaaFlI
import Derived.Test.YtoieemgdkpnbfaaFm6
import Derived.Laws.ComplexArith
namespace Go.Proofs.Ytoieemgdkpnbfaa
open Go.RowKit RayM
set_option linter.unusedSimpArgs false
set_option linter.unusedVariables false
/-- the sum of two samples of whole parts -/
theorem cadd_run (a c b d : Int) (ha : a.natAbs < 8192) (hc : c.natAbs < 8192) (hb : b.natAbs < 8192) (hd : d.natAbs < 8192) (w : World) : (binOp .add 48 (.complex .f32 (fs a) (fs c)) (.complex .f32 (fs b) (fs d))).run Try.prog w = .ok (.complex .f32 (fs (a + b)) (fs (c + d))) w := by
  have h1 : floatBits .add .f32 (fs a) (fs b) = some (fs (a + b)) := Fl.add_fl Fl.good32 a b (Nat.lt_trans ha (by decide)) (Nat.lt_trans hb (by decide)) (Nat.lt_of_lt_of_le (show (a + b).natAbs < 16384 by omega) (by decide))
  have h2 : floatBits .add .f32 (fs c) (fs d) = some (fs (c + d)) := Fl.add_fl Fl.good32 c d (Nat.lt_trans hc (by decide)) (Nat.lt_trans hd (by decide)) (Nat.lt_of_lt_of_le (show (c + d).natAbs < 16384 by omega) (by decide))
  refine run_complex_sum w .add (.inl rfl) _ .f32 _ _ _ _ _ _ ?_
  unfold cSumBits
  rw [h1, h2]
  rfl
theorem eq_same (b : Int) (hb : b.natAbs < 8192) : (FloatKind.f32.format.order (fs b) (fs b) == some .eq) = true := by
  have := eq_fs b b (Nat.lt_trans hb (by decide)) (Nat.lt_trans hb (by decide))
  rw [this]; simp
set_option maxRecDepth 100000 in
set_option maxHeartbeats 1000000 in
theorem aa_long1 (A B : Option Addr) (n c m d : Nat) (s : Int) (w : World) (hn : ¬ n ≤ 64) :
    Calls Try.prog 6 #[.slice A n c, .slice B m d, .int .i64 s] w fun e w' => e = .returned (.bool true) ∧ Below w.heap.size w w' := by
  have j2 : (64 : Int) < (n : Int) := by omega
  go_enter Try.func6, Try.ntmps6
  go_wp2_with (first
    | (go_at_call 12; (with_reducible refine (awake_any _).mono ?_); rintro e w1 ⟨rfl, hb1⟩; have b1 : Hid (Below w.heap.size w w1) := Lib.hid hb1; have s1' := hb1.size; clear hb1))
  go_ret
  exact ⟨rfl, b1.out⟩
set_option maxRecDepth 100000 in
set_option maxHeartbeats 1000000 in
theorem aa_long2 (A B : Option Addr) (n c m d : Nat) (s : Int) (w : World) (hn : n ≤ 64) (hm : ¬ m ≤ 64) :
    Calls Try.prog 6 #[.slice A n c, .slice B m d, .int .i64 s] w fun e w' => e = .returned (.bool true) ∧ Below w.heap.size w w' := by
  have j2 : (n : Int) ≤ 64 := by omega
  have j3 : (64 : Int) < (m : Int) := by omega
  go_enter Try.func6, Try.ntmps6
  go_wp2_with (first
    | (go_at_call 12; (with_reducible refine (awake_any _).mono ?_); rintro e w1 ⟨rfl, hb1⟩; have b1 : Hid (Below w.heap.size w w1) := Lib.hid hb1; have s1' := hb1.size; clear hb1))
  go_ret
  exact ⟨rfl, b1.out⟩
set_option maxRecDepth 100000 in
set_option maxHeartbeats 1000000 in
theorem aa_out (A B : Option Addr) (n c m d : Nat) (s : Int) (w : World) (hn : n ≤ 64) (hm : m ≤ 64) (hs : ¬ (0 ≤ s ∧ s ≤ 60)) :
    Calls Try.prog 6 #[.slice A n c, .slice B m d, .int .i64 s] w fun e w' => e = .returned (.bool true) ∧ Below w.heap.size w w' := by
  have j2 : (n : Int) ≤ 64 := by omega
  have j3 : (m : Int) ≤ 64 := by omega
  have WI := Lib.hid (fun w => bw_false s 0 60 hs w)
  clear hs
  go_enter Try.func6, Try.ntmps6
  go_wp2_with (first
    | (go_at_call 12; (with_reducible refine (awake_any _).mono ?_); rintro e w1 ⟨rfl, hb1⟩; have b1 : Hid (Below w.heap.size w w1) := Lib.hid hb1; have s1' := hb1.size; clear hb1)
    | (go_at_call 17; (with_reducible refine (WI.out _).mono ?_); rintro e w' ⟨rfl, rfl⟩))
  go_ret
  exact ⟨rfl, b1.out⟩
set_option maxRecDepth 100000 in
set_option maxHeartbeats 4000000 in
theorem aa_bad (A B : Option Addr) (n c m d : Nat) (l k F G S T : Nat → Int) (s : Int) (w : World) (hn : n ≤ 64) (hm : m ≤ 64) (h : InAt A n l w) (h2 : InAt B m k w) (X : Int) (hX : X ≠ 0) (MA : Hid (∀ w, InAt A n l w → Calls Try.prog 13 #[.slice A n c] w fun e w' => e = .returned (.agg (vls 64 (fv F)).toArray) ∧ Below w.heap.size w w')) (MB : Hid (∀ w, InAt B m k w → Calls Try.prog 13 #[.slice B m d] w fun e w' => e = .returned (.agg (vls 64 (fv G)).toArray) ∧ Below w.heap.size w w')) (WI : Hid (∀ w, Calls Try.prog 17 #[.int .i64 s, .int .i64 0, .int .i64 60] w fun e w' => e = .returned (.bool true) ∧ w = w')) (AD : Hid (∀ w, Calls Try.prog 14 #[.agg (vls 64 (fv F)).toArray, .agg (vls 64 (fv G)).toArray] w fun e w' => e = .returned (.tuple #[.agg (vls 64 (fv S)).toArray, .int .i64 X]) ∧ Below w.heap.size w w')) :
    Calls Try.prog 6 #[.slice A n c, .slice B m d, .int .i64 s] w fun e w' => e = .returned (.bool true) ∧ Below w.heap.size w w' := by
  have HX := Lib.hid h; clear h
  have HY := Lib.hid h2; clear h2
  have j2 : (n : Int) ≤ 64 := by omega
  have j3 : (m : Int) ≤ 64 := by omega
  have nz : (X != 0) = true := by simpa using hX
  go_enter Try.func6, Try.ntmps6
  go_wp2_with (first
    | (go_at_call 12; (with_reducible refine (awake_any _).mono ?_); rintro e w1 ⟨rfl, hb1⟩; have b1 : Hid (Below w.heap.size w w1) := Lib.hid hb1; have s1' := hb1.size; clear hb1)
    | (go_at_call 13; (with_reducible refine (MA.out _ (HX.out.later b1.out)).mono ?_); rintro e w2 ⟨rfl, hb2⟩; have b2 : Hid (Below w.heap.size w w2) := Lib.hid (below_then b1.out hb2); have s2' := hb2.size; clear hb2)
    | (go_at_call 13; (with_reducible refine (MB.out _ (HY.out.later b2.out)).mono ?_); rintro e w3 ⟨rfl, hb3⟩; have b3 : Hid (Below w.heap.size w w3) := Lib.hid (below_then b2.out hb3); have s3' := hb3.size; clear hb3)
    | (go_at_call 17; (with_reducible refine (WI.out _).mono ?_); rintro e w' ⟨rfl, rfl⟩)
    | ((with_reducible refine wpList_alloc_named rfl 26 rfl 7 rfl 64 (fv fun _ => 0) zeroT ?_); intro w4 N4; have s4 := N4.size; have ca4 := N4.at'; have za4 := N4.free; have b4 : Hid (Below w.heap.size w w4) := Lib.hid (below_then b3.out N4.below); clear N4; have s4' := Nat.le_of_eq s4.symm; clear s4)
    | ((with_reducible refine wpList_alloc_named rfl 26 rfl 8 rfl 64 (fv fun _ => 0) zeroT ?_); intro w5 N5; have s5 := N5.size; have ca5 := ca4.later N5.below; have za5 := za4.later ca4 N5.below; have ck5 := N5.at'; have zk5 := N5.free; have b5 : Hid (Below w.heap.size w w5) := Lib.hid (below_then b4.out N5.below); clear N5; have s5' := Nat.le_of_eq s5.symm; clear s5)
    | ((with_reducible refine wpList_store_at rfl 26 _ _ rfl _ 64 _ (fv F) rfl rfl ca5 za5 (fv_one _) infoV ?_); intro w6 S6 B6 ca6 za6 O6 P6; have ck6 := O6 _ _ _ (by omega) ck5; have zk6 := P6 _ _ zk5; have b6 : Hid (Below w.heap.size w w6) := Lib.hid (B6 _ _ (by omega) b5.out); have s6' := Nat.le_of_eq S6.symm; clear S6 B6 O6 P6)
    | ((with_reducible refine wpList_store_at rfl 26 _ _ rfl _ 64 _ (fv G) rfl rfl ck6 zk6 (fv_one _) infoV ?_); intro w7 S7 B7 ck7 zk7 O7 P7; have ca7 := O7 _ _ _ (by omega) ca6; have za7 := P7 _ _ za6; have b7 : Hid (Below w.heap.size w w7) := Lib.hid (B7 _ _ (by omega) b6.out); have s7' := Nat.le_of_eq S7.symm; clear S7 B7 O7 P7)
    | (with_reducible refine wpList_load_at rfl 26 _ rfl _ 64 (fv F) rfl ca7 _ Try.underlying26 rfl infoV ?_)
    | (with_reducible refine wpList_load_at rfl 26 _ rfl _ 64 (fv G) rfl ck7 _ Try.underlying26 rfl infoV ?_)
    | (go_at_call 14; (with_reducible refine (AD.out _).mono ?_); rintro e w8 ⟨rfl, hb8⟩; have ca8 := ca7.later hb8; have za8 := za7.later ca7 hb8; have ck8 := ck7.later hb8; have zk8 := zk7.later ck7 hb8; have b8 : Hid (Below w.heap.size w w8) := Lib.hid (below_then b7.out hb8); have s8' := hb8.size; clear hb8)
    | ((with_reducible refine wpList_alloc_named rfl 26 rfl 9 rfl 64 (fv fun _ => 0) zeroT ?_); intro w9 N9; have s9 := N9.size; have ca9 := ca8.later N9.below; have za9 := za8.later ca8 N9.below; have ck9 := ck8.later N9.below; have zk9 := zk8.later ck8 N9.below; have cs9 := N9.at'; have zs9 := N9.free; have b9 : Hid (Below w.heap.size w w9) := Lib.hid (below_then b8.out N9.below); clear N9; have s9' := Nat.le_of_eq s9.symm; clear s9)
    | ((with_reducible refine wpList_store_at rfl 26 _ _ rfl _ 64 _ (fv S) rfl rfl cs9 zs9 (fv_one _) infoV ?_); intro w10 S10 B10 cs10 zs10 O10 P10; have ca10 := O10 _ _ _ (by omega) ca9; have za10 := P10 _ _ za9; have ck10 := O10 _ _ _ (by omega) ck9; have zk10 := P10 _ _ zk9; have b10 : Hid (Below w.heap.size w w10) := Lib.hid (B10 _ _ (by omega) b9.out); have s10' := Nat.le_of_eq S10.symm; clear S10 B10 O10 P10))
  go_ret
  exact ⟨rfl, b10.out⟩
set_option maxRecDepth 100000 in
set_option maxHeartbeats 6000000 in
theorem aa_ok (A B : Option Addr) (n c m d : Nat) (l k F G S T : Nat → Int) (s : Int) (w : World) (hn : n ≤ 64) (hm : m ≤ 64) (h : InAt A n l w) (h2 : InAt B m k w) (MA : Hid (∀ w, InAt A n l w → Calls Try.prog 13 #[.slice A n c] w fun e w' => e = .returned (.agg (vls 64 (fv F)).toArray) ∧ Below w.heap.size w w')) (MB : Hid (∀ w, InAt B m k w → Calls Try.prog 13 #[.slice B m d] w fun e w' => e = .returned (.agg (vls 64 (fv G)).toArray) ∧ Below w.heap.size w w')) (WI : Hid (∀ w, Calls Try.prog 17 #[.int .i64 s, .int .i64 0, .int .i64 60] w fun e w' => e = .returned (.bool true) ∧ w = w')) (AD : Hid (∀ w, Calls Try.prog 14 #[.agg (vls 64 (fv F)).toArray, .agg (vls 64 (fv G)).toArray] w fun e w' => e = .returned (.tuple #[.agg (vls 64 (fv S)).toArray, .int .i64 0]) ∧ Below w.heap.size w w')) (AX : Hid (∀ w, Calls Try.prog 25 #[.agg (vls 64 (fv F)).toArray] w fun e w' => e = .returned (.tuple #[.agg (vls 61 (anv F)).toArray, .int .i64 0]) ∧ Below w.heap.size w w')) (AY : Hid (∀ w, Calls Try.prog 25 #[.agg (vls 64 (fv G)).toArray] w fun e w' => e = .returned (.tuple #[.agg (vls 61 (anv G)).toArray, .int .i64 0]) ∧ Below w.heap.size w w')) (AZ : Hid (∀ w, Calls Try.prog 25 #[.agg (vls 64 (fv S)).toArray] w fun e w' => e = .returned (.tuple #[.agg (vls 61 (anv S)).toArray, .int .i64 0]) ∧ Below w.heap.size w w')) (AW : Hid (∀ w, Calls Try.prog 25 #[.agg (vls 64 (fv T)).toArray] w fun e w' => e = .returned (.tuple #[.agg (vls 61 (anv T)).toArray, .int .i64 0]) ∧ Below w.heap.size w w')) (SH : Hid (∀ w, Calls Try.prog 15 #[.agg (vls 64 (fv F)).toArray, .int .i64 s] w fun e w' => e = .returned (.tuple #[.agg (vls 64 (fv T)).toArray, .int .i64 0]) ∧ Below w.heap.size w w')) (s0 : 0 ≤ s) (s1 : s ≤ 60) (HS : Hid (∀ i, i < 61 → reA S i = reA F i + reA G i ∧ imA S i = imA F i + imA G i)) (HT : Hid (∀ i j : Nat, i < 61 → (i : Int) = s + j → reA T i = reA F j ∧ imA T i = imA F j)) (HB : Hid (∀ i, i < 61 → (reA F i).natAbs < 4096 ∧ (imA F i).natAbs < 4096 ∧ (reA G i).natAbs < 4096 ∧ (imA G i).natAbs < 4096)) :
    Calls Try.prog 6 #[.slice A n c, .slice B m d, .int .i64 s] w fun e w' => e = .returned (.bool true) ∧ Below w.heap.size w w' := by
  have HX := Lib.hid h; clear h
  have HY := Lib.hid h2; clear h2
  have j2 : (n : Int) ≤ 64 := by omega
  have j3 : (m : Int) ≤ 64 := by omega
  go_enter Try.func6, Try.ntmps6
  go_wp2_with (first
    | (go_at_call 12; (with_reducible refine (awake_any _).mono ?_); rintro e w1 ⟨rfl, hb1⟩; have b1 : Hid (Below w.heap.size w w1) := Lib.hid hb1; have s1' := hb1.size; clear hb1)
    | (go_at_call 13; (with_reducible refine (MA.out _ (HX.out.later b1.out)).mono ?_); rintro e w2 ⟨rfl, hb2⟩; have b2 : Hid (Below w.heap.size w w2) := Lib.hid (below_then b1.out hb2); have s2' := hb2.size; clear hb2)
    | (go_at_call 13; (with_reducible refine (MB.out _ (HY.out.later b2.out)).mono ?_); rintro e w3 ⟨rfl, hb3⟩; have b3 : Hid (Below w.heap.size w w3) := Lib.hid (below_then b2.out hb3); have s3' := hb3.size; clear hb3)
    | (go_at_call 17; (with_reducible refine (WI.out _).mono ?_); rintro e w' ⟨rfl, rfl⟩)
    | ((with_reducible refine wpList_alloc_named rfl 26 rfl 7 rfl 64 (fv fun _ => 0) zeroT ?_); intro w4 N4; have s4 := N4.size; have ca4 := N4.at'; have za4 := N4.free; have b4 : Hid (Below w.heap.size w w4) := Lib.hid (below_then b3.out N4.below); clear N4; have s4' := Nat.le_of_eq s4.symm; clear s4)
    | ((with_reducible refine wpList_alloc_named rfl 26 rfl 8 rfl 64 (fv fun _ => 0) zeroT ?_); intro w5 N5; have s5 := N5.size; have ca5 := ca4.later N5.below; have za5 := za4.later ca4 N5.below; have ck5 := N5.at'; have zk5 := N5.free; have b5 : Hid (Below w.heap.size w w5) := Lib.hid (below_then b4.out N5.below); clear N5; have s5' := Nat.le_of_eq s5.symm; clear s5)
    | ((with_reducible refine wpList_store_at rfl 26 _ _ rfl _ 64 _ (fv F) rfl rfl ca5 za5 (fv_one _) infoV ?_); intro w6 S6 B6 ca6 za6 O6 P6; have ck6 := O6 _ _ _ (by omega) ck5; have zk6 := P6 _ _ zk5; have b6 : Hid (Below w.heap.size w w6) := Lib.hid (B6 _ _ (by omega) b5.out); have s6' := Nat.le_of_eq S6.symm; clear S6 B6 O6 P6)
    | ((with_reducible refine wpList_store_at rfl 26 _ _ rfl _ 64 _ (fv G) rfl rfl ck6 zk6 (fv_one _) infoV ?_); intro w7 S7 B7 ck7 zk7 O7 P7; have ca7 := O7 _ _ _ (by omega) ca6; have za7 := P7 _ _ za6; have b7 : Hid (Below w.heap.size w w7) := Lib.hid (B7 _ _ (by omega) b6.out); have s7' := Nat.le_of_eq S7.symm; clear S7 B7 O7 P7)
    | (with_reducible refine wpList_load_at rfl 26 _ rfl _ 64 (fv F) rfl ca7 _ Try.underlying26 rfl infoV ?_)
    | (with_reducible refine wpList_load_at rfl 26 _ rfl _ 64 (fv G) rfl ck7 _ Try.underlying26 rfl infoV ?_)
    | (go_at_call 14; (with_reducible refine (AD.out _).mono ?_); rintro e w8 ⟨rfl, hb8⟩; have ca8 := ca7.later hb8; have za8 := za7.later ca7 hb8; have ck8 := ck7.later hb8; have zk8 := zk7.later ck7 hb8; have b8 : Hid (Below w.heap.size w w8) := Lib.hid (below_then b7.out hb8); have s8' := hb8.size; clear hb8)
    | ((with_reducible refine wpList_alloc_named rfl 26 rfl 9 rfl 64 (fv fun _ => 0) zeroT ?_); intro w9 N9; have s9 := N9.size; have ca9 := ca8.later N9.below; have za9 := za8.later ca8 N9.below; have ck9 := ck8.later N9.below; have zk9 := zk8.later ck8 N9.below; have cs9 := N9.at'; have zs9 := N9.free; have b9 : Hid (Below w.heap.size w w9) := Lib.hid (below_then b8.out N9.below); clear N9; have s9' := Nat.le_of_eq s9.symm; clear s9)
    | ((with_reducible refine wpList_store_at rfl 26 _ _ rfl _ 64 _ (fv S) rfl rfl cs9 zs9 (fv_one _) infoV ?_); intro w10 S10 B10 cs10 zs10 O10 P10; have ca10 := O10 _ _ _ (by omega) ca9; have za10 := P10 _ _ za9; have ck10 := O10 _ _ _ (by omega) ck9; have zk10 := P10 _ _ zk9; have b10 : Hid (Below w.heap.size w w10) := Lib.hid (B10 _ _ (by omega) b9.out); have s10' := Nat.le_of_eq S10.symm; clear S10 B10 O10 P10)
    | (with_reducible refine wpList_load_at rfl 26 _ rfl _ 64 (fv F) rfl ca10 _ Try.underlying26 rfl infoV ?_)
    | (go_at_call 25; (with_reducible refine (AX.out _).mono ?_); rintro e w11 ⟨rfl, hb11⟩; have ca11 := ca10.later hb11; have za11 := za10.later ca10 hb11; have ck11 := ck10.later hb11; have zk11 := zk10.later ck10 hb11; have cs11 := cs10.later hb11; have zs11 := zs10.later cs10 hb11; have b11 : Hid (Below w.heap.size w w11) := Lib.hid (below_then b10.out hb11); have s11' := hb11.size; clear hb11)
    | ((with_reducible refine wpList_alloc_named rfl 49 rfl 11 rfl 61 (zcv) zeroC ?_); intro w12 N12; have s12 := N12.size; have ca12 := ca11.later N12.below; have za12 := za11.later ca11 N12.below; have ck12 := ck11.later N12.below; have zk12 := zk11.later ck11 N12.below; have cs12 := cs11.later N12.below; have zs12 := zs11.later cs11 N12.below; have cx12 := N12.at'; have zx12 := N12.free; have b12 : Hid (Below w.heap.size w w12) := Lib.hid (below_then b11.out N12.below); clear N12; have s12' := Nat.le_of_eq s12.symm; clear s12)
    | ((with_reducible refine wpList_store_at rfl 49 _ _ rfl _ 61 _ (anv F) rfl rfl cx12 zx12 (fun _ _ => rfl) infoC ?_); intro w13 S13 B13 cx13 zx13 O13 P13; have ca13 := O13 _ _ _ (by omega) ca12; have za13 := P13 _ _ za12; have ck13 := O13 _ _ _ (by omega) ck12; have zk13 := P13 _ _ zk12; have cs13 := O13 _ _ _ (by omega) cs12; have zs13 := P13 _ _ zs12; have b13 : Hid (Below w.heap.size w w13) := Lib.hid (B13 _ _ (by omega) b12.out); have s13' := Nat.le_of_eq S13.symm; clear S13 B13 O13 P13)
    | (with_reducible refine wpList_load_at rfl 26 _ rfl _ 64 (fv G) rfl ck13 _ Try.underlying26 rfl infoV ?_)
    | (go_at_call 25; (with_reducible refine (AY.out _).mono ?_); rintro e w14 ⟨rfl, hb14⟩; have ca14 := ca13.later hb14; have za14 := za13.later ca13 hb14; have ck14 := ck13.later hb14; have zk14 := zk13.later ck13 hb14; have cs14 := cs13.later hb14; have zs14 := zs13.later cs13 hb14; have cx14 := cx13.later hb14; have zx14 := zx13.later cx13 hb14; have b14 : Hid (Below w.heap.size w w14) := Lib.hid (below_then b13.out hb14); have s14' := hb14.size; clear hb14)
    | ((with_reducible refine wpList_alloc_named rfl 49 rfl 13 rfl 61 (zcv) zeroC ?_); intro w15 N15; have s15 := N15.size; have ca15 := ca14.later N15.below; have za15 := za14.later ca14 N15.below; have ck15 := ck14.later N15.below; have zk15 := zk14.later ck14 N15.below; have cs15 := cs14.later N15.below; have zs15 := zs14.later cs14 N15.below; have cx15 := cx14.later N15.below; have zx15 := zx14.later cx14 N15.below; have cy15 := N15.at'; have zy15 := N15.free; have b15 : Hid (Below w.heap.size w w15) := Lib.hid (below_then b14.out N15.below); clear N15; have s15' := Nat.le_of_eq s15.symm; clear s15)
    | ((with_reducible refine wpList_store_at rfl 49 _ _ rfl _ 61 _ (anv G) rfl rfl cy15 zy15 (fun _ _ => rfl) infoC ?_); intro w16 S16 B16 cy16 zy16 O16 P16; have ca16 := O16 _ _ _ (by omega) ca15; have za16 := P16 _ _ za15; have ck16 := O16 _ _ _ (by omega) ck15; have zk16 := P16 _ _ zk15; have cs16 := O16 _ _ _ (by omega) cs15; have zs16 := P16 _ _ zs15; have cx16 := O16 _ _ _ (by omega) cx15; have zx16 := P16 _ _ zx15; have b16 : Hid (Below w.heap.size w w16) := Lib.hid (B16 _ _ (by omega) b15.out); have s16' := Nat.le_of_eq S16.symm; clear S16 B16 O16 P16)
    | (with_reducible refine wpList_load_at rfl 26 _ rfl _ 64 (fv S) rfl cs16 _ Try.underlying26 rfl infoV ?_)
    | (go_at_call 25; (with_reducible refine (AZ.out _).mono ?_); rintro e w17 ⟨rfl, hb17⟩; have ca17 := ca16.later hb17; have za17 := za16.later ca16 hb17; have ck17 := ck16.later hb17; have zk17 := zk16.later ck16 hb17; have cs17 := cs16.later hb17; have zs17 := zs16.later cs16 hb17; have cx17 := cx16.later hb17; have zx17 := zx16.later cx16 hb17; have cy17 := cy16.later hb17; have zy17 := zy16.later cy16 hb17; have b17 : Hid (Below w.heap.size w w17) := Lib.hid (below_then b16.out hb17); have s17' := hb17.size; clear hb17)
    | ((with_reducible refine wpList_alloc_named rfl 49 rfl 15 rfl 61 (zcv) zeroC ?_); intro w18 N18; have s18 := N18.size; have ca18 := ca17.later N18.below; have za18 := za17.later ca17 N18.below; have ck18 := ck17.later N18.below; have zk18 := zk17.later ck17 N18.below; have cs18 := cs17.later N18.below; have zs18 := zs17.later cs17 N18.below; have cx18 := cx17.later N18.below; have zx18 := zx17.later cx17 N18.below; have cy18 := cy17.later N18.below; have zy18 := zy17.later cy17 N18.below; have cz18 := N18.at'; have zz18 := N18.free; have b18 : Hid (Below w.heap.size w w18) := Lib.hid (below_then b17.out N18.below); clear N18; have s18' := Nat.le_of_eq s18.symm; clear s18)
    | ((with_reducible refine wpList_store_at rfl 49 _ _ rfl _ 61 _ (anv S) rfl rfl cz18 zz18 (fun _ _ => rfl) infoC ?_); intro w19 S19 B19 cz19 zz19 O19 P19; have ca19 := O19 _ _ _ (by omega) ca18; have za19 := P19 _ _ za18; have ck19 := O19 _ _ _ (by omega) ck18; have zk19 := P19 _ _ zk18; have cs19 := O19 _ _ _ (by omega) cs18; have zs19 := P19 _ _ zs18; have cx19 := O19 _ _ _ (by omega) cx18; have zx19 := P19 _ _ zx18; have cy19 := O19 _ _ _ (by omega) cy18; have zy19 := P19 _ _ zy18; have b19 : Hid (Below w.heap.size w w19) := Lib.hid (B19 _ _ (by omega) b18.out); have s19' := Nat.le_of_eq S19.symm; clear S19 B19 O19 P19)
    | (with_reducible refine wpList_load_at rfl 26 _ rfl _ 64 (fv F) rfl ca19 _ Try.underlying26 rfl infoV ?_)
    | (go_at_call 15; (with_reducible refine (SH.out _).mono ?_); rintro e w20 ⟨rfl, hb20⟩; have ca20 := ca19.later hb20; have za20 := za19.later ca19 hb20; have ck20 := ck19.later hb20; have zk20 := zk19.later ck19 hb20; have cs20 := cs19.later hb20; have zs20 := zs19.later cs19 hb20; have cx20 := cx19.later hb20; have zx20 := zx19.later cx19 hb20; have cy20 := cy19.later hb20; have zy20 := zy19.later cy19 hb20; have cz20 := cz19.later hb20; have zz20 := zz19.later cz19 hb20; have b20 : Hid (Below w.heap.size w w20) := Lib.hid (below_then b19.out hb20); have s20' := hb20.size; clear hb20)
    | ((with_reducible refine wpList_alloc_named rfl 26 rfl 17 rfl 64 (fv fun _ => 0) zeroT ?_); intro w21 N21; have s21 := N21.size; have ca21 := ca20.later N21.below; have za21 := za20.later ca20 N21.below; have ck21 := ck20.later N21.below; have zk21 := zk20.later ck20 N21.below; have cs21 := cs20.later N21.below; have zs21 := zs20.later cs20 N21.below; have cx21 := cx20.later N21.below; have zx21 := zx20.later cx20 N21.below; have cy21 := cy20.later N21.below; have zy21 := zy20.later cy20 N21.below; have cz21 := cz20.later N21.below; have zz21 := zz20.later cz20 N21.below; have ct21 := N21.at'; have zt21 := N21.free; have b21 : Hid (Below w.heap.size w w21) := Lib.hid (below_then b20.out N21.below); clear N21; have s21' := Nat.le_of_eq s21.symm; clear s21)
    | ((with_reducible refine wpList_store_at rfl 26 _ _ rfl _ 64 _ (fv T) rfl rfl ct21 zt21 (fv_one _) infoV ?_); intro w22 S22 B22 ct22 zt22 O22 P22; have ca22 := O22 _ _ _ (by omega) ca21; have za22 := P22 _ _ za21; have ck22 := O22 _ _ _ (by omega) ck21; have zk22 := P22 _ _ zk21; have cs22 := O22 _ _ _ (by omega) cs21; have zs22 := P22 _ _ zs21; have cx22 := O22 _ _ _ (by omega) cx21; have zx22 := P22 _ _ zx21; have cy22 := O22 _ _ _ (by omega) cy21; have zy22 := P22 _ _ zy21; have cz22 := O22 _ _ _ (by omega) cz21; have zz22 := P22 _ _ zz21; have b22 : Hid (Below w.heap.size w w22) := Lib.hid (B22 _ _ (by omega) b21.out); have s22' := Nat.le_of_eq S22.symm; clear S22 B22 O22 P22)
    | (with_reducible refine wpList_load_at rfl 26 _ rfl _ 64 (fv T) rfl ct22 _ Try.underlying26 rfl infoV ?_)
    | (go_at_call 25; (with_reducible refine (AW.out _).mono ?_); rintro e w23 ⟨rfl, hb23⟩; have ca23 := ca22.later hb23; have za23 := za22.later ca22 hb23; have ck23 := ck22.later hb23; have zk23 := zk22.later ck22 hb23; have cs23 := cs22.later hb23; have zs23 := zs22.later cs22 hb23; have cx23 := cx22.later hb23; have zx23 := zx22.later cx22 hb23; have cy23 := cy22.later hb23; have zy23 := zy22.later cy22 hb23; have cz23 := cz22.later hb23; have zz23 := zz22.later cz22 hb23; have ct23 := ct22.later hb23; have zt23 := zt22.later ct22 hb23; have b23 : Hid (Below w.heap.size w w23) := Lib.hid (below_then b22.out hb23); have s23' := hb23.size; clear hb23)
    | ((with_reducible refine wpList_alloc_named rfl 49 rfl 19 rfl 61 (zcv) zeroC ?_); intro w24 N24; have s24 := N24.size; have ca24 := ca23.later N24.below; have za24 := za23.later ca23 N24.below; have ck24 := ck23.later N24.below; have zk24 := zk23.later ck23 N24.below; have cs24 := cs23.later N24.below; have zs24 := zs23.later cs23 N24.below; have cx24 := cx23.later N24.below; have zx24 := zx23.later cx23 N24.below; have cy24 := cy23.later N24.below; have zy24 := zy23.later cy23 N24.below; have cz24 := cz23.later N24.below; have zz24 := zz23.later cz23 N24.below; have ct24 := ct23.later N24.below; have zt24 := zt23.later ct23 N24.below; have cv24 := N24.at'; have zv24 := N24.free; have b24 : Hid (Below w.heap.size w w24) := Lib.hid (below_then b23.out N24.below); clear N24; have s24' := Nat.le_of_eq s24.symm; clear s24)
    | ((with_reducible refine wpList_store_at rfl 49 _ _ rfl _ 61 _ (anv T) rfl rfl cv24 zv24 (fun _ _ => rfl) infoC ?_); intro w25 S25 B25 cv25 zv25 O25 P25; have ca25 := O25 _ _ _ (by omega) ca24; have za25 := P25 _ _ za24; have ck25 := O25 _ _ _ (by omega) ck24; have zk25 := P25 _ _ zk24; have cs25 := O25 _ _ _ (by omega) cs24; have zs25 := P25 _ _ zs24; have cx25 := O25 _ _ _ (by omega) cx24; have zx25 := P25 _ _ zx24; have cy25 := O25 _ _ _ (by omega) cy24; have zy25 := P25 _ _ zy24; have cz25 := O25 _ _ _ (by omega) cz24; have zz25 := P25 _ _ zz24; have ct25 := O25 _ _ _ (by omega) ct24; have zt25 := P25 _ _ zt24; have b25 : Hid (Below w.heap.size w w25) := Lib.hid (B25 _ _ (by omega) b24.out); have s25' := Nat.le_of_eq S25.symm; clear S25 B25 O25 P25))
  go_loopw [21] (fun s21 wr => ∃ i : Nat, i ≤ 61 ∧ s21 = .int .i64 (i : Int) ∧ VAt (w11.heap.size) 61 (anv F) wr ∧ VAt (w14.heap.size) 61 (anv G) wr ∧ VAt (w17.heap.size) 61 (anv S) wr ∧ VAt (w23.heap.size) 61 (anv T) wr ∧ Hid (Below w.heap.size w wr)) (fun s21 _ => 61 - (intOf s21).toNat)
  case atStart => exact ⟨0, by omega, rfl, cx25, cy25, cz25, cv25, b25⟩
  case round =>
    obtain ⟨i, hi, rfl, xk, yk, zk, vk, bk⟩ := hrel
    have j0 : (0 : Int) ≤ (i : Int) := Int.natCast_nonneg _
    by_cases hlt : i < 61
    · have j1 : (i : Int) < 61 := by omega
      by_cases hge : s ≤ (i : Int)
      · have y0 : wr.cell? ⟨w11.heap.size, i, none⟩ = some (.complex .f32 (fs (reA F i)) (fs (imA F i))) := xk i hlt
        have y1 : wr.cell? ⟨w14.heap.size, i, none⟩ = some (.complex .f32 (fs (reA G i)) (fs (imA G i))) := yk i hlt
        have y2 : wr.cell? ⟨w17.heap.size, i, none⟩ = some (.complex .f32 (fs (reA F i + reA G i)) (fs (imA F i + imA G i))) := by rw [zk i hlt]; show some (Value.complex .f32 (fs (reA S i)) (fs (imA S i))) = _; rw [(HS.out i hlt).1, (HS.out i hlt).2]
        obtain ⟨h1, h2, h3, h4⟩ := HB.out i hlt
        have ca := fun w => cadd_run (reA F i) (imA F i) (reA G i) (imA G i) (by omega) (by omega) (by omega) (by omega) w
        have n1 := eq_same (reA F i + reA G i) (by omega)
        have n2 := eq_same (imA F i + imA G i) (by omega)
        obtain ⟨j, hj⟩ : ∃ j : Nat, (i : Int) = s + j := ⟨((i : Int) - s).toNat, by omega⟩
        have hj2 : j < 61 := by omega
        have y3 : wr.cell? ⟨w23.heap.size, i, none⟩ = some (.complex .f32 (fs (reA F j)) (fs (imA F j))) := by rw [vk i hlt]; show some (Value.complex .f32 (fs (reA T i)) (fs (imA T i))) = _; rw [(HT.out i j hlt hj).1, (HT.out i j hlt hj).2]
        have y4 : wr.cell? ⟨w11.heap.size, j, none⟩ = some (.complex .f32 (fs (reA F j)) (fs (imA F j))) := xk j hj2
        obtain ⟨h5, h6, _, _⟩ := HB.out j hj2
        have n3 := eq_same (reA F j) (by omega)
        have n4 := eq_same (imA F j) (by omega)
        have e5 : IntKind.i64.wrap ((i : Int) - s) = (j : Int) := by rw [IntWalk.i64_in _ (by omega)]; omega
        have j5 : (0 : Int) ≤ (j : Int) := Int.natCast_nonneg _
        have j6 : (j : Int) < 61 := by omega
        clear h5 h6 hj hj2
        generalize reA F j = p2 at *
        generalize imA F j = q2 at *
        clear h1 h2 h3 h4 HB HS HT
        generalize reA F i + reA G i = p at *
        generalize imA F i + imA G i = q at *
        generalize fs (reA F i) = u1 at *
        generalize fs (imA F i) = u2 at *
        generalize fs (reA G i) = u3 at *
        generalize fs (imA G i) = u4 at *
        have hd : decide (s ≤ (i : Int)) = true := by simpa using hge
        go_wp2
        go_quiet (fail)
        generalize hwq : World.drewN wr _ = wq
        have hbq : Below wr.heap.size wr wq := by rw [← hwq]; exact below_drewN (Below.refl _ _) _
        go_wp2
        go_roundw
        case rel => exact ⟨i + 1, by omega, by go_num, xk.later hbq, yk.later hbq, zk.later hbq, vk.later hbq, Lib.hid (below_then bk.out hbq)⟩
        case measure => simp [intOf]; omega
      · have hlt2 : (i : Int) < s := by omega
        have y0 : wr.cell? ⟨w11.heap.size, i, none⟩ = some (.complex .f32 (fs (reA F i)) (fs (imA F i))) := xk i hlt
        have y1 : wr.cell? ⟨w14.heap.size, i, none⟩ = some (.complex .f32 (fs (reA G i)) (fs (imA G i))) := yk i hlt
        have y2 : wr.cell? ⟨w17.heap.size, i, none⟩ = some (.complex .f32 (fs (reA F i + reA G i)) (fs (imA F i + imA G i))) := by rw [zk i hlt]; show some (Value.complex .f32 (fs (reA S i)) (fs (imA S i))) = _; rw [(HS.out i hlt).1, (HS.out i hlt).2]
        obtain ⟨h1, h2, h3, h4⟩ := HB.out i hlt
        have ca := fun w => cadd_run (reA F i) (imA F i) (reA G i) (imA G i) (by omega) (by omega) (by omega) (by omega) w
        have n1 := eq_same (reA F i + reA G i) (by omega)
        have n2 := eq_same (imA F i + imA G i) (by omega)
        clear h1 h2 h3 h4 HB HS HT
        generalize reA F i + reA G i = p at *
        generalize imA F i + imA G i = q at *
        generalize fs (reA F i) = u1 at *
        generalize fs (imA F i) = u2 at *
        generalize fs (reA G i) = u3 at *
        generalize fs (imA G i) = u4 at *
        have hd : decide (s ≤ (i : Int)) = false := by simpa using hlt2
        go_wp2
        go_quiet (fail)
        generalize hwq : World.drewN wr _ = wq
        have hbq : Below wr.heap.size wr wq := by rw [← hwq]; exact below_drewN (Below.refl _ _) _
        go_wp2
        go_roundw
        case rel => exact ⟨i + 1, by omega, by go_num, xk.later hbq, yk.later hbq, zk.later hbq, vk.later hbq, Lib.hid (below_then bk.out hbq)⟩
        case measure => simp [intOf]; omega
    · obtain rfl : i = 61 := by omega
      go_wp2
      go_ret
      exact ⟨rfl, bk.out⟩
end Go.Proofs.Ytoieemgdkpnbfaa
