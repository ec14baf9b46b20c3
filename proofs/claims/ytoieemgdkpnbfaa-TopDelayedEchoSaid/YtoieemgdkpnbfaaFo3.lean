/- lags: the walk -/
import Derived.Test.YtoieemgdkpnbfaaFo2
import Derived.Test.YtoieemgdkpnbfaaFm7
import Derived.Test.YtoieemgdkpnbfaaFlI
import Derived.Test.YtoieemgdkpnbfaaFl13
namespace Go.Proofs.Ytoieemgdkpnbfaa
open Go.RowKit RayM
set_option linter.unusedSimpArgs false
set_option linter.unusedVariables false
/-- whether a sample is not 0 -/
def smB (F : Nat → Int) : Nat → Bool
  | 0 => false
  | k + 1 => smB F k || decide (F k ≠ 0)
set_option maxRecDepth 100000 in
set_option maxHeartbeats 1000000 in
theorem tl_long1 (A B : Option Addr) (n c m d : Nat) (s : Int) (w : World) (hn : ¬ n ≤ 64) :
    Calls Try.prog 9 #[.slice A n c, .slice B m d, .int .i64 s] w fun e w' => e = .returned (.bool true) ∧ Below w.heap.size w w' := by
  have j2 : (64 : Int) < (n : Int) := by omega
  go_enter Try.func9, Try.ntmps9
  go_wp2_with (first
    | (go_at_call 12; (with_reducible refine (awake_any _).mono ?_); rintro e w1 ⟨rfl, hb1⟩; have b1 : Hid (Below w.heap.size w w1) := Lib.hid hb1; have s1' := hb1.size; clear hb1))
  go_ret
  exact ⟨rfl, b1.out⟩
set_option maxRecDepth 100000 in
set_option maxHeartbeats 1000000 in
theorem tl_long2 (A B : Option Addr) (n c m d : Nat) (s : Int) (w : World) (hn : n ≤ 64) (hm : ¬ m ≤ 64) :
    Calls Try.prog 9 #[.slice A n c, .slice B m d, .int .i64 s] w fun e w' => e = .returned (.bool true) ∧ Below w.heap.size w w' := by
  have j2 : (n : Int) ≤ 64 := by omega
  have j3 : (64 : Int) < (m : Int) := by omega
  go_enter Try.func9, Try.ntmps9
  go_wp2_with (first
    | (go_at_call 12; (with_reducible refine (awake_any _).mono ?_); rintro e w1 ⟨rfl, hb1⟩; have b1 : Hid (Below w.heap.size w w1) := Lib.hid hb1; have s1' := hb1.size; clear hb1))
  go_ret
  exact ⟨rfl, b1.out⟩
set_option maxRecDepth 100000 in
set_option maxHeartbeats 4000000 in
theorem tl_badA (A B : Option Addr) (n c m d : Nat) (l k F G : Nat → Int) (s ia ib : Int) (w : World) (hn : n ≤ 64) (hm : m ≤ 64) (h : InAt A n l w) (h2 : InAt B m k w) (MA : Hid (∀ w, InAt A n l w → Calls Try.prog 13 #[.slice A n c] w fun e w' => e = .returned (.agg (vls 64 (fv F)).toArray) ∧ Below w.heap.size w w')) (MB : Hid (∀ w, InAt B m k w → Calls Try.prog 13 #[.slice B m d] w fun e w' => e = .returned (.agg (vls 64 (fv G)).toArray) ∧ Below w.heap.size w w')) (X Y : Int) (hX : X ≠ 0) (LO : Hid (∀ w, Calls Try.prog 35 #[.agg (vls 64 (fv F)).toArray, .agg (vls 64 (fv G)).toArray, .int .i64 s] w fun e w' => e = .returned (.tuple #[.int .i64 0, .int .i64 X]) ∧ Below w.heap.size w w')) (CA : Hid (∀ w, Calls Try.prog 16 #[.agg (vls 64 (fv F)).toArray] w fun e w' => e = .returned (.tuple #[.int .i64 ia, .int .i64 X]) ∧ Below w.heap.size w w')) (CB : Hid (∀ w, Calls Try.prog 16 #[.agg (vls 64 (fv G)).toArray] w fun e w' => e = .returned (.tuple #[.int .i64 ib, .int .i64 Y]) ∧ Below w.heap.size w w')) (WI : Hid (∀ w, Calls Try.prog 17 #[.int .i64 s, .int .i64 0, .int .i64 32] w fun e w' => e = .returned (.bool true) ∧ w = w')) :
    Calls Try.prog 9 #[.slice A n c, .slice B m d, .int .i64 s] w fun e w' => e = .returned (.bool true) ∧ Below w.heap.size w w' := by
  have HX := Lib.hid h; clear h
  have HY := Lib.hid h2; clear h2
  have j2 : (n : Int) ≤ 64 := by omega
  have j3 : (m : Int) ≤ 64 := by omega
  have nz : (X != 0) = true := by simpa using hX
  have nz2 : (X == 0) = false := by simpa using hX
  go_enter Try.func9, Try.ntmps9
  go_wp2_with (first
    | (go_at_call 12; (with_reducible refine (awake_any _).mono ?_); rintro e w1 ⟨rfl, hb1⟩; have b1 : Hid (Below w.heap.size w w1) := Lib.hid hb1; have s1' := hb1.size; clear hb1)
    | (go_at_call 13; (with_reducible refine (MA.out _ (HX.out.later b1.out)).mono ?_); rintro e w2 ⟨rfl, hb2⟩; have b2 : Hid (Below w.heap.size w w2) := Lib.hid (below_then b1.out hb2); have s2' := hb2.size; clear hb2)
    | (go_at_call 13; (with_reducible refine (MB.out _ (HY.out.later b2.out)).mono ?_); rintro e w3 ⟨rfl, hb3⟩; have b3 : Hid (Below w.heap.size w w3) := Lib.hid (below_then b2.out hb3); have s3' := hb3.size; clear hb3)
    | ((with_reducible refine wpList_alloc_named rfl 26 rfl 7 rfl 64 (fv fun _ => 0) zeroT ?_); intro w4 N4; have s4 := N4.size; have ca4 := N4.at'; have za4 := N4.free; have b4 : Hid (Below w.heap.size w w4) := Lib.hid (below_then b3.out N4.below); clear N4; have s4' := Nat.le_of_eq s4.symm; clear s4)
    | ((with_reducible refine wpList_alloc_named rfl 26 rfl 8 rfl 64 (fv fun _ => 0) zeroT ?_); intro w5 N5; have s5 := N5.size; have ca5 := ca4.later N5.below; have za5 := za4.later ca4 N5.below; have ck5 := N5.at'; have zk5 := N5.free; have b5 : Hid (Below w.heap.size w w5) := Lib.hid (below_then b4.out N5.below); clear N5; have s5' := Nat.le_of_eq s5.symm; clear s5)
    | ((with_reducible refine wpList_store_at rfl 26 _ _ rfl _ 64 _ (fv F) rfl rfl ca5 za5 (fv_one _) infoV ?_); intro w6 S6 B6 ca6 za6 O6 P6; have ck6 := O6 _ _ _ (by omega) ck5; have zk6 := P6 _ _ zk5; have b6 : Hid (Below w.heap.size w w6) := Lib.hid (B6 _ _ (by omega) b5.out); have s6' := Nat.le_of_eq S6.symm; clear S6 B6 O6 P6)
    | ((with_reducible refine wpList_store_at rfl 26 _ _ rfl _ 64 _ (fv G) rfl rfl ck6 zk6 (fv_one _) infoV ?_); intro w7 S7 B7 ck7 zk7 O7 P7; have ca7 := O7 _ _ _ (by omega) ca6; have za7 := P7 _ _ za6; have b7 : Hid (Below w.heap.size w w7) := Lib.hid (B7 _ _ (by omega) b6.out); have s7' := Nat.le_of_eq S7.symm; clear S7 B7 O7 P7)
    | (with_reducible refine wpList_load_at rfl 26 _ rfl _ 64 (fv F) rfl ca7 _ Try.underlying26 rfl infoV ?_)
    | (with_reducible refine wpList_load_at rfl 26 _ rfl _ 64 (fv G) rfl ck7 _ Try.underlying26 rfl infoV ?_)
    | (go_at_call 35; (with_reducible refine (LO.out _).mono ?_); rintro e w8 ⟨rfl, hb8⟩; have ca8 := ca7.later hb8; have za8 := za7.later ca7 hb8; have ck8 := ck7.later hb8; have zk8 := zk7.later ck7 hb8; have b8 : Hid (Below w.heap.size w w8) := Lib.hid (below_then b7.out hb8); have s8' := hb8.size; clear hb8)
    | (with_reducible refine wpList_load_at rfl 26 _ rfl _ 64 (fv F) rfl ca8 _ Try.underlying26 rfl infoV ?_)
    | (go_at_call 16; (with_reducible refine (CA.out _).mono ?_); rintro e w9 ⟨rfl, hb9⟩; have ca9 := ca8.later hb9; have za9 := za8.later ca8 hb9; have ck9 := ck8.later hb9; have zk9 := zk8.later ck8 hb9; have b9 : Hid (Below w.heap.size w w9) := Lib.hid (below_then b8.out hb9); have s9' := hb9.size; clear hb9)
    | (with_reducible refine wpList_load_at rfl 26 _ rfl _ 64 (fv G) rfl ck9 _ Try.underlying26 rfl infoV ?_)
    | (go_at_call 16; (with_reducible refine (CB.out _).mono ?_); rintro e w10 ⟨rfl, hb10⟩; have ca10 := ca9.later hb10; have za10 := za9.later ca9 hb10; have ck10 := ck9.later hb10; have zk10 := zk9.later ck9 hb10; have b10 : Hid (Below w.heap.size w w10) := Lib.hid (below_then b9.out hb10); have s10' := hb10.size; clear hb10)
    | (go_at_call 17; (with_reducible refine (WI.out _).mono ?_); rintro e w' ⟨rfl, rfl⟩))
  go_ret
  exact ⟨rfl, b10.out⟩
set_option maxRecDepth 100000 in
set_option maxHeartbeats 4000000 in
theorem tl_badB (A B : Option Addr) (n c m d : Nat) (l k F G : Nat → Int) (s ia ib : Int) (w : World) (hn : n ≤ 64) (hm : m ≤ 64) (h : InAt A n l w) (h2 : InAt B m k w) (MA : Hid (∀ w, InAt A n l w → Calls Try.prog 13 #[.slice A n c] w fun e w' => e = .returned (.agg (vls 64 (fv F)).toArray) ∧ Below w.heap.size w w')) (MB : Hid (∀ w, InAt B m k w → Calls Try.prog 13 #[.slice B m d] w fun e w' => e = .returned (.agg (vls 64 (fv G)).toArray) ∧ Below w.heap.size w w')) (X : Int) (hX : X ≠ 0) (LO : Hid (∀ w, Calls Try.prog 35 #[.agg (vls 64 (fv F)).toArray, .agg (vls 64 (fv G)).toArray, .int .i64 s] w fun e w' => e = .returned (.tuple #[.int .i64 0, .int .i64 X]) ∧ Below w.heap.size w w')) (CA : Hid (∀ w, Calls Try.prog 16 #[.agg (vls 64 (fv F)).toArray] w fun e w' => e = .returned (.tuple #[.int .i64 ia, .int .i64 0]) ∧ Below w.heap.size w w')) (CB : Hid (∀ w, Calls Try.prog 16 #[.agg (vls 64 (fv G)).toArray] w fun e w' => e = .returned (.tuple #[.int .i64 ib, .int .i64 X]) ∧ Below w.heap.size w w')) (WI : Hid (∀ w, Calls Try.prog 17 #[.int .i64 s, .int .i64 0, .int .i64 32] w fun e w' => e = .returned (.bool true) ∧ w = w')) :
    Calls Try.prog 9 #[.slice A n c, .slice B m d, .int .i64 s] w fun e w' => e = .returned (.bool true) ∧ Below w.heap.size w w' := by
  have HX := Lib.hid h; clear h
  have HY := Lib.hid h2; clear h2
  have j2 : (n : Int) ≤ 64 := by omega
  have j3 : (m : Int) ≤ 64 := by omega
  have nz : (X != 0) = true := by simpa using hX
  have nz2 : (X == 0) = false := by simpa using hX
  go_enter Try.func9, Try.ntmps9
  go_wp2_with (first
    | (go_at_call 12; (with_reducible refine (awake_any _).mono ?_); rintro e w1 ⟨rfl, hb1⟩; have b1 : Hid (Below w.heap.size w w1) := Lib.hid hb1; have s1' := hb1.size; clear hb1)
    | (go_at_call 13; (with_reducible refine (MA.out _ (HX.out.later b1.out)).mono ?_); rintro e w2 ⟨rfl, hb2⟩; have b2 : Hid (Below w.heap.size w w2) := Lib.hid (below_then b1.out hb2); have s2' := hb2.size; clear hb2)
    | (go_at_call 13; (with_reducible refine (MB.out _ (HY.out.later b2.out)).mono ?_); rintro e w3 ⟨rfl, hb3⟩; have b3 : Hid (Below w.heap.size w w3) := Lib.hid (below_then b2.out hb3); have s3' := hb3.size; clear hb3)
    | ((with_reducible refine wpList_alloc_named rfl 26 rfl 7 rfl 64 (fv fun _ => 0) zeroT ?_); intro w4 N4; have s4 := N4.size; have ca4 := N4.at'; have za4 := N4.free; have b4 : Hid (Below w.heap.size w w4) := Lib.hid (below_then b3.out N4.below); clear N4; have s4' := Nat.le_of_eq s4.symm; clear s4)
    | ((with_reducible refine wpList_alloc_named rfl 26 rfl 8 rfl 64 (fv fun _ => 0) zeroT ?_); intro w5 N5; have s5 := N5.size; have ca5 := ca4.later N5.below; have za5 := za4.later ca4 N5.below; have ck5 := N5.at'; have zk5 := N5.free; have b5 : Hid (Below w.heap.size w w5) := Lib.hid (below_then b4.out N5.below); clear N5; have s5' := Nat.le_of_eq s5.symm; clear s5)
    | ((with_reducible refine wpList_store_at rfl 26 _ _ rfl _ 64 _ (fv F) rfl rfl ca5 za5 (fv_one _) infoV ?_); intro w6 S6 B6 ca6 za6 O6 P6; have ck6 := O6 _ _ _ (by omega) ck5; have zk6 := P6 _ _ zk5; have b6 : Hid (Below w.heap.size w w6) := Lib.hid (B6 _ _ (by omega) b5.out); have s6' := Nat.le_of_eq S6.symm; clear S6 B6 O6 P6)
    | ((with_reducible refine wpList_store_at rfl 26 _ _ rfl _ 64 _ (fv G) rfl rfl ck6 zk6 (fv_one _) infoV ?_); intro w7 S7 B7 ck7 zk7 O7 P7; have ca7 := O7 _ _ _ (by omega) ca6; have za7 := P7 _ _ za6; have b7 : Hid (Below w.heap.size w w7) := Lib.hid (B7 _ _ (by omega) b6.out); have s7' := Nat.le_of_eq S7.symm; clear S7 B7 O7 P7)
    | (with_reducible refine wpList_load_at rfl 26 _ rfl _ 64 (fv F) rfl ca7 _ Try.underlying26 rfl infoV ?_)
    | (with_reducible refine wpList_load_at rfl 26 _ rfl _ 64 (fv G) rfl ck7 _ Try.underlying26 rfl infoV ?_)
    | (go_at_call 35; (with_reducible refine (LO.out _).mono ?_); rintro e w8 ⟨rfl, hb8⟩; have ca8 := ca7.later hb8; have za8 := za7.later ca7 hb8; have ck8 := ck7.later hb8; have zk8 := zk7.later ck7 hb8; have b8 : Hid (Below w.heap.size w w8) := Lib.hid (below_then b7.out hb8); have s8' := hb8.size; clear hb8)
    | (with_reducible refine wpList_load_at rfl 26 _ rfl _ 64 (fv F) rfl ca8 _ Try.underlying26 rfl infoV ?_)
    | (go_at_call 16; (with_reducible refine (CA.out _).mono ?_); rintro e w9 ⟨rfl, hb9⟩; have ca9 := ca8.later hb9; have za9 := za8.later ca8 hb9; have ck9 := ck8.later hb9; have zk9 := zk8.later ck8 hb9; have b9 : Hid (Below w.heap.size w w9) := Lib.hid (below_then b8.out hb9); have s9' := hb9.size; clear hb9)
    | (with_reducible refine wpList_load_at rfl 26 _ rfl _ 64 (fv G) rfl ck9 _ Try.underlying26 rfl infoV ?_)
    | (go_at_call 16; (with_reducible refine (CB.out _).mono ?_); rintro e w10 ⟨rfl, hb10⟩; have ca10 := ca9.later hb10; have za10 := za9.later ca9 hb10; have ck10 := ck9.later hb10; have zk10 := zk9.later ck9 hb10; have b10 : Hid (Below w.heap.size w w10) := Lib.hid (below_then b9.out hb10); have s10' := hb10.size; clear hb10)
    | (go_at_call 17; (with_reducible refine (WI.out _).mono ?_); rintro e w' ⟨rfl, rfl⟩))
  go_ret
  exact ⟨rfl, b10.out⟩
set_option maxRecDepth 100000 in
set_option maxHeartbeats 4000000 in
theorem tl_badA' (A B : Option Addr) (n c m d : Nat) (l k F G : Nat → Int) (s ia ib : Int) (w : World) (hn : n ≤ 64) (hm : m ≤ 64) (h : InAt A n l w) (h2 : InAt B m k w) (MA : Hid (∀ w, InAt A n l w → Calls Try.prog 13 #[.slice A n c] w fun e w' => e = .returned (.agg (vls 64 (fv F)).toArray) ∧ Below w.heap.size w w')) (MB : Hid (∀ w, InAt B m k w → Calls Try.prog 13 #[.slice B m d] w fun e w' => e = .returned (.agg (vls 64 (fv G)).toArray) ∧ Below w.heap.size w w')) (X Y : Int) (hX : X ≠ 0) (LO : Hid (∀ w, Calls Try.prog 35 #[.agg (vls 64 (fv F)).toArray, .agg (vls 64 (fv G)).toArray, .int .i64 s] w fun e w' => e = .returned (.tuple #[.int .i64 0, .int .i64 X]) ∧ Below w.heap.size w w')) (CA : Hid (∀ w, Calls Try.prog 16 #[.agg (vls 64 (fv F)).toArray] w fun e w' => e = .returned (.tuple #[.int .i64 ia, .int .i64 X]) ∧ Below w.heap.size w w')) (CB : Hid (∀ w, Calls Try.prog 16 #[.agg (vls 64 (fv G)).toArray] w fun e w' => e = .returned (.tuple #[.int .i64 ib, .int .i64 Y]) ∧ Below w.heap.size w w')) (WI : Hid (∀ w, Calls Try.prog 17 #[.int .i64 s, .int .i64 0, .int .i64 32] w fun e w' => e = .returned (.bool false) ∧ w = w')) :
    Calls Try.prog 9 #[.slice A n c, .slice B m d, .int .i64 s] w fun e w' => e = .returned (.bool true) ∧ Below w.heap.size w w' := by
  have HX := Lib.hid h; clear h
  have HY := Lib.hid h2; clear h2
  have j2 : (n : Int) ≤ 64 := by omega
  have j3 : (m : Int) ≤ 64 := by omega
  have nz : (X != 0) = true := by simpa using hX
  have nz2 : (X == 0) = false := by simpa using hX
  go_enter Try.func9, Try.ntmps9
  go_wp2_with (first
    | (go_at_call 12; (with_reducible refine (awake_any _).mono ?_); rintro e w1 ⟨rfl, hb1⟩; have b1 : Hid (Below w.heap.size w w1) := Lib.hid hb1; have s1' := hb1.size; clear hb1)
    | (go_at_call 13; (with_reducible refine (MA.out _ (HX.out.later b1.out)).mono ?_); rintro e w2 ⟨rfl, hb2⟩; have b2 : Hid (Below w.heap.size w w2) := Lib.hid (below_then b1.out hb2); have s2' := hb2.size; clear hb2)
    | (go_at_call 13; (with_reducible refine (MB.out _ (HY.out.later b2.out)).mono ?_); rintro e w3 ⟨rfl, hb3⟩; have b3 : Hid (Below w.heap.size w w3) := Lib.hid (below_then b2.out hb3); have s3' := hb3.size; clear hb3)
    | ((with_reducible refine wpList_alloc_named rfl 26 rfl 7 rfl 64 (fv fun _ => 0) zeroT ?_); intro w4 N4; have s4 := N4.size; have ca4 := N4.at'; have za4 := N4.free; have b4 : Hid (Below w.heap.size w w4) := Lib.hid (below_then b3.out N4.below); clear N4; have s4' := Nat.le_of_eq s4.symm; clear s4)
    | ((with_reducible refine wpList_alloc_named rfl 26 rfl 8 rfl 64 (fv fun _ => 0) zeroT ?_); intro w5 N5; have s5 := N5.size; have ca5 := ca4.later N5.below; have za5 := za4.later ca4 N5.below; have ck5 := N5.at'; have zk5 := N5.free; have b5 : Hid (Below w.heap.size w w5) := Lib.hid (below_then b4.out N5.below); clear N5; have s5' := Nat.le_of_eq s5.symm; clear s5)
    | ((with_reducible refine wpList_store_at rfl 26 _ _ rfl _ 64 _ (fv F) rfl rfl ca5 za5 (fv_one _) infoV ?_); intro w6 S6 B6 ca6 za6 O6 P6; have ck6 := O6 _ _ _ (by omega) ck5; have zk6 := P6 _ _ zk5; have b6 : Hid (Below w.heap.size w w6) := Lib.hid (B6 _ _ (by omega) b5.out); have s6' := Nat.le_of_eq S6.symm; clear S6 B6 O6 P6)
    | ((with_reducible refine wpList_store_at rfl 26 _ _ rfl _ 64 _ (fv G) rfl rfl ck6 zk6 (fv_one _) infoV ?_); intro w7 S7 B7 ck7 zk7 O7 P7; have ca7 := O7 _ _ _ (by omega) ca6; have za7 := P7 _ _ za6; have b7 : Hid (Below w.heap.size w w7) := Lib.hid (B7 _ _ (by omega) b6.out); have s7' := Nat.le_of_eq S7.symm; clear S7 B7 O7 P7)
    | (with_reducible refine wpList_load_at rfl 26 _ rfl _ 64 (fv F) rfl ca7 _ Try.underlying26 rfl infoV ?_)
    | (with_reducible refine wpList_load_at rfl 26 _ rfl _ 64 (fv G) rfl ck7 _ Try.underlying26 rfl infoV ?_)
    | (go_at_call 35; (with_reducible refine (LO.out _).mono ?_); rintro e w8 ⟨rfl, hb8⟩; have ca8 := ca7.later hb8; have za8 := za7.later ca7 hb8; have ck8 := ck7.later hb8; have zk8 := zk7.later ck7 hb8; have b8 : Hid (Below w.heap.size w w8) := Lib.hid (below_then b7.out hb8); have s8' := hb8.size; clear hb8)
    | (with_reducible refine wpList_load_at rfl 26 _ rfl _ 64 (fv F) rfl ca8 _ Try.underlying26 rfl infoV ?_)
    | (go_at_call 16; (with_reducible refine (CA.out _).mono ?_); rintro e w9 ⟨rfl, hb9⟩; have ca9 := ca8.later hb9; have za9 := za8.later ca8 hb9; have ck9 := ck8.later hb9; have zk9 := zk8.later ck8 hb9; have b9 : Hid (Below w.heap.size w w9) := Lib.hid (below_then b8.out hb9); have s9' := hb9.size; clear hb9)
    | (with_reducible refine wpList_load_at rfl 26 _ rfl _ 64 (fv G) rfl ck9 _ Try.underlying26 rfl infoV ?_)
    | (go_at_call 16; (with_reducible refine (CB.out _).mono ?_); rintro e w10 ⟨rfl, hb10⟩; have ca10 := ca9.later hb10; have za10 := za9.later ca9 hb10; have ck10 := ck9.later hb10; have zk10 := zk9.later ck9 hb10; have b10 : Hid (Below w.heap.size w w10) := Lib.hid (below_then b9.out hb10); have s10' := hb10.size; clear hb10)
    | (go_at_call 17; (with_reducible refine (WI.out _).mono ?_); rintro e w' ⟨rfl, rfl⟩))
  go_ret
  exact ⟨rfl, b10.out⟩
set_option maxRecDepth 100000 in
set_option maxHeartbeats 4000000 in
theorem tl_badB' (A B : Option Addr) (n c m d : Nat) (l k F G : Nat → Int) (s ia ib : Int) (w : World) (hn : n ≤ 64) (hm : m ≤ 64) (h : InAt A n l w) (h2 : InAt B m k w) (MA : Hid (∀ w, InAt A n l w → Calls Try.prog 13 #[.slice A n c] w fun e w' => e = .returned (.agg (vls 64 (fv F)).toArray) ∧ Below w.heap.size w w')) (MB : Hid (∀ w, InAt B m k w → Calls Try.prog 13 #[.slice B m d] w fun e w' => e = .returned (.agg (vls 64 (fv G)).toArray) ∧ Below w.heap.size w w')) (X : Int) (hX : X ≠ 0) (LO : Hid (∀ w, Calls Try.prog 35 #[.agg (vls 64 (fv F)).toArray, .agg (vls 64 (fv G)).toArray, .int .i64 s] w fun e w' => e = .returned (.tuple #[.int .i64 0, .int .i64 X]) ∧ Below w.heap.size w w')) (CA : Hid (∀ w, Calls Try.prog 16 #[.agg (vls 64 (fv F)).toArray] w fun e w' => e = .returned (.tuple #[.int .i64 ia, .int .i64 0]) ∧ Below w.heap.size w w')) (CB : Hid (∀ w, Calls Try.prog 16 #[.agg (vls 64 (fv G)).toArray] w fun e w' => e = .returned (.tuple #[.int .i64 ib, .int .i64 X]) ∧ Below w.heap.size w w')) (WI : Hid (∀ w, Calls Try.prog 17 #[.int .i64 s, .int .i64 0, .int .i64 32] w fun e w' => e = .returned (.bool false) ∧ w = w')) :
    Calls Try.prog 9 #[.slice A n c, .slice B m d, .int .i64 s] w fun e w' => e = .returned (.bool true) ∧ Below w.heap.size w w' := by
  have HX := Lib.hid h; clear h
  have HY := Lib.hid h2; clear h2
  have j2 : (n : Int) ≤ 64 := by omega
  have j3 : (m : Int) ≤ 64 := by omega
  have nz : (X != 0) = true := by simpa using hX
  have nz2 : (X == 0) = false := by simpa using hX
  go_enter Try.func9, Try.ntmps9
  go_wp2_with (first
    | (go_at_call 12; (with_reducible refine (awake_any _).mono ?_); rintro e w1 ⟨rfl, hb1⟩; have b1 : Hid (Below w.heap.size w w1) := Lib.hid hb1; have s1' := hb1.size; clear hb1)
    | (go_at_call 13; (with_reducible refine (MA.out _ (HX.out.later b1.out)).mono ?_); rintro e w2 ⟨rfl, hb2⟩; have b2 : Hid (Below w.heap.size w w2) := Lib.hid (below_then b1.out hb2); have s2' := hb2.size; clear hb2)
    | (go_at_call 13; (with_reducible refine (MB.out _ (HY.out.later b2.out)).mono ?_); rintro e w3 ⟨rfl, hb3⟩; have b3 : Hid (Below w.heap.size w w3) := Lib.hid (below_then b2.out hb3); have s3' := hb3.size; clear hb3)
    | ((with_reducible refine wpList_alloc_named rfl 26 rfl 7 rfl 64 (fv fun _ => 0) zeroT ?_); intro w4 N4; have s4 := N4.size; have ca4 := N4.at'; have za4 := N4.free; have b4 : Hid (Below w.heap.size w w4) := Lib.hid (below_then b3.out N4.below); clear N4; have s4' := Nat.le_of_eq s4.symm; clear s4)
    | ((with_reducible refine wpList_alloc_named rfl 26 rfl 8 rfl 64 (fv fun _ => 0) zeroT ?_); intro w5 N5; have s5 := N5.size; have ca5 := ca4.later N5.below; have za5 := za4.later ca4 N5.below; have ck5 := N5.at'; have zk5 := N5.free; have b5 : Hid (Below w.heap.size w w5) := Lib.hid (below_then b4.out N5.below); clear N5; have s5' := Nat.le_of_eq s5.symm; clear s5)
    | ((with_reducible refine wpList_store_at rfl 26 _ _ rfl _ 64 _ (fv F) rfl rfl ca5 za5 (fv_one _) infoV ?_); intro w6 S6 B6 ca6 za6 O6 P6; have ck6 := O6 _ _ _ (by omega) ck5; have zk6 := P6 _ _ zk5; have b6 : Hid (Below w.heap.size w w6) := Lib.hid (B6 _ _ (by omega) b5.out); have s6' := Nat.le_of_eq S6.symm; clear S6 B6 O6 P6)
    | ((with_reducible refine wpList_store_at rfl 26 _ _ rfl _ 64 _ (fv G) rfl rfl ck6 zk6 (fv_one _) infoV ?_); intro w7 S7 B7 ck7 zk7 O7 P7; have ca7 := O7 _ _ _ (by omega) ca6; have za7 := P7 _ _ za6; have b7 : Hid (Below w.heap.size w w7) := Lib.hid (B7 _ _ (by omega) b6.out); have s7' := Nat.le_of_eq S7.symm; clear S7 B7 O7 P7)
    | (with_reducible refine wpList_load_at rfl 26 _ rfl _ 64 (fv F) rfl ca7 _ Try.underlying26 rfl infoV ?_)
    | (with_reducible refine wpList_load_at rfl 26 _ rfl _ 64 (fv G) rfl ck7 _ Try.underlying26 rfl infoV ?_)
    | (go_at_call 35; (with_reducible refine (LO.out _).mono ?_); rintro e w8 ⟨rfl, hb8⟩; have ca8 := ca7.later hb8; have za8 := za7.later ca7 hb8; have ck8 := ck7.later hb8; have zk8 := zk7.later ck7 hb8; have b8 : Hid (Below w.heap.size w w8) := Lib.hid (below_then b7.out hb8); have s8' := hb8.size; clear hb8)
    | (with_reducible refine wpList_load_at rfl 26 _ rfl _ 64 (fv F) rfl ca8 _ Try.underlying26 rfl infoV ?_)
    | (go_at_call 16; (with_reducible refine (CA.out _).mono ?_); rintro e w9 ⟨rfl, hb9⟩; have ca9 := ca8.later hb9; have za9 := za8.later ca8 hb9; have ck9 := ck8.later hb9; have zk9 := zk8.later ck8 hb9; have b9 : Hid (Below w.heap.size w w9) := Lib.hid (below_then b8.out hb9); have s9' := hb9.size; clear hb9)
    | (with_reducible refine wpList_load_at rfl 26 _ rfl _ 64 (fv G) rfl ck9 _ Try.underlying26 rfl infoV ?_)
    | (go_at_call 16; (with_reducible refine (CB.out _).mono ?_); rintro e w10 ⟨rfl, hb10⟩; have ca10 := ca9.later hb10; have za10 := za9.later ca9 hb10; have ck10 := ck9.later hb10; have zk10 := zk9.later ck9 hb10; have b10 : Hid (Below w.heap.size w w10) := Lib.hid (below_then b9.out hb10); have s10' := hb10.size; clear hb10)
    | (go_at_call 17; (with_reducible refine (WI.out _).mono ?_); rintro e w' ⟨rfl, rfl⟩))
  go_ret
  exact ⟨rfl, b10.out⟩
set_option maxRecDepth 100000 in
set_option maxHeartbeats 4000000 in
theorem tl_badC (A B : Option Addr) (n c m d : Nat) (l k F G : Nat → Int) (s ia ib : Int) (w : World) (hn : n ≤ 64) (hm : m ≤ 64) (h : InAt A n l w) (h2 : InAt B m k w) (MA : Hid (∀ w, InAt A n l w → Calls Try.prog 13 #[.slice A n c] w fun e w' => e = .returned (.agg (vls 64 (fv F)).toArray) ∧ Below w.heap.size w w')) (MB : Hid (∀ w, InAt B m k w → Calls Try.prog 13 #[.slice B m d] w fun e w' => e = .returned (.agg (vls 64 (fv G)).toArray) ∧ Below w.heap.size w w'))  (LO : Hid (∀ w, Calls Try.prog 35 #[.agg (vls 64 (fv F)).toArray, .agg (vls 64 (fv G)).toArray, .int .i64 s] w fun e w' => e = .returned (.tuple #[.int .i64 0, .int .i64 2]) ∧ Below w.heap.size w w')) (CA : Hid (∀ w, Calls Try.prog 16 #[.agg (vls 64 (fv F)).toArray] w fun e w' => e = .returned (.tuple #[.int .i64 ia, .int .i64 0]) ∧ Below w.heap.size w w')) (CB : Hid (∀ w, Calls Try.prog 16 #[.agg (vls 64 (fv G)).toArray] w fun e w' => e = .returned (.tuple #[.int .i64 ib, .int .i64 0]) ∧ Below w.heap.size w w')) (WI : Hid (∀ w, Calls Try.prog 17 #[.int .i64 s, .int .i64 0, .int .i64 32] w fun e w' => e = .returned (.bool false) ∧ w = w')) :
    Calls Try.prog 9 #[.slice A n c, .slice B m d, .int .i64 s] w fun e w' => e = .returned (.bool true) ∧ Below w.heap.size w w' := by
  have HX := Lib.hid h; clear h
  have HY := Lib.hid h2; clear h2
  have j2 : (n : Int) ≤ 64 := by omega
  have j3 : (m : Int) ≤ 64 := by omega
  go_enter Try.func9, Try.ntmps9
  go_wp2_with (first
    | (go_at_call 12; (with_reducible refine (awake_any _).mono ?_); rintro e w1 ⟨rfl, hb1⟩; have b1 : Hid (Below w.heap.size w w1) := Lib.hid hb1; have s1' := hb1.size; clear hb1)
    | (go_at_call 13; (with_reducible refine (MA.out _ (HX.out.later b1.out)).mono ?_); rintro e w2 ⟨rfl, hb2⟩; have b2 : Hid (Below w.heap.size w w2) := Lib.hid (below_then b1.out hb2); have s2' := hb2.size; clear hb2)
    | (go_at_call 13; (with_reducible refine (MB.out _ (HY.out.later b2.out)).mono ?_); rintro e w3 ⟨rfl, hb3⟩; have b3 : Hid (Below w.heap.size w w3) := Lib.hid (below_then b2.out hb3); have s3' := hb3.size; clear hb3)
    | ((with_reducible refine wpList_alloc_named rfl 26 rfl 7 rfl 64 (fv fun _ => 0) zeroT ?_); intro w4 N4; have s4 := N4.size; have ca4 := N4.at'; have za4 := N4.free; have b4 : Hid (Below w.heap.size w w4) := Lib.hid (below_then b3.out N4.below); clear N4; have s4' := Nat.le_of_eq s4.symm; clear s4)
    | ((with_reducible refine wpList_alloc_named rfl 26 rfl 8 rfl 64 (fv fun _ => 0) zeroT ?_); intro w5 N5; have s5 := N5.size; have ca5 := ca4.later N5.below; have za5 := za4.later ca4 N5.below; have ck5 := N5.at'; have zk5 := N5.free; have b5 : Hid (Below w.heap.size w w5) := Lib.hid (below_then b4.out N5.below); clear N5; have s5' := Nat.le_of_eq s5.symm; clear s5)
    | ((with_reducible refine wpList_store_at rfl 26 _ _ rfl _ 64 _ (fv F) rfl rfl ca5 za5 (fv_one _) infoV ?_); intro w6 S6 B6 ca6 za6 O6 P6; have ck6 := O6 _ _ _ (by omega) ck5; have zk6 := P6 _ _ zk5; have b6 : Hid (Below w.heap.size w w6) := Lib.hid (B6 _ _ (by omega) b5.out); have s6' := Nat.le_of_eq S6.symm; clear S6 B6 O6 P6)
    | ((with_reducible refine wpList_store_at rfl 26 _ _ rfl _ 64 _ (fv G) rfl rfl ck6 zk6 (fv_one _) infoV ?_); intro w7 S7 B7 ck7 zk7 O7 P7; have ca7 := O7 _ _ _ (by omega) ca6; have za7 := P7 _ _ za6; have b7 : Hid (Below w.heap.size w w7) := Lib.hid (B7 _ _ (by omega) b6.out); have s7' := Nat.le_of_eq S7.symm; clear S7 B7 O7 P7)
    | (with_reducible refine wpList_load_at rfl 26 _ rfl _ 64 (fv F) rfl ca7 _ Try.underlying26 rfl infoV ?_)
    | (with_reducible refine wpList_load_at rfl 26 _ rfl _ 64 (fv G) rfl ck7 _ Try.underlying26 rfl infoV ?_)
    | (go_at_call 35; (with_reducible refine (LO.out _).mono ?_); rintro e w8 ⟨rfl, hb8⟩; have ca8 := ca7.later hb8; have za8 := za7.later ca7 hb8; have ck8 := ck7.later hb8; have zk8 := zk7.later ck7 hb8; have b8 : Hid (Below w.heap.size w w8) := Lib.hid (below_then b7.out hb8); have s8' := hb8.size; clear hb8)
    | (with_reducible refine wpList_load_at rfl 26 _ rfl _ 64 (fv F) rfl ca8 _ Try.underlying26 rfl infoV ?_)
    | (go_at_call 16; (with_reducible refine (CA.out _).mono ?_); rintro e w9 ⟨rfl, hb9⟩; have ca9 := ca8.later hb9; have za9 := za8.later ca8 hb9; have ck9 := ck8.later hb9; have zk9 := zk8.later ck8 hb9; have b9 : Hid (Below w.heap.size w w9) := Lib.hid (below_then b8.out hb9); have s9' := hb9.size; clear hb9)
    | (with_reducible refine wpList_load_at rfl 26 _ rfl _ 64 (fv G) rfl ck9 _ Try.underlying26 rfl infoV ?_)
    | (go_at_call 16; (with_reducible refine (CB.out _).mono ?_); rintro e w10 ⟨rfl, hb10⟩; have ca10 := ca9.later hb10; have za10 := za9.later ca9 hb10; have ck10 := ck9.later hb10; have zk10 := zk9.later ck9 hb10; have b10 : Hid (Below w.heap.size w w10) := Lib.hid (below_then b9.out hb10); have s10' := hb10.size; clear hb10)
    | (go_at_call 17; (with_reducible refine (WI.out _).mono ?_); rintro e w' ⟨rfl, rfl⟩))
  go_ret
  exact ⟨rfl, b10.out⟩
set_option maxRecDepth 100000 in
set_option maxHeartbeats 6000000 in
theorem tl_ok (A B : Option Addr) (n c m d : Nat) (l k F G : Nat → Int) (s ia ib : Int) (w : World) (hn : n ≤ 64) (hm : m ≤ 64) (h : InAt A n l w) (h2 : InAt B m k w) (MA : Hid (∀ w, InAt A n l w → Calls Try.prog 13 #[.slice A n c] w fun e w' => e = .returned (.agg (vls 64 (fv F)).toArray) ∧ Below w.heap.size w w')) (MB : Hid (∀ w, InAt B m k w → Calls Try.prog 13 #[.slice B m d] w fun e w' => e = .returned (.agg (vls 64 (fv G)).toArray) ∧ Below w.heap.size w w')) (T : Nat → Int) (R R2 : Int) (LO : Hid (∀ w, Calls Try.prog 35 #[.agg (vls 64 (fv F)).toArray, .agg (vls 64 (fv G)).toArray, .int .i64 s] w fun e w' => e = .returned (.tuple #[.int .i64 R, .int .i64 0]) ∧ Below w.heap.size w w')) (CA : Hid (∀ w, Calls Try.prog 16 #[.agg (vls 64 (fv F)).toArray] w fun e w' => e = .returned (.tuple #[.int .i64 ia, .int .i64 0]) ∧ Below w.heap.size w w')) (CB : Hid (∀ w, Calls Try.prog 16 #[.agg (vls 64 (fv G)).toArray] w fun e w' => e = .returned (.tuple #[.int .i64 ib, .int .i64 0]) ∧ Below w.heap.size w w')) (WI : Hid (∀ w, Calls Try.prog 17 #[.int .i64 s, .int .i64 0, .int .i64 32] w fun e w' => e = .returned (.bool true) ∧ w = w')) (RL : Hid (∀ w, Calls Try.prog 36 #[.agg (vls 64 (fv F)).toArray, .agg (vls 64 (fv G)).toArray, .int .i64 s] w fun e w' => e = .returned (.int .i64 R) ∧ Below w.heap.size w w')) (SH : Hid (∀ w, Calls Try.prog 15 #[.agg (vls 64 (fv F)).toArray, .int .i64 s] w fun e w' => e = .returned (.tuple #[.agg (vls 64 (fv T)).toArray, .int .i64 0]) ∧ Below w.heap.size w w')) (L2 : Hid (∀ w, Calls Try.prog 35 #[.agg (vls 64 (fv F)).toArray, .agg (vls 64 (fv T)).toArray, .int .i64 s] w fun e w' => e = .returned (.tuple #[.int .i64 R2, .int .i64 0]) ∧ Below w.heap.size w w')) (s0 : 0 ≤ s) (s1 : s ≤ 32) (HF : Hid (Few F)) (HR : Hid ((∀ i : Nat, i < 64 → F i ≠ 0 → (i : Int) + s < 64) → (smB F 64 = false → R2 = 0) ∧ (smB F 64 = true → R2 = s))) :
    Calls Try.prog 9 #[.slice A n c, .slice B m d, .int .i64 s] w fun e w' => e = .returned (.bool true) ∧ Below w.heap.size w w' := by
  have HX := Lib.hid h; clear h
  have HY := Lib.hid h2; clear h2
  have j2 : (n : Int) ≤ 64 := by omega
  have j3 : (m : Int) ≤ 64 := by omega
  go_enter Try.func9, Try.ntmps9
  go_wp2_with (first
    | (go_at_call 12; (with_reducible refine (awake_any _).mono ?_); rintro e w1 ⟨rfl, hb1⟩; have b1 : Hid (Below w.heap.size w w1) := Lib.hid hb1; have s1' := hb1.size; clear hb1)
    | (go_at_call 13; (with_reducible refine (MA.out _ (HX.out.later b1.out)).mono ?_); rintro e w2 ⟨rfl, hb2⟩; have b2 : Hid (Below w.heap.size w w2) := Lib.hid (below_then b1.out hb2); have s2' := hb2.size; clear hb2)
    | (go_at_call 13; (with_reducible refine (MB.out _ (HY.out.later b2.out)).mono ?_); rintro e w3 ⟨rfl, hb3⟩; have b3 : Hid (Below w.heap.size w w3) := Lib.hid (below_then b2.out hb3); have s3' := hb3.size; clear hb3)
    | ((with_reducible refine wpList_alloc_named rfl 26 rfl 7 rfl 64 (fv fun _ => 0) zeroT ?_); intro w4 N4; have s4 := N4.size; have ca4 := N4.at'; have za4 := N4.free; have b4 : Hid (Below w.heap.size w w4) := Lib.hid (below_then b3.out N4.below); clear N4; have s4' := Nat.le_of_eq s4.symm; clear s4)
    | ((with_reducible refine wpList_alloc_named rfl 26 rfl 8 rfl 64 (fv fun _ => 0) zeroT ?_); intro w5 N5; have s5 := N5.size; have ca5 := ca4.later N5.below; have za5 := za4.later ca4 N5.below; have ck5 := N5.at'; have zk5 := N5.free; have b5 : Hid (Below w.heap.size w w5) := Lib.hid (below_then b4.out N5.below); clear N5; have s5' := Nat.le_of_eq s5.symm; clear s5)
    | ((with_reducible refine wpList_store_at rfl 26 _ _ rfl _ 64 _ (fv F) rfl rfl ca5 za5 (fv_one _) infoV ?_); intro w6 S6 B6 ca6 za6 O6 P6; have ck6 := O6 _ _ _ (by omega) ck5; have zk6 := P6 _ _ zk5; have b6 : Hid (Below w.heap.size w w6) := Lib.hid (B6 _ _ (by omega) b5.out); have s6' := Nat.le_of_eq S6.symm; clear S6 B6 O6 P6)
    | ((with_reducible refine wpList_store_at rfl 26 _ _ rfl _ 64 _ (fv G) rfl rfl ck6 zk6 (fv_one _) infoV ?_); intro w7 S7 B7 ck7 zk7 O7 P7; have ca7 := O7 _ _ _ (by omega) ca6; have za7 := P7 _ _ za6; have b7 : Hid (Below w.heap.size w w7) := Lib.hid (B7 _ _ (by omega) b6.out); have s7' := Nat.le_of_eq S7.symm; clear S7 B7 O7 P7)
    | (with_reducible refine wpList_load_at rfl 26 _ rfl _ 64 (fv F) rfl ca7 _ Try.underlying26 rfl infoV ?_)
    | (with_reducible refine wpList_load_at rfl 26 _ rfl _ 64 (fv G) rfl ck7 _ Try.underlying26 rfl infoV ?_)
    | (go_at_call 35; (with_reducible refine (LO.out _).mono ?_); rintro e w8 ⟨rfl, hb8⟩; have ca8 := ca7.later hb8; have za8 := za7.later ca7 hb8; have ck8 := ck7.later hb8; have zk8 := zk7.later ck7 hb8; have b8 : Hid (Below w.heap.size w w8) := Lib.hid (below_then b7.out hb8); have s8' := hb8.size; clear hb8)
    | (with_reducible refine wpList_load_at rfl 26 _ rfl _ 64 (fv F) rfl ca8 _ Try.underlying26 rfl infoV ?_)
    | (go_at_call 16; (with_reducible refine (CA.out _).mono ?_); rintro e w9 ⟨rfl, hb9⟩; have ca9 := ca8.later hb9; have za9 := za8.later ca8 hb9; have ck9 := ck8.later hb9; have zk9 := zk8.later ck8 hb9; have b9 : Hid (Below w.heap.size w w9) := Lib.hid (below_then b8.out hb9); have s9' := hb9.size; clear hb9)
    | (with_reducible refine wpList_load_at rfl 26 _ rfl _ 64 (fv G) rfl ck9 _ Try.underlying26 rfl infoV ?_)
    | (go_at_call 16; (with_reducible refine (CB.out _).mono ?_); rintro e w10 ⟨rfl, hb10⟩; have ca10 := ca9.later hb10; have za10 := za9.later ca9 hb10; have ck10 := ck9.later hb10; have zk10 := zk9.later ck9 hb10; have b10 : Hid (Below w.heap.size w w10) := Lib.hid (below_then b9.out hb10); have s10' := hb10.size; clear hb10)
    | (go_at_call 17; (with_reducible refine (WI.out _).mono ?_); rintro e w' ⟨rfl, rfl⟩)
    | (refine wpList_load_if (by rfl) 26 _ rfl _ 64 (fv F) rfl ca10 _ Try.underlying26 rfl infoV ?_)
    | (refine wpList_load_if (by rfl) 26 _ rfl _ 64 (fv G) rfl ck10 _ Try.underlying26 rfl infoV ?_)
    | (go_at_call 36; (with_reducible refine (RL.out _).mono ?_); rintro e w11 ⟨rfl, hb11⟩; have ca11 := ca10.later hb11; have za11 := za10.later ca10 hb11; have ck11 := ck10.later hb11; have zk11 := zk10.later ck10 hb11; have b11 : Hid (Below w.heap.size w w11) := Lib.hid (below_then b10.out hb11); have s11' := hb11.size; clear hb11))
  try clear b1
  try clear b2
  try clear b3
  try clear ca4
  try clear za4
  try clear b4
  try clear ca5
  try clear za5
  try clear ck5
  try clear zk5
  try clear b5
  try clear ck6
  try clear zk6
  try clear b6
  try clear ca7
  try clear za7
  try clear b7
  try clear ca8
  try clear za8
  try clear ck8
  try clear zk8
  try clear b8
  try clear ca9
  try clear za9
  try clear ck9
  try clear zk9
  try clear b9
  try clear ca10
  try clear za10
  try clear ck10
  try clear zk10
  try clear b10
  try clear ck11
  try clear zk11
  go_loopw [15, 16] (fun s15 s16 wr => ∃ i : Nat, i ≤ 64 ∧ s16 = .int .i64 (i : Int) ∧ s15 = .bool (smB F i) ∧ (∀ q : Nat, q < i → F q ≠ 0 → (q : Int) + s < 64) ∧ VAt (w3.heap.size) 64 (fv F) wr ∧ Hid (Below w.heap.size w wr)) (fun _ s16 _ => 64 - (intOf s16).toNat)
  case atStart => exact ⟨0, by omega, rfl, rfl, fun q hq => by omega, ca11, b11⟩
  case round =>
    obtain ⟨i, hi, rfl, rfl, hlost, ak, bk⟩ := hrel
    have HLost := Lib.hid hlost; clear hlost
    have j0 : (0 : Int) ≤ (i : Int) := Int.natCast_nonneg _
    have SM : Hid (smB F (i + 1) = (smB F i || decide (F i ≠ 0))) := (rfl : _ = _)
    have HS64 : Hid (∀ q, q = 64 → smB F q = smB F 64) := Lib.hid (fun q h => by rw [h])
    by_cases hlt : i < 64
    · have j1 : (i : Int) < 64 := by omega
      have y0 : wr.cell? ⟨w3.heap.size, i, none⟩ = some (.float .f32 (fs (F i))) := ak i hlt
      have hf := HF.out i hlt
      by_cases hz : F i = 0
      · have q1 : (FloatKind.f32.format.order (fs (F i)) 0 == some .eq) = true := by rw [eq_fs0 _ (Nat.lt_trans hf (by decide))]; simpa using hz
        have q2 : (FloatKind.f32.format.order (fs (F i)) 0 != some .eq) = false := by rw [bne, q1]; rfl
        have SM2 : Hid (smB F (i + 1) = smB F i) := by show _ = _; rw [SM.out, hz]; simp
        have HL2 : Hid (∀ q : Nat, q < i + 1 → F q ≠ 0 → (q : Int) + s < 64) := Lib.hid (fun q hq hne => by
          by_cases e : q = i
          · subst e; exact absurd hz hne
          · exact HLost.out q (by omega) hne)
        clear hf hz SM
        generalize fs (F i) = u at *
        obtain ⟨sm, hsm⟩ : ∃ sm, sm = smB F i := ⟨_, rfl⟩
        rw [← hsm] at SM2
        rw [← hsm]
        clear hsm
        cases sm
        · go_wp2
          go_roundw
          case rel => exact ⟨i + 1, by omega, by go_num, by rw [SM2.out], HL2.out, ak, bk⟩
          case measure => simp [intOf]; omega
        · go_wp2
          go_roundw
          case rel => exact ⟨i + 1, by omega, by go_num, by rw [SM2.out], HL2.out, ak, bk⟩
          case measure => simp [intOf]; omega
      · have q1 : (FloatKind.f32.format.order (fs (F i)) 0 == some .eq) = false := by rw [eq_fs0 _ (Nat.lt_trans hf (by decide))]; simpa using hz
        have q2 : (FloatKind.f32.format.order (fs (F i)) 0 != some .eq) = true := by rw [bne, q1]; rfl
        have SM2 : Hid (smB F (i + 1) = true) := by show _ = _; rw [SM.out]; simp [hz]
        have hz2 := Lib.hid hz
        clear hf hz SM
        generalize fs (F i) = u at *
        have e5 : IntKind.i64.wrap ((i : Int) + s) = (i : Int) + s := IntWalk.i64_in _ (by omega)
        by_cases hge : 64 ≤ (i : Int) + s
        · have hd : decide (64 ≤ (i : Int) + s) = true := by simpa using hge
          go_wp2
          go_ret
          exact ⟨rfl, bk.out⟩
        · have hd : decide (64 ≤ (i : Int) + s) = false := by simpa using hge
          have HL2 : Hid (∀ q : Nat, q < i + 1 → F q ≠ 0 → (q : Int) + s < 64) := Lib.hid (fun q hq hne => by
            by_cases e : q = i
            · subst e; omega
            · exact HLost.out q (by omega) hne)
          clear hge
          obtain ⟨sm, hsm⟩ : ∃ sm, sm = smB F i := ⟨_, rfl⟩
          rw [← hsm]
          clear hsm
          cases sm
          · go_wp2
            go_roundw
            case rel => exact ⟨i + 1, by omega, by go_num, by rw [SM2.out], HL2.out, ak, bk⟩
            case measure => simp [intOf]; omega
          · go_wp2
            go_roundw
            case rel => exact ⟨i + 1, by omega, by go_num, by rw [SM2.out], HL2.out, ak, bk⟩
            case measure => simp [intOf]; omega
    · obtain rfl : i = 64 := by omega
      have hr := HR.out HLost.out
      have ca50 := ak
      have b50 := bk
      have lt50 : w3.heap.size < wr.heap.size := World.block_lt_of_cell? _ _ (ak 0 (by decide))
      clear ak bk
      have lt51 : w.heap.size ≤ wr.heap.size := b50.out.size
      obtain ⟨hr0, hr1⟩ := hr
      obtain ⟨sm, hsm⟩ : ∃ sm, sm = smB F 64 := ⟨_, rfl⟩
      rw [← hsm] at hr0 hr1
      rw [← hsm]
      clear hsm
      cases sm
      · obtain rfl := hr0 rfl
        clear hr0 hr1 HR
        go_wp2_with (first
          | (with_reducible refine wpList_load_at rfl 26 _ rfl _ 64 (fv F) rfl ca50 _ Try.underlying26 rfl infoV ?_)
          | (go_at_call 15; (with_reducible refine (SH.out _).mono ?_); rintro e w51 ⟨rfl, hb51⟩; have ca51 := ca50.later hb51; have b51 : Hid (Below w.heap.size w w51) := Lib.hid (below_then b50.out hb51); have s51' := hb51.size; clear hb51)
          | ((with_reducible refine wpList_alloc_named rfl 26 rfl 17 rfl 64 (fv fun _ => 0) zeroT ?_); intro w52 N52; have s52 := N52.size; have ca52 := ca51.later N52.below; have ct52 := N52.at'; have zt52 := N52.free; have b52 : Hid (Below w.heap.size w w52) := Lib.hid (below_then b51.out N52.below); clear N52)
          | ((with_reducible refine wpList_store_at rfl 26 _ _ rfl _ 64 _ (fv T) rfl rfl ct52 zt52 (fv_one _) infoV ?_); intro w53 S53 B53 ct53 zt53 O53 P53; have ca53 := O53 _ _ _ (by omega) ca52; have b53 : Hid (Below w.heap.size w w53) := Lib.hid (B53 _ _ (by omega) b52.out); clear S53 B53 O53 P53)
          | (with_reducible refine wpList_load_at rfl 26 _ rfl _ 64 (fv F) rfl ca53 _ Try.underlying26 rfl infoV ?_)
          | (with_reducible refine wpList_load_at rfl 26 _ rfl _ 64 (fv T) rfl ct53 _ Try.underlying26 rfl infoV ?_)
          | (go_at_call 35; (with_reducible refine (L2.out _).mono ?_); rintro e w54 ⟨rfl, hb54⟩; have b54 : Hid (Below w.heap.size w w54) := Lib.hid (below_then b53.out hb54); clear hb54))
        go_ret
        exact ⟨rfl, b54.out⟩
      · have hR2 := hr1 rfl
        clear hr0 hr1 HR
        subst hR2
        go_wp2_with (first
          | (with_reducible refine wpList_load_at rfl 26 _ rfl _ 64 (fv F) rfl ca50 _ Try.underlying26 rfl infoV ?_)
          | (go_at_call 15; (with_reducible refine (SH.out _).mono ?_); rintro e w51 ⟨rfl, hb51⟩; have ca51 := ca50.later hb51; have b51 : Hid (Below w.heap.size w w51) := Lib.hid (below_then b50.out hb51); have s51' := hb51.size; clear hb51)
          | ((with_reducible refine wpList_alloc_named rfl 26 rfl 17 rfl 64 (fv fun _ => 0) zeroT ?_); intro w52 N52; have s52 := N52.size; have ca52 := ca51.later N52.below; have ct52 := N52.at'; have zt52 := N52.free; have b52 : Hid (Below w.heap.size w w52) := Lib.hid (below_then b51.out N52.below); clear N52)
          | ((with_reducible refine wpList_store_at rfl 26 _ _ rfl _ 64 _ (fv T) rfl rfl ct52 zt52 (fv_one _) infoV ?_); intro w53 S53 B53 ct53 zt53 O53 P53; have ca53 := O53 _ _ _ (by omega) ca52; have b53 : Hid (Below w.heap.size w w53) := Lib.hid (B53 _ _ (by omega) b52.out); clear S53 B53 O53 P53)
          | (with_reducible refine wpList_load_at rfl 26 _ rfl _ 64 (fv F) rfl ca53 _ Try.underlying26 rfl infoV ?_)
          | (with_reducible refine wpList_load_at rfl 26 _ rfl _ 64 (fv T) rfl ct53 _ Try.underlying26 rfl infoV ?_)
          | (go_at_call 35; (with_reducible refine (L2.out _).mono ?_); rintro e w54 ⟨rfl, hb54⟩; have b54 : Hid (Below w.heap.size w w54) := Lib.hid (below_then b53.out hb54); clear hb54))
        go_ret
        exact ⟨rfl, b54.out⟩
end Go.Proofs.Ytoieemgdkpnbfaa
