/- the analytic samples: the ways that end early -/
import Derived.Test.YtoieemgdkpnbfaaFn3
import Derived.Test.YtoieemgdkpnbfaaFlK
import Derived.Test.YtoieemgdkpnbfaaFlE
import Derived.Test.YtoieemgdkpnbfaaFm7
import Derived.Test.YtoieemgdkpnbfaaFlI
import Derived.Test.YtoieemgdkpnbfaaFl13
import Derived.Deep.DeepCutAuto
namespace Go.Proofs.Ytoieemgdkpnbfaa
open Go.RowKit RayM
set_option linter.unusedSimpArgs false
set_option linter.unusedVariables false
section
variable {P : Program}
/-- an array of zeros as a literal, where the operation is guarded -/
theorem wpList_zero_if {ops : Array Oper} {rest : List Oper} {op : Oper} {a : Act} {w : World} {Q : Exit → Act → World → Prop} (hw : Region.wanted op (yielded ops a.tmps) = true) (t : TypeId) (ho : op.op = .build t #[])
    (n : Nat) (f : Nat → Value) (hz : (P.info? t).map (fun i => (i.zero, i.size)) = some (some (.agg (vls n f).toArray), n)) (e : TypeId) (sz : Nat) (hu : P.underlying t = some (.array n e)) (hs : (P.info? e).map (·.size) = some sz)
    (h : wpList P ops Q rest (a.put op.dst (.agg (vls n f).toArray)) w) : wpList P ops Q (op :: rest) a w := by
  unfold wpList
  rw [if_pos hw]
  refine .inl ?_
  unfold Oper.wp execOp
  have hr : (zeroValue t).run P w = .ok (.agg (vls n f).toArray) w := by
    cases hq : P.info? t with
    | none => simp [hq] at hz
    | some i =>
      simp [hq] at hz
      simp [zeroValue, typeInfo, hq, hz.1]
  have hsz : (sizeOf e).run P w = .ok sz w := by
    cases hq : P.info? e with
    | none => simp [hq] at hs
    | some i =>
      have : i.size = sz := by simpa [hq] using hs
      simp [sizeOf, typeInfo, hq, this]
  have hi : (Instr.build t #[]).run P w = .ok (.agg (vls n f).toArray) w := by
    simp [Instr.build, hr, run_underlying hu, Result.andThen, hsz, Value.cells, Instr.fill]
  simp only [ho]
  simp [hi]
  exact h
end
theorem cx_of {b : Nat} {F : Nat → Int} {w : World} (c : VAt b 61 (anv F) w) : CxAt ⟨b, 0, none⟩ 61 (reA F) (imA F) w := fun i hi => by rw [add_off]; exact c i hi
set_option maxRecDepth 100000 in
set_option maxHeartbeats 1000000 in
theorem an_long (A : Option Addr) (n c : Nat) (w : World) (hn : ¬ n ≤ 64) :
    Calls Try.prog 5 #[.slice A n c] w fun e w' => e = .returned (.bool true) ∧ Below w.heap.size w w' := by
  have j2 : (64 : Int) < (n : Int) := by omega
  go_enter Try.func5, Try.ntmps5
  go_wp2_with (first
    | (go_at_call 12; (with_reducible refine (awake_any _).mono ?_); rintro e w1 ⟨rfl, hb1⟩; have b1 : Hid (Below w.heap.size w w1) := Lib.hid hb1; have s1' := hb1.size; clear hb1))
  go_ret
  exact ⟨rfl, b1.out⟩
theorem sizeC : (Try.prog.info? 48).map (·.size) = some 1 := by kernel_rfl
theorem sizeI : (Try.prog.info? 3).map (·.size) = some 1 := by kernel_rfl
theorem eqZiv (w : World) : (binOp .eql 52 (.agg (vls 61 ziv).toArray) (.agg (vls 61 ziv).toArray)).run Try.prog w = .ok (.bool true) w := eqInts (fun _ => 0) w
set_option maxRecDepth 100000 in
set_option maxHeartbeats 4000000 in
theorem an_bad (A : Option Addr) (n c : Nat) (l F : Nat → Int) (i0 : Int) (w : World) (hn : n ≤ 64) (h : InAt A n l w) (MA : Hid (∀ w, InAt A n l w → Calls Try.prog 13 #[.slice A n c] w fun e w' => e = .returned (.agg (vls 64 (fv F)).toArray) ∧ Below w.heap.size w w')) (X : Int) (hX : X ≠ 0) (AN : Hid (∀ w, Calls Try.prog 25 #[.agg (vls 64 (fv F)).toArray] w fun e w' => e = .returned (.tuple #[.agg (vls 61 (zcv)).toArray, .int .i64 X]) ∧ Below w.heap.size w w')) (EV : Hid (∀ w, Calls Try.prog 26 #[.agg (vls 64 (fv F)).toArray] w fun e w' => e = .returned (.tuple #[.agg (vls 61 (ziv)).toArray, .int .i64 X]) ∧ Below w.heap.size w w')) (CK : Hid (∀ w, Calls Try.prog 16 #[.agg (vls 64 (fv F)).toArray] w fun e w' => e = .returned (.tuple #[.int .i64 i0, .int .i64 X]) ∧ Below w.heap.size w w')) :
    Calls Try.prog 5 #[.slice A n c] w fun e w' => e = .returned (.bool true) ∧ Below w.heap.size w w' := by
  have HX := Lib.hid h; clear h
  have j2 : (n : Int) ≤ 64 := by omega
  have nz : (X != 0) = true := by simpa using hX
  have EZ := eqZeros
  have EI := eqZiv
  go_enter Try.func5, Try.ntmps5
  go_wp2_with (first
    | (go_at_call 12; (with_reducible refine (awake_any _).mono ?_); rintro e w1 ⟨rfl, hb1⟩; have b1 : Hid (Below w.heap.size w w1) := Lib.hid hb1; have s1' := hb1.size; clear hb1)
    | (go_at_call 13; (with_reducible refine (MA.out _ (HX.out.later b1.out)).mono ?_); rintro e w2 ⟨rfl, hb2⟩; have b2 : Hid (Below w.heap.size w w2) := Lib.hid (below_then b1.out hb2); have s2' := hb2.size; clear hb2)
    | ((with_reducible refine wpList_alloc_named rfl 26 rfl 3 rfl 64 (fv fun _ => 0) zeroT ?_); intro w3 N3; have s3 := N3.size; have ct3 := N3.at'; have zt3 := N3.free; have b3 : Hid (Below w.heap.size w w3) := Lib.hid (below_then b2.out N3.below); clear N3; have s3' := Nat.le_of_eq s3.symm; clear s3)
    | ((with_reducible refine wpList_store_at rfl 26 _ _ rfl _ 64 _ (fv F) rfl rfl ct3 zt3 (fv_one _) infoV ?_); intro w4 S4 B4 ct4 zt4 O4 P4; have b4 : Hid (Below w.heap.size w w4) := Lib.hid (B4 _ _ (by omega) b3.out); have s4' := Nat.le_of_eq S4.symm; clear S4 B4 O4 P4)
    | (with_reducible refine wpList_load_at rfl 26 _ rfl _ 64 (fv F) rfl ct4 _ Try.underlying26 rfl infoV ?_)
    | (go_at_call 25; (with_reducible refine (AN.out _).mono ?_); rintro e w5 ⟨rfl, hb5⟩; have ct5 := ct4.later hb5; have zt5 := zt4.later ct4 hb5; have b5 : Hid (Below w.heap.size w w5) := Lib.hid (below_then b4.out hb5); have s5' := hb5.size; clear hb5)
    | ((with_reducible refine wpList_alloc_named rfl 49 rfl 4 rfl 61 (zcv) zeroC ?_); intro w6 N6; have s6 := N6.size; have ct6 := ct5.later N6.below; have zt6 := zt5.later ct5 N6.below; have ca6 := N6.at'; have za6 := N6.free; have b6 : Hid (Below w.heap.size w w6) := Lib.hid (below_then b5.out N6.below); clear N6; have s6' := Nat.le_of_eq s6.symm; clear s6)
    | ((with_reducible refine wpList_store_at rfl 49 _ _ rfl _ 61 _ (zcv) rfl rfl ca6 za6 (fun _ _ => rfl) infoC ?_); intro w7 S7 B7 ca7 za7 O7 P7; have ct7 := O7 _ _ _ (by omega) ct6; have zt7 := P7 _ _ zt6; have b7 : Hid (Below w.heap.size w w7) := Lib.hid (B7 _ _ (by omega) b6.out); have s7' := Nat.le_of_eq S7.symm; clear S7 B7 O7 P7)
    | (with_reducible refine wpList_load_at rfl 26 _ rfl _ 64 (fv F) rfl ct7 _ Try.underlying26 rfl infoV ?_)
    | (go_at_call 26; (with_reducible refine (EV.out _).mono ?_); rintro e w8 ⟨rfl, hb8⟩; have ct8 := ct7.later hb8; have zt8 := zt7.later ct7 hb8; have ca8 := ca7.later hb8; have za8 := za7.later ca7 hb8; have b8 : Hid (Below w.heap.size w w8) := Lib.hid (below_then b7.out hb8); have s8' := hb8.size; clear hb8)
    | ((with_reducible refine wpList_alloc_named rfl 52 rfl 6 rfl 61 (ziv) zeroI ?_); intro w9 N9; have s9 := N9.size; have ct9 := ct8.later N9.below; have zt9 := zt8.later ct8 N9.below; have ca9 := ca8.later N9.below; have za9 := za8.later ca8 N9.below; have cs9 := N9.at'; have zs9 := N9.free; have b9 : Hid (Below w.heap.size w w9) := Lib.hid (below_then b8.out N9.below); clear N9; have s9' := Nat.le_of_eq s9.symm; clear s9)
    | ((with_reducible refine wpList_store_at rfl 52 _ _ rfl _ 61 _ (ziv) rfl rfl cs9 zs9 (fun _ _ => rfl) infoI ?_); intro w10 S10 B10 cs10 zs10 O10 P10; have ct10 := O10 _ _ _ (by omega) ct9; have zt10 := P10 _ _ zt9; have ca10 := O10 _ _ _ (by omega) ca9; have za10 := P10 _ _ za9; have b10 : Hid (Below w.heap.size w w10) := Lib.hid (B10 _ _ (by omega) b9.out); have s10' := Nat.le_of_eq S10.symm; clear S10 B10 O10 P10)
    | (with_reducible refine wpList_load_at rfl 26 _ rfl _ 64 (fv F) rfl ct10 _ Try.underlying26 rfl infoV ?_)
    | (go_at_call 16; (with_reducible refine (CK.out _).mono ?_); rintro e w11 ⟨rfl, hb11⟩; have ct11 := ct10.later hb11; have zt11 := zt10.later ct10 hb11; have ca11 := ca10.later hb11; have za11 := za10.later ca10 hb11; have cs11 := cs10.later hb11; have zs11 := zs10.later cs10 hb11; have b11 : Hid (Below w.heap.size w w11) := Lib.hid (below_then b10.out hb11); have s11' := hb11.size; clear hb11)
    | (refine wpList_load_if (by rfl) 49 _ rfl _ 61 (zcv) rfl ca11 _ Try.underlying49 rfl infoC ?_)
    | (refine wpList_load_if (by rfl) 52 _ rfl _ 61 (ziv) rfl cs11 _ Try.underlying52 rfl infoI ?_)
    | (refine wpList_zero_if (by rfl) 49 rfl 61 zcv zeroC 48 1 Try.underlying49 sizeC ?_)
    | (refine wpList_zero_if (by rfl) 52 rfl 61 ziv zeroI 3 1 Try.underlying52 sizeI ?_))
  go_ret
  exact ⟨rfl, b11.out⟩
theorem eqInts_in (f : Nat → Int) (w : World) : (Op.equalIn 10000 52 (.agg (vls 61 (fun i => .int .i64 (f i))).toArray) (.agg (vls 61 (fun i => .int .i64 (f i))).toArray)).run Try.prog w = .ok true w := by
  have hu : Try.prog.underlying 52 = some (.array 61 3) := Try.underlying52
  obtain ⟨i, hi⟩ := Option.isSome_iff_exists.1 (show (Try.prog.info? 3).isSome = true by kernel_rfl)
  have hc : Try.prog.cellsOf 3 = 1 := by kernel_rfl
  refine Eq.trans (run_equalIn_array w 9999 _ _ hu hi) ?_
  refine eqItems_same w _ _ _ _ _ _ (fun k hk => ?_)
  have hk' : k < 61 := by simpa using hk
  rw [hc, Nat.mul_one]
  have hp := run_part_plain (P := Try.prog) w (e := 3) (by kernel_rfl) (vls_at 61 (fun i => .int .i64 (f i)) k hk')
  exact ⟨_, _, hp, hp, by rw [run_equalIn_int w 9998 _ _ .i64 _ _ Try.underlying3]; simp⟩
theorem eqSq (F : Nat → Int) (w : World) : (Op.equalIn 10000 52 (.agg (vls 61 (sqv F)).toArray) (.agg (vls 61 (sqv F)).toArray)).run Try.prog w = .ok true w := eqInts_in (sqA F) w
end Go.Proofs.Ytoieemgdkpnbfaa
