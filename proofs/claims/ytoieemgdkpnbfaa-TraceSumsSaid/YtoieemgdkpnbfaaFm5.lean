/- the shift of the program -/
import Derived.Test.YtoieemgdkpnbfaaFm2
import Derived.Test.YtoieemgdkpnbfaaFm3
import Derived.Deep.DeepCutAuto
namespace Go.Proofs.Ytoieemgdkpnbfaa
open Go.RowKit RayM
set_option linter.unusedSimpArgs false
set_option linter.unusedVariables false
theorem trS_skip (l : Nat → Int) (k : Nat) (h : l k = 0) : ∀ i, i < 64 → fv (trS l k) i = fv (trS l (k + 1)) i := fun i _ => by
  unfold fv trS
  by_cases e2 : i < k
  · rw [if_pos e2, if_pos (by omega)]
  · rw [if_neg e2]
    by_cases e : i = k
    · subst e; rw [if_pos (by omega), h]
    · rw [if_neg (by omega)]
theorem shT_few (l : Nat → Int) (s : Int) (hl : Few l) : Few (trS (shT l s) 64) := fun i hi => by
  unfold trS shT
  rw [if_pos hi]
  by_cases h : 0 ≤ (i : Int) - s ∧ (i : Int) - s ≤ 63
  · rw [if_pos h]; exact hl _ (by omega)
  · rw [if_neg h]; decide
set_option maxRecDepth 100000 in
set_option maxHeartbeats 4000000 in
theorem tShifted_ok (l : Nat → Int) (s : Int) (w : World) (hl : Few l) (hc : ctE l = 0) (s0 : -64 ≤ s) (s1 : s ≤ 64) :
    Calls Try.prog 15 #[.agg (vls 64 (fv l)).toArray, .int .i64 s] w fun e w' => e = .returned (.tuple #[.agg (vls 64 (fv (trS (shT l s) 64))).toArray, .int .i64 0]) ∧ Below w.heap.size w w' := by
  have SF := @run_store_float Try.prog
  have HE := Lib.hid (fun w => traceErr_v l hl w)
  rw [hc] at HE
  have HP := Lib.hid (fun w => plain_v (trS (shT l s) 64) (shT_few l s hl) w)
  have EF : Hid (fst [0, unl (inB s (-64) 64) 2] = 0) := by show _ = _; rw [unl_t _ _ _ ⟨s0, s1⟩]; rfl
  go_enter Try.func15, Try.ntmps15
  go_upto_region 2 with (first
  | ((with_reducible refine wpList_box_named rfl 26 _ rfl 2 rfl 64 (fv l) rfl ?_); intro w1 N1; have s1 := N1.size; have ct1 := N1.at'; have zt1 := N1.free; have b1 : Hid (Below w.heap.size w w1) := Lib.hid N1.below; clear N1)
  | ((with_reducible refine wpList_alloc_named rfl 26 rfl 4 rfl 64 (fv fun _ => 0) zeroT ?_); intro w2 N2; have s2 := N2.size; have ct2 := ct1.later N2.below; have zt2 := zt1.later ct1 N2.below; have cr2 := N2.at'; have zr2 := N2.free; have b2 : Hid (Below w.heap.size w w2) := Lib.hid (below_then b1.out N2.below); clear N2; rw [s1] at s2 cr2 zr2)
  | (with_reducible refine wpList_load_at rfl 26 _ rfl _ 64 (fv l) rfl ct2 _ Try.underlying26 rfl infoV ?_)
  | (go_at_call 51; (with_reducible refine (HE.out _).mono ?_); rintro e w3 ⟨rfl, hb3⟩; have ct3 := ct2.later hb3; have zt3 := zt2.later ct2 hb3; have cr3 := cr2.later hb3; have zr3 := zr2.later cr2 hb3; have b3 : Hid (Below w.heap.size w w3) := Lib.hid (below_then b2.out hb3); have s3' := hb3.size; rw [s2] at s3'; clear hb3)
  | (go_at_call 54; (with_reducible refine (isWithin_any _ _ _ _).mono ?_); rintro e w' ⟨rfl, rfl⟩)
  | (go_at_call 50; refine (firstError_any _ [0, unl (inB s (-64) 64) 2] _ (by simp) (by first | exact cells_drew _ _ (by first | rfl | assumption | simp) _ _ | exact cells_new _ _ (by first | rfl | assumption | simp) _ _)).mono ?_; rw [EF.out]; rintro e w' ⟨rfl, rfl⟩))
  try simp only [Act.put, List.setIfInBounds_toArray, List.set_cons_zero, List.set_cons_succ]
  obtain ⟨w4, hw4⟩ : ∃ q, q = w3.alloc (.cells #[.int .i64 0, .int .i64 (unl (inB s (-64) 64) 2)] 28) := ⟨_, rfl⟩
  rw [← hw4]
  have hb4 : Below w3.heap.size w3 w4 := by rw [hw4]; exact (below_new _ _)
  have ct4 := ct3.later hb4
  have zt4 := zt3.later ct3 hb4
  have cr4 := cr3.later hb4
  have zr4 := zr3.later cr3 hb4
  have b4 : Hid (Below w.heap.size w w4) := Lib.hid (below_then b3.out hb4)
  have s4' := hb4.size
  clear hw4 hb4
  obtain hq : True := trivial
  have lr4 : w.heap.size + 1 < w4.heap.size := World.block_lt_of_cell? _ _ (cr4 0 (by decide))
  go_wp2_with (first
    | ((with_reducible refine wpList_alloc_named rfl 26 rfl 7 rfl 64 (fv fun _ => 0) zeroT ?_); intro w5 N5; have s5 := N5.size; have ct5 := ct4.later N5.below; have zt5 := zt4.later ct4 N5.below; have cr5 := cr4.later N5.below; have zr5 := zr4.later cr4 N5.below; have co5 := N5.at'; have zo5 := N5.free; have b5 : Hid (Below w.heap.size w w5) := Lib.hid (below_then b4.out N5.below); clear N5; have s5' := Nat.le_of_eq s5.symm))
  rw [← trS_zero (shT l s)] at co5
  have tno : w.heap.size ≠ w4.heap.size := by omega
  have ro : w.heap.size + 1 ≠ w4.heap.size := by omega
  have wo : w.heap.size ≤ w4.heap.size := by omega
  go_loopw [20] (fun s20 wr => ∃ k : Nat, k ≤ 64 ∧ s20 = .int .i64 (k : Int) ∧ VAt (w.heap.size) 64 (fv l) wr ∧ VAt (w.heap.size + 1) 64 (fv fun _ => 0) wr ∧ Fz (w.heap.size + 1) 64 wr ∧ VAt (w4.heap.size) 64 (fv (trS (shT l s) k)) wr ∧ Fz (w4.heap.size) 64 wr ∧ Hid (Below w.heap.size w wr)) (fun s20 _ => 64 - (intOf s20).toNat)
  case atStart => exact ⟨0, by omega, rfl, ct5, cr5, zr5, co5, zo5, b5⟩
  case round =>
    obtain ⟨k, hk, rfl, tk, ck, rk, ok, zk, bk⟩ := hrel
    have j0 : (0 : Int) ≤ (k : Int) := Int.natCast_nonneg _
    by_cases hlt : k < 64
    · have j1 : (k : Int) < 64 := by omega
      have ew : IntKind.i64.wrap ((k : Int) - s) = (k : Int) - s := IntWalk.i64_in _ (by omega)
      by_cases hi : 0 ≤ (k : Int) - s ∧ (k : Int) - s ≤ 63
      · obtain ⟨i, he⟩ : ∃ i : Nat, (k : Int) - s = (i : Int) := ⟨((k : Int) - s).toNat, by omega⟩
        have E : shT l s k = l i := by unfold shT; rw [if_pos hi, he]; rfl
        have d0 : 0 ≤ (k : Int) - s := hi.1
        have d1 : (k : Int) - s < 64 := by omega
        have d2 : ((k : Int) - s).toNat = i := by omega
        have i6 : i < 64 := by omega
        have q0 : wr.cell? ⟨w.heap.size, i, none⟩ = some (.float .f32 (fs (l i))) := tk i i6
        have y0 := ok k hlt
        have y1 := zk k hlt
        have ST := Lib.hid (trS_step (shT l s) k (.float .f32 (fs (l i))) (by rw [E]))
        clear E
        have HE' := Lib.hid he; clear he
        go_wp2
        go_roundw
        case rel => exact ⟨k + 1, by omega, by go_num, tk.other _ _ tno _, ck.other _ _ ro _, rk.set _ _, (ok.set k hlt _).congr ST.out, zk.set _ _, Lib.hid (bk.out.setCell (by first | exact wo | (dsimp only; omega)) _)⟩
        case measure => simp [intOf]; omega
      · have E : shT l s k = 0 := by unfold shT; rw [if_neg hi]
        have ST := Lib.hid (trS_skip (shT l s) k E)
        clear E
        by_cases h0 : 0 ≤ (k : Int) - s
        · have h1 : ¬ ((k : Int) - s < 64) := by omega
          go_wp2
          go_roundw
          case rel => exact ⟨k + 1, by omega, by go_num, tk, ck, rk, ok.congr ST.out, zk, bk⟩
          case measure => simp [intOf]; omega
        · go_wp2
          go_roundw
          case rel => exact ⟨k + 1, by omega, by go_num, tk, ck, rk, ok.congr ST.out, zk, bk⟩
          case measure => simp [intOf]; omega
    · obtain rfl : k = 64 := by omega
      have cr50 := ck
      have zr50 := rk
      have co50 := ok
      have zo50 := zk
      have b50 := bk
      have lt50 : w4.heap.size < wr.heap.size := World.block_lt_of_cell? _ _ (co50 0 (by decide))
      clear tk ck rk ok zk bk
      go_wp2_with (first
        | (with_reducible refine wpList_load_at rfl 26 _ rfl _ 64 (fv (trS (shT l s) 64)) rfl co50 _ Try.underlying26 rfl infoV ?_)
        | (go_at_call 53; (with_reducible refine (HP.out _).mono ?_); rintro e w51 ⟨rfl, hb51⟩; have cr51 := cr50.later hb51; have zr51 := zr50.later cr50 hb51; have co51 := co50.later hb51; have zo51 := zo50.later co50 hb51; have b51 : Hid (Below w.heap.size w w51) := Lib.hid (below_then b50.out hb51); have s51' := hb51.size; clear hb51)
        | ((with_reducible refine wpList_store_at rfl 26 _ _ rfl _ 64 _ (fv (trS (shT l s) 64)) rfl rfl cr51 zr51 (fv_one _) infoV ?_); intro w52 S52 B52 cr52 zr52 O52 P52; have co52 := O52 _ _ _ (by omega) co51; have zo52 := P52 _ _ zo51; have b52 : Hid (Below w.heap.size w w52) := Lib.hid (B52 _ _ (by omega) b51.out); have s52' := Nat.le_of_eq S52.symm; clear S52 B52 O52 P52))
      refine bodyPost_ret (v := .tuple #[.agg (vls 64 (fv (trS (shT l s) 64))).toArray, .int .i64 0]) ?_ rfl ⟨rfl, b52.out⟩
      have hld := load_var_at 26 _ 64 (fv (trS (shT l s) 64)) cr52 _ Try.underlying26 rfl infoV
      simp [results, Try.results15, asAddr, Act.put, Result.andThen, hld]
set_option maxRecDepth 100000 in
set_option maxHeartbeats 4000000 in
theorem tShifted_bad (l : Nat → Int) (s : Int) (w : World) (hl : Few l) (hX : fst [ctE l, unl (inB s (-64) 64) 2] ≠ 0) :
    Calls Try.prog 15 #[.agg (vls 64 (fv l)).toArray, .int .i64 s] w fun e w' => e = .returned (.tuple #[.agg (vls 64 (fv fun _ => 0)).toArray, .int .i64 (fst [ctE l, unl (inB s (-64) 64) 2])]) ∧ Below w.heap.size w w' := by
  have HE := Lib.hid (fun w => traceErr_v l hl w)
  generalize ctE l = E0 at *
  generalize hx : fst [E0, unl (inB s (-64) 64) 2] = X at *
  have EF := Lib.hid hx; clear hx
  have nz : (X != 0) = true := by simpa using hX
  clear hX
  go_enter Try.func15, Try.ntmps15
  go_upto_region 2 with (first
  | ((with_reducible refine wpList_box_named rfl 26 _ rfl 2 rfl 64 (fv l) rfl ?_); intro w1 N1; have s1 := N1.size; have ct1 := N1.at'; have zt1 := N1.free; have b1 : Hid (Below w.heap.size w w1) := Lib.hid N1.below; clear N1)
  | ((with_reducible refine wpList_alloc_named rfl 26 rfl 4 rfl 64 (fv fun _ => 0) zeroT ?_); intro w2 N2; have s2 := N2.size; have ct2 := ct1.later N2.below; have zt2 := zt1.later ct1 N2.below; have cr2 := N2.at'; have zr2 := N2.free; have b2 : Hid (Below w.heap.size w w2) := Lib.hid (below_then b1.out N2.below); clear N2; rw [s1] at s2 cr2 zr2)
  | (with_reducible refine wpList_load_at rfl 26 _ rfl _ 64 (fv l) rfl ct2 _ Try.underlying26 rfl infoV ?_)
  | (go_at_call 51; (with_reducible refine (HE.out _).mono ?_); rintro e w3 ⟨rfl, hb3⟩; have ct3 := ct2.later hb3; have zt3 := zt2.later ct2 hb3; have cr3 := cr2.later hb3; have zr3 := zr2.later cr2 hb3; have b3 : Hid (Below w.heap.size w w3) := Lib.hid (below_then b2.out hb3); have s3' := hb3.size; rw [s2] at s3'; clear hb3)
  | (go_at_call 54; (with_reducible refine (isWithin_any _ _ _ _).mono ?_); rintro e w' ⟨rfl, rfl⟩)
  | (go_at_call 50; refine (firstError_any _ [E0, unl (inB s (-64) 64) 2] _ (by simp) (by first | exact cells_drew _ _ (by first | rfl | assumption | simp) _ _ | exact cells_new _ _ (by first | rfl | assumption | simp) _ _)).mono ?_; rw [EF.out]; rintro e w' ⟨rfl, rfl⟩))
  try simp only [Act.put, List.setIfInBounds_toArray, List.set_cons_zero, List.set_cons_succ]
  obtain ⟨w4, hw4⟩ : ∃ q, q = w3.alloc (.cells #[.int .i64 E0, .int .i64 (unl (inB s (-64) 64) 2)] 28) := ⟨_, rfl⟩
  rw [← hw4]
  have hb4 : Below w3.heap.size w3 w4 := by rw [hw4]; exact (below_new _ _)
  have ct4 := ct3.later hb4
  have zt4 := zt3.later ct3 hb4
  have cr4 := cr3.later hb4
  have zr4 := zr3.later cr3 hb4
  have b4 : Hid (Below w.heap.size w w4) := Lib.hid (below_then b3.out hb4)
  have s4' := hb4.size
  clear hw4 hb4
  have lr4 : w.heap.size + 1 < w4.heap.size := World.block_lt_of_cell? _ _ (cr4 0 (by decide))
  go_wp2_with (first
    | (with_reducible refine wpList_build_zero rfl 26 rfl 64 (fv fun _ => 0) zeroT 24 Try.underlying26 info1 ?_)
    | ((with_reducible refine wpList_store_at rfl 26 _ _ rfl _ 64 _ (fv fun _ => 0) rfl rfl cr4 zr4 (fv_one _) infoV ?_); intro w5 S5 B5 cr5 zr5 O5 P5; have ct5 := O5 _ _ _ (by omega) ct4; have zt5 := P5 _ _ zt4; have b5 : Hid (Below w.heap.size w w5) := Lib.hid (B5 _ _ (by omega) b4.out); have s5' := Nat.le_of_eq S5.symm; clear S5 B5 O5 P5))
  refine bodyPost_ret (v := .tuple #[.agg (vls 64 (fv fun _ => 0)).toArray, .int .i64 X]) ?_ rfl ⟨rfl, b5.out⟩
  have hld := load_var_at 26 _ 64 (fv fun _ => 0) cr5 _ Try.underlying26 rfl infoV
  simp [results, Try.results15, asAddr, Act.put, Result.andThen, hld]
end Go.Proofs.Ytoieemgdkpnbfaa
