/- the traces of the examples -/
import Derived.Test.YtoieemgdkpnbfaaFl9
namespace Go.Proofs.Ytoieemgdkpnbfaa
open Go.RowKit RayM
set_option linter.unusedSimpArgs false
set_option linter.unusedVariables false
/-- a trace that is 0 but for a sample -/
def spk (at' : Nat) (v : Int) (i : Nat) : Int := if i = at' then v else 0
theorem spk_upd (at' : Nat) (v : Int) (x : Value) (h : x = .float .f32 (fs v)) : ∀ i, i < 64 → upd (fv fun _ => 0) at' x i = fv (spk at' v) i := fun i _ => by
  unfold upd fv spk
  by_cases e : i = at'
  · rw [if_pos e, if_pos e, h]
  · rw [if_neg e, if_neg e]
set_option maxRecDepth 100000 in
set_option maxHeartbeats 1000000 in
theorem mod_nn (n d : Int) (w : World) (h0 : 0 ≤ n) (h1 : n ≤ 1000000000000000000) (d0 : 1 ≤ d) (d1 : d ≤ 1000000000000000000) :
    Calls Try.prog 77 #[.int .i64 n, .int .i64 d] w fun e w' => e = .returned (.int .i64 (n % d)) ∧ w = w' := by
  have r0 := Int.emod_nonneg n (show d ≠ 0 by omega)
  have r2 : ¬ n % d < 0 := by omega
  go_enter Try.func77, Try.ntmps77
  go_wp2
  go_ret
  exact ⟨rfl, rfl⟩
set_option maxRecDepth 100000 in
set_option maxHeartbeats 1000000 in
theorem spike10_any (w : World) :
    Calls Try.prog 48 #[.int .i64 10, .int .i64 100] w fun e w' => e = .returned (.agg (vls 64 (fv (spk 10 100))).toArray) ∧ Below w.heap.size w w' := by
  have SF := @run_store_float Try.prog
  go_enter Try.func48, Try.ntmps48
  go_wp2_with (first
    | ((with_reducible refine wpList_alloc_named rfl 26 rfl 4 rfl 64 (fv fun _ => 0) zeroT ?_); intro w1 N1; have s1 := N1.size; have cr1 := N1.at'; have zr1 := N1.free; have b1 : Hid (Below w.heap.size w w1) := Lib.hid N1.below; clear N1)
    | ((with_reducible refine wpList_alloc_named rfl 26 rfl 5 rfl 64 (fv fun _ => 0) zeroT ?_); intro w2 N2; have s2 := N2.size; have cr2 := cr1.later N2.below; have zr2 := zr1.later cr1 N2.below; have ct2 := N2.at'; have zt2 := N2.free; have b2 : Hid (Below w.heap.size w w2) := Lib.hid (below_then b1.out N2.below); clear N2; rw [s1] at s2 ct2 zt2; have q0 := ct2 10 (by decide); have q1 := zt2 10 (by decide))
    | (go_at_call 77; (with_reducible refine (mod_nn 10 64 _ (by decide) (by decide) (by decide) (by decide)).mono ?_); rintro e w' ⟨rfl, rfl⟩)
    | (refine wpList_load_at rfl 26 _ rfl _ 64 (fv (spk 10 100)) rfl ((ct2.set 10 (by decide) (.float .f32 (fs 100))).congr (spk_upd 10 100 _ rfl)) _ Try.underlying26 rfl infoV ?_)
    | (refine wpList_store_at rfl 26 _ _ rfl _ 64 _ (fv (spk 10 100)) rfl rfl (cr2.other _ 10 (by omega) (.float .f32 (fs 100))) (zr2.set _ _) (fv_one _) infoV ?_; intro w9 S9 B9 C9 Z9 O9 P9))
  refine bodyPost_ret (v := .agg (vls 64 (fv (spk 10 100))).toArray) ?_ rfl ⟨rfl, B9 _ _ (by omega) (b2.out.setCell (by dsimp only; omega) _)⟩
  have hld := load_var_at 26 _ 64 (fv (spk 10 100)) C9 _ Try.underlying26 rfl infoV
  simp [results, Try.results48, asAddr, Act.put, Result.andThen, hld]
set_option maxRecDepth 100000 in
set_option maxHeartbeats 1000000 in
theorem spike13_any (w : World) :
    Calls Try.prog 48 #[.int .i64 13, .int .i64 50] w fun e w' => e = .returned (.agg (vls 64 (fv (spk 13 50))).toArray) ∧ Below w.heap.size w w' := by
  have SF := @run_store_float Try.prog
  go_enter Try.func48, Try.ntmps48
  go_wp2_with (first
    | ((with_reducible refine wpList_alloc_named rfl 26 rfl 4 rfl 64 (fv fun _ => 0) zeroT ?_); intro w1 N1; have s1 := N1.size; have cr1 := N1.at'; have zr1 := N1.free; have b1 : Hid (Below w.heap.size w w1) := Lib.hid N1.below; clear N1)
    | ((with_reducible refine wpList_alloc_named rfl 26 rfl 5 rfl 64 (fv fun _ => 0) zeroT ?_); intro w2 N2; have s2 := N2.size; have cr2 := cr1.later N2.below; have zr2 := zr1.later cr1 N2.below; have ct2 := N2.at'; have zt2 := N2.free; have b2 : Hid (Below w.heap.size w w2) := Lib.hid (below_then b1.out N2.below); clear N2; rw [s1] at s2 ct2 zt2; have q0 := ct2 13 (by decide); have q1 := zt2 13 (by decide))
    | (go_at_call 77; (with_reducible refine (mod_nn 13 64 _ (by decide) (by decide) (by decide) (by decide)).mono ?_); rintro e w' ⟨rfl, rfl⟩)
    | (refine wpList_load_at rfl 26 _ rfl _ 64 (fv (spk 13 50)) rfl ((ct2.set 13 (by decide) (.float .f32 (fs 50))).congr (spk_upd 13 50 _ rfl)) _ Try.underlying26 rfl infoV ?_)
    | (refine wpList_store_at rfl 26 _ _ rfl _ 64 _ (fv (spk 13 50)) rfl rfl (cr2.other _ 13 (by omega) (.float .f32 (fs 50))) (zr2.set _ _) (fv_one _) infoV ?_; intro w9 S9 B9 C9 Z9 O9 P9))
  refine bodyPost_ret (v := .agg (vls 64 (fv (spk 13 50))).toArray) ?_ rfl ⟨rfl, B9 _ _ (by omega) (b2.out.setCell (by dsimp only; omega) _)⟩
  have hld := load_var_at 26 _ 64 (fv (spk 13 50)) C9 _ Try.underlying26 rfl infoV
  simp [results, Try.results48, asAddr, Act.put, Result.andThen, hld]
end Go.Proofs.Ytoieemgdkpnbfaa
