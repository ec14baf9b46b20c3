/- arrays that are equal -/
import Derived.Test.YtoieemgdkpnbfaaFl6
import Derived.DeepKeys
namespace Go.Proofs.Ytoieemgdkpnbfaa
open Go.RowKit RayM
set_option linter.unusedSimpArgs false
set_option linter.unusedVariables false
theorem eqItems_same (w : World) (d : Nat) (e : TypeId) (c : Nat) (xs ys : Array Value) : ∀ is : List Nat, (∀ i ∈ is, ∃ v u, (part e xs (i * c)).run Try.prog w = .ok v w ∧ (part e ys (i * c)).run Try.prog w = .ok u w ∧ (Op.equalIn d e v u).run Try.prog w = .ok true w) → (Op.eqItems d e c xs ys is).run Try.prog w = .ok true w
  | [], _ => by simp [Op.eqItems]
  | i :: is, h => by
    obtain ⟨v, u, h1, h2, h3⟩ := h i (by simp)
    have ih := eqItems_same w d e c xs ys is (fun j hj => h j (by simp [hj]))
    simp [Op.eqItems, h1, h2, h3, ih]
theorem vls_at (n : Nat) (f : Nat → Value) (i : Nat) (h : i < n) : (vls n f).toArray[i]? = some (f i) := by simpa using vls_get n f i h
theorem eqInts (f : Nat → Int) (w : World) : (binOp .eql 52 (.agg (vls 61 (fun i => .int .i64 (f i))).toArray) (.agg (vls 61 (fun i => .int .i64 (f i))).toArray)).run Try.prog w = .ok (.bool true) w := by
  have hu : Try.prog.underlying 52 = some (.array 61 3) := Try.underlying52
  obtain ⟨i, hi⟩ := Option.isSome_iff_exists.1 (show (Try.prog.info? 3).isSome = true by kernel_rfl)
  have hc : Try.prog.cellsOf 3 = 1 := by kernel_rfl
  have key : (Op.equal 52 (.agg (vls 61 (fun i => .int .i64 (f i))).toArray) (.agg (vls 61 (fun i => .int .i64 (f i))).toArray)).run Try.prog w = .ok true w := by
    unfold Op.equal
    refine Eq.trans (run_equalIn_array w 9999 _ _ hu hi) ?_
    refine eqItems_same w _ _ _ _ _ _ (fun k hk => ?_)
    have hk' : k < 61 := by simpa using hk
    rw [hc, Nat.mul_one]
    have hp := run_part_plain (P := Try.prog) w (e := 3) (by kernel_rfl) (vls_at 61 (fun i => .int .i64 (f i)) k hk')
    exact ⟨_, _, hp, hp, by rw [run_equalIn_int w 9998 _ _ .i64 _ _ Try.underlying3]; simp⟩
  simp [binOp, key]
theorem eqZeros (w : World) : (binOp .eql 49 (.agg (vls 61 zcv).toArray) (.agg (vls 61 zcv).toArray)).run Try.prog w = .ok (.bool true) w := by
  have hu : Try.prog.underlying 49 = some (.array 61 48) := Try.underlying49
  obtain ⟨i, hi⟩ := Option.isSome_iff_exists.1 (show (Try.prog.info? 48).isSome = true by kernel_rfl)
  have hc : Try.prog.cellsOf 48 = 1 := by kernel_rfl
  have key : (Op.equal 49 (.agg (vls 61 zcv).toArray) (.agg (vls 61 zcv).toArray)).run Try.prog w = .ok true w := by
    unfold Op.equal
    refine Eq.trans (run_equalIn_array w 9999 _ _ hu hi) ?_
    refine eqItems_same w _ _ _ _ _ _ (fun k hk => ?_)
    have hk' : k < 61 := by simpa using hk
    rw [hc, Nat.mul_one]
    have hv := vls_at 61 zcv k hk'
    have hp : (part 48 (vls 61 zcv).toArray k).run Try.prog w = .ok (zcv k) w := by
      simp only [part, isAgg]
      simp [run_underlying Try.underlying48, hv]
    refine ⟨_, _, hp, hp, ?_⟩
    have fe : Op.floatEq .f32 0 0 = true := by decide +kernel
    have one : ∀ d, (Op.equalIn (d + 1) 48 (.complex .f32 0 0) (.complex .f32 0 0)).run Try.prog w = .ok true w := fun d => by
      simp [Op.equalIn, run_underlying Try.underlying48, fe]
    exact one 9998
  simp [binOp, key]
end Go.Proofs.Ytoieemgdkpnbfaa
