/- samplings and times -/
import Derived.Test.YtoieemgdkpnbfaaFl10
import Derived.Test.YtoieemgdkpnbfaaFl11
namespace Go.Proofs.Ytoieemgdkpnbfaa
open Go.RowKit RayM
set_option linter.unusedSimpArgs false
set_option linter.unusedVariables false
set_option maxRecDepth 100000 in
set_option maxHeartbeats 1000000 in
theorem bwithin_any (n l m : Int) (w : World) :
    Calls Try.prog 17 #[.int .i64 n, .int .i64 l, .int .i64 m] w fun e w' => e = .returned (.bool (inB n l m)) ∧ w = w' := by
  by_cases h1 : l ≤ n
  · have hd : inB n l m = decide (n ≤ m) := by simp [inB, h1]
    rw [hd]; clear hd
    go_enter Try.func17, Try.ntmps17
    go_wp2
    go_ret
    exact ⟨rfl, rfl⟩
  · have hd : inB n l m = false := by simp [inB]; omega
    rw [hd]; clear hd
    go_enter Try.func17, Try.ntmps17
    go_wp2
    go_ret
    exact ⟨rfl, rfl⟩
theorem unl_true (e : Int) : unl true e = 0 := rfl
theorem unl_false (e : Int) : unl false e = e := rfl
set_option maxRecDepth 100000 in
set_option maxHeartbeats 1000000 in
theorem rTimeErr_any (t : Int) (w : World) :
    Calls Try.prog 43 #[.int .i64 t] w fun e w' => e = .returned (.int .i64 (tiE t)) ∧ w = w' := by
  unfold tiE
  by_cases hb : inB t (-1000000000000) 1000000000000 = true
  · have HB := Lib.hid (fun w => bwithin_any t (-1000000000000) 1000000000000 w)
    rw [hb] at HB ⊢
    clear hb
    go_enter Try.func43, Try.ntmps43
    go_wp2_with (go_at_call 17; (with_reducible refine (HB.out _).mono ?_); rintro e w' ⟨rfl, rfl⟩)
    go_ret
    exact ⟨rfl, rfl⟩
  · have hb' : inB t (-1000000000000) 1000000000000 = false := by simpa using hb
    have HB := Lib.hid (fun w => bwithin_any t (-1000000000000) 1000000000000 w)
    rw [hb'] at HB ⊢
    clear hb hb'
    go_enter Try.func43, Try.ntmps43
    go_wp2_with (go_at_call 17; (with_reducible refine (HB.out _).mono ?_); rintro e w' ⟨rfl, rfl⟩)
    go_ret
    exact ⟨rfl, rfl⟩
theorem saE_bool (f s : Int) : saE f s = unl (inB f 0 1000000000000 && inB s 1 100000000) 2 := by
  unfold saE unl fst
  cases inB f 0 1000000000000 <;> cases inB s 1 100000000 <;> simp [fst]
set_option maxRecDepth 100000 in
set_option maxHeartbeats 1000000 in
theorem rSampling_any (f s : Int) (w : World) :
    Calls Try.prog 40 #[.agg #[.int .i64 f, .int .i64 s]] w fun e w' => e = .returned (.int .i64 (saE f s)) ∧ Below w.heap.size w w' := by
  rw [saE_bool]
  have HF := Lib.hid (fun w => bwithin_any f 0 1000000000000 w)
  have HS := Lib.hid (fun w => bwithin_any s 1 100000000 w)
  generalize inB f 0 1000000000000 = p at *
  generalize inB s 1 100000000 = q at *
  cases p
  · rw [Bool.false_and]
    go_enter Try.func40, Try.ntmps40
    go_wp2_with (first
      | ((with_reducible refine wpList_box_lit rfl 77 _ rfl 1 rfl #[.int .i64 f, .int .i64 s] rfl ?_); intro w1 N1; have s1 := N1.size; have cg1 := N1.at'; have zg1 := N1.free; have b1 : Hid (Below w.heap.size w w1) := Lib.hid N1.below; clear N1; have yg0_1 : w1.cell? ⟨w.heap.size, 0, none⟩ = some (.int .i64 f) := cg1 0 (by simp); have xg0_1 : w1.frozen? ⟨w.heap.size, 0, none⟩ = false := zg1 0 (by simp); have yg1_1 : w1.cell? ⟨w.heap.size, 1, none⟩ = some (.int .i64 s) := cg1 1 (by simp); have xg1_1 : w1.frozen? ⟨w.heap.size, 1, none⟩ = false := zg1 1 (by simp))
      | (go_at_call 17; (with_reducible refine (HF.out _).mono ?_); rintro e w' ⟨rfl, rfl⟩)
      | (go_at_call 17; (with_reducible refine (HS.out _).mono ?_); rintro e w' ⟨rfl, rfl⟩))
    go_ret
    exact ⟨rfl, b1.out⟩
  · rw [Bool.true_and]
    cases q
    · go_enter Try.func40, Try.ntmps40
      go_wp2_with (first
        | ((with_reducible refine wpList_box_lit rfl 77 _ rfl 1 rfl #[.int .i64 f, .int .i64 s] rfl ?_); intro w1 N1; have s1 := N1.size; have cg1 := N1.at'; have zg1 := N1.free; have b1 : Hid (Below w.heap.size w w1) := Lib.hid N1.below; clear N1; have yg0_1 : w1.cell? ⟨w.heap.size, 0, none⟩ = some (.int .i64 f) := cg1 0 (by simp); have xg0_1 : w1.frozen? ⟨w.heap.size, 0, none⟩ = false := zg1 0 (by simp); have yg1_1 : w1.cell? ⟨w.heap.size, 1, none⟩ = some (.int .i64 s) := cg1 1 (by simp); have xg1_1 : w1.frozen? ⟨w.heap.size, 1, none⟩ = false := zg1 1 (by simp))
        | (go_at_call 17; (with_reducible refine (HF.out _).mono ?_); rintro e w' ⟨rfl, rfl⟩)
        | (go_at_call 17; (with_reducible refine (HS.out _).mono ?_); rintro e w' ⟨rfl, rfl⟩))
      go_ret
      exact ⟨rfl, b1.out⟩
    · go_enter Try.func40, Try.ntmps40
      go_wp2_with (first
        | ((with_reducible refine wpList_box_lit rfl 77 _ rfl 1 rfl #[.int .i64 f, .int .i64 s] rfl ?_); intro w1 N1; have s1 := N1.size; have cg1 := N1.at'; have zg1 := N1.free; have b1 : Hid (Below w.heap.size w w1) := Lib.hid N1.below; clear N1; have yg0_1 : w1.cell? ⟨w.heap.size, 0, none⟩ = some (.int .i64 f) := cg1 0 (by simp); have xg0_1 : w1.frozen? ⟨w.heap.size, 0, none⟩ = false := zg1 0 (by simp); have yg1_1 : w1.cell? ⟨w.heap.size, 1, none⟩ = some (.int .i64 s) := cg1 1 (by simp); have xg1_1 : w1.frozen? ⟨w.heap.size, 1, none⟩ = false := zg1 1 (by simp))
        | (go_at_call 17; (with_reducible refine (HF.out _).mono ?_); rintro e w' ⟨rfl, rfl⟩)
        | (go_at_call 17; (with_reducible refine (HS.out _).mono ?_); rintro e w' ⟨rfl, rfl⟩))
      go_ret
      exact ⟨rfl, b1.out⟩
end Go.Proofs.Ytoieemgdkpnbfaa
