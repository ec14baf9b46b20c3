/- For every way, with one speed everywhere the least time meets the time of the straight way to the unfolded place, each wall lies between both ends, and with one skip more the least time is not less. No condition. -/
import Derived.Test.YtdicndakelgoeaaL0
import Derived.Test.YtdicndakelgoeaaZ0
import Derived.Test.YtdicndakelgoeaaK1
namespace Go.Proofs.Ytdicndakelgoeaa
open Go.ChangeShapes Go.WideShapes Go.ChangeAt Go.RowKit RayM
set_option linter.unusedVariables false
set_option linter.unusedSimpArgs false
namespace RaySkipsP
theorem cellsRayMode : Try.prog.cellsOf 54 = 4 := by kernel_rfl
theorem cellsSpot : Try.prog.cellsOf 23 = 2 := by kernel_rfl
set_option maxRecDepth 100000 in
set_option maxHeartbeats 1000000 in
theorem lifted (os : Os) (started : os.Started) (H : Type) (enc : TypeId × Value → H) :
    ReturnsInHanded {} Try.checked os 10 .any (Rows.raySkipsSpec.pre6 enc Try.prog Try.f10 Rows.raySkipsRow.domain false) (Rows.raySkipsSpec.post enc Try.prog Try.f10 false true false false) := by
  refine returnsInHanded_of_change (C := Try.checked) own started (by kernel_rfl) Try.func10
    (ChangeSpec.witness6 (enc := enc) (C := Try.checked) false ⟨#[], #[.agg #[.int .i64 0, .int .i64 0, .int .i64 0, .int .i64 0, .int .i64 0, .int .i64 0, .int .i64 0, .int .i64 0]], []⟩ 8 (by kernel_rfl) (by kernel_rfl) (by kernel_rfl) (by kernel_rfl)) ?_
  intro W base args ds gs before hval0 hW hcnd _
  have hval : ∀ (j : Nat) t v, Try.f10.params[j]? = some t → args[j]? = some v → Value.okWide Try.prog W .any base t v := hval0
  have hW' := hW
  obtain ⟨p, q, hA0, hV, rfl, hfz, hnd⟩ := hW
  have hA : DataW.TrodAll enc Try.prog W 0 (fun _ => true) true Try.f10.params.toList args.toList ds p := hA0
  rw [Try.params10] at hA hval
  obtain ⟨v0, vs0, d0, ds0, p0, q0, hargs, rfl, rfl, h0, r0⟩ := trodAll_cons hA
  obtain ⟨rfl, rfl, rfl⟩ := trodAll_nil r0
  obtain rfl : args = #[v0] := by cases args; simp_all
  obtain ⟨rfl, rfl⟩ := trodVars_none hV
  have k0 := h0
  have lt0 : ∀ x ∈ p0, x.block < W.heap.size := by obtain ⟨m, hm⟩ := k0; exact DataW.trod_lt m _ _ _ hm
  have hv0 := hval 0 61 v0 rfl rfl
  obtain ⟨c0_0, c0_1, c0_2, c0_3, c0_4, c0_5, c0_6, c0_7, ec0⟩ : ∃ c0_0 c0_1 c0_2 c0_3 c0_4 c0_5 c0_6 c0_7 : Int, v0 = .agg #[.int .i64 c0_0, .int .i64 c0_1, .int .i64 c0_2, .int .i64 c0_3, .int .i64 c0_4, .int .i64 c0_5, .int .i64 c0_6, .int .i64 c0_7] := by
    obtain ⟨cs, e1, e2⟩ := okWide_struct Try.underlying61 hv0
    subst e1
    obtain ⟨b0, b1, b2, b3, b4, b5, b6, b7, e3⟩ := arr8 (e2.trans (by kernel_rfl : Try.prog.cellsOf 61 = 8))
    subst e3
    obtain ⟨fuel, hf⟩ := h0
    replace hf : DataW.trod enc Try.prog W 0 (fun _ => true) true fuel 61 [b0, b1, b2, b3, b4, b5, b6, b7] = some (d0, p0) := hf
    obtain ⟨m0, x0, s0⟩ := leaf Try.underlying61 hf 0 _ rfl
    obtain ⟨n0, y0, t0⟩ := leaf Try.underlying54 s0 0 _ rfl
    obtain ⟨z0, g0, _, u0⟩ := DataW.trod_int Try.underlying3 t0
    simp [cellsInt, cellsRayMode] at g0
    obtain ⟨m1, x1, s1⟩ := leaf Try.underlying61 hf 0 _ rfl
    obtain ⟨n1, y1, t1⟩ := leaf Try.underlying54 s1 1 _ rfl
    obtain ⟨z1, g1, _, u1⟩ := DataW.trod_int Try.underlying3 t1
    simp [cellsInt, cellsRayMode] at g1
    obtain ⟨m2, x2, s2⟩ := leaf Try.underlying61 hf 0 _ rfl
    obtain ⟨n2, y2, t2⟩ := leaf Try.underlying54 s2 2 _ rfl
    obtain ⟨z2, g2, _, u2⟩ := DataW.trod_int Try.underlying3 t2
    simp [cellsInt, cellsRayMode] at g2
    obtain ⟨m3, x3, s3⟩ := leaf Try.underlying61 hf 0 _ rfl
    obtain ⟨n3, y3, t3⟩ := leaf Try.underlying54 s3 3 _ rfl
    obtain ⟨z3, g3, _, u3⟩ := DataW.trod_int Try.underlying3 t3
    simp [cellsInt, cellsRayMode] at g3
    obtain ⟨m4, x4, s4⟩ := leaf Try.underlying61 hf 1 _ rfl
    obtain ⟨n4, y4, t4⟩ := leaf Try.underlying23 s4 0 _ rfl
    obtain ⟨z4, g4, _, u4⟩ := DataW.trod_int Try.underlying3 t4
    simp [cellsInt, cellsSpot] at g4
    obtain ⟨m5, x5, s5⟩ := leaf Try.underlying61 hf 1 _ rfl
    obtain ⟨n5, y5, t5⟩ := leaf Try.underlying23 s5 1 _ rfl
    obtain ⟨z5, g5, _, u5⟩ := DataW.trod_int Try.underlying3 t5
    simp [cellsInt, cellsSpot] at g5
    obtain ⟨m6, x6, s6⟩ := leaf Try.underlying61 hf 2 _ rfl
    obtain ⟨n6, y6, t6⟩ := leaf Try.underlying23 s6 0 _ rfl
    obtain ⟨z6, g6, _, u6⟩ := DataW.trod_int Try.underlying3 t6
    simp [cellsInt, cellsSpot] at g6
    obtain ⟨m7, x7, s7⟩ := leaf Try.underlying61 hf 2 _ rfl
    obtain ⟨n7, y7, t7⟩ := leaf Try.underlying23 s7 1 _ rfl
    obtain ⟨z7, g7, _, u7⟩ := DataW.trod_int Try.underlying3 t7
    simp [cellsInt, cellsSpot] at g7
    exact ⟨z0, z1, z2, z3, z4, z5, z6, z7, by rw [g0, g1, g2, g3, g4, g5, g6, g7]⟩
  subst ec0
  clear hA0 hval0
  refine (skips_any ⟨⟨c0_0, c0_1, c0_2, c0_3⟩, c0_4, c0_5, c0_6, c0_7⟩ W).mono fun e W' ⟨he, bel⟩ => ?_
  subst he
  exact ⟨_, rfl, _, _, _, [], _, [], hW', trodAll_mk1 (shut_bool Try.underlying4 _), (trodAll_cons_mk (Below.trod laidOut (by kernel_rfl) (of_decide_eq_true (by kernel_rfl)) k0 bel lt0) trodAll_mk0), rfl, bel.frame _, fun h => by cases h⟩

theorem facts : joinedFacts Try.pinned.checked.prog 10 Try.f10 Rows.raySkipsSpec Rows.raySkipsRow = true := by
  unfold joinedFacts
  repeat' (with_reducible refine and_mk ?_ ?_)
  all_goals (first | (with_reducible exact z_enter) | (with_reducible exact z_laid) | (with_reducible exact z_maps) | (with_reducible exact z_heard) | (with_reducible refine z_liftB ?_; kernel_rfl) | (with_reducible refine z_makeB ?_; kernel_rfl) | (with_reducible refine z_plainB ?_; kernel_rfl) | kernel_rfl)
theorem over : Rows.raySkipsRow.holds Try.pinned (OpenSpec.ofChange Rows.raySkipsSpec) :=
  OpenClaim.holds_of_wide 10 Try.f10 rfl rfl rfl rfl rfl rfl rfl ⟨rfl, rfl, rfl, rfl, rfl⟩ rfl rfl rfl rfl rfl (by kernel_rfl) Try.func10 facts
    (of_decide_eq_true (by kernel_rfl)) (by unfold Func.isWrapper; first | (rw [if_pos (by decide +kernel)]; kernel_rfl) | (rw [if_neg (by decide +kernel)]; exact ⟨rfl, rfl⟩))
    (fun os started H enc _ => lifted os started H enc)

theorem proved : Rows.RaySkipsSaid := over
#print axioms proved
end RaySkipsP
end Go.Proofs.Ytdicndakelgoeaa
