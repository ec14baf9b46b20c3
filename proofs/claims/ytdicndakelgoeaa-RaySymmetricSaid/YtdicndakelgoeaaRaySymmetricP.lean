/- For every crossing and every move, the least times of the crossing with both sides exchanged, and of the mirrored one, meet that of the crossing, and with all places moved alike by at most 10000 it is the same, or out of range. No condition. -/
import Derived.Test.YtdicndakelgoeaaL0
import Derived.Test.YtdicndakelgoeaaZ0
import Derived.Test.YtdicndakelgoeaaD3
namespace Go.Proofs.Ytdicndakelgoeaa
open Go.ChangeShapes Go.WideShapes Go.ChangeAt Go.RowKit RayM
set_option linter.unusedVariables false
set_option linter.unusedSimpArgs false
namespace RaySymmetricP
set_option maxRecDepth 100000 in
set_option maxHeartbeats 1000000 in
theorem lifted (os : Os) (started : os.Started) (H : Type) (enc : TypeId × Value → H) :
    ReturnsInHanded {} Try.checked os 7 .any (Rows.raySymmetricSpec.pre6 enc Try.prog Try.f7 Rows.raySymmetricRow.domain false) (Rows.raySymmetricSpec.post enc Try.prog Try.f7 false true false false) := by
  refine returnsInHanded_of_change (C := Try.checked) own started (by kernel_rfl) Try.func7
    (ChangeSpec.witness6 (enc := enc) (C := Try.checked) false ⟨#[], #[.agg #[.int .i64 0, .int .i64 0, .int .i64 0, .int .i64 0, .int .i64 0, .int .i64 0], .int .i64 0], []⟩ 8 (by kernel_rfl) (by kernel_rfl) (by kernel_rfl) (by kernel_rfl)) ?_
  intro W base args ds gs before hval0 hW hcnd _
  have hval : ∀ (j : Nat) t v, Try.f7.params[j]? = some t → args[j]? = some v → Value.okWide Try.prog W .any base t v := hval0
  have hW' := hW
  obtain ⟨p, q, hA0, hV, rfl, hfz, hnd⟩ := hW
  have hA : DataW.TrodAll enc Try.prog W 0 (fun _ => true) true Try.f7.params.toList args.toList ds p := hA0
  rw [Try.params7] at hA hval
  obtain ⟨v0, vs0, d0, ds0, p0, q0, hargs, rfl, rfl, h0, r0⟩ := trodAll_cons hA
  obtain ⟨v1, vs1, d1, ds1, p1, q1, rfl, rfl, rfl, h1, r1⟩ := trodAll_cons r0
  obtain ⟨rfl, rfl, rfl⟩ := trodAll_nil r1
  obtain rfl : args = #[v0, v1] := by cases args; simp_all
  obtain ⟨rfl, rfl⟩ := trodVars_none hV
  have k0 := h0
  have lt0 : ∀ x ∈ p0, x.block < W.heap.size := by obtain ⟨m, hm⟩ := k0; exact DataW.trod_lt m _ _ _ hm
  have k1 := h1
  have lt1 : ∀ x ∈ p1, x.block < W.heap.size := by obtain ⟨m, hm⟩ := k1; exact DataW.trod_lt m _ _ _ hm
  have hv0 := hval 0 37 v0 rfl rfl
  obtain ⟨c0_0, c0_1, c0_2, c0_3, c0_4, c0_5, ec0⟩ : ∃ c0_0 c0_1 c0_2 c0_3 c0_4 c0_5 : Int, v0 = .agg #[.int .i64 c0_0, .int .i64 c0_1, .int .i64 c0_2, .int .i64 c0_3, .int .i64 c0_4, .int .i64 c0_5] := by
    obtain ⟨cs, e1, e2⟩ := okWide_struct Try.underlying37 hv0
    subst e1
    obtain ⟨b0, b1, b2, b3, b4, b5, e3⟩ := arr6 (e2.trans (by kernel_rfl : Try.prog.cellsOf 37 = 6))
    subst e3
    obtain ⟨fuel, hf⟩ := h0
    replace hf : DataW.trod enc Try.prog W 0 (fun _ => true) true fuel 37 [b0, b1, b2, b3, b4, b5] = some (d0, p0) := hf
    obtain ⟨n0, y0, t0⟩ := leaf Try.underlying37 hf 0 _ rfl
    obtain ⟨z0, g0, _, _⟩ := DataW.trod_int Try.underlying3 t0
    simp [cellsInt] at g0
    obtain ⟨n1, y1, t1⟩ := leaf Try.underlying37 hf 1 _ rfl
    obtain ⟨z1, g1, _, _⟩ := DataW.trod_int Try.underlying3 t1
    simp [cellsInt] at g1
    obtain ⟨n2, y2, t2⟩ := leaf Try.underlying37 hf 2 _ rfl
    obtain ⟨z2, g2, _, _⟩ := DataW.trod_int Try.underlying3 t2
    simp [cellsInt] at g2
    obtain ⟨n3, y3, t3⟩ := leaf Try.underlying37 hf 3 _ rfl
    obtain ⟨z3, g3, _, _⟩ := DataW.trod_int Try.underlying3 t3
    simp [cellsInt] at g3
    obtain ⟨n4, y4, t4⟩ := leaf Try.underlying37 hf 4 _ rfl
    obtain ⟨z4, g4, _, _⟩ := DataW.trod_int Try.underlying3 t4
    simp [cellsInt] at g4
    obtain ⟨n5, y5, t5⟩ := leaf Try.underlying37 hf 5 _ rfl
    obtain ⟨z5, g5, _, _⟩ := DataW.trod_int Try.underlying3 t5
    simp [cellsInt] at g5
    exact ⟨z0, z1, z2, z3, z4, z5, by rw [g0, g1, g2, g3, g4, g5]⟩
  subst ec0
  have hv1 := hval 1 3 v1 rfl rfl
  obtain ⟨a1, ea1, wf1⟩ : ∃ z : Int, v1 = .int .i64 z ∧ (Lit.int .i64 z).wf = true := by
    obtain ⟨z, e1, _, _, e2⟩ := open_int Try.underlying3 hv1 h1
    exact ⟨z, e1, e2⟩
  subst ea1
  clear hA0 hval0
  refine (symm_any ⟨c0_0, c0_1, c0_2, c0_3, c0_4, c0_5⟩ a1 W).mono fun e W' ⟨he, bel⟩ => ?_
  subst he
  exact ⟨_, rfl, _, _, _, [], _, [], hW', trodAll_mk1 (shut_bool Try.underlying4 _), (trodAll_cons_mk (Below.trod laidOut (by kernel_rfl) (of_decide_eq_true (by kernel_rfl)) k0 bel lt0) (trodAll_cons_mk (Below.trod laidOut (by kernel_rfl) (of_decide_eq_true (by kernel_rfl)) k1 bel lt1) trodAll_mk0)), rfl, bel.frame _, fun h => by cases h⟩

theorem facts : joinedFacts Try.pinned.checked.prog 7 Try.f7 Rows.raySymmetricSpec Rows.raySymmetricRow = true := by
  unfold joinedFacts
  repeat' (with_reducible refine and_mk ?_ ?_)
  all_goals (first | (with_reducible exact z_enter) | (with_reducible exact z_laid) | (with_reducible exact z_maps) | (with_reducible exact z_heard) | (with_reducible refine z_liftB ?_; kernel_rfl) | (with_reducible refine z_makeB ?_; kernel_rfl) | (with_reducible refine z_plainB ?_; kernel_rfl) | kernel_rfl)
theorem over : Rows.raySymmetricRow.holds Try.pinned (OpenSpec.ofChange Rows.raySymmetricSpec) :=
  OpenClaim.holds_of_wide 7 Try.f7 rfl rfl rfl rfl rfl rfl rfl ⟨rfl, rfl, rfl, rfl, rfl⟩ rfl rfl rfl rfl rfl (by kernel_rfl) Try.func7 facts
    (of_decide_eq_true (by kernel_rfl)) (by unfold Func.isWrapper; first | (rw [if_pos (by decide +kernel)]; kernel_rfl) | (rw [if_neg (by decide +kernel)]; exact ⟨rfl, rfl⟩))
    (fun os started H enc _ => lifted os started H enc)

theorem proved : Rows.RaySymmetricSaid := over
#print axioms proved
end RaySymmetricP
end Go.Proofs.Ytdicndakelgoeaa
