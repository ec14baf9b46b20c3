/- For every array and place: where the law of the place is made, the mirrored array sends it to the mirrored place, and the spread ends no later than a step and twice the widths. No condition. -/
import Derived.Test.YtdicndakelgoeaaL0
import Derived.Test.YtdicndakelgoeaaZ0
import Derived.Test.YtdicndakelgoeaaL1
import Derived.Test.YtdicndakelgoeaaT2s
namespace Go.Proofs.Ytdicndakelgoeaa
open Go.ChangeShapes Go.WideShapes Go.ChangeAt Go.RowKit RayM
set_option linter.unusedVariables false
set_option linter.unusedSimpArgs false
namespace TopMirroredLawP
theorem cT0 : Try.prog.cellsOf 118 = 6 := by kernel_rfl
theorem cT1 : Try.prog.cellsOf 54 = 4 := by kernel_rfl
theorem cT2 : Try.prog.cellsOf 23 = 2 := by kernel_rfl
theorem cSl1 : Try.prog.cellsOf 89 = 1 := by kernel_rfl
theorem cSl2 : Try.prog.cellsOf 116 = 1 := by kernel_rfl
theorem arrS2 {a : Array Value} (h : a.size = 2) : ∃ b0 b1 : Value, a = #[b0, b1] := by
  obtain ⟨l⟩ := a
  match l, h with
  | [b0, b1], _ => exact ⟨b0, b1, rfl⟩
theorem arrS6 {a : Array Value} (h : a.size = 6) : ∃ b0 b1 b2 b3 b4 b5 : Value, a = #[b0, b1, b2, b3, b4, b5] := by
  obtain ⟨l⟩ := a
  match l, h with
  | [b0, b1, b2, b3, b4, b5], _ => exact ⟨b0, b1, b2, b3, b4, b5, rfl⟩
set_option maxRecDepth 100000 in
set_option maxHeartbeats 1000000 in
theorem lifted (os : Os) (started : os.Started) (H : Type) (enc : TypeId × Value → H) :
    ReturnsInHanded {} Try.checked os 20 .any (Rows.topMirroredLawSpec.pre6 enc Try.prog Try.f20 Rows.topMirroredLawRow.domain false) (Rows.topMirroredLawSpec.post enc Try.prog Try.f20 false true false false) := by
  refine returnsInHanded_of_change (C := Try.checked) own started (by kernel_rfl) Try.func20
    (ChangeSpec.witness6 (enc := enc) (C := Try.checked) false ⟨#[], #[.agg #[.slice none 0 0, .int .i64 0, .int .i64 0, .int .i64 0, .int .i64 0, .int .i64 0], .agg #[.int .i64 0, .int .i64 0]], []⟩ 8 (by kernel_rfl) (by kernel_rfl) (by kernel_rfl) (by kernel_rfl)) ?_
  intro W base args ds gs before hval0 hW hcnd _
  have hval : ∀ (j : Nat) t v, Try.f20.params[j]? = some t → args[j]? = some v → Value.okWide Try.prog W .any base t v := hval0
  have hW' := hW
  obtain ⟨p, q, hA0, hV, rfl, hfz, hnd⟩ := hW
  have hA : DataW.TrodAll enc Try.prog W 0 (fun _ => true) true Try.f20.params.toList args.toList ds p := hA0
  rw [Try.params20] at hA hval
  obtain ⟨v0, vs0, d0, ds0, p0, q0, hargs, rfl, rfl, h0, r0⟩ := trodAll_cons hA
  obtain ⟨v1, vs1, d1, ds1, p1, q1, rfl, rfl, rfl, h1, r1⟩ := trodAll_cons r0
  obtain ⟨rfl, rfl, rfl⟩ := trodAll_nil r1
  obtain rfl : args = #[v0, v1] := by cases args; simp_all
  obtain ⟨rfl, rfl⟩ := trodVars_none hV
  have k0 := h0
  have lt0 : ∀ x ∈ p0, x.block < W.heap.size := by obtain ⟨m, hm⟩ := k0; exact DataW.trod_lt m _ _ _ hm
  have k1 := h1
  have lt1 : ∀ x ∈ p1, x.block < W.heap.size := by obtain ⟨m, hm⟩ := k1; exact DataW.trod_lt m _ _ _ hm
  have hv0 := hval 0 118 v0 rfl rfl
  obtain ⟨A0_0, n0_0, c0_0, l0_0, z0_1, z0_2, z0_3, z0_4, z0_5, ec0, m0_0, o0_0, s0_0⟩ : ∃ (A0_0 : Option Addr) (n0_0 c0_0 : Nat) (l0_0 : Nat → Sp) (z0_1 : Int) (z0_2 : Int) (z0_3 : Int) (z0_4 : Int) (z0_5 : Int), v0 = .agg #[.slice A0_0 n0_0 c0_0, .int .i64 z0_1, .int .i64 z0_2, .int .i64 z0_3, .int .i64 z0_4, .int .i64 z0_5] ∧ n0_0 ≤ maxLen ∧ (A0_0 = none → n0_0 = 0 ∧ c0_0 = 0) ∧ SpAt A0_0 n0_0 l0_0 W := by
    obtain ⟨cs, e1, e2⟩ := okWide_struct Try.underlying118 hv0
    subst e1
    obtain ⟨b0, b1, b2, b3, b4, b5, e3⟩ := arrS6 (e2.trans cT0)
    subst e3
    obtain ⟨fuel, hf⟩ := h0
    replace hf : DataW.trod enc Try.prog W 0 (fun _ => true) true fuel 118 [b0, b1, b2, b3, b4, b5] = some (d0, p0) := hf
    obtain ⟨m0_0, x0_0, t0_0⟩ := leaf Try.underlying118 hf 0 _ rfl
    obtain ⟨A0, n0, c0, l0, g0, f0, o0, s0⟩ := open_spots t0_0
    simp [cellsInt, cSl1, cSl2, cT0, cT1, cT2] at g0
    obtain ⟨m1_0, x1_0, t1_0⟩ := leaf Try.underlying118 hf 1 _ rfl
    obtain ⟨m1_1, x1_1, t1_1⟩ := leaf Try.underlying54 t1_0 0 _ rfl
    obtain ⟨z1, g1, _, u1⟩ := DataW.trod_int Try.underlying3 t1_1
    simp [cellsInt, cSl1, cSl2, cT0, cT1, cT2] at g1
    obtain ⟨m2_0, x2_0, t2_0⟩ := leaf Try.underlying118 hf 1 _ rfl
    obtain ⟨m2_1, x2_1, t2_1⟩ := leaf Try.underlying54 t2_0 1 _ rfl
    obtain ⟨z2, g2, _, u2⟩ := DataW.trod_int Try.underlying3 t2_1
    simp [cellsInt, cSl1, cSl2, cT0, cT1, cT2] at g2
    obtain ⟨m3_0, x3_0, t3_0⟩ := leaf Try.underlying118 hf 1 _ rfl
    obtain ⟨m3_1, x3_1, t3_1⟩ := leaf Try.underlying54 t3_0 2 _ rfl
    obtain ⟨z3, g3, _, u3⟩ := DataW.trod_int Try.underlying3 t3_1
    simp [cellsInt, cSl1, cSl2, cT0, cT1, cT2] at g3
    obtain ⟨m4_0, x4_0, t4_0⟩ := leaf Try.underlying118 hf 1 _ rfl
    obtain ⟨m4_1, x4_1, t4_1⟩ := leaf Try.underlying54 t4_0 3 _ rfl
    obtain ⟨z4, g4, _, u4⟩ := DataW.trod_int Try.underlying3 t4_1
    simp [cellsInt, cSl1, cSl2, cT0, cT1, cT2] at g4
    obtain ⟨m5_0, x5_0, t5_0⟩ := leaf Try.underlying118 hf 2 _ rfl
    obtain ⟨z5, g5, _, u5⟩ := DataW.trod_int Try.underlying3 t5_0
    simp [cellsInt, cSl1, cSl2, cT0, cT1, cT2] at g5
    exact ⟨A0, n0, c0, l0, z1, z2, z3, z4, z5, by rw [g0, g1, g2, g3, g4, g5], f0, o0, s0⟩
  subst ec0
  have hv1 := hval 1 23 v1 rfl rfl
  obtain ⟨z1_0, z1_1, ec1⟩ : ∃ (z1_0 : Int) (z1_1 : Int), v1 = .agg #[.int .i64 z1_0, .int .i64 z1_1] := by
    obtain ⟨cs, e1, e2⟩ := okWide_struct Try.underlying23 hv1
    subst e1
    obtain ⟨b0, b1, e3⟩ := arrS2 (e2.trans cT2)
    subst e3
    obtain ⟨fuel, hf⟩ := h1
    replace hf : DataW.trod enc Try.prog W 0 (fun _ => true) true fuel 23 [b0, b1] = some (d1, p1) := hf
    obtain ⟨m0_0, x0_0, t0_0⟩ := leaf Try.underlying23 hf 0 _ rfl
    obtain ⟨z0, g0, _, u0⟩ := DataW.trod_int Try.underlying3 t0_0
    simp [cellsInt, cSl1, cSl2, cT0, cT1, cT2] at g0
    obtain ⟨m1_0, x1_0, t1_0⟩ := leaf Try.underlying23 hf 1 _ rfl
    obtain ⟨z1, g1, _, u1⟩ := DataW.trod_int Try.underlying3 t1_0
    simp [cellsInt, cSl1, cSl2, cT0, cT1, cT2] at g1
    exact ⟨z0, z1, by rw [g0, g1]⟩
  subst ec1
  clear hA0 hval0
  refine (tml_all ⟨l0_0, n0_0, ⟨z0_1, z0_2, z0_3, z0_4⟩, z0_5⟩ ⟨z1_0, z1_1⟩ A0_0 c0_0 W o0_0 s0_0 m0_0).mono fun e W' ⟨he, bel⟩ => ?_
  subst he
  exact ⟨_, rfl, _, _, _, [], _, [], hW', trodAll_mk1 (shut_bool Try.underlying4 _), (trodAll_cons_mk (Below.trod laidOut (by kernel_rfl) (of_decide_eq_true (by kernel_rfl)) k0 bel lt0) (trodAll_cons_mk (Below.trod laidOut (by kernel_rfl) (of_decide_eq_true (by kernel_rfl)) k1 bel lt1) trodAll_mk0)), rfl, bel.frame _, fun h => by cases h⟩
theorem facts : joinedFacts Try.pinned.checked.prog 20 Try.f20 Rows.topMirroredLawSpec Rows.topMirroredLawRow = true := by
  unfold joinedFacts
  repeat' (with_reducible refine and_mk ?_ ?_)
  all_goals (first | (with_reducible exact z_enter) | (with_reducible exact z_laid) | (with_reducible exact z_maps) | (with_reducible exact z_heard) | (with_reducible refine z_liftB ?_; kernel_rfl) | (with_reducible refine z_makeB ?_; kernel_rfl) | (with_reducible refine z_plainB ?_; kernel_rfl) | kernel_rfl)
theorem over : Rows.topMirroredLawRow.holds Try.pinned (OpenSpec.ofChange Rows.topMirroredLawSpec) :=
  OpenClaim.holds_of_wide 20 Try.f20 rfl rfl rfl rfl rfl rfl rfl ⟨rfl, rfl, rfl, rfl, rfl⟩ rfl rfl rfl rfl rfl (by kernel_rfl) Try.func20 facts
    (of_decide_eq_true (by kernel_rfl)) (by unfold Func.isWrapper; first | (rw [if_pos (by decide +kernel)]; kernel_rfl) | (rw [if_neg (by decide +kernel)]; exact ⟨rfl, rfl⟩))
    (fun os started H enc _ => lifted os started H enc)

theorem proved : Rows.TopMirroredLawSaid := over
#print axioms proved
end TopMirroredLawP
end Go.Proofs.Ytdicndakelgoeaa
