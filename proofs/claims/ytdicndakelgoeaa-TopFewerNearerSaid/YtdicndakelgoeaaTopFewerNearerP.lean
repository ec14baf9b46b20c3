/- For every array, law, list of silenced elements, speed and frequency: without them the aperture is not wider and the near field ends no later. No condition. -/
import Derived.Test.YtdicndakelgoeaaL0
import Derived.Test.YtdicndakelgoeaaZ0
import Derived.Test.YtdicndakelgoeaaL1
import Derived.Test.YtdicndakelgoeaaT3s
namespace Go.Proofs.Ytdicndakelgoeaa
open Go.ChangeShapes Go.WideShapes Go.ChangeAt Go.RowKit RayM
set_option linter.unusedVariables false
set_option linter.unusedSimpArgs false
namespace TopFewerNearerP
theorem cT0 : Try.prog.cellsOf 120 = 2 := by kernel_rfl
theorem cT1 : Try.prog.cellsOf 118 = 6 := by kernel_rfl
theorem cT2 : Try.prog.cellsOf 54 = 4 := by kernel_rfl
theorem cT3 : Try.prog.cellsOf 134 = 3 := by kernel_rfl
theorem cSl1 : Try.prog.cellsOf 89 = 1 := by kernel_rfl
theorem cSl2 : Try.prog.cellsOf 116 = 1 := by kernel_rfl
theorem arrS2 {a : Array Value} (h : a.size = 2) : ∃ b0 b1 : Value, a = #[b0, b1] := by
  obtain ⟨l⟩ := a
  match l, h with
  | [b0, b1], _ => exact ⟨b0, b1, rfl⟩
theorem arrS3 {a : Array Value} (h : a.size = 3) : ∃ b0 b1 b2 : Value, a = #[b0, b1, b2] := by
  obtain ⟨l⟩ := a
  match l, h with
  | [b0, b1, b2], _ => exact ⟨b0, b1, b2, rfl⟩
theorem arrS6 {a : Array Value} (h : a.size = 6) : ∃ b0 b1 b2 b3 b4 b5 : Value, a = #[b0, b1, b2, b3, b4, b5] := by
  obtain ⟨l⟩ := a
  match l, h with
  | [b0, b1, b2, b3, b4, b5], _ => exact ⟨b0, b1, b2, b3, b4, b5, rfl⟩
set_option maxRecDepth 100000 in
set_option maxHeartbeats 1000000 in
theorem lifted (os : Os) (started : os.Started) (H : Type) (enc : TypeId × Value → H) :
    ReturnsInHanded {} Try.checked os 21 .any (Rows.topFewerNearerSpec.pre6 enc Try.prog Try.f21 Rows.topFewerNearerRow.domain false) (Rows.topFewerNearerSpec.post enc Try.prog Try.f21 false true false false) := by
  refine returnsInHanded_of_change (C := Try.checked) own started (by kernel_rfl) Try.func21
    (ChangeSpec.witness6 (enc := enc) (C := Try.checked) false ⟨#[], #[.agg #[.slice none 0 0, .int .i64 0, .int .i64 0, .int .i64 0, .int .i64 0, .int .i64 0], .agg #[.int .i64 0, .slice none 0 0], .agg #[.slice none 0 0, .int .i64 0, .int .i64 0]], []⟩ 8 (by kernel_rfl) (by kernel_rfl) (by kernel_rfl) (by kernel_rfl)) ?_
  intro W base args ds gs before hval0 hW hcnd _
  have hval : ∀ (j : Nat) t v, Try.f21.params[j]? = some t → args[j]? = some v → Value.okWide Try.prog W .any base t v := hval0
  have hW' := hW
  obtain ⟨p, q, hA0, hV, rfl, hfz, hnd⟩ := hW
  have hA : DataW.TrodAll enc Try.prog W 0 (fun _ => true) true Try.f21.params.toList args.toList ds p := hA0
  rw [Try.params21] at hA hval
  obtain ⟨v0, vs0, d0, ds0, p0, q0, hargs, rfl, rfl, h0, r0⟩ := trodAll_cons hA
  obtain ⟨v1, vs1, d1, ds1, p1, q1, rfl, rfl, rfl, h1, r1⟩ := trodAll_cons r0
  obtain ⟨v2, vs2, d2, ds2, p2, q2, rfl, rfl, rfl, h2, r2⟩ := trodAll_cons r1
  obtain ⟨rfl, rfl, rfl⟩ := trodAll_nil r2
  obtain rfl : args = #[v0, v1, v2] := by cases args; simp_all
  obtain ⟨rfl, rfl⟩ := trodVars_none hV
  have k0 := h0
  have lt0 : ∀ x ∈ p0, x.block < W.heap.size := by obtain ⟨m, hm⟩ := k0; exact DataW.trod_lt m _ _ _ hm
  have k1 := h1
  have lt1 : ∀ x ∈ p1, x.block < W.heap.size := by obtain ⟨m, hm⟩ := k1; exact DataW.trod_lt m _ _ _ hm
  have k2 := h2
  have lt2 : ∀ x ∈ p2, x.block < W.heap.size := by obtain ⟨m, hm⟩ := k2; exact DataW.trod_lt m _ _ _ hm
  have hv0 := hval 0 118 v0 rfl rfl
  obtain ⟨A0_0, n0_0, c0_0, l0_0, z0_1, z0_2, z0_3, z0_4, z0_5, ec0, m0_0, o0_0, s0_0⟩ : ∃ (A0_0 : Option Addr) (n0_0 c0_0 : Nat) (l0_0 : Nat → Sp) (z0_1 : Int) (z0_2 : Int) (z0_3 : Int) (z0_4 : Int) (z0_5 : Int), v0 = .agg #[.slice A0_0 n0_0 c0_0, .int .i64 z0_1, .int .i64 z0_2, .int .i64 z0_3, .int .i64 z0_4, .int .i64 z0_5] ∧ n0_0 ≤ maxLen ∧ (A0_0 = none → n0_0 = 0 ∧ c0_0 = 0) ∧ SpAt A0_0 n0_0 l0_0 W := by
    obtain ⟨cs, e1, e2⟩ := okWide_struct Try.underlying118 hv0
    subst e1
    obtain ⟨b0, b1, b2, b3, b4, b5, e3⟩ := arrS6 (e2.trans cT1)
    subst e3
    obtain ⟨fuel, hf⟩ := h0
    replace hf : DataW.trod enc Try.prog W 0 (fun _ => true) true fuel 118 [b0, b1, b2, b3, b4, b5] = some (d0, p0) := hf
    obtain ⟨m0_0, x0_0, t0_0⟩ := leaf Try.underlying118 hf 0 _ rfl
    obtain ⟨A0, n0, c0, l0, g0, f0, o0, s0⟩ := open_spots t0_0
    simp [cellsInt, cSl1, cSl2, cT0, cT1, cT2, cT3] at g0
    obtain ⟨m1_0, x1_0, t1_0⟩ := leaf Try.underlying118 hf 1 _ rfl
    obtain ⟨m1_1, x1_1, t1_1⟩ := leaf Try.underlying54 t1_0 0 _ rfl
    obtain ⟨z1, g1, _, u1⟩ := DataW.trod_int Try.underlying3 t1_1
    simp [cellsInt, cSl1, cSl2, cT0, cT1, cT2, cT3] at g1
    obtain ⟨m2_0, x2_0, t2_0⟩ := leaf Try.underlying118 hf 1 _ rfl
    obtain ⟨m2_1, x2_1, t2_1⟩ := leaf Try.underlying54 t2_0 1 _ rfl
    obtain ⟨z2, g2, _, u2⟩ := DataW.trod_int Try.underlying3 t2_1
    simp [cellsInt, cSl1, cSl2, cT0, cT1, cT2, cT3] at g2
    obtain ⟨m3_0, x3_0, t3_0⟩ := leaf Try.underlying118 hf 1 _ rfl
    obtain ⟨m3_1, x3_1, t3_1⟩ := leaf Try.underlying54 t3_0 2 _ rfl
    obtain ⟨z3, g3, _, u3⟩ := DataW.trod_int Try.underlying3 t3_1
    simp [cellsInt, cSl1, cSl2, cT0, cT1, cT2, cT3] at g3
    obtain ⟨m4_0, x4_0, t4_0⟩ := leaf Try.underlying118 hf 1 _ rfl
    obtain ⟨m4_1, x4_1, t4_1⟩ := leaf Try.underlying54 t4_0 3 _ rfl
    obtain ⟨z4, g4, _, u4⟩ := DataW.trod_int Try.underlying3 t4_1
    simp [cellsInt, cSl1, cSl2, cT0, cT1, cT2, cT3] at g4
    obtain ⟨m5_0, x5_0, t5_0⟩ := leaf Try.underlying118 hf 2 _ rfl
    obtain ⟨z5, g5, _, u5⟩ := DataW.trod_int Try.underlying3 t5_0
    simp [cellsInt, cSl1, cSl2, cT0, cT1, cT2, cT3] at g5
    exact ⟨A0, n0, c0, l0, z1, z2, z3, z4, z5, by rw [g0, g1, g2, g3, g4, g5], f0, o0, s0⟩
  subst ec0
  have hv1 := hval 1 120 v1 rfl rfl
  obtain ⟨z1_0, A1_1, n1_1, c1_1, l1_1, ec1, m1_1, o1_1, s1_1⟩ : ∃ (z1_0 : Int) (A1_1 : Option Addr) (n1_1 c1_1 : Nat) (l1_1 : Nat → Int), v1 = .agg #[.int .i64 z1_0, .slice A1_1 n1_1 c1_1] ∧ n1_1 ≤ maxLen ∧ (A1_1 = none → n1_1 = 0 ∧ c1_1 = 0) ∧ InAt A1_1 n1_1 l1_1 W := by
    obtain ⟨cs, e1, e2⟩ := okWide_struct Try.underlying120 hv1
    subst e1
    obtain ⟨b0, b1, e3⟩ := arrS2 (e2.trans cT0)
    subst e3
    obtain ⟨fuel, hf⟩ := h1
    replace hf : DataW.trod enc Try.prog W 0 (fun _ => true) true fuel 120 [b0, b1] = some (d1, p1) := hf
    obtain ⟨m0_0, x0_0, t0_0⟩ := leaf Try.underlying120 hf 0 _ rfl
    obtain ⟨z0, g0, _, u0⟩ := DataW.trod_int Try.underlying3 t0_0
    simp [cellsInt, cSl1, cSl2, cT0, cT1, cT2, cT3] at g0
    obtain ⟨m1_0, x1_0, t1_0⟩ := leaf Try.underlying120 hf 1 _ rfl
    obtain ⟨A1, n1, c1, l1, g1, f1, o1, s1⟩ := open_ints t1_0
    simp [cellsInt, cSl1, cSl2, cT0, cT1, cT2, cT3] at g1
    exact ⟨z0, A1, n1, c1, l1, by rw [g0, g1], f1, o1, s1⟩
  subst ec1
  have hv2 := hval 2 134 v2 rfl rfl
  obtain ⟨A2_0, n2_0, c2_0, l2_0, z2_1, z2_2, ec2, m2_0, o2_0, s2_0⟩ : ∃ (A2_0 : Option Addr) (n2_0 c2_0 : Nat) (l2_0 : Nat → Int) (z2_1 : Int) (z2_2 : Int), v2 = .agg #[.slice A2_0 n2_0 c2_0, .int .i64 z2_1, .int .i64 z2_2] ∧ n2_0 ≤ maxLen ∧ (A2_0 = none → n2_0 = 0 ∧ c2_0 = 0) ∧ InAt A2_0 n2_0 l2_0 W := by
    obtain ⟨cs, e1, e2⟩ := okWide_struct Try.underlying134 hv2
    subst e1
    obtain ⟨b0, b1, b2, e3⟩ := arrS3 (e2.trans cT3)
    subst e3
    obtain ⟨fuel, hf⟩ := h2
    replace hf : DataW.trod enc Try.prog W 0 (fun _ => true) true fuel 134 [b0, b1, b2] = some (d2, p2) := hf
    obtain ⟨m0_0, x0_0, t0_0⟩ := leaf Try.underlying134 hf 0 _ rfl
    obtain ⟨A0, n0, c0, l0, g0, f0, o0, s0⟩ := open_ints t0_0
    simp [cellsInt, cSl1, cSl2, cT0, cT1, cT2, cT3] at g0
    obtain ⟨m1_0, x1_0, t1_0⟩ := leaf Try.underlying134 hf 1 _ rfl
    obtain ⟨z1, g1, _, u1⟩ := DataW.trod_int Try.underlying3 t1_0
    simp [cellsInt, cSl1, cSl2, cT0, cT1, cT2, cT3] at g1
    obtain ⟨m2_0, x2_0, t2_0⟩ := leaf Try.underlying134 hf 2 _ rfl
    obtain ⟨z2, g2, _, u2⟩ := DataW.trod_int Try.underlying3 t2_0
    simp [cellsInt, cSl1, cSl2, cT0, cT1, cT2, cT3] at g2
    exact ⟨A0, n0, c0, l0, z1, z2, by rw [g0, g1, g2], f0, o0, s0⟩
  subst ec2
  clear hA0 hval0
  refine (tfn_all ⟨l0_0, n0_0, ⟨z0_1, z0_2, z0_3, z0_4⟩, z0_5⟩ ⟨z1_0, l1_1, n1_1⟩ l2_0 n2_0 z2_1 z2_2 A0_0 c0_0 A1_1 c1_1 A2_0 c2_0 W o0_0 o1_1 o2_0 s0_0 s1_1 s2_0 m0_0 m1_1 m2_0).mono fun e W' ⟨he, bel⟩ => ?_
  subst he
  exact ⟨_, rfl, _, _, _, [], _, [], hW', trodAll_mk1 (shut_bool Try.underlying4 _), (trodAll_cons_mk (Below.trod laidOut (by kernel_rfl) (of_decide_eq_true (by kernel_rfl)) k0 bel lt0) (trodAll_cons_mk (Below.trod laidOut (by kernel_rfl) (of_decide_eq_true (by kernel_rfl)) k1 bel lt1) (trodAll_cons_mk (Below.trod laidOut (by kernel_rfl) (of_decide_eq_true (by kernel_rfl)) k2 bel lt2) trodAll_mk0))), rfl, bel.frame _, fun h => by cases h⟩
theorem facts : joinedFacts Try.pinned.checked.prog 21 Try.f21 Rows.topFewerNearerSpec Rows.topFewerNearerRow = true := by
  unfold joinedFacts
  repeat' (with_reducible refine and_mk ?_ ?_)
  all_goals (first | (with_reducible exact z_enter) | (with_reducible exact z_laid) | (with_reducible exact z_maps) | (with_reducible exact z_heard) | (with_reducible refine z_liftB ?_; kernel_rfl) | (with_reducible refine z_makeB ?_; kernel_rfl) | (with_reducible refine z_plainB ?_; kernel_rfl) | kernel_rfl)
theorem over : Rows.topFewerNearerRow.holds Try.pinned (OpenSpec.ofChange Rows.topFewerNearerSpec) :=
  OpenClaim.holds_of_wide 21 Try.f21 rfl rfl rfl rfl rfl rfl rfl ⟨rfl, rfl, rfl, rfl, rfl⟩ rfl rfl rfl rfl rfl (by kernel_rfl) Try.func21 facts
    (of_decide_eq_true (by kernel_rfl)) (by unfold Func.isWrapper; first | (rw [if_pos (by decide +kernel)]; kernel_rfl) | (rw [if_neg (by decide +kernel)]; exact ⟨rfl, rfl⟩))
    (fun os started H enc _ => lifted os started H enc)

theorem proved : Rows.TopFewerNearerSaid := over
#print axioms proved
end TopFewerNearerP
end Go.Proofs.Ytdicndakelgoeaa
