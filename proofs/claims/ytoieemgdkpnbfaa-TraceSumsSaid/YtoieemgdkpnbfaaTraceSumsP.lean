/- For every two lists of numbers and every shift: the sum and the shifted trace are those of the reference to the bit, or the errors. No condition. -/
import Derived.Test.YtoieemgdkpnbfaaL0
import Derived.Test.YtoieemgdkpnbfaaFZ0
import Derived.Test.YtoieemgdkpnbfaaFm8
import Derived.Test.YtoieemgdkpnbfaaFlW
namespace Go.Proofs.Ytoieemgdkpnbfaa
open Go.ChangeShapes Go.WideShapes Go.ChangeAt Go.RowKit RayM
set_option linter.unusedVariables false
set_option linter.unusedSimpArgs false
namespace TraceSumsP
theorem cSl1 : Try.prog.cellsOf 22 = 1 := by kernel_rfl
set_option maxRecDepth 100000 in
set_option maxHeartbeats 1000000 in
theorem lifted (os : Os) (started : os.Started) (H : Type) (enc : TypeId × Value → H) :
    ReturnsInHanded {} Try.checked os 3 .any (Rows.traceSumsSpec.pre6 enc Try.prog Try.f3 Rows.traceSumsRow.domain false) (Rows.traceSumsSpec.post enc Try.prog Try.f3 false true false false) := by
  refine returnsInHanded_of_change (C := Try.checked) own started (by kernel_rfl) Try.func3
    (ChangeSpec.witness6 (enc := enc) (C := Try.checked) false ⟨#[], #[.slice none 0 0, .slice none 0 0, .int .i64 0], []⟩ 8 (by kernel_rfl) (by kernel_rfl) (by kernel_rfl) (by kernel_rfl)) ?_
  intro W base args ds gs before hval0 hW hcnd _
  have hval : ∀ (j : Nat) t v, Try.f3.params[j]? = some t → args[j]? = some v → Value.okWide Try.prog W .any base t v := hval0
  have hW' := hW
  obtain ⟨p, q, hA0, hV, rfl, hfz, hnd⟩ := hW
  have hA : DataW.TrodAll enc Try.prog W 0 (fun _ => true) true Try.f3.params.toList args.toList ds p := hA0
  rw [Try.params3] at hA hval
  obtain ⟨v0, vs0, d0, ds0, p0, q0, hargs, rfl, rfl, h0, r0⟩ := trodAll_cons hA
  obtain ⟨v1, vs1, d1, ds1, p1, q1, rfl, rfl, rfl, h1, r1⟩ := trodAll_cons r0
  obtain ⟨v2, vs2, d2, ds2, p2, q2, rfl, rfl, rfl, h2, r2⟩ := trodAll_cons r1
  obtain ⟨rfl, rfl, rfl⟩ := trodAll_nil r2
  obtain rfl : args = #[v0, v1, v2] := by cases args; simp_all
  obtain ⟨rfl, rfl⟩ := trodVars_none hV
  have k0 := h0
  have lt0 : ∀ x ∈ p0, x.block < W.heap.size := by obtain ⟨m, hm⟩ := k0; exact DataW.trod_lt m _ _ _ hm
  have k1 := h1
  have lt1 : ∀ x ∈ p1, x.block < W.heap.size := by obtain ⟨m, hm⟩ := k1; exact DataW.trod_lt m _ _ _ hm
  have k2 := h2
  have lt2 : ∀ x ∈ p2, x.block < W.heap.size := by obtain ⟨m, hm⟩ := k2; exact DataW.trod_lt m _ _ _ hm
  have hv0 := hval 0 22 v0 rfl rfl
  obtain ⟨A0_0, n0_0, c0_0, l0_0, ec0, m0_0, o0_0, s0_0⟩ : ∃ (A0_0 : Option Addr) (n0_0 c0_0 : Nat) (l0_0 : Nat → Int), v0 = .slice A0_0 n0_0 c0_0 ∧ n0_0 ≤ maxLen ∧ (A0_0 = none → n0_0 = 0 ∧ c0_0 = 0) ∧ InAt A0_0 n0_0 l0_0 W := by
    obtain ⟨A', n', c', e0⟩ := okWide_slice Try.underlying22 hv0
    subst e0
    obtain ⟨fuel, hf⟩ := h0
    replace hf : DataW.trod enc Try.prog W 0 (fun _ => true) true fuel 22 [.slice A' n' c'] = some (d0, p0) := hf
    obtain ⟨A, n, c, l, g, f, o, s⟩ := open_ints hf
    exact ⟨A, n, c, l, by simpa using g, f, o, s⟩
  subst ec0
  have hv1 := hval 1 22 v1 rfl rfl
  obtain ⟨A1_0, n1_0, c1_0, l1_0, ec1, m1_0, o1_0, s1_0⟩ : ∃ (A1_0 : Option Addr) (n1_0 c1_0 : Nat) (l1_0 : Nat → Int), v1 = .slice A1_0 n1_0 c1_0 ∧ n1_0 ≤ maxLen ∧ (A1_0 = none → n1_0 = 0 ∧ c1_0 = 0) ∧ InAt A1_0 n1_0 l1_0 W := by
    obtain ⟨A', n', c', e0⟩ := okWide_slice Try.underlying22 hv1
    subst e0
    obtain ⟨fuel, hf⟩ := h1
    replace hf : DataW.trod enc Try.prog W 0 (fun _ => true) true fuel 22 [.slice A' n' c'] = some (d1, p1) := hf
    obtain ⟨A, n, c, l, g, f, o, s⟩ := open_ints hf
    exact ⟨A, n, c, l, by simpa using g, f, o, s⟩
  subst ec1
  have hv2 := hval 2 3 v2 rfl rfl
  obtain ⟨z2_0, ec2⟩ : ∃ (z2_0 : Int), v2 = .int .i64 z2_0 := by
    obtain ⟨z, e1, _, _, e2⟩ := open_int Try.underlying3 hv2 h2
    exact ⟨z, e1⟩
  subst ec2
  clear hA0 hval0
  refine (ts_any A0_0 A1_0 n0_0 c0_0 n1_0 c1_0 l0_0 l1_0 z2_0 W s0_0 s1_0).mono fun e W' ⟨he, bel⟩ => ?_
  subst he
  exact ⟨_, rfl, _, _, _, [], _, [], hW', trodAll_mk1 (shut_bool Try.underlying4 _), (trodAll_cons_mk (Below.trod laidOut (by kernel_rfl) (of_decide_eq_true (by kernel_rfl)) k0 bel lt0) (trodAll_cons_mk (Below.trod laidOut (by kernel_rfl) (of_decide_eq_true (by kernel_rfl)) k1 bel lt1) (trodAll_cons_mk (Below.trod laidOut (by kernel_rfl) (of_decide_eq_true (by kernel_rfl)) k2 bel lt2) trodAll_mk0))), rfl, bel.frame _, fun h => by cases h⟩
theorem facts : joinedFacts Try.pinned.checked.prog 3 Try.f3 Rows.traceSumsSpec Rows.traceSumsRow = true := by
  unfold joinedFacts
  repeat' (with_reducible refine and_mk ?_ ?_)
  all_goals (first | (with_reducible exact z_enter) | (with_reducible exact z_laid) | (with_reducible exact z_maps) | (with_reducible exact z_heard) | (with_reducible refine z_liftB ?_; kernel_rfl) | (with_reducible refine z_makeB ?_; kernel_rfl) | (with_reducible refine z_plainB ?_; kernel_rfl) | kernel_rfl)
theorem over : Rows.traceSumsRow.holds Try.pinned (OpenSpec.ofChange Rows.traceSumsSpec) :=
  OpenClaim.holds_of_wide 3 Try.f3 rfl rfl rfl rfl rfl rfl rfl ⟨rfl, rfl, rfl, rfl, rfl⟩ rfl rfl rfl rfl rfl (by kernel_rfl) Try.func3 facts
    (of_decide_eq_true (by kernel_rfl)) (by unfold Func.isWrapper; first | (rw [if_pos (by decide +kernel)]; kernel_rfl) | (rw [if_neg (by decide +kernel)]; exact ⟨rfl, rfl⟩))
    (fun os started H enc _ => lifted os started H enc)

theorem proved : Rows.TraceSumsSaid := over
#print axioms proved
end TraceSumsP
end Go.Proofs.Ytoieemgdkpnbfaa
