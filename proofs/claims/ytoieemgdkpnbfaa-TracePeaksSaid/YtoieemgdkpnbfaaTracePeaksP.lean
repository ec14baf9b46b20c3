/- For every list of numbers, gate and square: the peak and the first square that is as great are those of the reference, or the errors. No condition. -/
import Derived.Test.YtoieemgdkpnbfaaL0
import Derived.Test.YtoieemgdkpnbfaaFZ0
import Derived.Test.YtoieemgdkpnbfaaFlZ
import Derived.Test.YtoieemgdkpnbfaaFlW
namespace Go.Proofs.Ytoieemgdkpnbfaa
open Go.ChangeShapes Go.WideShapes Go.ChangeAt Go.RowKit RayM
set_option linter.unusedVariables false
set_option linter.unusedSimpArgs false
namespace TracePeaksP
theorem cT0 : Try.prog.cellsOf 63 = 2 := by kernel_rfl
theorem cSl1 : Try.prog.cellsOf 22 = 1 := by kernel_rfl
theorem arrS2 {a : Array Value} (h : a.size = 2) : ∃ b0 b1 : Value, a = #[b0, b1] := by
  obtain ⟨l⟩ := a
  match l, h with
  | [b0, b1], _ => exact ⟨b0, b1, rfl⟩
set_option maxRecDepth 100000 in
set_option maxHeartbeats 1000000 in
theorem lifted (os : Os) (started : os.Started) (H : Type) (enc : TypeId × Value → H) :
    ReturnsInHanded {} Try.checked os 8 .any (Rows.tracePeaksSpec.pre6 enc Try.prog Try.f8 Rows.tracePeaksRow.domain false) (Rows.tracePeaksSpec.post enc Try.prog Try.f8 false true false false) := by
  refine returnsInHanded_of_change (C := Try.checked) own started (by kernel_rfl) Try.func8
    (ChangeSpec.witness6 (enc := enc) (C := Try.checked) false ⟨#[], #[.slice none 0 0, .agg #[.int .i64 0, .int .i64 0], .int .i64 0], []⟩ 8 (by kernel_rfl) (by kernel_rfl) (by kernel_rfl) (by kernel_rfl)) ?_
  intro W base args ds gs before hval0 hW hcnd _
  have hval : ∀ (j : Nat) t v, Try.f8.params[j]? = some t → args[j]? = some v → Value.okWide Try.prog W .any base t v := hval0
  have hW' := hW
  obtain ⟨p, q, hA0, hV, rfl, hfz, hnd⟩ := hW
  have hA : DataW.TrodAll enc Try.prog W 0 (fun _ => true) true Try.f8.params.toList args.toList ds p := hA0
  rw [Try.params8] at hA hval
  obtain ⟨v0, vs0, d0, ds0, p0, q0, hargs, rfl, rfl, h0, r0⟩ := trodAll_cons hA
  obtain ⟨v1, vs1, d1, ds1, p1, q1, rfl, rfl, rfl, h1, r1⟩ := trodAll_cons r0
  obtain ⟨v2, vs2, d2, ds2, p2, q2, rfl, rfl, rfl, h2, r2⟩ := trodAll_cons r1
  obtain ⟨rfl, rfl, rfl⟩ := trodAll_nil r2
  obtain rfl : args = #[v0, v1, v2] := by cases args; simp_all
  obtain ⟨rfl, rfl⟩ := trodVars_none hV
  have k0 := h0
  have lt0 : ∀ x ∈ p0, x.block < W.heap.size := by obtain ⟨m, hm⟩ := k0; exact DataW.trod_lt m _ _ _ hm
  have k1 := h1
  have lt1 : ∀ x ∈ p1, x.block < W.heap.size := by obtain ⟨m, hm⟩ := k1; exact DataW.trod_lt m _ _ _ hm
  have k2 := h2
  have lt2 : ∀ x ∈ p2, x.block < W.heap.size := by obtain ⟨m, hm⟩ := k2; exact DataW.trod_lt m _ _ _ hm
  have hv0 := hval 0 22 v0 rfl rfl
  obtain ⟨A0_0, n0_0, c0_0, l0_0, ec0, m0_0, o0_0, s0_0⟩ : ∃ (A0_0 : Option Addr) (n0_0 c0_0 : Nat) (l0_0 : Nat → Int), v0 = .slice A0_0 n0_0 c0_0 ∧ n0_0 ≤ maxLen ∧ (A0_0 = none → n0_0 = 0 ∧ c0_0 = 0) ∧ InAt A0_0 n0_0 l0_0 W := by
    obtain ⟨A', n', c', e0⟩ := okWide_slice Try.underlying22 hv0
    subst e0
    obtain ⟨fuel, hf⟩ := h0
    replace hf : DataW.trod enc Try.prog W 0 (fun _ => true) true fuel 22 [.slice A' n' c'] = some (d0, p0) := hf
    obtain ⟨A, n, c, l, g, f, o, s⟩ := open_ints hf
    exact ⟨A, n, c, l, by simpa using g, f, o, s⟩
  subst ec0
  have hv1 := hval 1 63 v1 rfl rfl
  obtain ⟨z1_0, z1_1, ec1⟩ : ∃ (z1_0 : Int) (z1_1 : Int), v1 = .agg #[.int .i64 z1_0, .int .i64 z1_1] := by
    obtain ⟨cs, e1, e2⟩ := okWide_struct Try.underlying63 hv1
    subst e1
    obtain ⟨b0, b1, e3⟩ := arrS2 (e2.trans cT0)
    subst e3
    obtain ⟨fuel, hf⟩ := h1
    replace hf : DataW.trod enc Try.prog W 0 (fun _ => true) true fuel 63 [b0, b1] = some (d1, p1) := hf
    obtain ⟨m0_0, x0_0, t0_0⟩ := leaf Try.underlying63 hf 0 _ rfl
    obtain ⟨z0, g0, _, u0⟩ := DataW.trod_int Try.underlying3 t0_0
    simp [cellsInt, cSl1, cT0] at g0
    obtain ⟨m1_0, x1_0, t1_0⟩ := leaf Try.underlying63 hf 1 _ rfl
    obtain ⟨z1, g1, _, u1⟩ := DataW.trod_int Try.underlying3 t1_0
    simp [cellsInt, cSl1, cT0] at g1
    exact ⟨z0, z1, by rw [g0, g1]⟩
  subst ec1
  have hv2 := hval 2 3 v2 rfl rfl
  obtain ⟨z2_0, ec2⟩ : ∃ (z2_0 : Int), v2 = .int .i64 z2_0 := by
    obtain ⟨z, e1, _, _, e2⟩ := open_int Try.underlying3 hv2 h2
    exact ⟨z, e1⟩
  subst ec2
  clear hA0 hval0
  refine (tp_any A0_0 n0_0 c0_0 l0_0 z1_0 z1_1 z2_0 W s0_0).mono fun e W' ⟨he, bel⟩ => ?_
  subst he
  exact ⟨_, rfl, _, _, _, [], _, [], hW', trodAll_mk1 (shut_bool Try.underlying4 _), (trodAll_cons_mk (Below.trod laidOut (by kernel_rfl) (of_decide_eq_true (by kernel_rfl)) k0 bel lt0) (trodAll_cons_mk (Below.trod laidOut (by kernel_rfl) (of_decide_eq_true (by kernel_rfl)) k1 bel lt1) (trodAll_cons_mk (Below.trod laidOut (by kernel_rfl) (of_decide_eq_true (by kernel_rfl)) k2 bel lt2) trodAll_mk0))), rfl, bel.frame _, fun h => by cases h⟩
theorem facts : joinedFacts Try.pinned.checked.prog 8 Try.f8 Rows.tracePeaksSpec Rows.tracePeaksRow = true := by
  unfold joinedFacts
  repeat' (with_reducible refine and_mk ?_ ?_)
  all_goals (first | (with_reducible exact z_enter) | (with_reducible exact z_laid) | (with_reducible exact z_maps) | (with_reducible exact z_heard) | (with_reducible refine z_liftB ?_; kernel_rfl) | (with_reducible refine z_makeB ?_; kernel_rfl) | (with_reducible refine z_plainB ?_; kernel_rfl) | kernel_rfl)
theorem over : Rows.tracePeaksRow.holds Try.pinned (OpenSpec.ofChange Rows.tracePeaksSpec) :=
  OpenClaim.holds_of_wide 8 Try.f8 rfl rfl rfl rfl rfl rfl rfl ⟨rfl, rfl, rfl, rfl, rfl⟩ rfl rfl rfl rfl rfl (by kernel_rfl) Try.func8 facts
    (of_decide_eq_true (by kernel_rfl)) (by unfold Func.isWrapper; first | (rw [if_pos (by decide +kernel)]; kernel_rfl) | (rw [if_neg (by decide +kernel)]; exact ⟨rfl, rfl⟩))
    (fun os started H enc _ => lifted os started H enc)

theorem proved : Rows.TracePeaksSaid := over
#print axioms proved
end TracePeaksP
end Go.Proofs.Ytoieemgdkpnbfaa
