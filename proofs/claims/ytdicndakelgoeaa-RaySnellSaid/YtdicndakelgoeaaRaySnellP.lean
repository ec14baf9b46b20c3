/- For every direction and every two speeds, a direction passes just if its sine squared is at most the critical one, and what is behind the plane is at most 1 and goes back to the sine squared. No condition. -/
import Derived.Test.YtdicndakelgoeaaL0
import Derived.Test.YtdicndakelgoeaaZ0
import Derived.Test.YtdicndakelgoeaaF1
namespace Go.Proofs.Ytdicndakelgoeaa
open Go.ChangeShapes Go.WideShapes Go.ChangeAt Go.RowKit RayM
set_option linter.unusedVariables false
set_option linter.unusedSimpArgs false
namespace RaySnellP
theorem okWide_array {P : Program} {w : World} {r : Reach} {base : Nat} {t : TypeId} {v : Value} {n : Nat} {e : TypeId} (ht : P.underlying t = some (.array n e)) (h : Value.okWide P w r base t v) : ∃ cs, v = .agg cs ∧ cs.size = P.cellsOf t := by
  simp only [Value.okWide, ht] at h
  obtain ⟨cs, h1, h2, _⟩ := h
  exact ⟨cs, h1, h2⟩
theorem leafA {H : Type} {enc : TypeId × Value → H} {P : Program} {w : World} {base : Nat} {spare : Nat → Bool} {held : Bool} {t : TypeId} {n : Nat} {e : TypeId} {fuel : Nat} {cs : List Value} {x : DataW H × List MemPlace}
    (ht : P.underlying t = some (.array n e)) (h : DataW.trod enc P w base spare held fuel t cs = some x) (i : Nat) (hi : i < n) :
    ∃ (m : Nat) (y : DataW H × List MemPlace), DataW.trod enc P w base spare held m e ((cs.drop (i * P.cellsOf e)).take (P.cellsOf e)) = some y := by
  obtain ⟨xs, m, _, _, _, hl, hx⟩ := DataW.trod_array ht h
  have k := hx i hi
  rw [List.getElem?_eq_getElem (by omega)] at k
  exact ⟨m, _, k⟩
set_option maxRecDepth 100000 in
set_option maxHeartbeats 1000000 in
theorem lifted (os : Os) (started : os.Started) (H : Type) (enc : TypeId × Value → H) :
    ReturnsInHanded {} Try.checked os 15 .any (Rows.raySnellSpec.pre6 enc Try.prog Try.f15 Rows.raySnellRow.domain false) (Rows.raySnellSpec.post enc Try.prog Try.f15 false true false false) := by
  refine returnsInHanded_of_change (C := Try.checked) own started (by kernel_rfl) Try.func15
    (ChangeSpec.witness6 (enc := enc) (C := Try.checked) false ⟨#[], #[.agg #[.int .i64 0, .int .i64 0], .int .i64 0, .int .i64 0], []⟩ 8 (by kernel_rfl) (by kernel_rfl) (by kernel_rfl) (by kernel_rfl)) ?_
  intro W base args ds gs before hval0 hW hcnd _
  have hval : ∀ (j : Nat) t v, Try.f15.params[j]? = some t → args[j]? = some v → Value.okWide Try.prog W .any base t v := hval0
  have hW' := hW
  obtain ⟨p, q, hA0, hV, rfl, hfz, hnd⟩ := hW
  have hA : DataW.TrodAll enc Try.prog W 0 (fun _ => true) true Try.f15.params.toList args.toList ds p := hA0
  rw [Try.params15] at hA hval
  obtain ⟨v0, vs0, d0, ds0, p0, q0, hargs, rfl, rfl, h0, r0⟩ := trodAll_cons hA
  obtain ⟨v1, vs1, d1, ds1, p1, q1, rfl, rfl, rfl, h1, r1⟩ := trodAll_cons r0
  obtain ⟨v2, vs2, d2, ds2, p2, q2, rfl, rfl, rfl, h2, r2⟩ := trodAll_cons r1
  obtain ⟨rfl, rfl, rfl⟩ := trodAll_nil r2
  obtain rfl : args = #[v0, v1, v2] := by cases args; simp_all
  obtain ⟨rfl, rfl⟩ := trodVars_none hV
  have k0 := h0
  have lt0 : ∀ x ∈ p0, x.block < W.heap.size := by obtain ⟨m, hm⟩ := k0; exact DataW.trod_lt m _ _ _ hm
  have k1 := h1
  have lt1 : ∀ x ∈ p1, x.block < W.heap.size := by obtain ⟨m, hm⟩ := k1; exact DataW.trod_lt m _ _ _ hm
  have k2 := h2
  have lt2 : ∀ x ∈ p2, x.block < W.heap.size := by obtain ⟨m, hm⟩ := k2; exact DataW.trod_lt m _ _ _ hm
  have hv0 := hval 0 96 v0 rfl rfl
  obtain ⟨c0_0, c0_1, ec0⟩ : ∃ c0_0 c0_1 : Int, v0 = .agg #[.int .i64 c0_0, .int .i64 c0_1] := by
    obtain ⟨cs, e1, e2⟩ := okWide_array Try.underlying96 hv0
    subst e1
    obtain ⟨b0, b1, e3⟩ := arr2 (e2.trans (by kernel_rfl : Try.prog.cellsOf 96 = 2))
    subst e3
    obtain ⟨fuel, hf⟩ := h0
    replace hf : DataW.trod enc Try.prog W 0 (fun _ => true) true fuel 96 [b0, b1] = some (d0, p0) := hf
    obtain ⟨n0, y0, t0⟩ := leafA Try.underlying96 hf 0 (by decide)
    obtain ⟨z0, g0, _, _⟩ := DataW.trod_int Try.underlying3 t0
    simp [cellsInt] at g0
    obtain ⟨n1, y1, t1⟩ := leafA Try.underlying96 hf 1 (by decide)
    obtain ⟨z1, g1, _, _⟩ := DataW.trod_int Try.underlying3 t1
    simp [cellsInt] at g1
    exact ⟨z0, z1, by rw [g0, g1]⟩
  subst ec0
  have hv1 := hval 1 3 v1 rfl rfl
  obtain ⟨a1, ea1, wf1⟩ : ∃ z : Int, v1 = .int .i64 z ∧ (Lit.int .i64 z).wf = true := by
    obtain ⟨z, e1, _, _, e2⟩ := open_int Try.underlying3 hv1 h1
    exact ⟨z, e1, e2⟩
  subst ea1
  have hv2 := hval 2 3 v2 rfl rfl
  obtain ⟨a2, ea2, wf2⟩ : ∃ z : Int, v2 = .int .i64 z ∧ (Lit.int .i64 z).wf = true := by
    obtain ⟨z, e1, _, _, e2⟩ := open_int Try.underlying3 hv2 h2
    exact ⟨z, e1, e2⟩
  subst ea2
  clear hA0 hval0
  refine (snell_any c0_0 c0_1 a1 a2 W).mono fun e W' ⟨he, bel⟩ => ?_
  subst he
  exact ⟨_, rfl, _, _, _, [], _, [], hW', trodAll_mk1 (shut_bool Try.underlying4 _), (trodAll_cons_mk (Below.trod laidOut (by kernel_rfl) (of_decide_eq_true (by kernel_rfl)) k0 bel lt0) (trodAll_cons_mk (Below.trod laidOut (by kernel_rfl) (of_decide_eq_true (by kernel_rfl)) k1 bel lt1) (trodAll_cons_mk (Below.trod laidOut (by kernel_rfl) (of_decide_eq_true (by kernel_rfl)) k2 bel lt2) trodAll_mk0))), rfl, bel.frame _, fun h => by cases h⟩

theorem facts : joinedFacts Try.pinned.checked.prog 15 Try.f15 Rows.raySnellSpec Rows.raySnellRow = true := by
  unfold joinedFacts
  repeat' (with_reducible refine and_mk ?_ ?_)
  all_goals (first | (with_reducible exact z_enter) | (with_reducible exact z_laid) | (with_reducible exact z_maps) | (with_reducible exact z_heard) | (with_reducible refine z_liftB ?_; kernel_rfl) | (with_reducible refine z_makeB ?_; kernel_rfl) | (with_reducible refine z_plainB ?_; kernel_rfl) | kernel_rfl)
theorem over : Rows.raySnellRow.holds Try.pinned (OpenSpec.ofChange Rows.raySnellSpec) :=
  OpenClaim.holds_of_wide 15 Try.f15 rfl rfl rfl rfl rfl rfl rfl ⟨rfl, rfl, rfl, rfl, rfl⟩ rfl rfl rfl rfl rfl (by kernel_rfl) Try.func15 facts
    (of_decide_eq_true (by kernel_rfl)) (by unfold Func.isWrapper; first | (rw [if_pos (by decide +kernel)]; kernel_rfl) | (rw [if_neg (by decide +kernel)]; exact ⟨rfl, rfl⟩))
    (fun os started H enc _ => lifted os started H enc)

theorem proved : Rows.RaySnellSaid := over
#print axioms proved
end RaySnellP
end Go.Proofs.Ytdicndakelgoeaa
