/- For every way, whatever way sound goes from the wedge through any place of the surface and by any places of the walls, as often as the mode says, its time is not less than the least one (places up to 50000 in size, as the statement asks). No condition. -/
import Derived.Test.YtdicndakelgoeaaL0
import Derived.Test.YtdicndakelgoeaaZ0
import Derived.Test.YtdicndakelgoeaaN1
namespace Go.Proofs.Ytdicndakelgoeaa
open Go.ChangeShapes Go.WideShapes Go.ChangeAt Go.RowKit RayM
set_option linter.unusedVariables false
set_option linter.unusedSimpArgs false
namespace TopNoFasterWayP
theorem cellsRayMode : Try.prog.cellsOf 54 = 4 := by kernel_rfl
theorem cellsSpot : Try.prog.cellsOf 23 = 2 := by kernel_rfl
theorem okWide_array {P : Program} {w : World} {r : Reach} {base : Nat} {t : TypeId} {v : Value} {n : Nat} {e : TypeId} (ht : P.underlying t = some (.array n e)) (h : Value.okWide P w r base t v) : ∃ cs, v = .agg cs ∧ cs.size = P.cellsOf t := by
  simp only [Value.okWide, ht] at h
  obtain ⟨cs, h1, h2, _⟩ := h
  exact ⟨cs, h1, h2⟩
theorem leafA {H : Type} {enc : TypeId × Value → H} {P : Program} {w : World} {base : Nat} {spare : Nat → Bool} {held : Bool} {t : TypeId} {n : Nat} {e : TypeId} {fuel : Nat} {cs : List Value} {x : DataW H × List MemPlace}
    (ht : P.underlying t = some (.array n e)) (h : DataW.trod enc P w base spare held fuel t cs = some x) (i : Nat) (hi : i < n) :
    ∃ (m : Nat) (y : DataW H × List MemPlace), DataW.trod enc P w base spare held m e ((cs.drop (i * P.cellsOf e)).take (P.cellsOf e)) = some y := by
  obtain ⟨xs, m, _, _, _, hl, hx⟩ := DataW.trod_array ht h
  have k := hx i hi
  rw [List.getElem?_eq_getElem (by omega)] at k
  exact ⟨m, _, k⟩
set_option maxRecDepth 100000 in
set_option maxHeartbeats 1000000 in
theorem lifted (os : Os) (started : os.Started) (H : Type) (enc : TypeId × Value → H) :
    ReturnsInHanded {} Try.checked os 17 .any (Rows.topNoFasterWaySpec.pre6 enc Try.prog Try.f17 Rows.topNoFasterWayRow.domain false) (Rows.topNoFasterWaySpec.post enc Try.prog Try.f17 false true false false) := by
  refine returnsInHanded_of_change (C := Try.checked) own started (by kernel_rfl) Try.func17
    (ChangeSpec.witness6 (enc := enc) (C := Try.checked) false ⟨#[], #[.agg #[.int .i64 0, .int .i64 0, .int .i64 0, .int .i64 0, .int .i64 0, .int .i64 0, .int .i64 0, .int .i64 0], .int .i64 0, .agg #[.int .i64 0, .int .i64 0, .int .i64 0, .int .i64 0]], []⟩ 8 (by kernel_rfl) (by kernel_rfl) (by kernel_rfl) (by kernel_rfl)) ?_
  intro W base args ds gs before hval0 hW hcnd _
  have hval : ∀ (j : Nat) t v, Try.f17.params[j]? = some t → args[j]? = some v → Value.okWide Try.prog W .any base t v := hval0
  have hW' := hW
  obtain ⟨p, q, hA0, hV, rfl, hfz, hnd⟩ := hW
  have hA : DataW.TrodAll enc Try.prog W 0 (fun _ => true) true Try.f17.params.toList args.toList ds p := hA0
  rw [Try.params17] at hA hval
  obtain ⟨v0, vs0, d0, ds0, p0, q0, hargs, rfl, rfl, h0, r0⟩ := trodAll_cons hA
  obtain ⟨v1, vs1, d1, ds1, p1, q1, rfl, rfl, rfl, h1, r1⟩ := trodAll_cons r0
  obtain ⟨v2, vs2, d2, ds2, p2, q2, rfl, rfl, rfl, h2, r2⟩ := trodAll_cons r1
  obtain ⟨rfl, rfl, rfl⟩ := trodAll_nil r2
  obtain rfl : args = #[v0, v1, v2] := by cases args; simp_all
  obtain ⟨rfl, rfl⟩ := trodVars_none hV
  have k0 := h0
  have lt0 : ∀ x ∈ p0, x.block < W.heap.size := by obtain ⟨m, hm⟩ := k0; exact DataW.trod_lt m _ _ _ hm
  have k1 := h1
  have lt1 : ∀ x ∈ p1, x.block < W.heap.size := by obtain ⟨m, hm⟩ := k1; exact DataW.trod_lt m _ _ _ hm
  have k2 := h2
  have lt2 : ∀ x ∈ p2, x.block < W.heap.size := by obtain ⟨m, hm⟩ := k2; exact DataW.trod_lt m _ _ _ hm
  have hv0 := hval 0 61 v0 rfl rfl
  obtain ⟨c0_0, c0_1, c0_2, c0_3, c0_4, c0_5, c0_6, c0_7, ec0⟩ : ∃ c0_0 c0_1 c0_2 c0_3 c0_4 c0_5 c0_6 c0_7 : Int, v0 = .agg #[.int .i64 c0_0, .int .i64 c0_1, .int .i64 c0_2, .int .i64 c0_3, .int .i64 c0_4, .int .i64 c0_5, .int .i64 c0_6, .int .i64 c0_7] := by
    obtain ⟨cs, e1, e2⟩ := okWide_struct Try.underlying61 hv0
    subst e1
    obtain ⟨b0, b1, b2, b3, b4, b5, b6, b7, e3⟩ := arr8 (e2.trans (by kernel_rfl : Try.prog.cellsOf 61 = 8))
    subst e3
    obtain ⟨fuel, hf⟩ := h0
    replace hf : DataW.trod enc Try.prog W 0 (fun _ => true) true fuel 61 [b0, b1, b2, b3, b4, b5, b6, b7] = some (d0, p0) := hf
    obtain ⟨m0, x0, s0⟩ := leaf Try.underlying61 hf 0 _ rfl
    obtain ⟨n0, y0, t0⟩ := leaf Try.underlying54 s0 0 _ rfl
    obtain ⟨z0, g0, _, u0⟩ := DataW.trod_int Try.underlying3 t0
    simp [cellsInt, cellsRayMode] at g0
    obtain ⟨m1, x1, s1⟩ := leaf Try.underlying61 hf 0 _ rfl
    obtain ⟨n1, y1, t1⟩ := leaf Try.underlying54 s1 1 _ rfl
    obtain ⟨z1, g1, _, u1⟩ := DataW.trod_int Try.underlying3 t1
    simp [cellsInt, cellsRayMode] at g1
    obtain ⟨m2, x2, s2⟩ := leaf Try.underlying61 hf 0 _ rfl
    obtain ⟨n2, y2, t2⟩ := leaf Try.underlying54 s2 2 _ rfl
    obtain ⟨z2, g2, _, u2⟩ := DataW.trod_int Try.underlying3 t2
    simp [cellsInt, cellsRayMode] at g2
    obtain ⟨m3, x3, s3⟩ := leaf Try.underlying61 hf 0 _ rfl
    obtain ⟨n3, y3, t3⟩ := leaf Try.underlying54 s3 3 _ rfl
    obtain ⟨z3, g3, _, u3⟩ := DataW.trod_int Try.underlying3 t3
    simp [cellsInt, cellsRayMode] at g3
    obtain ⟨m4, x4, s4⟩ := leaf Try.underlying61 hf 1 _ rfl
    obtain ⟨n4, y4, t4⟩ := leaf Try.underlying23 s4 0 _ rfl
    obtain ⟨z4, g4, _, u4⟩ := DataW.trod_int Try.underlying3 t4
    simp [cellsInt, cellsSpot] at g4
    obtain ⟨m5, x5, s5⟩ := leaf Try.underlying61 hf 1 _ rfl
    obtain ⟨n5, y5, t5⟩ := leaf Try.underlying23 s5 1 _ rfl
    obtain ⟨z5, g5, _, u5⟩ := DataW.trod_int Try.underlying3 t5
    simp [cellsInt, cellsSpot] at g5
    obtain ⟨m6, x6, s6⟩ := leaf Try.underlying61 hf 2 _ rfl
    obtain ⟨n6, y6, t6⟩ := leaf Try.underlying23 s6 0 _ rfl
    obtain ⟨z6, g6, _, u6⟩ := DataW.trod_int Try.underlying3 t6
    simp [cellsInt, cellsSpot] at g6
    obtain ⟨m7, x7, s7⟩ := leaf Try.underlying61 hf 2 _ rfl
    obtain ⟨n7, y7, t7⟩ := leaf Try.underlying23 s7 1 _ rfl
    obtain ⟨z7, g7, _, u7⟩ := DataW.trod_int Try.underlying3 t7
    simp [cellsInt, cellsSpot] at g7
    exact ⟨z0, z1, z2, z3, z4, z5, z6, z7, by rw [g0, g1, g2, g3, g4, g5, g6, g7]⟩
  subst ec0
  have hv1 := hval 1 3 v1 rfl rfl
  obtain ⟨a1, ea1, wf1⟩ : ∃ z : Int, v1 = .int .i64 z ∧ (Lit.int .i64 z).wf = true := by
    obtain ⟨z, e1, _, _, e2⟩ := open_int Try.underlying3 hv1 h1
    exact ⟨z, e1, e2⟩
  subst ea1
  have hv2 := hval 2 114 v2 rfl rfl
  obtain ⟨c2_0, c2_1, c2_2, c2_3, ec2⟩ : ∃ c2_0 c2_1 c2_2 c2_3 : Int, v2 = .agg #[.int .i64 c2_0, .int .i64 c2_1, .int .i64 c2_2, .int .i64 c2_3] := by
    obtain ⟨cs, e1, e2⟩ := okWide_array Try.underlying114 hv2
    subst e1
    obtain ⟨b0, b1, b2, b3, e3⟩ := arr4 (e2.trans (by kernel_rfl : Try.prog.cellsOf 114 = 4))
    subst e3
    obtain ⟨fuel, hf⟩ := h2
    replace hf : DataW.trod enc Try.prog W 0 (fun _ => true) true fuel 114 [b0, b1, b2, b3] = some (d2, p2) := hf
    obtain ⟨n0, y0, t0⟩ := leafA Try.underlying114 hf 0 (by decide)
    obtain ⟨z0, g0, _, u0⟩ := DataW.trod_int Try.underlying3 t0
    simp [cellsInt] at g0
    obtain ⟨n1, y1, t1⟩ := leafA Try.underlying114 hf 1 (by decide)
    obtain ⟨z1, g1, _, u1⟩ := DataW.trod_int Try.underlying3 t1
    simp [cellsInt] at g1
    obtain ⟨n2, y2, t2⟩ := leafA Try.underlying114 hf 2 (by decide)
    obtain ⟨z2, g2, _, u2⟩ := DataW.trod_int Try.underlying3 t2
    simp [cellsInt] at g2
    obtain ⟨n3, y3, t3⟩ := leafA Try.underlying114 hf 3 (by decide)
    obtain ⟨z3, g3, _, u3⟩ := DataW.trod_int Try.underlying3 t3
    simp [cellsInt] at g3
    exact ⟨z0, z1, z2, z3, by rw [g0, g1, g2, g3]⟩
  subst ec2
  clear hA0 hval0
  refine (nofaster_any ⟨⟨c0_0, c0_1, c0_2, c0_3⟩, c0_4, c0_5, c0_6, c0_7⟩ a1 c2_0 c2_1 c2_2 c2_3 W).mono fun e W' ⟨he, bel⟩ => ?_
  subst he
  exact ⟨_, rfl, _, _, _, [], _, [], hW', trodAll_mk1 (shut_bool Try.underlying4 _), (trodAll_cons_mk (Below.trod laidOut (by kernel_rfl) (of_decide_eq_true (by kernel_rfl)) k0 bel lt0) (trodAll_cons_mk (Below.trod laidOut (by kernel_rfl) (of_decide_eq_true (by kernel_rfl)) k1 bel lt1) (trodAll_cons_mk (Below.trod laidOut (by kernel_rfl) (of_decide_eq_true (by kernel_rfl)) k2 bel lt2) trodAll_mk0))), rfl, bel.frame _, fun h => by cases h⟩

theorem facts : joinedFacts Try.pinned.checked.prog 17 Try.f17 Rows.topNoFasterWaySpec Rows.topNoFasterWayRow = true := by
  unfold joinedFacts
  repeat' (with_reducible refine and_mk ?_ ?_)
  all_goals (first | (with_reducible exact z_enter) | (with_reducible exact z_laid) | (with_reducible exact z_maps) | (with_reducible exact z_heard) | (with_reducible refine z_liftB ?_; kernel_rfl) | (with_reducible refine z_makeB ?_; kernel_rfl) | (with_reducible refine z_plainB ?_; kernel_rfl) | kernel_rfl)
theorem over : Rows.topNoFasterWayRow.holds Try.pinned (OpenSpec.ofChange Rows.topNoFasterWaySpec) :=
  OpenClaim.holds_of_wide 17 Try.f17 rfl rfl rfl rfl rfl rfl rfl ⟨rfl, rfl, rfl, rfl, rfl⟩ rfl rfl rfl rfl rfl (by kernel_rfl) Try.func17 facts
    (of_decide_eq_true (by kernel_rfl)) (by unfold Func.isWrapper; first | (rw [if_pos (by decide +kernel)]; kernel_rfl) | (rw [if_neg (by decide +kernel)]; exact ⟨rfl, rfl⟩))
    (fun os started H enc _ => lifted os started H enc)

theorem proved : Rows.TopNoFasterWaySaid := over
#print axioms proved
end TopNoFasterWayP
end Go.Proofs.Ytdicndakelgoeaa
