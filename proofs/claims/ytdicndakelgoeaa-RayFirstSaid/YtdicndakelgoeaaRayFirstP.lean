/- For every list of modes and both places, MayBeFirst returns what the reference specifies, or the errors; one at least may be first. No condition. -/
import Derived.Test.YtdicndakelgoeaaL0
import Derived.Test.YtdicndakelgoeaaZ0
import Derived.Deep.Slices
import Derived.Test.YtdicndakelgoeaaB10
namespace Go.Proofs.Ytdicndakelgoeaa
open Go.ChangeShapes Go.WideShapes Go.ChangeAt Go.RowKit RayM
set_option linter.unusedVariables false
set_option linter.unusedSimpArgs false
namespace RayFirstP
theorem cellsRayMode : Try.prog.cellsOf 54 = 4 := by kernel_rfl
instance : Inhabited Mo := ⟨⟨0, 0, 0, 0⟩⟩
set_option maxRecDepth 100000 in
set_option maxHeartbeats 1000000 in
theorem lifted (os : Os) (started : os.Started) (H : Type) (enc : TypeId × Value → H) :
    ReturnsInHanded {} Try.checked os 13 .any (Rows.rayFirstSpec.pre6 enc Try.prog Try.f13 Rows.rayFirstRow.domain false) (Rows.rayFirstSpec.post enc Try.prog Try.f13 false true false false) := by
  refine returnsInHanded_of_change (C := Try.checked) own started (by kernel_rfl) Try.func13
    (ChangeSpec.witness6 (enc := enc) (C := Try.checked) false ⟨#[], #[.slice none 0 0, .agg #[.int .i64 0, .int .i64 0], .agg #[.int .i64 0, .int .i64 0]], []⟩ 8 (by kernel_rfl) (by kernel_rfl) (by kernel_rfl) (by kernel_rfl)) ?_
  intro W base args ds gs before hval0 hW hcnd _
  have hval : ∀ (j : Nat) t v, Try.f13.params[j]? = some t → args[j]? = some v → Value.okWide Try.prog W .any base t v := hval0
  have hW' := hW
  obtain ⟨p, q, hA0, hV, rfl, hfz, hnd⟩ := hW
  have hA : DataW.TrodAll enc Try.prog W 0 (fun _ => true) true Try.f13.params.toList args.toList ds p := hA0
  rw [Try.params13] at hA hval
  obtain ⟨v0, vs0, d0, ds0, p0, q0, hargs, rfl, rfl, h0, r0⟩ := trodAll_cons hA
  obtain ⟨v1, vs1, d1, ds1, p1, q1, rfl, rfl, rfl, h1, r1⟩ := trodAll_cons r0
  obtain ⟨v2, vs2, d2, ds2, p2, q2, rfl, rfl, rfl, h2, r2⟩ := trodAll_cons r1
  obtain ⟨rfl, rfl, rfl⟩ := trodAll_nil r2
  obtain rfl : args = #[v0, v1, v2] := by cases args; simp_all
  obtain ⟨rfl, rfl⟩ := trodVars_none hV
  have k0 := h0
  have lt0 : ∀ x ∈ p0, x.block < W.heap.size := by obtain ⟨m, hm⟩ := k0; exact DataW.trod_lt m _ _ _ hm
  have k1 := h1
  have lt1 : ∀ x ∈ p1, x.block < W.heap.size := by obtain ⟨m, hm⟩ := k1; exact DataW.trod_lt m _ _ _ hm
  have k2 := h2
  have lt2 : ∀ x ∈ p2, x.block < W.heap.size := by obtain ⟨m, hm⟩ := k2; exact DataW.trod_lt m _ _ _ hm
  obtain ⟨A0, n0, c0, ms0, ec0, mx0, at0⟩ : ∃ (A : Option Addr) (n c : Nat) (ms : Nat → Mo), v0 = .slice A n c ∧ n ≤ maxLen ∧ ((A = none ∧ n = 0 ∧ c = 0) ∨ ∃ a, A = some a ∧ ∀ i, i < n → W.cell? (a.add (i * 4)) = some (.int .i64 (ms i).wd) ∧ W.cell? (a.add (i * 4 + 1)) = some (.int .i64 (ms i).mt) ∧ W.cell? (a.add (i * 4 + 2)) = some (.int .i64 (ms i).sk) ∧ W.cell? (a.add (i * 4 + 3)) = some (.int .i64 (ms i).th)) := by
    obtain ⟨A', n', c', e0⟩ := okWide_slice Try.underlying88 (hval 0 88 v0 rfl rfl)
    subst e0
    obtain ⟨fuel, hf⟩ := h0
    replace hf : DataW.trod enc Try.prog W 0 (fun _ => true) true fuel 88 [.slice A' n' c'] = some (d0, p0) := hf
    rcases Go.Deep.open_slice Try.underlying88 hf with ⟨e1, _⟩ | ⟨a, len, cap, m, nf, D, Pl, e1, _, hle, hmx, hm, _, hx⟩
    · exact ⟨none, 0, 0, fun _ => ⟨0, 0, 0, 0⟩, by simpa using e1, Nat.zero_le _, Or.inl ⟨rfl, rfl, rfl⟩⟩
    · have one : ∀ i, i < len → ∃ q : Mo, W.cell? (a.add (i * 4)) = some (.int .i64 q.wd) ∧ W.cell? (a.add (i * 4 + 1)) = some (.int .i64 q.mt) ∧ W.cell? (a.add (i * 4 + 2)) = some (.int .i64 q.sk) ∧ W.cell? (a.add (i * 4 + 3)) = some (.int .i64 q.th) := by
        intro i hi
        obtain ⟨cs, hc1, hc2⟩ := hx i (by rw [hm]; simp; omega)
        rw [cellsRayMode] at hc1
        obtain ⟨_, hlen, hcell⟩ := World.cells?_some hc1
        obtain ⟨b0, b1, b2, b3, rfl⟩ : ∃ b0 b1 b2 b3 : Value, cs = [b0, b1, b2, b3] := by
          match cs, hlen with
          | [b0, b1, b2, b3], _ => exact ⟨b0, b1, b2, b3, rfl⟩
        have q0 := hcell 0 (by omega)
        have q1 := hcell 1 (by omega)
        have q2 := hcell 2 (by omega)
        have q3 := hcell 3 (by omega)
        rw [Go.Deep.add_add] at q0 q1 q2 q3
        simp only [List.getElem?_cons_zero, List.getElem?_cons_succ, Nat.add_zero] at q0 q1 q2 q3
        obtain ⟨n0, y0, t0⟩ := leaf Try.underlying54 hc2 0 _ rfl
        obtain ⟨z0, g0, _, u0⟩ := DataW.trod_int Try.underlying3 t0
        simp [cellsInt, cellsRayMode] at g0
        obtain ⟨n1, y1, t1⟩ := leaf Try.underlying54 hc2 1 _ rfl
        obtain ⟨z1, g1, _, u1⟩ := DataW.trod_int Try.underlying3 t1
        simp [cellsInt, cellsRayMode] at g1
        obtain ⟨n2, y2, t2⟩ := leaf Try.underlying54 hc2 2 _ rfl
        obtain ⟨z2, g2, _, u2⟩ := DataW.trod_int Try.underlying3 t2
        simp [cellsInt, cellsRayMode] at g2
        obtain ⟨n3, y3, t3⟩ := leaf Try.underlying54 hc2 3 _ rfl
        obtain ⟨z3, g3, _, u3⟩ := DataW.trod_int Try.underlying3 t3
        simp [cellsInt, cellsRayMode] at g3
        exact ⟨⟨z0, z1, z2, z3⟩, by rw [q0, g0], by rw [q1, g1], by rw [q2, g2], by rw [q3, g3]⟩
      obtain ⟨ms, hms⟩ := Go.Deep.choose_lt one
      exact ⟨some a, len, cap, ms, by simpa using e1, by omega, Or.inr ⟨a, rfl, hms⟩⟩
  subst ec0
  have hv1 := hval 1 23 v1 rfl rfl
  obtain ⟨c1_0, c1_1, ec1⟩ : ∃ c1_0 c1_1 : Int, v1 = .agg #[.int .i64 c1_0, .int .i64 c1_1] := by
    obtain ⟨cs, e1, e2⟩ := okWide_struct Try.underlying23 hv1
    subst e1
    obtain ⟨b0, b1, e3⟩ := arr2 (e2.trans (by kernel_rfl : Try.prog.cellsOf 23 = 2))
    subst e3
    obtain ⟨fuel, hf⟩ := h1
    replace hf : DataW.trod enc Try.prog W 0 (fun _ => true) true fuel 23 [b0, b1] = some (d1, p1) := hf
    obtain ⟨n0, y0, t0⟩ := leaf Try.underlying23 hf 0 _ rfl
    obtain ⟨z0, g0, _, u0⟩ := DataW.trod_int Try.underlying3 t0
    simp [cellsInt] at g0
    obtain ⟨n1, y1, t1⟩ := leaf Try.underlying23 hf 1 _ rfl
    obtain ⟨z1, g1, _, u1⟩ := DataW.trod_int Try.underlying3 t1
    simp [cellsInt] at g1
    exact ⟨z0, z1, by rw [g0, g1]⟩
  subst ec1
  have hv2 := hval 2 23 v2 rfl rfl
  obtain ⟨c2_0, c2_1, ec2⟩ : ∃ c2_0 c2_1 : Int, v2 = .agg #[.int .i64 c2_0, .int .i64 c2_1] := by
    obtain ⟨cs, e1, e2⟩ := okWide_struct Try.underlying23 hv2
    subst e1
    obtain ⟨b0, b1, e3⟩ := arr2 (e2.trans (by kernel_rfl : Try.prog.cellsOf 23 = 2))
    subst e3
    obtain ⟨fuel, hf⟩ := h2
    replace hf : DataW.trod enc Try.prog W 0 (fun _ => true) true fuel 23 [b0, b1] = some (d2, p2) := hf
    obtain ⟨n0, y0, t0⟩ := leaf Try.underlying23 hf 0 _ rfl
    obtain ⟨z0, g0, _, u0⟩ := DataW.trod_int Try.underlying3 t0
    simp [cellsInt] at g0
    obtain ⟨n1, y1, t1⟩ := leaf Try.underlying23 hf 1 _ rfl
    obtain ⟨z1, g1, _, u1⟩ := DataW.trod_int Try.underlying3 t1
    simp [cellsInt] at g1
    exact ⟨z0, z1, by rw [g0, g1]⟩
  subst ec2
  clear hA0 hval0
  refine (firsts_any ⟨ms0, n0, c1_0, c1_1, c2_0, c2_1⟩ A0 c0 mx0 W at0).mono fun e W' ⟨he, bel⟩ => ?_
  subst he
  exact ⟨_, rfl, _, _, _, [], _, [], hW', trodAll_mk1 (shut_bool Try.underlying4 _), (trodAll_cons_mk (Below.trod laidOut (by kernel_rfl) (of_decide_eq_true (by kernel_rfl)) k0 bel lt0) (trodAll_cons_mk (Below.trod laidOut (by kernel_rfl) (of_decide_eq_true (by kernel_rfl)) k1 bel lt1) (trodAll_cons_mk (Below.trod laidOut (by kernel_rfl) (of_decide_eq_true (by kernel_rfl)) k2 bel lt2) trodAll_mk0))), rfl, bel.frame _, fun h => by cases h⟩

theorem facts : joinedFacts Try.pinned.checked.prog 13 Try.f13 Rows.rayFirstSpec Rows.rayFirstRow = true := by
  unfold joinedFacts
  repeat' (with_reducible refine and_mk ?_ ?_)
  all_goals (first | (with_reducible exact z_enter) | (with_reducible exact z_laid) | (with_reducible exact z_maps) | (with_reducible exact z_heard) | (with_reducible refine z_liftB ?_; kernel_rfl) | (with_reducible refine z_makeB ?_; kernel_rfl) | (with_reducible refine z_plainB ?_; kernel_rfl) | kernel_rfl)
theorem over : Rows.rayFirstRow.holds Try.pinned (OpenSpec.ofChange Rows.rayFirstSpec) :=
  OpenClaim.holds_of_wide 13 Try.f13 rfl rfl rfl rfl rfl rfl rfl ⟨rfl, rfl, rfl, rfl, rfl⟩ rfl rfl rfl rfl rfl (by kernel_rfl) Try.func13 facts
    (of_decide_eq_true (by kernel_rfl)) (by unfold Func.isWrapper; first | (rw [if_pos (by decide +kernel)]; kernel_rfl) | (rw [if_neg (by decide +kernel)]; exact ⟨rfl, rfl⟩))
    (fun os started H enc _ => lifted os started H enc)

theorem proved : Rows.RayFirstSaid := over
#print axioms proved
end RayFirstP
end Go.Proofs.Ytdicndakelgoeaa
