/- For every array and direction (of at most 18 elements): the law of the direction is that of the reference, or the error; moved as a whole (by at most 1000), the array has the same law. What the row lists is all that it wants. -/
import Derived.Test.YtkkaomgdlnejcaaGreatDoorL0
import Derived.Test.YtkkaomgdlnejcaaGreatDoorL1
import Derived.Test.YtkkaomgdlnejcaaGreatDoorU8
import Derived.Test.YtkkaomgdlnejcaaGreatDoorTf
import Derived.Test.YtkkaomgdlnejcaaGreatDoorU5
import Derived.Test.YtkkaomgdlnejcaaGreatDoorCards
import Derived.Test.YtkkaomgdlnejcaaGreatDoorTie
namespace Go.Proofs.YtkkaomgdlnejcaaGreatDoor
open Go.ChangeShapes Go.WideShapes Go.ChangeAt Go.RowKit RayM
set_option linter.unusedVariables false
set_option linter.unusedSimpArgs false
namespace LawPlanesP
theorem cT0 : Tryz.prog.cellsOf 26 = 6 := by kernel_rfl
theorem cT1 : Tryz.prog.cellsOf 28 = 3 := by kernel_rfl
theorem cT2 : Tryz.prog.cellsOf 24 = 4 := by kernel_rfl
theorem cSl2 : Tryz.prog.cellsOf 22 = 1 := by kernel_rfl
theorem arrS3 {a : Array Value} (h : a.size = 3) : ∃ b0 b1 b2 : Value, a = #[b0, b1, b2] := by
  obtain ⟨l⟩ := a
  match l, h with
  | [b0, b1, b2], _ => exact ⟨b0, b1, b2, rfl⟩
theorem arrS6 {a : Array Value} (h : a.size = 6) : ∃ b0 b1 b2 b3 b4 b5 : Value, a = #[b0, b1, b2, b3, b4, b5] := by
  obtain ⟨l⟩ := a
  match l, h with
  | [b0, b1, b2, b3, b4, b5], _ => exact ⟨b0, b1, b2, b3, b4, b5, rfl⟩
set_option maxRecDepth 100000 in
set_option maxHeartbeats 1000000 in
theorem lifted (os : Os) (started : os.Started) (H : Type) (enc : TypeId × Value → H) :
    ReturnsInHanded {} Tryz.checked os 3 .any (fun w args => (Rows.lawPlanesSpec.pre enc Tryz.prog Tryz.f3 Rows.lawPlanesRow.domain false w args ∧ laidMetH Tryz.prog Rows.lawPlanesRow.laid w) ∧ sizedMet enc Tryz.prog Tryz.f3 (OpenSpec.ofChange Rows.lawPlanesSpec) false w args) (Rows.lawPlanesSpec.post enc Tryz.prog Tryz.f3 false true false false) := by
  refine returnsInHanded_both (C := Tryz.checked) (X := fun w _ => laidMetH Tryz.prog Rows.lawPlanesRow.laid w) (fun _ _ _ hh h => h.of_heap hh) own started (by kernel_rfl) Tryz.func3
    (ChangeSpec.witness_shaped (enc := enc) (C := Tryz.checked) (os := os) (X := fun w _ => laidMetH Tryz.prog Rows.lawPlanesRow.laid w) false (World.laidAll Tryz.prog os Rows.lawPlanesRow.laid) #[.agg #[.slice none 0 0, .int .i64 0, .int .i64 0, .int .i64 0, .int .i64 0, .int .i64 0], .agg #[.int .i64 0, .int .i64 0, .int .i64 0], .int .i64 0] 8 (World.laidAll_os _ _ _)
      (World.shaped_of_ZipB (by kernel_rfl) (by kernel_rfl)) (by kernel_rfl) (by kernel_rfl) (by kernel_rfl)
      (by rw [MakeChecks.laidMetH_plain _ _ _ (by kernel_rfl)]; exact laidMet_laidAll _ (by kernel_rfl) (by kernel_rfl))) ?_
  intro W base args ds gs before hval0 hW hcnd hLaid hShape
  have hL := laid_of hLaid hShape
  have hval : ∀ (j : Nat) t v, Tryz.f3.params[j]? = some t → args[j]? = some v → Value.okWide Tryz.prog W .any base t v := hval0
  have hW' := hW
  obtain ⟨p, q, hA0, hV, rfl, hfz, hnd⟩ := hW
  have hA : DataW.TrodAll enc Tryz.prog W 0 (fun _ => true) true Tryz.f3.params.toList args.toList ds p := hA0
  rw [Tryz.params3] at hA hval
  obtain ⟨v0, vs0, d0, ds0, p0, q0, hargs, rfl, rfl, h0, r0⟩ := trodAll_cons hA
  obtain ⟨v1, vs1, d1, ds1, p1, q1, rfl, rfl, rfl, h1, r1⟩ := trodAll_cons r0
  obtain ⟨v2, vs2, d2, ds2, p2, q2, rfl, rfl, rfl, h2, r2⟩ := trodAll_cons r1
  obtain ⟨rfl, rfl, rfl⟩ := trodAll_nil r2
  obtain rfl : args = #[v0, v1, v2] := by cases args; simp_all
  obtain ⟨rfl, rfl⟩ := trodVars_none hV
  have k0 := h0
  have lt0 : ∀ x ∈ p0, x.block < W.heap.size := by obtain ⟨m, hm⟩ := k0; exact DataW.trod_lt m _ _ _ hm
  have k1 := h1
  have lt1 : ∀ x ∈ p1, x.block < W.heap.size := by obtain ⟨m, hm⟩ := k1; exact DataW.trod_lt m _ _ _ hm
  have k2 := h2
  have lt2 : ∀ x ∈ p2, x.block < W.heap.size := by obtain ⟨m, hm⟩ := k2; exact DataW.trod_lt m _ _ _ hm
  have hv0 := hval 0 26 v0 rfl rfl
  obtain ⟨A0_0, n0_0, c0_0, l0_0, z0_1, z0_2, z0_3, z0_4, z0_5, ec0, m0_0, o0_0, s0_0⟩ : ∃ (A0_0 : Option Addr) (n0_0 c0_0 : Nat) (l0_0 : Nat → Sp) (z0_1 : Int) (z0_2 : Int) (z0_3 : Int) (z0_4 : Int) (z0_5 : Int), v0 = .agg #[.slice A0_0 n0_0 c0_0, .int .i64 z0_1, .int .i64 z0_2, .int .i64 z0_3, .int .i64 z0_4, .int .i64 z0_5] ∧ n0_0 ≤ maxLen ∧ (A0_0 = none → n0_0 = 0 ∧ c0_0 = 0) ∧ SpAt A0_0 n0_0 l0_0 W := by
    obtain ⟨cs, e1, e2⟩ := okWide_struct Tryz.underlying26 hv0
    subst e1
    obtain ⟨b0, b1, b2, b3, b4, b5, e3⟩ := arrS6 (e2.trans cT0)
    subst e3
    obtain ⟨fuel, hf⟩ := h0
    replace hf : DataW.trod enc Tryz.prog W 0 (fun _ => true) true fuel 26 [b0, b1, b2, b3, b4, b5] = some (d0, p0) := hf
    obtain ⟨m0_0, x0_0, t0_0⟩ := leaf Tryz.underlying26 hf 0 _ rfl
    obtain ⟨A0, n0, c0, l0, g0, f0, o0, s0⟩ := open_spots t0_0
    simp [cellsInt, cSl2, cT0, cT1, cT2] at g0
    obtain ⟨m1_0, x1_0, t1_0⟩ := leaf Tryz.underlying26 hf 1 _ rfl
    obtain ⟨m1_1, x1_1, t1_1⟩ := leaf Tryz.underlying24 t1_0 0 _ rfl
    obtain ⟨z1, g1, _, u1⟩ := DataW.trod_int Tryz.underlying3 t1_1
    simp [cellsInt, cSl2, cT0, cT1, cT2] at g1
    obtain ⟨m2_0, x2_0, t2_0⟩ := leaf Tryz.underlying26 hf 1 _ rfl
    obtain ⟨m2_1, x2_1, t2_1⟩ := leaf Tryz.underlying24 t2_0 1 _ rfl
    obtain ⟨z2, g2, _, u2⟩ := DataW.trod_int Tryz.underlying3 t2_1
    simp [cellsInt, cSl2, cT0, cT1, cT2] at g2
    obtain ⟨m3_0, x3_0, t3_0⟩ := leaf Tryz.underlying26 hf 1 _ rfl
    obtain ⟨m3_1, x3_1, t3_1⟩ := leaf Tryz.underlying24 t3_0 2 _ rfl
    obtain ⟨z3, g3, _, u3⟩ := DataW.trod_int Tryz.underlying3 t3_1
    simp [cellsInt, cSl2, cT0, cT1, cT2] at g3
    obtain ⟨m4_0, x4_0, t4_0⟩ := leaf Tryz.underlying26 hf 1 _ rfl
    obtain ⟨m4_1, x4_1, t4_1⟩ := leaf Tryz.underlying24 t4_0 3 _ rfl
    obtain ⟨z4, g4, _, u4⟩ := DataW.trod_int Tryz.underlying3 t4_1
    simp [cellsInt, cSl2, cT0, cT1, cT2] at g4
    obtain ⟨m5_0, x5_0, t5_0⟩ := leaf Tryz.underlying26 hf 2 _ rfl
    obtain ⟨z5, g5, _, u5⟩ := DataW.trod_int Tryz.underlying3 t5_0
    simp [cellsInt, cSl2, cT0, cT1, cT2] at g5
    exact ⟨A0, n0, c0, l0, z1, z2, z3, z4, z5, by rw [g0, g1, g2, g3, g4, g5], f0, o0, s0⟩
  subst ec0
  have hv1 := hval 1 28 v1 rfl rfl
  obtain ⟨z1_0, z1_1, z1_2, ec1⟩ : ∃ (z1_0 : Int) (z1_1 : Int) (z1_2 : Int), v1 = .agg #[.int .i64 z1_0, .int .i64 z1_1, .int .i64 z1_2] := by
    obtain ⟨cs, e1, e2⟩ := okWide_struct Tryz.underlying28 hv1
    subst e1
    obtain ⟨b0, b1, b2, e3⟩ := arrS3 (e2.trans cT1)
    subst e3
    obtain ⟨fuel, hf⟩ := h1
    replace hf : DataW.trod enc Tryz.prog W 0 (fun _ => true) true fuel 28 [b0, b1, b2] = some (d1, p1) := hf
    obtain ⟨m0_0, x0_0, t0_0⟩ := leaf Tryz.underlying28 hf 0 _ rfl
    obtain ⟨z0, g0, _, u0⟩ := DataW.trod_int Tryz.underlying3 t0_0
    simp [cellsInt, cSl2, cT0, cT1, cT2] at g0
    obtain ⟨m1_0, x1_0, t1_0⟩ := leaf Tryz.underlying28 hf 1 _ rfl
    obtain ⟨z1, g1, _, u1⟩ := DataW.trod_int Tryz.underlying3 t1_0
    simp [cellsInt, cSl2, cT0, cT1, cT2] at g1
    obtain ⟨m2_0, x2_0, t2_0⟩ := leaf Tryz.underlying28 hf 2 _ rfl
    obtain ⟨z2, g2, _, u2⟩ := DataW.trod_int Tryz.underlying3 t2_0
    simp [cellsInt, cSl2, cT0, cT1, cT2] at g2
    exact ⟨z0, z1, z2, by rw [g0, g1, g2]⟩
  subst ec1
  have hv2 := hval 2 3 v2 rfl rfl
  obtain ⟨z2_0, ec2⟩ : ∃ (z2_0 : Int), v2 = .int .i64 z2_0 := by
    obtain ⟨z, e1, _, _, e2⟩ := open_int Tryz.underlying3 hv2 h2
    exact ⟨z, e1⟩
  subst ec2
  clear hA0 hval0
  refine (planes_any ⟨l0_0, n0_0, ⟨z0_1, z0_2, z0_3, z0_4⟩, z0_5⟩ z1_0 z1_1 z1_2 z2_0 A0_0 c0_0 W hL (Lib.hid awake_any) o0_0 s0_0).mono fun e W' ⟨he, bel⟩ => ?_
  subst he
  exact ⟨_, rfl, _, _, _, [], _, [], hW', trodAll_mk1 (shut_bool Tryz.underlying4 _), (trodAll_cons_mk (Below.trod laidOut (by kernel_rfl) (of_decide_eq_true (by kernel_rfl)) k0 bel lt0) (trodAll_cons_mk (Below.trod laidOut (by kernel_rfl) (of_decide_eq_true (by kernel_rfl)) k1 bel lt1) (trodAll_cons_mk (Below.trod laidOut (by kernel_rfl) (of_decide_eq_true (by kernel_rfl)) k2 bel lt2) trodAll_mk0))), rfl, bel.frame _, fun h => by cases h⟩
end LawPlanesP
end Go.Proofs.YtkkaomgdlnejcaaGreatDoor
