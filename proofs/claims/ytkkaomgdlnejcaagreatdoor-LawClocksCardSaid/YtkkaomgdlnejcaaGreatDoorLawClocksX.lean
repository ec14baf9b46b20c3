/- For every array, focus and clocks (of at most 18 elements, 6 clocks, or too many): the coarsest clock that still meets the focus is that of the reference, or the errors. What the row lists is all that it wants. -/
import Derived.Test.YtkkaomgdlnejcaaGreatDoorL0
import Derived.Test.YtkkaomgdlnejcaaGreatDoorL1
import Derived.Test.YtkkaomgdlnejcaaGreatDoorU8
import Derived.Test.YtkkaomgdlnejcaaGreatDoorTz
import Derived.Test.YtkkaomgdlnejcaaGreatDoorU5
import Derived.Test.YtkkaomgdlnejcaaGreatDoorCards
import Derived.Test.YtkkaomgdlnejcaaGreatDoorTie
namespace Go.Proofs.YtkkaomgdlnejcaaGreatDoor
open Go.ChangeShapes Go.WideShapes Go.ChangeAt Go.RowKit RayM
set_option linter.unusedVariables false
set_option linter.unusedSimpArgs false
namespace LawClocksP
theorem cT0 : Tryz.prog.cellsOf 26 = 6 := by kernel_rfl
theorem cT1 : Tryz.prog.cellsOf 56 = 2 := by kernel_rfl
theorem cT2 : Tryz.prog.cellsOf 24 = 4 := by kernel_rfl
theorem cT3 : Tryz.prog.cellsOf 45 = 2 := by kernel_rfl
theorem cSl1 : Tryz.prog.cellsOf 31 = 1 := by kernel_rfl
theorem cSl2 : Tryz.prog.cellsOf 22 = 1 := by kernel_rfl
theorem arrS2 {a : Array Value} (h : a.size = 2) : ∃ b0 b1 : Value, a = #[b0, b1] := by
  obtain ⟨l⟩ := a
  match l, h with
  | [b0, b1], _ => exact ⟨b0, b1, rfl⟩
theorem arrS6 {a : Array Value} (h : a.size = 6) : ∃ b0 b1 b2 b3 b4 b5 : Value, a = #[b0, b1, b2, b3, b4, b5] := by
  obtain ⟨l⟩ := a
  match l, h with
  | [b0, b1, b2, b3, b4, b5], _ => exact ⟨b0, b1, b2, b3, b4, b5, rfl⟩
set_option maxRecDepth 100000 in
set_option maxHeartbeats 1000000 in
theorem lifted (os : Os) (started : os.Started) (H : Type) (enc : TypeId × Value → H) :
    ReturnsInHanded {} Tryz.checked os 5 .any (fun w args => (Rows.lawClocksSpec.pre enc Tryz.prog Tryz.f5 Rows.lawClocksRow.domain false w args ∧ laidMetH Tryz.prog Rows.lawClocksRow.laid w) ∧ sizedMet enc Tryz.prog Tryz.f5 (OpenSpec.ofChange Rows.lawClocksSpec) false w args) (Rows.lawClocksSpec.post enc Tryz.prog Tryz.f5 false true false false) := by
  refine returnsInHanded_both (C := Tryz.checked) (X := fun w _ => laidMetH Tryz.prog Rows.lawClocksRow.laid w) (fun _ _ _ hh h => h.of_heap hh) own started (by kernel_rfl) Tryz.func5
    (ChangeSpec.witness_shaped (enc := enc) (C := Tryz.checked) (os := os) (X := fun w _ => laidMetH Tryz.prog Rows.lawClocksRow.laid w) false (World.laidAll Tryz.prog os Rows.lawClocksRow.laid) #[.agg #[.slice none 0 0, .int .i64 0, .int .i64 0, .int .i64 0, .int .i64 0, .int .i64 0], .agg #[.int .i64 0, .int .i64 0], .agg #[.slice none 0 0, .int .i64 0]] 8 (World.laidAll_os _ _ _)
      (World.shaped_of_ZipB (by kernel_rfl) (by kernel_rfl)) (by kernel_rfl) (by kernel_rfl) (by kernel_rfl)
      (by rw [MakeChecks.laidMetH_plain _ _ _ (by kernel_rfl)]; exact laidMet_laidAll _ (by kernel_rfl) (by kernel_rfl))) ?_
  intro W base args ds gs before hval0 hW hcnd hLaid hShape
  have hL := laid_of hLaid hShape
  have hval : ∀ (j : Nat) t v, Tryz.f5.params[j]? = some t → args[j]? = some v → Value.okWide Tryz.prog W .any base t v := hval0
  have hW' := hW
  obtain ⟨p, q, hA0, hV, rfl, hfz, hnd⟩ := hW
  have hA : DataW.TrodAll enc Tryz.prog W 0 (fun _ => true) true Tryz.f5.params.toList args.toList ds p := hA0
  rw [Tryz.params5] at hA hval
  obtain ⟨v0, vs0, d0, ds0, p0, q0, hargs, rfl, rfl, h0, r0⟩ := trodAll_cons hA
  obtain ⟨v1, vs1, d1, ds1, p1, q1, rfl, rfl, rfl, h1, r1⟩ := trodAll_cons r0
  obtain ⟨v2, vs2, d2, ds2, p2, q2, rfl, rfl, rfl, h2, r2⟩ := trodAll_cons r1
  obtain ⟨rfl, rfl, rfl⟩ := trodAll_nil r2
  obtain rfl : args = #[v0, v1, v2] := by cases args; simp_all
  obtain ⟨rfl, rfl⟩ := trodVars_none hV
  have k0 := h0
  have lt0 : ∀ x ∈ p0, x.block < W.heap.size := by obtain ⟨m, hm⟩ := k0; exact DataW.trod_lt m _ _ _ hm
  have k1 := h1
  have lt1 : ∀ x ∈ p1, x.block < W.heap.size := by obtain ⟨m, hm⟩ := k1; exact DataW.trod_lt m _ _ _ hm
  have k2 := h2
  have lt2 : ∀ x ∈ p2, x.block < W.heap.size := by obtain ⟨m, hm⟩ := k2; exact DataW.trod_lt m _ _ _ hm
  have hv0 := hval 0 26 v0 rfl rfl
  obtain ⟨A0_0, n0_0, c0_0, l0_0, z0_1, z0_2, z0_3, z0_4, z0_5, ec0, m0_0, o0_0, s0_0⟩ : ∃ (A0_0 : Option Addr) (n0_0 c0_0 : Nat) (l0_0 : Nat → Sp) (z0_1 : Int) (z0_2 : Int) (z0_3 : Int) (z0_4 : Int) (z0_5 : Int), v0 = .agg #[.slice A0_0 n0_0 c0_0, .int .i64 z0_1, .int .i64 z0_2, .int .i64 z0_3, .int .i64 z0_4, .int .i64 z0_5] ∧ n0_0 ≤ maxLen ∧ (A0_0 = none → n0_0 = 0 ∧ c0_0 = 0) ∧ SpAt A0_0 n0_0 l0_0 W := by
    obtain ⟨cs, e1, e2⟩ := okWide_struct Tryz.underlying26 hv0
    subst e1
    obtain ⟨b0, b1, b2, b3, b4, b5, e3⟩ := arrS6 (e2.trans cT0)
    subst e3
    obtain ⟨fuel, hf⟩ := h0
    replace hf : DataW.trod enc Tryz.prog W 0 (fun _ => true) true fuel 26 [b0, b1, b2, b3, b4, b5] = some (d0, p0) := hf
    obtain ⟨m0_0, x0_0, t0_0⟩ := leaf Tryz.underlying26 hf 0 _ rfl
    obtain ⟨A0, n0, c0, l0, g0, f0, o0, s0⟩ := open_spots t0_0
    simp [cellsInt, cSl1, cSl2, cT0, cT1, cT2, cT3] at g0
    obtain ⟨m1_0, x1_0, t1_0⟩ := leaf Tryz.underlying26 hf 1 _ rfl
    obtain ⟨m1_1, x1_1, t1_1⟩ := leaf Tryz.underlying24 t1_0 0 _ rfl
    obtain ⟨z1, g1, _, u1⟩ := DataW.trod_int Tryz.underlying3 t1_1
    simp [cellsInt, cSl1, cSl2, cT0, cT1, cT2, cT3] at g1
    obtain ⟨m2_0, x2_0, t2_0⟩ := leaf Tryz.underlying26 hf 1 _ rfl
    obtain ⟨m2_1, x2_1, t2_1⟩ := leaf Tryz.underlying24 t2_0 1 _ rfl
    obtain ⟨z2, g2, _, u2⟩ := DataW.trod_int Tryz.underlying3 t2_1
    simp [cellsInt, cSl1, cSl2, cT0, cT1, cT2, cT3] at g2
    obtain ⟨m3_0, x3_0, t3_0⟩ := leaf Tryz.underlying26 hf 1 _ rfl
    obtain ⟨m3_1, x3_1, t3_1⟩ := leaf Tryz.underlying24 t3_0 2 _ rfl
    obtain ⟨z3, g3, _, u3⟩ := DataW.trod_int Tryz.underlying3 t3_1
    simp [cellsInt, cSl1, cSl2, cT0, cT1, cT2, cT3] at g3
    obtain ⟨m4_0, x4_0, t4_0⟩ := leaf Tryz.underlying26 hf 1 _ rfl
    obtain ⟨m4_1, x4_1, t4_1⟩ := leaf Tryz.underlying24 t4_0 3 _ rfl
    obtain ⟨z4, g4, _, u4⟩ := DataW.trod_int Tryz.underlying3 t4_1
    simp [cellsInt, cSl1, cSl2, cT0, cT1, cT2, cT3] at g4
    obtain ⟨m5_0, x5_0, t5_0⟩ := leaf Tryz.underlying26 hf 2 _ rfl
    obtain ⟨z5, g5, _, u5⟩ := DataW.trod_int Tryz.underlying3 t5_0
    simp [cellsInt, cSl1, cSl2, cT0, cT1, cT2, cT3] at g5
    exact ⟨A0, n0, c0, l0, z1, z2, z3, z4, z5, by rw [g0, g1, g2, g3, g4, g5], f0, o0, s0⟩
  subst ec0
  have hv1 := hval 1 45 v1 rfl rfl
  obtain ⟨z1_0, z1_1, ec1⟩ : ∃ (z1_0 : Int) (z1_1 : Int), v1 = .agg #[.int .i64 z1_0, .int .i64 z1_1] := by
    obtain ⟨cs, e1, e2⟩ := okWide_struct Tryz.underlying45 hv1
    subst e1
    obtain ⟨b0, b1, e3⟩ := arrS2 (e2.trans cT3)
    subst e3
    obtain ⟨fuel, hf⟩ := h1
    replace hf : DataW.trod enc Tryz.prog W 0 (fun _ => true) true fuel 45 [b0, b1] = some (d1, p1) := hf
    obtain ⟨m0_0, x0_0, t0_0⟩ := leaf Tryz.underlying45 hf 0 _ rfl
    obtain ⟨z0, g0, _, u0⟩ := DataW.trod_int Tryz.underlying3 t0_0
    simp [cellsInt, cSl1, cSl2, cT0, cT1, cT2, cT3] at g0
    obtain ⟨m1_0, x1_0, t1_0⟩ := leaf Tryz.underlying45 hf 1 _ rfl
    obtain ⟨z1, g1, _, u1⟩ := DataW.trod_int Tryz.underlying3 t1_0
    simp [cellsInt, cSl1, cSl2, cT0, cT1, cT2, cT3] at g1
    exact ⟨z0, z1, by rw [g0, g1]⟩
  subst ec1
  have hv2 := hval 2 56 v2 rfl rfl
  obtain ⟨A2_0, n2_0, c2_0, l2_0, z2_1, ec2, m2_0, o2_0, s2_0⟩ : ∃ (A2_0 : Option Addr) (n2_0 c2_0 : Nat) (l2_0 : Nat → Int) (z2_1 : Int), v2 = .agg #[.slice A2_0 n2_0 c2_0, .int .i64 z2_1] ∧ n2_0 ≤ maxLen ∧ (A2_0 = none → n2_0 = 0 ∧ c2_0 = 0) ∧ InAt A2_0 n2_0 l2_0 W := by
    obtain ⟨cs, e1, e2⟩ := okWide_struct Tryz.underlying56 hv2
    subst e1
    obtain ⟨b0, b1, e3⟩ := arrS2 (e2.trans cT1)
    subst e3
    obtain ⟨fuel, hf⟩ := h2
    replace hf : DataW.trod enc Tryz.prog W 0 (fun _ => true) true fuel 56 [b0, b1] = some (d2, p2) := hf
    obtain ⟨m0_0, x0_0, t0_0⟩ := leaf Tryz.underlying56 hf 0 _ rfl
    obtain ⟨A0, n0, c0, l0, g0, f0, o0, s0⟩ := open_ints t0_0
    simp [cellsInt, cSl1, cSl2, cT0, cT1, cT2, cT3] at g0
    obtain ⟨m1_0, x1_0, t1_0⟩ := leaf Tryz.underlying56 hf 1 _ rfl
    obtain ⟨z1, g1, _, u1⟩ := DataW.trod_int Tryz.underlying3 t1_0
    simp [cellsInt, cSl1, cSl2, cT0, cT1, cT2, cT3] at g1
    exact ⟨A0, n0, c0, l0, z1, by rw [g0, g1], f0, o0, s0⟩
  subst ec2
  clear hA0 hval0
  refine (clocks_any ⟨l0_0, n0_0, ⟨z0_1, z0_2, z0_3, z0_4⟩, z0_5⟩ ⟨z1_0, z1_1⟩ l2_0 n2_0 z2_1 A0_0 c0_0 A2_0 c2_0 W hL (Lib.hid awake_any) o0_0 o2_0 s0_0 s2_0).mono fun e W' ⟨he, bel⟩ => ?_
  subst he
  exact ⟨_, rfl, _, _, _, [], _, [], hW', trodAll_mk1 (shut_bool Tryz.underlying4 _), (trodAll_cons_mk (Below.trod laidOut (by kernel_rfl) (of_decide_eq_true (by kernel_rfl)) k0 bel lt0) (trodAll_cons_mk (Below.trod laidOut (by kernel_rfl) (of_decide_eq_true (by kernel_rfl)) k1 bel lt1) (trodAll_cons_mk (Below.trod laidOut (by kernel_rfl) (of_decide_eq_true (by kernel_rfl)) k2 bel lt2) trodAll_mk0))), rfl, bel.frame _, fun h => by cases h⟩
end LawClocksP
end Go.Proofs.YtkkaomgdlnejcaaGreatDoor
