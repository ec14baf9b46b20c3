/- For every two laws (of at most 18 ticks): their sum, and a law less its least delay, are those of the reference, or the errors; the sum does not depend on the order. What the row lists is all that it wants. -/
import Derived.Test.YtnhbmmpjifliaaaGreatDoorL0
import Derived.Test.YtnhbmmpjifliaaaGreatDoorL1
import Derived.Test.YtnhbmmpjifliaaaGreatDoorU8
import Derived.Test.YtnhbmmpjifliaaaGreatDoorVi
import Derived.Test.YtnhbmmpjifliaaaGreatDoorU5
import Derived.Test.YtnhbmmpjifliaaaGreatDoorCards
import Derived.Test.YtnhbmmpjifliaaaGreatDoorTie
namespace Go.Proofs.YtnhbmmpjifliaaaGreatDoor
open Go.ChangeShapes Go.WideShapes Go.ChangeAt Go.RowKit RayM
set_option linter.unusedVariables false
set_option linter.unusedSimpArgs false
namespace LawSumsP
theorem cT0 : Tryz.prog.cellsOf 62 = 2 := by kernel_rfl
theorem cSl1 : Tryz.prog.cellsOf 60 = 1 := by kernel_rfl
theorem arrS2 {a : Array Value} (h : a.size = 2) : ∃ b0 b1 : Value, a = #[b0, b1] := by
  obtain ⟨l⟩ := a
  match l, h with
  | [b0, b1], _ => exact ⟨b0, b1, rfl⟩
set_option maxRecDepth 100000 in
set_option maxHeartbeats 1000000 in
theorem lifted (os : Os) (started : os.Started) (H : Type) (enc : TypeId × Value → H) :
    ReturnsInHanded {} Tryz.checked os 7 .any (fun w args => (Rows.lawSumsSpec.pre enc Tryz.prog Tryz.f7 Rows.lawSumsRow.domain false w args ∧ laidMetH Tryz.prog Rows.lawSumsRow.laid w) ∧ sizedMet enc Tryz.prog Tryz.f7 (OpenSpec.ofChange Rows.lawSumsSpec) false w args) (Rows.lawSumsSpec.post enc Tryz.prog Tryz.f7 false true false false) := by
  refine returnsInHanded_both (C := Tryz.checked) (X := fun w _ => laidMetH Tryz.prog Rows.lawSumsRow.laid w) (fun _ _ _ hh h => h.of_heap hh) own started (by kernel_rfl) Tryz.func7
    (ChangeSpec.witness_shaped (enc := enc) (C := Tryz.checked) (os := os) (X := fun w _ => laidMetH Tryz.prog Rows.lawSumsRow.laid w) false (World.laidAll Tryz.prog os Rows.lawSumsRow.laid) #[.agg #[.int .i64 0, .slice none 0 0], .agg #[.int .i64 0, .slice none 0 0]] 8 (World.laidAll_os _ _ _)
      (World.shaped_of_ZipB (by kernel_rfl) (by kernel_rfl)) (by kernel_rfl) (by kernel_rfl) (by kernel_rfl)
      (by rw [MakeChecks.laidMetH_plain _ _ _ (by kernel_rfl)]; exact laidMet_laidAll _ (by kernel_rfl) (by kernel_rfl))) ?_
  intro W base args ds gs before hval0 hW hcnd hLaid hShape
  have hL := laid_of hLaid hShape
  have hval : ∀ (j : Nat) t v, Tryz.f7.params[j]? = some t → args[j]? = some v → Value.okWide Tryz.prog W .any base t v := hval0
  have hW' := hW
  obtain ⟨p, q, hA0, hV, rfl, hfz, hnd⟩ := hW
  have hA : DataW.TrodAll enc Tryz.prog W 0 (fun _ => true) true Tryz.f7.params.toList args.toList ds p := hA0
  rw [Tryz.params7] at hA hval
  obtain ⟨v0, vs0, d0, ds0, p0, q0, hargs, rfl, rfl, h0, r0⟩ := trodAll_cons hA
  obtain ⟨v1, vs1, d1, ds1, p1, q1, rfl, rfl, rfl, h1, r1⟩ := trodAll_cons r0
  obtain ⟨rfl, rfl, rfl⟩ := trodAll_nil r1
  obtain rfl : args = #[v0, v1] := by cases args; simp_all
  obtain ⟨rfl, rfl⟩ := trodVars_none hV
  have k0 := h0
  have lt0 : ∀ x ∈ p0, x.block < W.heap.size := by obtain ⟨m, hm⟩ := k0; exact DataW.trod_lt m _ _ _ hm
  have k1 := h1
  have lt1 : ∀ x ∈ p1, x.block < W.heap.size := by obtain ⟨m, hm⟩ := k1; exact DataW.trod_lt m _ _ _ hm
  have hv0 := hval 0 62 v0 rfl rfl
  obtain ⟨z0_0, A0_1, n0_1, c0_1, l0_1, ec0, m0_1, o0_1, s0_1⟩ : ∃ (z0_0 : Int) (A0_1 : Option Addr) (n0_1 c0_1 : Nat) (l0_1 : Nat → Int), v0 = .agg #[.int .i64 z0_0, .slice A0_1 n0_1 c0_1] ∧ n0_1 ≤ maxLen ∧ (A0_1 = none → n0_1 = 0 ∧ c0_1 = 0) ∧ InAt A0_1 n0_1 l0_1 W := by
    obtain ⟨cs, e1, e2⟩ := okWide_struct Tryz.underlying62 hv0
    subst e1
    obtain ⟨b0, b1, e3⟩ := arrS2 (e2.trans cT0)
    subst e3
    obtain ⟨fuel, hf⟩ := h0
    replace hf : DataW.trod enc Tryz.prog W 0 (fun _ => true) true fuel 62 [b0, b1] = some (d0, p0) := hf
    obtain ⟨m0_0, x0_0, t0_0⟩ := leaf Tryz.underlying62 hf 0 _ rfl
    obtain ⟨z0, g0, _, u0⟩ := DataW.trod_int Tryz.underlying3 t0_0
    simp [cellsInt, cSl1, cT0] at g0
    obtain ⟨m1_0, x1_0, t1_0⟩ := leaf Tryz.underlying62 hf 1 _ rfl
    obtain ⟨A1, n1, c1, l1, g1, f1, o1, s1⟩ := open_ints t1_0
    simp [cellsInt, cSl1, cT0] at g1
    exact ⟨z0, A1, n1, c1, l1, by rw [g0, g1], f1, o1, s1⟩
  subst ec0
  have hv1 := hval 1 62 v1 rfl rfl
  obtain ⟨z1_0, A1_1, n1_1, c1_1, l1_1, ec1, m1_1, o1_1, s1_1⟩ : ∃ (z1_0 : Int) (A1_1 : Option Addr) (n1_1 c1_1 : Nat) (l1_1 : Nat → Int), v1 = .agg #[.int .i64 z1_0, .slice A1_1 n1_1 c1_1] ∧ n1_1 ≤ maxLen ∧ (A1_1 = none → n1_1 = 0 ∧ c1_1 = 0) ∧ InAt A1_1 n1_1 l1_1 W := by
    obtain ⟨cs, e1, e2⟩ := okWide_struct Tryz.underlying62 hv1
    subst e1
    obtain ⟨b0, b1, e3⟩ := arrS2 (e2.trans cT0)
    subst e3
    obtain ⟨fuel, hf⟩ := h1
    replace hf : DataW.trod enc Tryz.prog W 0 (fun _ => true) true fuel 62 [b0, b1] = some (d1, p1) := hf
    obtain ⟨m0_0, x0_0, t0_0⟩ := leaf Tryz.underlying62 hf 0 _ rfl
    obtain ⟨z0, g0, _, u0⟩ := DataW.trod_int Tryz.underlying3 t0_0
    simp [cellsInt, cSl1, cT0] at g0
    obtain ⟨m1_0, x1_0, t1_0⟩ := leaf Tryz.underlying62 hf 1 _ rfl
    obtain ⟨A1, n1, c1, l1, g1, f1, o1, s1⟩ := open_ints t1_0
    simp [cellsInt, cSl1, cT0] at g1
    exact ⟨z0, A1, n1, c1, l1, by rw [g0, g1], f1, o1, s1⟩
  subst ec1
  clear hA0 hval0
  refine (sums_any ⟨z0_0, l0_1, n0_1⟩ ⟨z1_0, l1_1, n1_1⟩ A0_1 c0_1 A1_1 c1_1 W hL (Lib.hid awake_any) o0_1 o1_1 s0_1 s1_1).mono fun e W' ⟨he, bel⟩ => ?_
  subst he
  exact ⟨_, rfl, _, _, _, [], _, [], hW', trodAll_mk1 (shut_bool Tryz.underlying4 _), (trodAll_cons_mk (Below.trod laidOut (by kernel_rfl) (of_decide_eq_true (by kernel_rfl)) k0 bel lt0) (trodAll_cons_mk (Below.trod laidOut (by kernel_rfl) (of_decide_eq_true (by kernel_rfl)) k1 bel lt1) trodAll_mk0)), rfl, bel.frame _, fun h => by cases h⟩
end LawSumsP
end Go.Proofs.YtnhbmmpjifliaaaGreatDoor
