/- For every law, numbers and clock (of at most 18 ticks and numbers): the law without some elements, the elements that send, and the law with another clock are those of the reference, or the errors. What the row lists is all that it wants. -/
import Derived.Test.YtkkaomgdlnejcaaGreatDoorL0
import Derived.Test.YtkkaomgdlnejcaaGreatDoorL1
import Derived.Test.YtkkaomgdlnejcaaGreatDoorU8
import Derived.Test.YtkkaomgdlnejcaaGreatDoorTd
import Derived.Test.YtkkaomgdlnejcaaGreatDoorU5
import Derived.Test.YtkkaomgdlnejcaaGreatDoorCards
import Derived.Test.YtkkaomgdlnejcaaGreatDoorTie
namespace Go.Proofs.YtkkaomgdlnejcaaGreatDoor
open Go.ChangeShapes Go.WideShapes Go.ChangeAt Go.RowKit RayM
set_option linter.unusedVariables false
set_option linter.unusedSimpArgs false
namespace LawChangesP
theorem cT0 : Tryz.prog.cellsOf 33 = 2 := by kernel_rfl
theorem cSl1 : Tryz.prog.cellsOf 31 = 1 := by kernel_rfl
theorem arrS2 {a : Array Value} (h : a.size = 2) : ∃ b0 b1 : Value, a = #[b0, b1] := by
  obtain ⟨l⟩ := a
  match l, h with
  | [b0, b1], _ => exact ⟨b0, b1, rfl⟩
set_option maxRecDepth 100000 in
set_option maxHeartbeats 1000000 in
theorem lifted (os : Os) (started : os.Started) (H : Type) (enc : TypeId × Value → H) :
    ReturnsInHanded {} Tryz.checked os 6 .any (fun w args => (Rows.lawChangesSpec.pre enc Tryz.prog Tryz.f6 Rows.lawChangesRow.domain false w args ∧ laidMetH Tryz.prog Rows.lawChangesRow.laid w) ∧ sizedMet enc Tryz.prog Tryz.f6 (OpenSpec.ofChange Rows.lawChangesSpec) false w args) (Rows.lawChangesSpec.post enc Tryz.prog Tryz.f6 false true false false) := by
  refine returnsInHanded_both (C := Tryz.checked) (X := fun w _ => laidMetH Tryz.prog Rows.lawChangesRow.laid w) (fun _ _ _ hh h => h.of_heap hh) own started (by kernel_rfl) Tryz.func6
    (ChangeSpec.witness_shaped (enc := enc) (C := Tryz.checked) (os := os) (X := fun w _ => laidMetH Tryz.prog Rows.lawChangesRow.laid w) false (World.laidAll Tryz.prog os Rows.lawChangesRow.laid) #[.agg #[.int .i64 0, .slice none 0 0], .slice none 0 0, .int .i64 0] 8 (World.laidAll_os _ _ _)
      (World.shaped_of_ZipB (by kernel_rfl) (by kernel_rfl)) (by kernel_rfl) (by kernel_rfl) (by kernel_rfl)
      (by rw [MakeChecks.laidMetH_plain _ _ _ (by kernel_rfl)]; exact laidMet_laidAll _ (by kernel_rfl) (by kernel_rfl))) ?_
  intro W base args ds gs before hval0 hW hcnd hLaid hShape
  have hL := laid_of hLaid hShape
  have hval : ∀ (j : Nat) t v, Tryz.f6.params[j]? = some t → args[j]? = some v → Value.okWide Tryz.prog W .any base t v := hval0
  have hW' := hW
  obtain ⟨p, q, hA0, hV, rfl, hfz, hnd⟩ := hW
  have hA : DataW.TrodAll enc Tryz.prog W 0 (fun _ => true) true Tryz.f6.params.toList args.toList ds p := hA0
  rw [Tryz.params6] at hA hval
  obtain ⟨v0, vs0, d0, ds0, p0, q0, hargs, rfl, rfl, h0, r0⟩ := trodAll_cons hA
  obtain ⟨v1, vs1, d1, ds1, p1, q1, rfl, rfl, rfl, h1, r1⟩ := trodAll_cons r0
  obtain ⟨v2, vs2, d2, ds2, p2, q2, rfl, rfl, rfl, h2, r2⟩ := trodAll_cons r1
  obtain ⟨rfl, rfl, rfl⟩ := trodAll_nil r2
  obtain rfl : args = #[v0, v1, v2] := by cases args; simp_all
  obtain ⟨rfl, rfl⟩ := trodVars_none hV
  have k0 := h0
  have lt0 : ∀ x ∈ p0, x.block < W.heap.size := by obtain ⟨m, hm⟩ := k0; exact DataW.trod_lt m _ _ _ hm
  have k1 := h1
  have lt1 : ∀ x ∈ p1, x.block < W.heap.size := by obtain ⟨m, hm⟩ := k1; exact DataW.trod_lt m _ _ _ hm
  have k2 := h2
  have lt2 : ∀ x ∈ p2, x.block < W.heap.size := by obtain ⟨m, hm⟩ := k2; exact DataW.trod_lt m _ _ _ hm
  have hv0 := hval 0 33 v0 rfl rfl
  obtain ⟨z0_0, A0_1, n0_1, c0_1, l0_1, ec0, m0_1, o0_1, s0_1⟩ : ∃ (z0_0 : Int) (A0_1 : Option Addr) (n0_1 c0_1 : Nat) (l0_1 : Nat → Int), v0 = .agg #[.int .i64 z0_0, .slice A0_1 n0_1 c0_1] ∧ n0_1 ≤ maxLen ∧ (A0_1 = none → n0_1 = 0 ∧ c0_1 = 0) ∧ InAt A0_1 n0_1 l0_1 W := by
    obtain ⟨cs, e1, e2⟩ := okWide_struct Tryz.underlying33 hv0
    subst e1
    obtain ⟨b0, b1, e3⟩ := arrS2 (e2.trans cT0)
    subst e3
    obtain ⟨fuel, hf⟩ := h0
    replace hf : DataW.trod enc Tryz.prog W 0 (fun _ => true) true fuel 33 [b0, b1] = some (d0, p0) := hf
    obtain ⟨m0_0, x0_0, t0_0⟩ := leaf Tryz.underlying33 hf 0 _ rfl
    obtain ⟨z0, g0, _, u0⟩ := DataW.trod_int Tryz.underlying3 t0_0
    simp [cellsInt, cSl1, cT0] at g0
    obtain ⟨m1_0, x1_0, t1_0⟩ := leaf Tryz.underlying33 hf 1 _ rfl
    obtain ⟨A1, n1, c1, l1, g1, f1, o1, s1⟩ := open_ints t1_0
    simp [cellsInt, cSl1, cT0] at g1
    exact ⟨z0, A1, n1, c1, l1, by rw [g0, g1], f1, o1, s1⟩
  subst ec0
  have hv1 := hval 1 31 v1 rfl rfl
  obtain ⟨A1_0, n1_0, c1_0, l1_0, ec1, m1_0, o1_0, s1_0⟩ : ∃ (A1_0 : Option Addr) (n1_0 c1_0 : Nat) (l1_0 : Nat → Int), v1 = .slice A1_0 n1_0 c1_0 ∧ n1_0 ≤ maxLen ∧ (A1_0 = none → n1_0 = 0 ∧ c1_0 = 0) ∧ InAt A1_0 n1_0 l1_0 W := by
    obtain ⟨A', n', c', e0⟩ := okWide_slice Tryz.underlying31 hv1
    subst e0
    obtain ⟨fuel, hf⟩ := h1
    replace hf : DataW.trod enc Tryz.prog W 0 (fun _ => true) true fuel 31 [.slice A' n' c'] = some (d1, p1) := hf
    obtain ⟨A, n, c, l, g, f, o, s⟩ := open_ints hf
    exact ⟨A, n, c, l, by simpa using g, f, o, s⟩
  subst ec1
  have hv2 := hval 2 3 v2 rfl rfl
  obtain ⟨z2_0, ec2⟩ : ∃ (z2_0 : Int), v2 = .int .i64 z2_0 := by
    obtain ⟨z, e1, _, _, e2⟩ := open_int Tryz.underlying3 hv2 h2
    exact ⟨z, e1⟩
  subst ec2
  clear hA0 hval0
  refine (changes_any ⟨z0_0, l0_1, n0_1⟩ l1_0 n1_0 z2_0 A0_1 c0_1 A1_0 c1_0 W hL (Lib.hid awake_any) o0_1 o1_0 s0_1 s1_0).mono fun e W' ⟨he, bel⟩ => ?_
  subst he
  exact ⟨_, rfl, _, _, _, [], _, [], hW', trodAll_mk1 (shut_bool Tryz.underlying4 _), (trodAll_cons_mk (Below.trod laidOut (by kernel_rfl) (of_decide_eq_true (by kernel_rfl)) k0 bel lt0) (trodAll_cons_mk (Below.trod laidOut (by kernel_rfl) (of_decide_eq_true (by kernel_rfl)) k1 bel lt1) (trodAll_cons_mk (Below.trod laidOut (by kernel_rfl) (of_decide_eq_true (by kernel_rfl)) k2 bel lt2) trodAll_mk0))), rfl, bel.frame _, fun h => by cases h⟩
end LawChangesP
end Go.Proofs.YtkkaomgdlnejcaaGreatDoor
