/- For every law and every text (of at most 18 ticks and 200 bytes, or too many): the text of the law, and the law with the text, are those of the reference, or the errors; the text of a right law is read back as it. What the row lists is all that it wants. -/
import Derived.Test.YtnckfbejgkdhhaaGreatDoorL0
import Derived.Test.YtnckfbejgkdhhaaGreatDoorL2
import Derived.Test.YtnckfbejgkdhhaaGreatDoorU8t
import Derived.Test.YtnckfbejgkdhhaaGreatDoorSq
import Derived.Test.YtnckfbejgkdhhaaGreatDoorU5
import Derived.Test.YtnckfbejgkdhhaaGreatDoorCards
import Derived.Test.YtnckfbejgkdhhaaGreatDoorTie
namespace Go.Proofs.YtnckfbejgkdhhaaGreatDoor
open Go.ChangeShapes Go.WideShapes Go.ChangeAt Go.RowKit RayM
set_option linter.unusedVariables false
set_option linter.unusedSimpArgs false
namespace LawTextsP
theorem cT0 : Tryz.prog.cellsOf 24 = 2 := by kernel_rfl
theorem cSl1 : Tryz.prog.cellsOf 22 = 1 := by kernel_rfl
theorem arrS2 {a : Array Value} (h : a.size = 2) : ∃ b0 b1 : Value, a = #[b0, b1] := by
  obtain ⟨l⟩ := a
  match l, h with
  | [b0, b1], _ => exact ⟨b0, b1, rfl⟩
set_option maxRecDepth 100000 in
set_option maxHeartbeats 1000000 in
theorem lifted (os : Os) (started : os.Started) (H : Type) (enc : TypeId × Value → H) :
    ReturnsInHanded {} Tryz.checked os 3 .any (fun w args => (Rows.lawTextsSpec.pre enc Tryz.prog Tryz.f3 Rows.lawTextsRow.domain false w args ∧ laidMetH Tryz.prog Rows.lawTextsRow.laid w) ∧ sizedMet enc Tryz.prog Tryz.f3 (OpenSpec.ofChange Rows.lawTextsSpec) false w args) (Rows.lawTextsSpec.post enc Tryz.prog Tryz.f3 false true false false) := by
  refine returnsInHanded_both (C := Tryz.checked) (X := fun w _ => laidMetH Tryz.prog Rows.lawTextsRow.laid w) (fun _ _ _ hh h => h.of_heap hh) own started (by kernel_rfl) Tryz.func3
    (ChangeSpec.witness_shaped (enc := enc) (C := Tryz.checked) (os := os) (X := fun w _ => laidMetH Tryz.prog Rows.lawTextsRow.laid w) false (World.laidAll Tryz.prog os Rows.lawTextsRow.laid) #[.agg #[.int .i64 0, .slice none 0 0], .string ByteArray.empty] 8 (World.laidAll_os _ _ _)
      (World.shaped_of_ZipB (by kernel_rfl) (by kernel_rfl)) (by kernel_rfl) (by kernel_rfl) (by kernel_rfl)
      (by rw [MakeChecks.laidMetH_plain _ _ _ (by kernel_rfl)]; exact laidMet_laidAll _ (by kernel_rfl) (by kernel_rfl))) ?_
  intro W base args ds gs before hval0 hW hcnd hLaid hShape
  have hL := laid_of hLaid hShape
  have hval : ∀ (j : Nat) t v, Tryz.f3.params[j]? = some t → args[j]? = some v → Value.okWide Tryz.prog W .any base t v := hval0
  have hW' := hW
  obtain ⟨p, q, hA0, hV, rfl, hfz, hnd⟩ := hW
  have hA : DataW.TrodAll enc Tryz.prog W 0 (fun _ => true) true Tryz.f3.params.toList args.toList ds p := hA0
  rw [Tryz.params3] at hA hval
  obtain ⟨v0, vs0, d0, ds0, p0, q0, hargs, rfl, rfl, h0, r0⟩ := trodAll_cons hA
  obtain ⟨v1, vs1, d1, ds1, p1, q1, rfl, rfl, rfl, h1, r1⟩ := trodAll_cons r0
  obtain ⟨rfl, rfl, rfl⟩ := trodAll_nil r1
  obtain rfl : args = #[v0, v1] := by cases args; simp_all
  obtain ⟨rfl, rfl⟩ := trodVars_none hV
  have k0 := h0
  have lt0 : ∀ x ∈ p0, x.block < W.heap.size := by obtain ⟨m, hm⟩ := k0; exact DataW.trod_lt m _ _ _ hm
  have k1 := h1
  have lt1 : ∀ x ∈ p1, x.block < W.heap.size := by obtain ⟨m, hm⟩ := k1; exact DataW.trod_lt m _ _ _ hm
  have hv0 := hval 0 24 v0 rfl rfl
  obtain ⟨z0_0, A0_1, n0_1, c0_1, l0_1, ec0, w0_0, m0_1, o0_1, s0_1, w0_1⟩ : ∃ (z0_0 : Int) (A0_1 : Option Addr) (n0_1 c0_1 : Nat) (l0_1 : Nat → Int), v0 = .agg #[.int .i64 z0_0, .slice A0_1 n0_1 c0_1] ∧ (-9223372036854775808 ≤ z0_0 ∧ z0_0 ≤ 9223372036854775807) ∧ n0_1 ≤ maxLen ∧ (A0_1 = none → n0_1 = 0 ∧ c0_1 = 0) ∧ InAt A0_1 n0_1 l0_1 W ∧ (∀ i, i < n0_1 → l0_1 i ≤ 9223372036854775807) := by
    obtain ⟨cs, e1, e2⟩ := okWide_struct Tryz.underlying24 hv0
    subst e1
    obtain ⟨b0, b1, e3⟩ := arrS2 (e2.trans cT0)
    subst e3
    obtain ⟨fuel, hf⟩ := h0
    replace hf : DataW.trod enc Tryz.prog W 0 (fun _ => true) true fuel 24 [b0, b1] = some (d0, p0) := hf
    obtain ⟨m0_0, x0_0, t0_0⟩ := leaf Tryz.underlying24 hf 0 _ rfl
    obtain ⟨z0, g0, _, u0⟩ := DataW.trod_int Tryz.underlying3 t0_0
    simp [cellsInt, cSl1, cT0] at g0
    obtain ⟨m1_0, x1_0, t1_0⟩ := leaf Tryz.underlying24 hf 1 _ rfl
    obtain ⟨A1, n1, c1, l1, g1, f1, o1, s1, y1⟩ := open_ints64 t1_0
    simp [cellsInt, cSl1, cT0] at g1
    exact ⟨z0, A1, n1, c1, l1, by rw [g0, g1], bounds_i64 u0, f1, o1, s1, y1⟩
  subst ec0
  obtain ⟨s1_0, ec1, ss1_0⟩ : ∃ (s1_0 : ByteArray), v1 = .string s1_0 ∧ s1_0.size ≤ maxLen := by
    obtain ⟨t0, e0⟩ := okWide_string Tryz.underlying9 (hval 1 9 v1 rfl rfl)
    subst e0
    obtain ⟨fuel, hf⟩ := h1
    replace hf : DataW.trod enc Tryz.prog W 0 (fun _ => true) true fuel 9 [.string t0] = some (d1, p1) := hf
    obtain ⟨s, e1, _, hs⟩ := DataW.trod_string Tryz.underlying9 hf
    cases e1
    exact ⟨t0, rfl, hs⟩
  subst ec1
  clear hA0 hval0
  refine (texts_any ⟨z0_0, l0_1, n0_1⟩ s1_0 A0_1 c0_1 W hL (Lib.hid awake_any) o0_1 w0_0.1 w0_0.2 w0_1 ss1_0 s0_1).mono fun e W' ⟨he, bel⟩ => ?_
  subst he
  exact ⟨_, rfl, _, _, _, [], _, [], hW', trodAll_mk1 (shut_bool Tryz.underlying4 _), (trodAll_cons_mk (Below.trod laidOut (by kernel_rfl) (of_decide_eq_true (by kernel_rfl)) k0 bel lt0) (trodAll_cons_mk (Below.trod laidOut (by kernel_rfl) (of_decide_eq_true (by kernel_rfl)) k1 bel lt1) trodAll_mk0)), rfl, bel.frame _, fun h => by cases h⟩
end LawTextsP
end Go.Proofs.YtnckfbejgkdhhaaGreatDoor
