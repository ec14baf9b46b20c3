/- For every spread and period, and more of each: the loss is that of the reference, or the error; it is within its bounds, grows with the spread and falls with the period. What the row lists is all that it wants. -/
import Derived.Test.YtnhbmmpjifliaaaGreatDoorL0
import Derived.Test.YtnhbmmpjifliaaaGreatDoorU8
import Derived.Test.YtnhbmmpjifliaaaGreatDoorU7
import Derived.Test.YtnhbmmpjifliaaaGreatDoorU5
import Derived.Test.YtnhbmmpjifliaaaGreatDoorCards
import Derived.Test.YtnhbmmpjifliaaaGreatDoorTie
namespace Go.Proofs.YtnhbmmpjifliaaaGreatDoor
open Go.ChangeShapes Go.WideShapes Go.ChangeAt Go.RowKit RayM
set_option linter.unusedVariables false
set_option linter.unusedSimpArgs false
namespace LawLossesP
theorem cA : Tryz.prog.cellsOf 22 = 2 := by kernel_rfl
theorem cI : Tryz.prog.cellsOf 3 = 1 := by kernel_rfl
theorem arrS2 {a : Array Value} (h : a.size = 2) : ∃ b0 b1 : Value, a = #[b0, b1] := by
  obtain ⟨l⟩ := a
  match l, h with
  | [b0, b1], _ => exact ⟨b0, b1, rfl⟩
theorem okWide_arr {P : Program} {w : World} {r : Reach} {base : Nat} {t : TypeId} {v : Value} {n : Nat} {e : TypeId} (ht : P.underlying t = some (.array n e)) (h : Value.okWide P w r base t v) : ∃ cs, v = .agg cs ∧ cs.size = P.cellsOf t := by
  simp only [Value.okWide, ht] at h
  obtain ⟨cs, h1, h2, _⟩ := h
  exact ⟨cs, h1, h2⟩
set_option maxRecDepth 100000 in
set_option maxHeartbeats 1000000 in
theorem lifted (os : Os) (started : os.Started) (H : Type) (enc : TypeId × Value → H) :
    ReturnsInHanded {} Tryz.checked os 3 .any (fun w args => (Rows.lawLossesSpec.pre enc Tryz.prog Tryz.f3 Rows.lawLossesRow.domain false w args ∧ laidMetH Tryz.prog Rows.lawLossesRow.laid w) ∧ sizedMet enc Tryz.prog Tryz.f3 (OpenSpec.ofChange Rows.lawLossesSpec) false w args) (Rows.lawLossesSpec.post enc Tryz.prog Tryz.f3 false true false false) := by
  refine returnsInHanded_both (C := Tryz.checked) (X := fun w _ => laidMetH Tryz.prog Rows.lawLossesRow.laid w) (fun _ _ _ hh h => h.of_heap hh) own started (by kernel_rfl) Tryz.func3
    (ChangeSpec.witness_shaped (enc := enc) (C := Tryz.checked) (os := os) (X := fun w _ => laidMetH Tryz.prog Rows.lawLossesRow.laid w) false (World.laidAll Tryz.prog os Rows.lawLossesRow.laid) #[.int .i64 0, .int .i64 0, .agg #[.int .i64 0, .int .i64 0]] 8 (World.laidAll_os _ _ _)
      (World.shaped_of_ZipB (by kernel_rfl) (by kernel_rfl)) (by kernel_rfl) (by kernel_rfl) (by kernel_rfl)
      (by rw [MakeChecks.laidMetH_plain _ _ _ (by kernel_rfl)]; exact laidMet_laidAll _ (by kernel_rfl) (by kernel_rfl))) ?_
  intro W base args ds gs before hval0 hW hcnd hLaid hShape
  have hL := laid_of hLaid hShape
  have hval : ∀ (j : Nat) t v, Tryz.f3.params[j]? = some t → args[j]? = some v → Value.okWide Tryz.prog W .any base t v := hval0
  have hW' := hW
  obtain ⟨p, q, hA0, hV, rfl, hfz, hnd⟩ := hW
  have hA : DataW.TrodAll enc Tryz.prog W 0 (fun _ => true) true Tryz.f3.params.toList args.toList ds p := hA0
  rw [Tryz.params3] at hA hval
  obtain ⟨v0, vs0, d0, ds0, p0, q0, hargs, rfl, rfl, h0, r0⟩ := trodAll_cons hA
  obtain ⟨v1, vs1, d1, ds1, p1, q1, rfl, rfl, rfl, h1, r1⟩ := trodAll_cons r0
  obtain ⟨v2, vs2, d2, ds2, p2, q2, rfl, rfl, rfl, h2, r2⟩ := trodAll_cons r1
  obtain ⟨rfl, rfl, rfl⟩ := trodAll_nil r2
  obtain rfl : args = #[v0, v1, v2] := by cases args; simp_all
  obtain ⟨rfl, rfl⟩ := trodVars_none hV
  have k0 := h0; have k1 := h1; have k2 := h2
  have lt0 : ∀ x ∈ p0, x.block < W.heap.size := by obtain ⟨m, hm⟩ := k0; exact DataW.trod_lt m _ _ _ hm
  have lt1 : ∀ x ∈ p1, x.block < W.heap.size := by obtain ⟨m, hm⟩ := k1; exact DataW.trod_lt m _ _ _ hm
  have lt2 : ∀ x ∈ p2, x.block < W.heap.size := by obtain ⟨m, hm⟩ := k2; exact DataW.trod_lt m _ _ _ hm
  have hv0 := hval 0 3 v0 rfl rfl
  obtain ⟨z0, e0, _, _, _⟩ := open_int Tryz.underlying3 hv0 h0
  subst e0
  have hv1 := hval 1 3 v1 rfl rfl
  obtain ⟨z1, e1, _, _, _⟩ := open_int Tryz.underlying3 hv1 h1
  subst e1
  have hv2 := hval 2 22 v2 rfl rfl
  obtain ⟨m0, m1, ec2⟩ : ∃ m0 m1 : Int, v2 = .agg #[.int .i64 m0, .int .i64 m1] := by
    obtain ⟨cs, e1, e2⟩ := okWide_arr Tryz.underlying22 hv2
    subst e1
    obtain ⟨b0, b1, e3⟩ := arrS2 (e2.trans cA)
    subst e3
    obtain ⟨fuel, hf⟩ := h2
    replace hf : DataW.trod enc Tryz.prog W 0 (fun _ => true) true fuel 22 [b0, b1] = some (d2, p2) := hf
    obtain ⟨xs, m, _, _, _, hxl, hx⟩ := DataW.trod_array Tryz.underlying22 hf
    have g0 := hx 0 (by decide)
    have g1 := hx 1 (by decide)
    rw [cI, List.getElem?_eq_getElem (by omega)] at g0 g1
    obtain ⟨y0, q0, _, _⟩ := DataW.trod_int Tryz.underlying3 g0
    obtain ⟨y1, q1, _, _⟩ := DataW.trod_int Tryz.underlying3 g1
    simp at q0 q1
    exact ⟨y0, y1, by rw [q0, q1]⟩
  subst ec2
  clear hA0 hval0
  refine (losses_any z0 z1 m0 m1 W hL (Lib.hid awake_any)).mono fun e W' ⟨he, bel⟩ => ?_
  subst he
  exact ⟨_, rfl, _, _, _, [], _, [], hW', trodAll_mk1 (shut_bool Tryz.underlying4 _), (trodAll_cons_mk (Below.trod laidOut (by kernel_rfl) (of_decide_eq_true (by kernel_rfl)) k0 bel lt0) (trodAll_cons_mk (Below.trod laidOut (by kernel_rfl) (of_decide_eq_true (by kernel_rfl)) k1 bel lt1) (trodAll_cons_mk (Below.trod laidOut (by kernel_rfl) (of_decide_eq_true (by kernel_rfl)) k2 bel lt2) trodAll_mk0))), rfl, bel.frame _, fun h => by cases h⟩
end LawLossesP
end Go.Proofs.YtnhbmmpjifliaaaGreatDoor
