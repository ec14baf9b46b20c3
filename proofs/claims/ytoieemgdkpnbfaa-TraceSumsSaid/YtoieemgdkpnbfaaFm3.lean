/- the loudest sample -/
import Derived.Test.YtoieemgdkpnbfaaFlS
namespace Go.Proofs.Ytoieemgdkpnbfaa
open Go.RowKit RayM
set_option linter.unusedSimpArgs false
set_option linter.unusedVariables false
section
variable {P : Program}
/-- an array of zeros, written as a literal -/
theorem wpList_build_zero {ops : Array Oper} {rest : List Oper} {op : Oper} {a : Act} {w : World} {Q : Exit → Act → World → Prop} (hgd : op.guard = none) (t : TypeId) (ho : op.op = .build t #[])
    (n : Nat) (f : Nat → Value) (hz : (P.info? t).map (fun i => (i.zero, i.size)) = some (some (.agg (vls n f).toArray), n)) (e : TypeId) (hu : P.underlying t = some (.array n e)) (hs : (P.info? e).map (·.size) = some 1)
    (h : wpList P ops Q rest (a.put op.dst (.agg (vls n f).toArray)) w) : wpList P ops Q (op :: rest) a w := by
  refine wpList_plain hgd fun _ hK => ?_
  unfold Oper.wp execOp
  have hr : (zeroValue t).run P w = .ok (.agg (vls n f).toArray) w := by
    cases hq : P.info? t with
    | none => simp [hq] at hz
    | some i =>
      simp [hq] at hz
      simp [zeroValue, typeInfo, hq, hz.1]
  have hsz : (sizeOf e).run P w = .ok 1 w := by
    cases hq : P.info? e with
    | none => simp [hq] at hs
    | some i =>
      have : i.size = 1 := by simpa [hq] using hs
      simp [sizeOf, typeInfo, hq, this]
  have hi : (Instr.build t #[]).run P w = .ok (.agg (vls n f).toArray) w := by
    simp [Instr.build, hr, run_underlying hu, Result.andThen, hsz, Value.cells, Instr.fill]
  simp only [ho]
  simp [hi]
  exact hK _ _ h
end
/-- the greatest size of the first samples -/
def ldS (l : Nat → Int) : Nat → Int
  | 0 => 0
  | k + 1 => max (ldS l k) ((l k).natAbs : Int)
theorem ldS_in (l : Nat → Int) (hl : Few l) : ∀ k, k ≤ 64 → 0 ≤ ldS l k ∧ ldS l k < 8192
  | 0, _ => by show (0 : Int) ≤ 0 ∧ (0 : Int) < 8192; omega
  | k + 1, h => by
    have := ldS_in l hl k (by omega)
    have := hl k (by omega)
    show 0 ≤ max (ldS l k) _ ∧ max (ldS l k) _ < 8192
    omega
theorem ldS_le (l : Nat → Int) (m : Int) : ∀ k, ldS l k ≤ m ↔ 0 ≤ m ∧ ∀ i, i < k → ((l i).natAbs : Int) ≤ m
  | 0 => ⟨fun h => ⟨h, fun i hi => absurd hi (by omega)⟩, fun h => h.1⟩
  | k + 1 => by
    have ih := ldS_le l m k
    show max (ldS l k) _ ≤ m ↔ _
    constructor
    · intro h
      obtain ⟨a, b⟩ := ih.1 (by omega)
      refine ⟨a, fun i hi => ?_⟩
      by_cases e : i = k
      · subst e; omega
      · exact b i (by omega)
    · intro ⟨a, b⟩
      have := ih.2 ⟨a, fun i hi => b i (by omega)⟩
      have := b k (by omega)
      omega
set_option maxRecDepth 100000 in
set_option maxHeartbeats 1000000 in
theorem loudest_any (l : Nat → Int) (w : World) (hl : Few l) :
    Calls Try.prog 52 #[.agg (vls 64 (fv l)).toArray] w fun e w' => e = .returned (.int .i64 (ldS l 64)) ∧ Below w.heap.size w w' := by
  have LI := Lib.hid (fun k h => ldS_in l hl k h)
  have HF := Lib.hid hl; clear hl
  go_enter Try.func52, Try.ntmps52
  go_wp2_with (first
    | ((with_reducible refine wpList_box_named rfl 26 _ rfl 1 rfl 64 (fv l) rfl ?_); intro w1 N1; have s1 := N1.size; have ct1 := N1.at'; have zt1 := N1.free; have b1 : Hid (Below w.heap.size w w1) := Lib.hid N1.below; clear N1)
    | (with_reducible refine wpList_load_at rfl 26 _ rfl _ 64 (fv l) rfl ct1 _ Try.underlying26 rfl infoV ?_))
  go_loopw [3, 7] (fun s3 s7 wr => ∃ k : Nat, k ≤ 64 ∧ s7 = .int .i64 (k : Int) ∧ s3 = .int .i64 (ldS l k) ∧ Hid (Below w.heap.size w wr)) (fun _ s7 _ => 64 - (intOf s7).toNat)
  case atStart => exact ⟨0, by omega, rfl, rfl, b1⟩
  case round =>
    obtain ⟨k, hk, rfl, rfl, bk⟩ := hrel
    have j0 : (0 : Int) ≤ (k : Int) := Int.natCast_nonneg _
    by_cases hlt : k < 64
    · have j1 : (k : Int) < 64 := by omega
      have J1 : (k : Int) < ((64 : Nat) : Int) := by omega
      have ti := toInt_run (l k) (Nat.lt_trans (HF.out k hlt) (by decide))
      obtain ⟨g0, g1⟩ := LI.out k (by omega)
      have lb := HF.out k hlt
      have ew : IntKind.i64.wrap (-(l k)) = -(l k) := IntWalk.i64_in _ (by omega)
      have EE : Hid (ldS l (k + 1) = max (ldS l k) ((l k).natAbs : Int)) := (rfl : _ = _)
      by_cases p1 : ldS l k < l k
      · have p2 : ¬ l k < -(l k) := by omega
        have E : Hid (ldS l (k + 1) = l k) := by show _ = _; rw [EE.out]; omega
        clear lb
        go_wp2_with (with_reducible refine wpList_index_any rfl 26 _ _ rfl 64 (fv l) (k : Int) rfl rfl 24 Try.underlying26 _ Try.underlying24 rfl info1 j0 J1 (.float .f32 (fs (l k))) (fv_at l k) ?_)
        go_roundw
        case rel => exact ⟨k + 1, by omega, by go_num, by rw [E.out], bk⟩
        case measure => simp [intOf]; omega
      · by_cases p2 : ldS l k < -(l k)
        · have E : Hid (ldS l (k + 1) = -(l k)) := by show _ = _; rw [EE.out]; omega
          clear lb
          go_wp2_with (with_reducible refine wpList_index_any rfl 26 _ _ rfl 64 (fv l) (k : Int) rfl rfl 24 Try.underlying26 _ Try.underlying24 rfl info1 j0 J1 (.float .f32 (fs (l k))) (fv_at l k) ?_)
          go_roundw
          case rel => exact ⟨k + 1, by omega, by go_num, by rw [E.out], bk⟩
          case measure => simp [intOf]; omega
        · have E : Hid (ldS l (k + 1) = ldS l k) := by show _ = _; rw [EE.out]; omega
          clear lb
          go_wp2_with (with_reducible refine wpList_index_any rfl 26 _ _ rfl 64 (fv l) (k : Int) rfl rfl 24 Try.underlying26 _ Try.underlying24 rfl info1 j0 J1 (.float .f32 (fs (l k))) (fv_at l k) ?_)
          go_roundw
          case rel => exact ⟨k + 1, by omega, by go_num, by rw [E.out], bk⟩
          case measure => simp [intOf]; omega
    · obtain rfl : k = 64 := by omega
      go_wp2
      go_ret
      exact ⟨rfl, bk.out⟩
end Go.Proofs.Ytoieemgdkpnbfaa
