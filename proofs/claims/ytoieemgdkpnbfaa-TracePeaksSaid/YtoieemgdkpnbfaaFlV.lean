/- IndexFunc -/
import Derived.Test.YtoieemgdkpnbfaaFlS
import Derived.Test.YtoieemgdkpnbfaaFlU
namespace Go.Proofs.Ytoieemgdkpnbfaa
open Go.RowKit RayM
set_option linter.unusedSimpArgs false
set_option linter.unusedVariables false
section
variable {P : Program}
theorem wpList_box_int {ops : Array Oper} {rest : List Oper} {op : Oper} {a : Act} {w : World} {Q : Exit → Act → World → Prop} (hgd : op.guard = none) (t : TypeId) (x : Operand) (ho : op.op = .box t x) (k : Nat) (hd : op.dst = some k)
    (n : Int) (hx : a.eval x = .int .i64 n)
    (h : ∀ w0, New w w0 1 (fun _ => .int .i64 n) → wpList P ops Q rest (a.put op.dst (.pointer (some ⟨w.heap.size, 0, none⟩))) w0) : wpList P ops Q (op :: rest) a w := by
  refine wpList_plain hgd fun _ hK => ?_
  unfold Oper.wp execOp
  simp only [ho, hx]
  have hi : (Instr.box t (.int .i64 n)).run P w = .ok (.pointer (some ⟨w.heap.size, 0, none⟩)) (w.alloc (.cells (vls 1 fun _ => .int .i64 n).toArray t)) := by
    simp [Instr.box, Result.andThen, newVar, newRow, Value.cells, go_sem, vls]
  simp only [Sem.run_bind, Sem.run_pure, Result.andThen_ok, hi]
  exact hK _ _ (h _ (New.mk' _ _ _ _))
end
set_option maxRecDepth 100000 in
set_option maxHeartbeats 1000000 in
theorem above_any (x q : Int) (B : Nat) (w : World) (h : w.cell? ⟨B, 0, none⟩ = some (.int .i64 q)) :
    Calls Try.prog 69 #[.int .i64 x, .pointer (some ⟨B, 0, none⟩)] w fun e w' => e = .returned (.bool (decide (q ≤ x))) ∧ w' = w := by
  go_enter Try.func69, Try.ntmps69
  go_wp2
  go_ret
  exact ⟨rfl, rfl⟩
set_option maxRecDepth 100000 in
set_option maxHeartbeats 1000000 in
theorem indexFunc_any (s : Nat → Int) (q : Int) (b F n c B : Nat) (w : World) (hn : F + n ≤ 61) (hs : VAt b 61 (fun i => .int .i64 (s i)) w) (h : w.cell? ⟨B, 0, none⟩ = some (.int .i64 q)) :
    Calls Try.prog 68 #[.slice (some ⟨b, F, none⟩) n c, .func (.func 69) #[] #[.pointer (some ⟨B, 0, none⟩)]] w fun e w' => e = .returned (.int .i64 (if (fnd s q F n).2 = 0 then ((fnd s q F n).1 : Int) - F else -1)) ∧ w' = w := by
  have AB := Lib.hid (fun x => above_any x q B w h)
  have ST : Hid (∀ j, j < n → fnd s q (F + j) (n - j) = if q ≤ s (F + j) then (F + j, 0) else fnd s q (F + (j + 1)) (n - (j + 1))) := Lib.hid (fun j hj => by rw [show n - j = (n - (j + 1)) + 1 by omega]; rfl)
  generalize hr : fnd s q F n = R0
  have HR := Lib.hid hr; clear hr
  generalize hv : (if R0.2 = 0 then (R0.1 : Int) - F else -1) = V0
  have HV := Lib.hid hv.symm; clear hv
  go_enter Try.func68, Try.ntmps68
  go_wp2
  go_loopw [8] (fun s8 wr => ∃ j : Nat, j ≤ n ∧ s8 = .int .i64 (j : Int) ∧ fnd s q (F + j) (n - j) = R0 ∧ wr = w) (fun s8 _ => n - (intOf s8).toNat)
  case atStart => exact ⟨0, by omega, rfl, HR.out, rfl⟩
  case round =>
    obtain ⟨j, hj, rfl, hR, rfl⟩ := hrel
    have HK := Lib.hid hR; clear hR
    have j0 : (0 : Int) ≤ (j : Int) := Int.natCast_nonneg _
    by_cases hlt : j < n
    · have j1 : (j : Int) < (n : Int) := by omega
      have j2 : (j : Int) < 61 := by omega
      have q0 : wr.cell? ⟨b, F + j, none⟩ = some (.int .i64 (s (F + j))) := hs (F + j) (by omega)
      have SJ := Lib.hid (ST.out j hlt)
      generalize s (F + j) = S at *
      by_cases hg : q ≤ S
      · have EE : Hid (R0 = (F + j, 0)) := by show _ = _; rw [← HK.out, SJ.out, if_pos hg]
        have hd : decide (q ≤ S) = true := by simpa using hg
        go_wp2_with (go_at_call 69; (with_reducible refine (AB.out _).mono ?_); rintro e w' ⟨rfl, rfl⟩)
        go_ret
        have ev : V0 = (j : Int) := by rw [HV.out, EE.out]; dsimp only; rw [if_pos rfl]; omega
        exact ⟨by rw [ev]; rfl, by first | trivial | rfl⟩
      · have EE : Hid (fnd s q (F + (j + 1)) (n - (j + 1)) = R0) := by show _ = _; rw [← HK.out, SJ.out, if_neg hg]
        have hd : decide (q ≤ S) = false := by simpa using hg
        go_wp2_with (go_at_call 69; (with_reducible refine (AB.out _).mono ?_); rintro e w' ⟨rfl, rfl⟩)
        go_roundw
        case rel => exact ⟨j + 1, by omega, by go_num, EE.out, by first | trivial | rfl⟩
        case measure => simp [intOf]; omega
    · obtain rfl : j = n := by omega
      have EE : Hid (R0 = (0, 12)) := by show _ = _; rw [← HK.out, Nat.sub_self]; rfl
      go_wp2
      go_ret
      have ev : V0 = -1 := by rw [HV.out, EE.out]; rfl
      exact ⟨by rw [ev]; rfl, by first | trivial | rfl⟩
end Go.Proofs.Ytoieemgdkpnbfaa
