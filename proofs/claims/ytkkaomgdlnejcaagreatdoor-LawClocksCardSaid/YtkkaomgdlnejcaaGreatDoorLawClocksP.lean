/- LawClocks: the row, and the tied card -/
import Derived.Test.YtkkaomgdlnejcaaGreatDoorLawClocksX
import Derived.SevenTiedAt
namespace Go.Proofs.YtkkaomgdlnejcaaGreatDoor
open Go.ChangeShapes Go.WideShapes Go.ChangeAt Go.RowKit RayM
set_option linter.unusedVariables false
set_option linter.unusedSimpArgs false
namespace LawClocksP
theorem facts : joinedFacts Tryz.pinned.checked.prog 5 Tryz.f5 Rows.lawClocksSpec Rows.lawClocksRow = true := by kernel_rfl
theorem over : Rows.lawClocksRow.holds Tryz.pinned (OpenSpec.ofChange Rows.lawClocksSpec) :=
  OpenClaim.holds_of_wide 5 Tryz.f5 rfl rfl rfl rfl rfl rfl rfl ⟨rfl, rfl, rfl, rfl, rfl⟩ rfl rfl rfl rfl rfl (by kernel_rfl) Tryz.func5 facts
    (of_decide_eq_true (by kernel_rfl)) (by unfold Func.isWrapper; first | (rw [if_pos (by decide +kernel)]; kernel_rfl) | (rw [if_neg (by decide +kernel)]; exact ⟨rfl, rfl⟩))
    (fun os started H enc _ => lifted os started H enc)
theorem holds : Rows.LawClocksSaid := over
set_option maxRecDepth 100000 in
set_option maxHeartbeats 4000000 in
theorem proved : Rows.LawClocksCardSaid :=
  Claim7.holds_tied_plain_at .later [] [.data, .data, .data, .data, .sentinel, .sentinel, .pinned] true (true, "e11b6bc63e0d6abc6f6eb2a04717848c24cce7f4b6dcdedc0b1b46f393f96c5b") true holds (fun _ h => by cases h) (by kernel_rfl) (fun _ h => by cases h) lawClocks_row_tie rfl ⟨rfl, rfl⟩ (by kernel_rfl) rfl
    (fun f fn hf hfn => by
      obtain rfl : f = 5 := Option.some.inj ((show Tryz.prog.funcNamed "couplant/couplantlaw02.LawClocks" = some 5 by kernel_rfl).symm.trans hf) |>.symm
      obtain rfl : fn = Tryz.f5 := (Option.some.inj (Tryz.func5.symm.trans hfn)).symm
      exact ⟨by kernel_rfl, fun j t ht => by
        rw [Tryz.params5] at ht
        have hm : t ∈ [26, 45, 56] := by
          have := Array.mem_of_getElem? ht
          simp at this ⊢
          omega
        have hall : ([26, 45, 56].all fun u => !Tryz.prog.wantsStandIn u) = true := by kernel_rfl
        exact (show Tryz.prog.wantsStandIn t = false by simpa using List.all_eq_true.1 hall t hm)⟩)
    (by kernel_rfl)
#print axioms proved
end LawClocksP
end Go.Proofs.YtkkaomgdlnejcaaGreatDoor
