/- LawChecks: the row, and the tied card -/
import Derived.Test.YtnhbmmpjifliaaaGreatDoorLawChecksX
import Derived.SevenTiedAt
namespace Go.Proofs.YtnhbmmpjifliaaaGreatDoor
open Go.ChangeShapes Go.WideShapes Go.ChangeAt Go.RowKit RayM
set_option linter.unusedVariables false
set_option linter.unusedSimpArgs false
namespace LawChecksP
theorem facts : joinedFacts Tryz.pinned.checked.prog 8 Tryz.f8 Rows.lawChecksSpec Rows.lawChecksRow = true := by kernel_rfl
theorem over : Rows.lawChecksRow.holds Tryz.pinned (OpenSpec.ofChange Rows.lawChecksSpec) :=
  OpenClaim.holds_of_wide 8 Tryz.f8 rfl rfl rfl rfl rfl rfl rfl ⟨rfl, rfl, rfl, rfl, rfl⟩ rfl rfl rfl rfl rfl (by kernel_rfl) Tryz.func8 facts
    (of_decide_eq_true (by kernel_rfl)) (by unfold Func.isWrapper; first | (rw [if_pos (by decide +kernel)]; kernel_rfl) | (rw [if_neg (by decide +kernel)]; exact ⟨rfl, rfl⟩))
    (fun os started H enc _ => lifted os started H enc)
theorem holds : Rows.LawChecksSaid := over
set_option maxRecDepth 100000 in
set_option maxHeartbeats 4000000 in
theorem proved : Rows.LawChecksCardSaid :=
  Claim7.holds_tied_plain_at .later [] [.data, .data, .data, .data, .sentinel, .sentinel, .pinned] true (true, "27d7ab6db9c139a19867cfd0a725c7705244848d8f4a00399aaf757afa2726ff") true holds (fun _ h => by cases h) (by kernel_rfl) (fun _ h => by cases h) lawChecks_row_tie rfl ⟨rfl, rfl⟩ (by kernel_rfl) rfl
    (fun f fn hf hfn => by
      obtain rfl : f = 8 := Option.some.inj ((show Tryz.prog.funcNamed "couplant/couplantlaw02.LawChecks" = some 8 by kernel_rfl).symm.trans hf) |>.symm
      obtain rfl : fn = Tryz.f8 := (Option.some.inj (Tryz.func8.symm.trans hfn)).symm
      exact ⟨by kernel_rfl, fun j t ht => by
        rw [Tryz.params8] at ht
        have hm : t ∈ [59, 62, 32] := by
          have := Array.mem_of_getElem? ht
          simp at this ⊢
          omega
        have hall : ([59, 62, 32].all fun u => !Tryz.prog.wantsStandIn u) = true := by kernel_rfl
        exact (show Tryz.prog.wantsStandIn t = false by simpa using List.all_eq_true.1 hall t hm)⟩)
    (by kernel_rfl)
#print axioms proved
end LawChecksP
end Go.Proofs.YtnhbmmpjifliaaaGreatDoor
