/- LawFoci: the row, and the tied card -/
import Derived.Test.YtnhbmmpjifliaaaGreatDoorLawFociX
import Derived.SevenTiedAt
namespace Go.Proofs.YtnhbmmpjifliaaaGreatDoor
open Go.ChangeShapes Go.WideShapes Go.ChangeAt Go.RowKit RayM
set_option linter.unusedVariables false
set_option linter.unusedSimpArgs false
namespace LawFociP
theorem facts : joinedFacts Tryz.pinned.checked.prog 10 Tryz.f10 Rows.lawFociSpec Rows.lawFociRow = true := by kernel_rfl
theorem over : Rows.lawFociRow.holds Tryz.pinned (OpenSpec.ofChange Rows.lawFociSpec) :=
  OpenClaim.holds_of_wide 10 Tryz.f10 rfl rfl rfl rfl rfl rfl rfl ⟨rfl, rfl, rfl, rfl, rfl⟩ rfl rfl rfl rfl rfl (by kernel_rfl) Tryz.func10 facts
    (of_decide_eq_true (by kernel_rfl)) (by unfold Func.isWrapper; first | (rw [if_pos (by decide +kernel)]; kernel_rfl) | (rw [if_neg (by decide +kernel)]; exact ⟨rfl, rfl⟩))
    (fun os started H enc _ => lifted os started H enc)
theorem holds : Rows.LawFociSaid := over
set_option maxRecDepth 100000 in
set_option maxHeartbeats 4000000 in
theorem proved : Rows.LawFociCardSaid :=
  Claim7.holds_tied_plain_at .later [] [.data, .data, .data, .data, .sentinel, .sentinel, .pinned] true (true, "27d7ab6db9c139a19867cfd0a725c7705244848d8f4a00399aaf757afa2726ff") true holds (fun _ h => by cases h) (by kernel_rfl) (fun _ h => by cases h) lawFoci_row_tie rfl ⟨rfl, rfl⟩ (by kernel_rfl) rfl
    (fun f fn hf hfn => by
      obtain rfl : f = 10 := Option.some.inj ((show Tryz.prog.funcNamed "couplant/couplantlaw02.LawFoci" = some 10 by kernel_rfl).symm.trans hf) |>.symm
      obtain rfl : fn = Tryz.f10 := (Option.some.inj (Tryz.func10.symm.trans hfn)).symm
      exact ⟨by kernel_rfl, fun j t ht => by
        rw [Tryz.params10] at ht
        have hm : t ∈ [59, 64] := by
          have := Array.mem_of_getElem? ht
          simp at this ⊢
          omega
        have hall : ([59, 64].all fun u => !Tryz.prog.wantsStandIn u) = true := by kernel_rfl
        exact (show Tryz.prog.wantsStandIn t = false by simpa using List.all_eq_true.1 hall t hm)⟩)
    (by kernel_rfl)
#print axioms proved
end LawFociP
end Go.Proofs.YtnhbmmpjifliaaaGreatDoor
