/- LawArrives: the row, and the tied card -/
import Derived.Test.YtnhbmmpjifliaaaGreatDoorLawArrivesX
import Derived.SevenTiedAt
namespace Go.Proofs.YtnhbmmpjifliaaaGreatDoor
open Go.ChangeShapes Go.WideShapes Go.ChangeAt Go.RowKit RayM
set_option linter.unusedVariables false
set_option linter.unusedSimpArgs false
namespace LawArrivesP
theorem facts : joinedFacts Tryz.pinned.checked.prog 9 Tryz.f9 Rows.lawArrivesSpec Rows.lawArrivesRow = true := by kernel_rfl
theorem over : Rows.lawArrivesRow.holds Tryz.pinned (OpenSpec.ofChange Rows.lawArrivesSpec) :=
  OpenClaim.holds_of_wide 9 Tryz.f9 rfl rfl rfl rfl rfl rfl rfl ⟨rfl, rfl, rfl, rfl, rfl⟩ rfl rfl rfl rfl rfl (by kernel_rfl) Tryz.func9 facts
    (of_decide_eq_true (by kernel_rfl)) (by unfold Func.isWrapper; first | (rw [if_pos (by decide +kernel)]; kernel_rfl) | (rw [if_neg (by decide +kernel)]; exact ⟨rfl, rfl⟩))
    (fun os started H enc _ => lifted os started H enc)
theorem holds : Rows.LawArrivesSaid := over
set_option maxRecDepth 100000 in
set_option maxHeartbeats 4000000 in
theorem proved : Rows.LawArrivesCardSaid :=
  Claim7.holds_tied_plain_at .later [] [.data, .data, .data, .data, .sentinel, .sentinel, .pinned] true (true, "27d7ab6db9c139a19867cfd0a725c7705244848d8f4a00399aaf757afa2726ff") true holds (fun _ h => by cases h) (by kernel_rfl) (fun _ h => by cases h) lawArrives_row_tie rfl ⟨rfl, rfl⟩ (by kernel_rfl) rfl
    (fun f fn hf hfn => by
      obtain rfl : f = 9 := Option.some.inj ((show Tryz.prog.funcNamed "couplant/couplantlaw02.LawArrives" = some 9 by kernel_rfl).symm.trans hf) |>.symm
      obtain rfl : fn = Tryz.f9 := (Option.some.inj (Tryz.func9.symm.trans hfn)).symm
      exact ⟨by kernel_rfl, fun j t ht => by
        rw [Tryz.params9] at ht
        have hm : t ∈ [59, 62, 64] := by
          have := Array.mem_of_getElem? ht
          simp at this ⊢
          omega
        have hall : ([59, 62, 64].all fun u => !Tryz.prog.wantsStandIn u) = true := by kernel_rfl
        exact (show Tryz.prog.wantsStandIn t = false by simpa using List.all_eq_true.1 hall t hm)⟩)
    (by kernel_rfl)
#print axioms proved
end LawArrivesP
end Go.Proofs.YtnhbmmpjifliaaaGreatDoor
