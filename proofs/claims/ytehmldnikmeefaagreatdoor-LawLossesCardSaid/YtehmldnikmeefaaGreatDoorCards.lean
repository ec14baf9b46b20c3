/-
  DERIVED. GIVEN WITH THE SEED: THE CARDS: each row of YtehmldnikmeefaaGreatDoorRows.lean that lists a variable, with what it lists TIED to the program's text (the seventh form; the later family's looks); each row that meets fmt, with fmt's text TOLD by the authors' own Lean function (tested against real Go, not proved from fmt's source: count such statements apart). THE CARD IS WHAT COUNTS. Prove the row's statement (the work); the ties are given (YtehmldnikmeefaaGreatDoorTie.lean); close each card by the builder's one call (the guide's Derived/Test/ToyasCard.lean, 'card_holds'). Laid BY PROGRAM, IN A SANDBOX (cutbox-door.mjs). By AI agents, Wed Nov 11 2026. No macro, syntax, notation, axiom, sorry.
-/
import Derived.Test.YtehmldnikmeefaaGreatDoorRows
import GoSem.ClaimSeven
namespace Go.Proofs.YtehmldnikmeefaaGreatDoor
namespace Rows

/-- THE TIED CARD OF 'couplantlaw02.LawLosses'. -/
def lawLossesCard : Claim7 := { stood := { row := lawLossesRow, standIns := [], harness := (true, "46d1b51619c94b61dc9adf5ecfa00e6645ddfd802923a38767b562e64c5a152b"), looks := true }, kinds := [], alts := [], laidByText := true, laidKinds := [.data, .data, .data, .data, .sentinel, .sentinel, .pinned], laidTests := true, laidLooks := .later }
def LawLossesCardSaid : Prop := Claim7.holds Tryz.pinned (.plain (OpenSpec.ofChange lawLossesSpec)) lawLossesCard

/-- THE TIED CARD OF 'couplantlaw02.LawLobes'. -/
def lawLobesCard : Claim7 := { stood := { row := lawLobesRow, standIns := [], harness := (true, "46d1b51619c94b61dc9adf5ecfa00e6645ddfd802923a38767b562e64c5a152b"), looks := true }, kinds := [], alts := [], laidByText := true, laidKinds := [.data, .data, .data, .data, .sentinel, .sentinel, .pinned], laidTests := true, laidLooks := .later }
def LawLobesCardSaid : Prop := Claim7.holds Tryz.pinned (.plain (OpenSpec.ofChange lawLobesSpec)) lawLobesCard

/-- THE TIED CARD OF 'couplantlaw02.LawShifts'. -/
def lawShiftsCard : Claim7 := { stood := { row := lawShiftsRow, standIns := [], harness := (true, "46d1b51619c94b61dc9adf5ecfa00e6645ddfd802923a38767b562e64c5a152b"), looks := true }, kinds := [], alts := [], laidByText := true, laidKinds := [.data, .data, .data, .data, .sentinel, .sentinel, .pinned], laidTests := true, laidLooks := .later }
def LawShiftsCardSaid : Prop := Claim7.holds Tryz.pinned (.plain (OpenSpec.ofChange lawShiftsSpec)) lawShiftsCard

/-- THE TIED CARD OF 'couplantlaw02.LawMeets'. -/
def lawMeetsCard : Claim7 := { stood := { row := lawMeetsRow, standIns := [], harness := (true, "46d1b51619c94b61dc9adf5ecfa00e6645ddfd802923a38767b562e64c5a152b"), looks := true }, kinds := [], alts := [], laidByText := true, laidKinds := [.data, .data, .data, .data, .sentinel, .sentinel, .pinned], laidTests := true, laidLooks := .later }
def LawMeetsCardSaid : Prop := Claim7.holds Tryz.pinned (.plain (OpenSpec.ofChange lawMeetsSpec)) lawMeetsCard

/-- THE SECOND FORM's CARD OF 'couplantlaw02.LawLosses'. -/
def lawLossesUptoCard : Claim7 := { stood := { row := lawLossesUptoRow, standIns := [], harness := (true, "46d1b51619c94b61dc9adf5ecfa00e6645ddfd802923a38767b562e64c5a152b"), looks := true }, kinds := [], alts := [], laidByText := true, laidKinds := [.data, .data, .data, .data, .sentinel, .sentinel, .pinned], laidTests := true, laidLooks := .later }
def LawLossesUptoCardSaid : Prop := Claim7.holds Tryz.pinned (.plain (OpenSpec.upto lawLossesSpec)) lawLossesUptoCard

/-- THE SECOND FORM's CARD OF 'couplantlaw02.LawLobes'. -/
def lawLobesUptoCard : Claim7 := { stood := { row := lawLobesUptoRow, standIns := [], harness := (true, "46d1b51619c94b61dc9adf5ecfa00e6645ddfd802923a38767b562e64c5a152b"), looks := true }, kinds := [], alts := [], laidByText := true, laidKinds := [.data, .data, .data, .data, .sentinel, .sentinel, .pinned], laidTests := true, laidLooks := .later }
def LawLobesUptoCardSaid : Prop := Claim7.holds Tryz.pinned (.plain (OpenSpec.upto lawLobesSpec)) lawLobesUptoCard

/-- THE SECOND FORM's CARD OF 'couplantlaw02.LawShifts'. -/
def lawShiftsUptoCard : Claim7 := { stood := { row := lawShiftsUptoRow, standIns := [], harness := (true, "46d1b51619c94b61dc9adf5ecfa00e6645ddfd802923a38767b562e64c5a152b"), looks := true }, kinds := [], alts := [], laidByText := true, laidKinds := [.data, .data, .data, .data, .sentinel, .sentinel, .pinned], laidTests := true, laidLooks := .later }
def LawShiftsUptoCardSaid : Prop := Claim7.holds Tryz.pinned (.plain (OpenSpec.upto lawShiftsSpec)) lawShiftsUptoCard

/-- THE SECOND FORM's CARD OF 'couplantlaw02.LawMeets'. -/
def lawMeetsUptoCard : Claim7 := { stood := { row := lawMeetsUptoRow, standIns := [], harness := (true, "46d1b51619c94b61dc9adf5ecfa00e6645ddfd802923a38767b562e64c5a152b"), looks := true }, kinds := [], alts := [], laidByText := true, laidKinds := [.data, .data, .data, .data, .sentinel, .sentinel, .pinned], laidTests := true, laidLooks := .later }
def LawMeetsUptoCardSaid : Prop := Claim7.holds Tryz.pinned (.plain (OpenSpec.upto lawMeetsSpec)) lawMeetsUptoCard
end Rows
end Go.Proofs.YtehmldnikmeefaaGreatDoor
