/-
  DERIVED. GIVEN WITH THE SEED: THE CARDS: each row of YtkkaomgdlnejcaaGreatDoorRows.lean that lists a variable, with what it lists TIED to the program's text (the seventh form; the later family's looks); each row that meets fmt, with fmt's text TOLD by the authors' own Lean function (tested against real Go, not proved from fmt's source: count such statements apart). THE CARD IS WHAT COUNTS. Prove the row's statement (the work); the ties are given (YtkkaomgdlnejcaaGreatDoorTie.lean); close each card by the builder's one call (the guide's Derived/Test/ToyasCard.lean, 'card_holds'). Laid BY PROGRAM, IN A SANDBOX (cutbox-door.mjs). By AI agents, Wed Nov 11 2026. No macro, syntax, notation, axiom, sorry.
-/
import Derived.Test.YtkkaomgdlnejcaaGreatDoorRows
import GoSem.ClaimSeven
namespace Go.Proofs.YtkkaomgdlnejcaaGreatDoor
namespace Rows

/-- THE TIED CARD OF 'couplantlaw02.LawPlanes'. -/
def lawPlanesCard : Claim7 := { stood := { row := lawPlanesRow, standIns := [], harness := (true, "e11b6bc63e0d6abc6f6eb2a04717848c24cce7f4b6dcdedc0b1b46f393f96c5b"), looks := true }, kinds := [], alts := [], laidByText := true, laidKinds := [.data, .data, .data, .data, .sentinel, .sentinel, .pinned], laidTests := true, laidLooks := .later }
def LawPlanesCardSaid : Prop := Claim7.holds Tryz.pinned (.plain (OpenSpec.ofChange lawPlanesSpec)) lawPlanesCard

/-- THE TIED CARD OF 'couplantlaw02.LawBest'. -/
def lawBestCard : Claim7 := { stood := { row := lawBestRow, standIns := [], harness := (true, "e11b6bc63e0d6abc6f6eb2a04717848c24cce7f4b6dcdedc0b1b46f393f96c5b"), looks := true }, kinds := [], alts := [], laidByText := true, laidKinds := [.data, .data, .data, .data, .sentinel, .sentinel, .pinned], laidTests := true, laidLooks := .later }
def LawBestCardSaid : Prop := Claim7.holds Tryz.pinned (.plain (OpenSpec.ofChange lawBestSpec)) lawBestCard

/-- THE TIED CARD OF 'couplantlaw02.LawClocks'. -/
def lawClocksCard : Claim7 := { stood := { row := lawClocksRow, standIns := [], harness := (true, "e11b6bc63e0d6abc6f6eb2a04717848c24cce7f4b6dcdedc0b1b46f393f96c5b"), looks := true }, kinds := [], alts := [], laidByText := true, laidKinds := [.data, .data, .data, .data, .sentinel, .sentinel, .pinned], laidTests := true, laidLooks := .later }
def LawClocksCardSaid : Prop := Claim7.holds Tryz.pinned (.plain (OpenSpec.ofChange lawClocksSpec)) lawClocksCard

/-- THE TIED CARD OF 'couplantlaw02.LawChanges'. -/
def lawChangesCard : Claim7 := { stood := { row := lawChangesRow, standIns := [], harness := (true, "e11b6bc63e0d6abc6f6eb2a04717848c24cce7f4b6dcdedc0b1b46f393f96c5b"), looks := true }, kinds := [], alts := [], laidByText := true, laidKinds := [.data, .data, .data, .data, .sentinel, .sentinel, .pinned], laidTests := true, laidLooks := .later }
def LawChangesCardSaid : Prop := Claim7.holds Tryz.pinned (.plain (OpenSpec.ofChange lawChangesSpec)) lawChangesCard

/-- THE TIED CARD OF 'couplantlaw02.LawApertures'. -/
def lawAperturesCard : Claim7 := { stood := { row := lawAperturesRow, standIns := [], harness := (true, "e11b6bc63e0d6abc6f6eb2a04717848c24cce7f4b6dcdedc0b1b46f393f96c5b"), looks := true }, kinds := [], alts := [], laidByText := true, laidKinds := [.data, .data, .data, .data, .sentinel, .sentinel, .pinned], laidTests := true, laidLooks := .later }
def LawAperturesCardSaid : Prop := Claim7.holds Tryz.pinned (.plain (OpenSpec.ofChange lawAperturesSpec)) lawAperturesCard

/-- THE SECOND FORM's CARD OF 'couplantlaw02.LawPlanes'. -/
def lawPlanesUptoCard : Claim7 := { stood := { row := lawPlanesUptoRow, standIns := [], harness := (true, "e11b6bc63e0d6abc6f6eb2a04717848c24cce7f4b6dcdedc0b1b46f393f96c5b"), looks := true }, kinds := [], alts := [], laidByText := true, laidKinds := [.data, .data, .data, .data, .sentinel, .sentinel, .pinned], laidTests := true, laidLooks := .later }
def LawPlanesUptoCardSaid : Prop := Claim7.holds Tryz.pinned (.plain (OpenSpec.upto lawPlanesSpec)) lawPlanesUptoCard

/-- THE SECOND FORM's CARD OF 'couplantlaw02.LawBest'. -/
def lawBestUptoCard : Claim7 := { stood := { row := lawBestUptoRow, standIns := [], harness := (true, "e11b6bc63e0d6abc6f6eb2a04717848c24cce7f4b6dcdedc0b1b46f393f96c5b"), looks := true }, kinds := [], alts := [], laidByText := true, laidKinds := [.data, .data, .data, .data, .sentinel, .sentinel, .pinned], laidTests := true, laidLooks := .later }
def LawBestUptoCardSaid : Prop := Claim7.holds Tryz.pinned (.plain (OpenSpec.upto lawBestSpec)) lawBestUptoCard

/-- THE SECOND FORM's CARD OF 'couplantlaw02.LawClocks'. -/
def lawClocksUptoCard : Claim7 := { stood := { row := lawClocksUptoRow, standIns := [], harness := (true, "e11b6bc63e0d6abc6f6eb2a04717848c24cce7f4b6dcdedc0b1b46f393f96c5b"), looks := true }, kinds := [], alts := [], laidByText := true, laidKinds := [.data, .data, .data, .data, .sentinel, .sentinel, .pinned], laidTests := true, laidLooks := .later }
def LawClocksUptoCardSaid : Prop := Claim7.holds Tryz.pinned (.plain (OpenSpec.upto lawClocksSpec)) lawClocksUptoCard

/-- THE SECOND FORM's CARD OF 'couplantlaw02.LawChanges'. -/
def lawChangesUptoCard : Claim7 := { stood := { row := lawChangesUptoRow, standIns := [], harness := (true, "e11b6bc63e0d6abc6f6eb2a04717848c24cce7f4b6dcdedc0b1b46f393f96c5b"), looks := true }, kinds := [], alts := [], laidByText := true, laidKinds := [.data, .data, .data, .data, .sentinel, .sentinel, .pinned], laidTests := true, laidLooks := .later }
def LawChangesUptoCardSaid : Prop := Claim7.holds Tryz.pinned (.plain (OpenSpec.upto lawChangesSpec)) lawChangesUptoCard

/-- THE SECOND FORM's CARD OF 'couplantlaw02.LawApertures'. -/
def lawAperturesUptoCard : Claim7 := { stood := { row := lawAperturesUptoRow, standIns := [], harness := (true, "e11b6bc63e0d6abc6f6eb2a04717848c24cce7f4b6dcdedc0b1b46f393f96c5b"), looks := true }, kinds := [], alts := [], laidByText := true, laidKinds := [.data, .data, .data, .data, .sentinel, .sentinel, .pinned], laidTests := true, laidLooks := .later }
def LawAperturesUptoCardSaid : Prop := Claim7.holds Tryz.pinned (.plain (OpenSpec.upto lawAperturesSpec)) lawAperturesUptoCard
end Rows
end Go.Proofs.YtkkaomgdlnejcaaGreatDoor
