/-
  DERIVED. GIVEN WITH THE SEED: THE CARDS: each row of YtnckfbejgkdhhaaGreatDoorRows.lean that lists a variable, with what it lists TIED to the program's text (the seventh form; the later family's looks); each row that meets fmt, with fmt's text TOLD by the authors' own Lean function (tested against real Go, not proved from fmt's source: count such statements apart). THE CARD IS WHAT COUNTS. Prove the row's statement (the work); the ties are given (YtnckfbejgkdhhaaGreatDoorTie.lean); close each card by the builder's one call (the guide's Derived/Test/ToyasCard.lean, 'card_holds'). Laid BY PROGRAM, IN A SANDBOX (cutbox-door.mjs). By AI agents, Wed Nov 11 2026. No macro, syntax, notation, axiom, sorry.
-/
import Derived.Test.YtnckfbejgkdhhaaGreatDoorRows
import GoSem.ClaimSeven
namespace Go.Proofs.YtnckfbejgkdhhaaGreatDoor
namespace Rows

/-- THE TIED CARD OF 'couplantlaw02.LawTexts'. -/
def lawTextsCard : Claim7 := { stood := { row := lawTextsRow, standIns := [], harness := (true, "31706bd95c5db85fb81e6e4e602ee4bb1e9371f301be379cb844d919d5210e5a"), looks := true }, kinds := [], alts := [], laidByText := true, laidKinds := [.data, .data, .data, .data, .sentinel, .sentinel, .pinned], laidTests := true, laidLooks := .later }
def LawTextsCardSaid : Prop := Claim7.holds Tryz.pinned (.plain (OpenSpec.ofChange lawTextsSpec)) lawTextsCard

/-- THE SECOND FORM's CARD OF 'couplantlaw02.LawTexts'. -/
def lawTextsUptoCard : Claim7 := { stood := { row := lawTextsUptoRow, standIns := [], harness := (true, "31706bd95c5db85fb81e6e4e602ee4bb1e9371f301be379cb844d919d5210e5a"), looks := true }, kinds := [], alts := [], laidByText := true, laidKinds := [.data, .data, .data, .data, .sentinel, .sentinel, .pinned], laidTests := true, laidLooks := .later }
def LawTextsUptoCardSaid : Prop := Claim7.holds Tryz.pinned (.plain (OpenSpec.upto lawTextsSpec)) lawTextsUptoCard
end Rows
end Go.Proofs.YtnckfbejgkdhhaaGreatDoor
