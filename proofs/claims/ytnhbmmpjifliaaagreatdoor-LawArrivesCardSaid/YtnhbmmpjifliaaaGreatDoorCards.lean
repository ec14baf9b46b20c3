/-
  DERIVED. GIVEN WITH THE SEED: THE CARDS: each row of YtnhbmmpjifliaaaGreatDoorRows.lean that lists a variable, with what it lists TIED to the program's text (the seventh form; the later family's looks); each row that meets fmt, with fmt's text TOLD by the authors' own Lean function (tested against real Go, not proved from fmt's source: count such statements apart). THE CARD IS WHAT COUNTS. Prove the row's statement (the work); the ties are given (YtnhbmmpjifliaaaGreatDoorTie.lean); close each card by the builder's one call (the guide's Derived/Test/ToyasCard.lean, 'card_holds'). Laid BY PROGRAM, IN A SANDBOX (cutbox-door.mjs). By AI agents, Wed Nov 11 2026. No macro, syntax, notation, axiom, sorry.
-/
import Derived.Test.YtnhbmmpjifliaaaGreatDoorRows
import GoSem.ClaimSeven
namespace Go.Proofs.YtnhbmmpjifliaaaGreatDoor
namespace Rows

/-- THE TIED CARD OF 'couplantlaw02.LawLosses'. -/
def lawLossesCard : Claim7 := { stood := { row := lawLossesRow, standIns := [], harness := (true, "27d7ab6db9c139a19867cfd0a725c7705244848d8f4a00399aaf757afa2726ff"), looks := true }, kinds := [], alts := [], laidByText := true, laidKinds := [.data, .data, .data, .data, .sentinel, .sentinel, .pinned], laidTests := true, laidLooks := .later }
def LawLossesCardSaid : Prop := Claim7.holds Tryz.pinned (.plain (OpenSpec.ofChange lawLossesSpec)) lawLossesCard

/-- THE TIED CARD OF 'couplantlaw02.LawLobes'. -/
def lawLobesCard : Claim7 := { stood := { row := lawLobesRow, standIns := [], harness := (true, "27d7ab6db9c139a19867cfd0a725c7705244848d8f4a00399aaf757afa2726ff"), looks := true }, kinds := [], alts := [], laidByText := true, laidKinds := [.data, .data, .data, .data, .sentinel, .sentinel, .pinned], laidTests := true, laidLooks := .later }
def LawLobesCardSaid : Prop := Claim7.holds Tryz.pinned (.plain (OpenSpec.ofChange lawLobesSpec)) lawLobesCard

/-- THE TIED CARD OF 'couplantlaw02.LawShifts'. -/
def lawShiftsCard : Claim7 := { stood := { row := lawShiftsRow, standIns := [], harness := (true, "27d7ab6db9c139a19867cfd0a725c7705244848d8f4a00399aaf757afa2726ff"), looks := true }, kinds := [], alts := [], laidByText := true, laidKinds := [.data, .data, .data, .data, .sentinel, .sentinel, .pinned], laidTests := true, laidLooks := .later }
def LawShiftsCardSaid : Prop := Claim7.holds Tryz.pinned (.plain (OpenSpec.ofChange lawShiftsSpec)) lawShiftsCard

/-- THE TIED CARD OF 'couplantlaw02.LawMeets'. -/
def lawMeetsCard : Claim7 := { stood := { row := lawMeetsRow, standIns := [], harness := (true, "27d7ab6db9c139a19867cfd0a725c7705244848d8f4a00399aaf757afa2726ff"), looks := true }, kinds := [], alts := [], laidByText := true, laidKinds := [.data, .data, .data, .data, .sentinel, .sentinel, .pinned], laidTests := true, laidLooks := .later }
def LawMeetsCardSaid : Prop := Claim7.holds Tryz.pinned (.plain (OpenSpec.ofChange lawMeetsSpec)) lawMeetsCard

/-- THE TIED CARD OF 'couplantlaw02.LawSums'. -/
def lawSumsCard : Claim7 := { stood := { row := lawSumsRow, standIns := [], harness := (true, "27d7ab6db9c139a19867cfd0a725c7705244848d8f4a00399aaf757afa2726ff"), looks := true }, kinds := [], alts := [], laidByText := true, laidKinds := [.data, .data, .data, .data, .sentinel, .sentinel, .pinned], laidTests := true, laidLooks := .later }
def LawSumsCardSaid : Prop := Claim7.holds Tryz.pinned (.plain (OpenSpec.ofChange lawSumsSpec)) lawSumsCard

/-- THE TIED CARD OF 'couplantlaw02.LawChecks'. -/
def lawChecksCard : Claim7 := { stood := { row := lawChecksRow, standIns := [], harness := (true, "27d7ab6db9c139a19867cfd0a725c7705244848d8f4a00399aaf757afa2726ff"), looks := true }, kinds := [], alts := [], laidByText := true, laidKinds := [.data, .data, .data, .data, .sentinel, .sentinel, .pinned], laidTests := true, laidLooks := .later }
def LawChecksCardSaid : Prop := Claim7.holds Tryz.pinned (.plain (OpenSpec.ofChange lawChecksSpec)) lawChecksCard

/-- THE TIED CARD OF 'couplantlaw02.LawArrives'. -/
def lawArrivesCard : Claim7 := { stood := { row := lawArrivesRow, standIns := [], harness := (true, "27d7ab6db9c139a19867cfd0a725c7705244848d8f4a00399aaf757afa2726ff"), looks := true }, kinds := [], alts := [], laidByText := true, laidKinds := [.data, .data, .data, .data, .sentinel, .sentinel, .pinned], laidTests := true, laidLooks := .later }
def LawArrivesCardSaid : Prop := Claim7.holds Tryz.pinned (.plain (OpenSpec.ofChange lawArrivesSpec)) lawArrivesCard

/-- THE TIED CARD OF 'couplantlaw02.LawFoci'. -/
def lawFociCard : Claim7 := { stood := { row := lawFociRow, standIns := [], harness := (true, "27d7ab6db9c139a19867cfd0a725c7705244848d8f4a00399aaf757afa2726ff"), looks := true }, kinds := [], alts := [], laidByText := true, laidKinds := [.data, .data, .data, .data, .sentinel, .sentinel, .pinned], laidTests := true, laidLooks := .later }
def LawFociCardSaid : Prop := Claim7.holds Tryz.pinned (.plain (OpenSpec.ofChange lawFociSpec)) lawFociCard

/-- THE SECOND FORM's CARD OF 'couplantlaw02.LawLosses'. -/
def lawLossesUptoCard : Claim7 := { stood := { row := lawLossesUptoRow, standIns := [], harness := (true, "27d7ab6db9c139a19867cfd0a725c7705244848d8f4a00399aaf757afa2726ff"), looks := true }, kinds := [], alts := [], laidByText := true, laidKinds := [.data, .data, .data, .data, .sentinel, .sentinel, .pinned], laidTests := true, laidLooks := .later }
def LawLossesUptoCardSaid : Prop := Claim7.holds Tryz.pinned (.plain (OpenSpec.upto lawLossesSpec)) lawLossesUptoCard

/-- THE SECOND FORM's CARD OF 'couplantlaw02.LawLobes'. -/
def lawLobesUptoCard : Claim7 := { stood := { row := lawLobesUptoRow, standIns := [], harness := (true, "27d7ab6db9c139a19867cfd0a725c7705244848d8f4a00399aaf757afa2726ff"), looks := true }, kinds := [], alts := [], laidByText := true, laidKinds := [.data, .data, .data, .data, .sentinel, .sentinel, .pinned], laidTests := true, laidLooks := .later }
def LawLobesUptoCardSaid : Prop := Claim7.holds Tryz.pinned (.plain (OpenSpec.upto lawLobesSpec)) lawLobesUptoCard

/-- THE SECOND FORM's CARD OF 'couplantlaw02.LawShifts'. -/
def lawShiftsUptoCard : Claim7 := { stood := { row := lawShiftsUptoRow, standIns := [], harness := (true, "27d7ab6db9c139a19867cfd0a725c7705244848d8f4a00399aaf757afa2726ff"), looks := true }, kinds := [], alts := [], laidByText := true, laidKinds := [.data, .data, .data, .data, .sentinel, .sentinel, .pinned], laidTests := true, laidLooks := .later }
def LawShiftsUptoCardSaid : Prop := Claim7.holds Tryz.pinned (.plain (OpenSpec.upto lawShiftsSpec)) lawShiftsUptoCard

/-- THE SECOND FORM's CARD OF 'couplantlaw02.LawMeets'. -/
def lawMeetsUptoCard : Claim7 := { stood := { row := lawMeetsUptoRow, standIns := [], harness := (true, "27d7ab6db9c139a19867cfd0a725c7705244848d8f4a00399aaf757afa2726ff"), looks := true }, kinds := [], alts := [], laidByText := true, laidKinds := [.data, .data, .data, .data, .sentinel, .sentinel, .pinned], laidTests := true, laidLooks := .later }
def LawMeetsUptoCardSaid : Prop := Claim7.holds Tryz.pinned (.plain (OpenSpec.upto lawMeetsSpec)) lawMeetsUptoCard

/-- THE SECOND FORM's CARD OF 'couplantlaw02.LawSums'. -/
def lawSumsUptoCard : Claim7 := { stood := { row := lawSumsUptoRow, standIns := [], harness := (true, "27d7ab6db9c139a19867cfd0a725c7705244848d8f4a00399aaf757afa2726ff"), looks := true }, kinds := [], alts := [], laidByText := true, laidKinds := [.data, .data, .data, .data, .sentinel, .sentinel, .pinned], laidTests := true, laidLooks := .later }
def LawSumsUptoCardSaid : Prop := Claim7.holds Tryz.pinned (.plain (OpenSpec.upto lawSumsSpec)) lawSumsUptoCard

/-- THE SECOND FORM's CARD OF 'couplantlaw02.LawChecks'. -/
def lawChecksUptoCard : Claim7 := { stood := { row := lawChecksUptoRow, standIns := [], harness := (true, "27d7ab6db9c139a19867cfd0a725c7705244848d8f4a00399aaf757afa2726ff"), looks := true }, kinds := [], alts := [], laidByText := true, laidKinds := [.data, .data, .data, .data, .sentinel, .sentinel, .pinned], laidTests := true, laidLooks := .later }
def LawChecksUptoCardSaid : Prop := Claim7.holds Tryz.pinned (.plain (OpenSpec.upto lawChecksSpec)) lawChecksUptoCard

/-- THE SECOND FORM's CARD OF 'couplantlaw02.LawArrives'. -/
def lawArrivesUptoCard : Claim7 := { stood := { row := lawArrivesUptoRow, standIns := [], harness := (true, "27d7ab6db9c139a19867cfd0a725c7705244848d8f4a00399aaf757afa2726ff"), looks := true }, kinds := [], alts := [], laidByText := true, laidKinds := [.data, .data, .data, .data, .sentinel, .sentinel, .pinned], laidTests := true, laidLooks := .later }
def LawArrivesUptoCardSaid : Prop := Claim7.holds Tryz.pinned (.plain (OpenSpec.upto lawArrivesSpec)) lawArrivesUptoCard

/-- THE SECOND FORM's CARD OF 'couplantlaw02.LawFoci'. -/
def lawFociUptoCard : Claim7 := { stood := { row := lawFociUptoRow, standIns := [], harness := (true, "27d7ab6db9c139a19867cfd0a725c7705244848d8f4a00399aaf757afa2726ff"), looks := true }, kinds := [], alts := [], laidByText := true, laidKinds := [.data, .data, .data, .data, .sentinel, .sentinel, .pinned], laidTests := true, laidLooks := .later }
def LawFociUptoCardSaid : Prop := Claim7.holds Tryz.pinned (.plain (OpenSpec.upto lawFociSpec)) lawFociUptoCard
end Rows
end Go.Proofs.YtnhbmmpjifliaaaGreatDoor
