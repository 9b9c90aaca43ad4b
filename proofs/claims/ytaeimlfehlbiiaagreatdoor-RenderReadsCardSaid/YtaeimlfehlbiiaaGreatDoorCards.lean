/-
  DERIVED. GIVEN WITH THE SEED: THE CARDS: each row of YtaeimlfehlbiiaaGreatDoorRows.lean that lists a variable, with what it lists TIED to the program's text (the seventh form; the later family's looks); each row that meets fmt, with fmt's text TOLD by the authors' own Lean function (tested against real Go, not proved from fmt's source: count such statements apart). THE CARD IS WHAT COUNTS. Prove the row's statement (the work); the ties are given (YtaeimlfehlbiiaaGreatDoorTie.lean); close each card by the builder's one call (the guide's Derived/Test/ToyasCard.lean, 'card_holds'). Laid BY PROGRAM, IN A SANDBOX (cutbox-door.mjs). By AI agents, Wed Nov 11 2026. No macro, syntax, notation, axiom, sorry.
-/
import Derived.Test.YtaeimlfehlbiiaaGreatDoorRows
import GoSem.ClaimSeven
namespace Go.Proofs.YtaeimlfehlbiiaaGreatDoor
namespace Rows

/-- THE TIED CARD OF 'chevallaw07.RenderLines'. -/
def renderLinesCard : Claim7 := { stood := { row := renderLinesRow, standIns := [], harness := (true, "4c3ff877541f45da5dfe055486d8af0358754796a055edbfa4b2e030443f6e1c"), looks := true }, kinds := [], alts := [], laidByText := true, laidKinds := [.data, .data, .data, .data, .sentinel, .sentinel, .pinned], laidTests := true, laidLooks := .later }
def RenderLinesCardSaid : Prop := Claim7.holds Tryz.pinned (.plain (OpenSpec.ofChange renderLinesSpec)) renderLinesCard

/-- THE TIED CARD OF 'chevallaw07.RenderOne'. -/
def renderOneCard : Claim7 := { stood := { row := renderOneRow, standIns := [], harness := (true, "4c3ff877541f45da5dfe055486d8af0358754796a055edbfa4b2e030443f6e1c"), looks := true }, kinds := [], alts := [], laidByText := true, laidKinds := [.data, .data, .data, .data, .sentinel, .sentinel, .pinned], laidTests := true, laidLooks := .later }
def RenderOneCardSaid : Prop := Claim7.holds Tryz.pinned (.plain (OpenSpec.ofChange renderOneSpec)) renderOneCard

/-- THE TIED CARD OF 'chevallaw07.RenderReads'. -/
def renderReadsCard : Claim7 := { stood := { row := renderReadsRow, standIns := [], harness := (true, "4c3ff877541f45da5dfe055486d8af0358754796a055edbfa4b2e030443f6e1c"), looks := true }, kinds := [], alts := [], laidByText := true, laidKinds := [.data, .data, .data, .data, .sentinel, .sentinel, .pinned], laidTests := true, laidLooks := .later }
def RenderReadsCardSaid : Prop := Claim7.holds Tryz.pinned (.plain (OpenSpec.ofChange renderReadsSpec)) renderReadsCard

/-- THE SECOND FORM's CARD OF 'chevallaw07.RenderLines'. -/
def renderLinesUptoCard : Claim7 := { stood := { row := renderLinesUptoRow, standIns := [], harness := (true, "4c3ff877541f45da5dfe055486d8af0358754796a055edbfa4b2e030443f6e1c"), looks := true }, kinds := [], alts := [], laidByText := true, laidKinds := [.data, .data, .data, .data, .sentinel, .sentinel, .pinned], laidTests := true, laidLooks := .later }
def RenderLinesUptoCardSaid : Prop := Claim7.holds Tryz.pinned (.plain (OpenSpec.upto renderLinesSpec)) renderLinesUptoCard

/-- THE SECOND FORM's CARD OF 'chevallaw07.RenderOne'. -/
def renderOneUptoCard : Claim7 := { stood := { row := renderOneUptoRow, standIns := [], harness := (true, "4c3ff877541f45da5dfe055486d8af0358754796a055edbfa4b2e030443f6e1c"), looks := true }, kinds := [], alts := [], laidByText := true, laidKinds := [.data, .data, .data, .data, .sentinel, .sentinel, .pinned], laidTests := true, laidLooks := .later }
def RenderOneUptoCardSaid : Prop := Claim7.holds Tryz.pinned (.plain (OpenSpec.upto renderOneSpec)) renderOneUptoCard

/-- THE SECOND FORM's CARD OF 'chevallaw07.RenderReads'. -/
def renderReadsUptoCard : Claim7 := { stood := { row := renderReadsUptoRow, standIns := [], harness := (true, "4c3ff877541f45da5dfe055486d8af0358754796a055edbfa4b2e030443f6e1c"), looks := true }, kinds := [], alts := [], laidByText := true, laidKinds := [.data, .data, .data, .data, .sentinel, .sentinel, .pinned], laidTests := true, laidLooks := .later }
def RenderReadsUptoCardSaid : Prop := Claim7.holds Tryz.pinned (.plain (OpenSpec.upto renderReadsSpec)) renderReadsUptoCard
end Rows
end Go.Proofs.YtaeimlfehlbiiaaGreatDoor
