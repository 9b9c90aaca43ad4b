/-
  DERIVED. GIVEN WITH THE SEED: THE CARDS: each row of YtgblenoaeanogaaGreatDoorRows.lean that lists a variable, with what it lists TIED to the program's text (the seventh form; the later family's looks); each row that meets fmt, with fmt's text TOLD by the authors' own Lean function (tested against real Go, not proved from fmt's source: count such statements apart). THE CARD IS WHAT COUNTS. Prove the row's statement (the work); the ties are given (YtgblenoaeanogaaGreatDoorTie.lean); close each card by the builder's one call (the guide's Derived/Test/ToyasCard.lean, 'card_holds'). Laid BY PROGRAM, IN A SANDBOX (cutbox-door.mjs). By AI agents, Wed Nov 11 2026. No macro, syntax, notation, axiom, sorry.
-/
import Derived.Test.YtgblenoaeanogaaGreatDoorRows
import GoSem.ClaimSeven
namespace Go.Proofs.YtgblenoaeanogaaGreatDoor
namespace Rows

/-- THE TIED CARD OF 'chevallaw12.DrawTexts'. -/
def drawTextsCard : Claim7 := { stood := { row := drawTextsRow, standIns := [], harness := (true, "d782e6a19f8a35e111f7e323e12d2de40ae6702462842e19f8ee987992e93130"), looks := true }, kinds := [], alts := [], laidByText := true, laidKinds := [.data, .data, .data, .data, .sentinel, .sentinel, .pinned], laidTests := true, laidLooks := .later }
def DrawTextsCardSaid : Prop := Claim7.holds Tryz.pinned (.plain (OpenSpec.ofChange drawTextsSpec)) drawTextsCard

/-- THE TIED CARD OF 'chevallaw12.DrawPrints'. -/
def drawPrintsCard : Claim7 := { stood := { row := drawPrintsRow, standIns := [], harness := (true, "d782e6a19f8a35e111f7e323e12d2de40ae6702462842e19f8ee987992e93130"), looks := true }, kinds := [], alts := [], laidByText := true, laidKinds := [.data, .data, .data, .data, .sentinel, .sentinel, .pinned], laidTests := true, laidLooks := .later }
def DrawPrintsCardSaid : Prop := Claim7.holds Tryz.pinned (.plain (OpenSpec.ofChange drawPrintsSpec)) drawPrintsCard

/-- THE TIED CARD OF 'chevallaw12.DrawLongs'. -/
def drawLongsCard : Claim7 := { stood := { row := drawLongsRow, standIns := [], harness := (true, "d782e6a19f8a35e111f7e323e12d2de40ae6702462842e19f8ee987992e93130"), looks := true }, kinds := [], alts := [], laidByText := true, laidKinds := [.data, .data, .data, .data, .sentinel, .sentinel, .pinned], laidTests := true, laidLooks := .later }
def DrawLongsCardSaid : Prop := Claim7.holds Tryz.pinned (.plain (OpenSpec.ofChange drawLongsSpec)) drawLongsCard

/-- THE SECOND FORM's CARD OF 'chevallaw12.DrawTexts'. -/
def drawTextsUptoCard : Claim7 := { stood := { row := drawTextsUptoRow, standIns := [], harness := (true, "d782e6a19f8a35e111f7e323e12d2de40ae6702462842e19f8ee987992e93130"), looks := true }, kinds := [], alts := [], laidByText := true, laidKinds := [.data, .data, .data, .data, .sentinel, .sentinel, .pinned], laidTests := true, laidLooks := .later }
def DrawTextsUptoCardSaid : Prop := Claim7.holds Tryz.pinned (.plain (OpenSpec.upto drawTextsSpec)) drawTextsUptoCard

/-- THE SECOND FORM's CARD OF 'chevallaw12.DrawPrints'. -/
def drawPrintsUptoCard : Claim7 := { stood := { row := drawPrintsUptoRow, standIns := [], harness := (true, "d782e6a19f8a35e111f7e323e12d2de40ae6702462842e19f8ee987992e93130"), looks := true }, kinds := [], alts := [], laidByText := true, laidKinds := [.data, .data, .data, .data, .sentinel, .sentinel, .pinned], laidTests := true, laidLooks := .later }
def DrawPrintsUptoCardSaid : Prop := Claim7.holds Tryz.pinned (.plain (OpenSpec.upto drawPrintsSpec)) drawPrintsUptoCard

/-- THE SECOND FORM's CARD OF 'chevallaw12.DrawLongs'. -/
def drawLongsUptoCard : Claim7 := { stood := { row := drawLongsUptoRow, standIns := [], harness := (true, "d782e6a19f8a35e111f7e323e12d2de40ae6702462842e19f8ee987992e93130"), looks := true }, kinds := [], alts := [], laidByText := true, laidKinds := [.data, .data, .data, .data, .sentinel, .sentinel, .pinned], laidTests := true, laidLooks := .later }
def DrawLongsUptoCardSaid : Prop := Claim7.holds Tryz.pinned (.plain (OpenSpec.upto drawLongsSpec)) drawLongsUptoCard
end Rows
end Go.Proofs.YtgblenoaeanogaaGreatDoor
