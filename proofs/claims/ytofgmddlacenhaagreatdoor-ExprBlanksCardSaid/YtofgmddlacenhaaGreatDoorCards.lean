/-
  DERIVED. GIVEN WITH THE SEED: THE CARDS: each row of YtofgmddlacenhaaGreatDoorRows.lean that lists a variable, with what it lists TIED to the program's text (the seventh form; the later family's looks); each row that meets fmt, with fmt's text TOLD by the authors' own Lean function (tested against real Go, not proved from fmt's source: count such statements apart). THE CARD IS WHAT COUNTS. Prove the row's statement (the work); the ties are given (YtofgmddlacenhaaGreatDoorTie.lean); close each card by the builder's one call (the guide's Derived/Test/ToyasCard.lean, 'card_holds'). Laid BY PROGRAM, IN A SANDBOX (cutbox-door.mjs). By AI agents, Wed Nov 11 2026. No macro, syntax, notation, axiom, sorry.
-/
import Derived.Test.YtofgmddlacenhaaGreatDoorRows
import GoSem.ClaimSeven
namespace Go.Proofs.YtofgmddlacenhaaGreatDoor
namespace Rows

/-- THE TIED CARD OF 'chevallaw08.ExprPrints'. -/
def exprPrintsCard : Claim7 := { stood := { row := exprPrintsRow, standIns := [], harness := (true, "7ed24c0b3558d3d14c88f97acf5735e56e4e9ead9d14d288e9ba974a27fa8ea7"), looks := true }, kinds := [], alts := [], laidByText := true, laidKinds := [.data, .data, .data, .data, .sentinel, .sentinel, .pinned], laidTests := true, laidLooks := .later }
def ExprPrintsCardSaid : Prop := Claim7.holds Tryz.pinned (.plain (OpenSpec.ofChange exprPrintsSpec)) exprPrintsCard

/-- THE TIED CARD OF 'chevallaw08.ExprAsks'. -/
def exprAsksCard : Claim7 := { stood := { row := exprAsksRow, standIns := [], harness := (true, "7ed24c0b3558d3d14c88f97acf5735e56e4e9ead9d14d288e9ba974a27fa8ea7"), looks := true }, kinds := [], alts := [], laidByText := true, laidKinds := [.data, .data, .data, .data, .sentinel, .sentinel, .pinned], laidTests := true, laidLooks := .later }
def ExprAsksCardSaid : Prop := Claim7.holds Tryz.pinned (.plain (OpenSpec.ofChange exprAsksSpec)) exprAsksCard

/-- THE TIED CARD OF 'chevallaw08.ExprBlanks'. -/
def exprBlanksCard : Claim7 := { stood := { row := exprBlanksRow, standIns := [], harness := (true, "7ed24c0b3558d3d14c88f97acf5735e56e4e9ead9d14d288e9ba974a27fa8ea7"), looks := true }, kinds := [], alts := [], laidByText := true, laidKinds := [.data, .data, .data, .data, .sentinel, .sentinel, .pinned], laidTests := true, laidLooks := .later }
def ExprBlanksCardSaid : Prop := Claim7.holds Tryz.pinned (.plain (OpenSpec.ofChange exprBlanksSpec)) exprBlanksCard

/-- THE TIED CARD OF 'chevallaw08.ExprBrackets'. -/
def exprBracketsCard : Claim7 := { stood := { row := exprBracketsRow, standIns := [], harness := (true, "7ed24c0b3558d3d14c88f97acf5735e56e4e9ead9d14d288e9ba974a27fa8ea7"), looks := true }, kinds := [], alts := [], laidByText := true, laidKinds := [.data, .data, .data, .data, .sentinel, .sentinel, .pinned], laidTests := true, laidLooks := .later }
def ExprBracketsCardSaid : Prop := Claim7.holds Tryz.pinned (.plain (OpenSpec.ofChange exprBracketsSpec)) exprBracketsCard

/-- THE SECOND FORM's CARD OF 'chevallaw08.ExprPrints'. -/
def exprPrintsUptoCard : Claim7 := { stood := { row := exprPrintsUptoRow, standIns := [], harness := (true, "7ed24c0b3558d3d14c88f97acf5735e56e4e9ead9d14d288e9ba974a27fa8ea7"), looks := true }, kinds := [], alts := [], laidByText := true, laidKinds := [.data, .data, .data, .data, .sentinel, .sentinel, .pinned], laidTests := true, laidLooks := .later }
def ExprPrintsUptoCardSaid : Prop := Claim7.holds Tryz.pinned (.plain (OpenSpec.upto exprPrintsSpec)) exprPrintsUptoCard

/-- THE SECOND FORM's CARD OF 'chevallaw08.ExprAsks'. -/
def exprAsksUptoCard : Claim7 := { stood := { row := exprAsksUptoRow, standIns := [], harness := (true, "7ed24c0b3558d3d14c88f97acf5735e56e4e9ead9d14d288e9ba974a27fa8ea7"), looks := true }, kinds := [], alts := [], laidByText := true, laidKinds := [.data, .data, .data, .data, .sentinel, .sentinel, .pinned], laidTests := true, laidLooks := .later }
def ExprAsksUptoCardSaid : Prop := Claim7.holds Tryz.pinned (.plain (OpenSpec.upto exprAsksSpec)) exprAsksUptoCard

/-- THE SECOND FORM's CARD OF 'chevallaw08.ExprBlanks'. -/
def exprBlanksUptoCard : Claim7 := { stood := { row := exprBlanksUptoRow, standIns := [], harness := (true, "7ed24c0b3558d3d14c88f97acf5735e56e4e9ead9d14d288e9ba974a27fa8ea7"), looks := true }, kinds := [], alts := [], laidByText := true, laidKinds := [.data, .data, .data, .data, .sentinel, .sentinel, .pinned], laidTests := true, laidLooks := .later }
def ExprBlanksUptoCardSaid : Prop := Claim7.holds Tryz.pinned (.plain (OpenSpec.upto exprBlanksSpec)) exprBlanksUptoCard

/-- THE SECOND FORM's CARD OF 'chevallaw08.ExprBrackets'. -/
def exprBracketsUptoCard : Claim7 := { stood := { row := exprBracketsUptoRow, standIns := [], harness := (true, "7ed24c0b3558d3d14c88f97acf5735e56e4e9ead9d14d288e9ba974a27fa8ea7"), looks := true }, kinds := [], alts := [], laidByText := true, laidKinds := [.data, .data, .data, .data, .sentinel, .sentinel, .pinned], laidTests := true, laidLooks := .later }
def ExprBracketsUptoCardSaid : Prop := Claim7.holds Tryz.pinned (.plain (OpenSpec.upto exprBracketsSpec)) exprBracketsUptoCard
end Rows
end Go.Proofs.YtofgmddlacenhaaGreatDoor
