/-
  DERIVED. GIVEN WITH THE SEED: THE CARDS: each row of YtfbipnflgjhaiaaGreatDoorRows.lean that lists a variable, with what it lists TIED to the program's text (the seventh form; the later family's looks); each row that meets fmt, with fmt's text TOLD by the authors' own Lean function (tested against real Go, not proved from fmt's source: count such statements apart). THE CARD IS WHAT COUNTS. Prove the row's statement (the work); the ties are given (YtfbipnflgjhaiaaGreatDoorTie.lean); close each card by the builder's one call (the guide's Derived/Test/ToyasCard.lean, 'card_holds'). Laid BY PROGRAM, IN A SANDBOX (cutbox-door.mjs). By AI agents, Wed Nov 11 2026. No macro, syntax, notation, axiom, sorry.
-/
import Derived.Test.YtfbipnflgjhaiaaGreatDoorRows
import GoSem.ClaimSeven
namespace Go.Proofs.YtfbipnflgjhaiaaGreatDoor
namespace Rows

/-- THE TIED CARD OF 'chevallaw09.SortsGrow'. -/
def sortsGrowCard : Claim7 := { stood := { row := sortsGrowRow, standIns := [], harness := (true, "b3ed6197d4fcf65f8fd24c84547c9e73629937b148ae3902c78af8d51cdb0522"), looks := true }, kinds := [], alts := [], laidByText := true, laidKinds := [.data, .data, .data, .data, .sentinel, .sentinel, .pinned], laidTests := true, laidLooks := .later }
def SortsGrowCardSaid : Prop := Claim7.holds Tryz.pinned (.plain (OpenSpec.ofChange sortsGrowSpec)) sortsGrowCard

/-- THE TIED CARD OF 'chevallaw09.SortsNames'. -/
def sortsNamesCard : Claim7 := { stood := { row := sortsNamesRow, standIns := [], harness := (true, "b3ed6197d4fcf65f8fd24c84547c9e73629937b148ae3902c78af8d51cdb0522"), looks := true }, kinds := [], alts := [], laidByText := true, laidKinds := [.data, .data, .data, .data, .sentinel, .sentinel, .pinned], laidTests := true, laidLooks := .later }
def SortsNamesCardSaid : Prop := Claim7.holds Tryz.pinned (.plain (OpenSpec.ofChange sortsNamesSpec)) sortsNamesCard

/-- THE SECOND FORM's CARD OF 'chevallaw09.SortsGrow'. -/
def sortsGrowUptoCard : Claim7 := { stood := { row := sortsGrowUptoRow, standIns := [], harness := (true, "b3ed6197d4fcf65f8fd24c84547c9e73629937b148ae3902c78af8d51cdb0522"), looks := true }, kinds := [], alts := [], laidByText := true, laidKinds := [.data, .data, .data, .data, .sentinel, .sentinel, .pinned], laidTests := true, laidLooks := .later }
def SortsGrowUptoCardSaid : Prop := Claim7.holds Tryz.pinned (.plain (OpenSpec.upto sortsGrowSpec)) sortsGrowUptoCard

/-- THE SECOND FORM's CARD OF 'chevallaw09.SortsNames'. -/
def sortsNamesUptoCard : Claim7 := { stood := { row := sortsNamesUptoRow, standIns := [], harness := (true, "b3ed6197d4fcf65f8fd24c84547c9e73629937b148ae3902c78af8d51cdb0522"), looks := true }, kinds := [], alts := [], laidByText := true, laidKinds := [.data, .data, .data, .data, .sentinel, .sentinel, .pinned], laidTests := true, laidLooks := .later }
def SortsNamesUptoCardSaid : Prop := Claim7.holds Tryz.pinned (.plain (OpenSpec.upto sortsNamesSpec)) sortsNamesUptoCard
end Rows
end Go.Proofs.YtfbipnflgjhaiaaGreatDoor
