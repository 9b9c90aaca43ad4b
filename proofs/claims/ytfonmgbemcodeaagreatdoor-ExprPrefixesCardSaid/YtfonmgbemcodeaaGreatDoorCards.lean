/-
  DERIVED. GIVEN WITH THE SEED: THE CARDS: each row of YtfonmgbemcodeaaGreatDoorRows.lean that lists a variable, with what it lists TIED to the program's text (the seventh form; the later family's looks); each row that meets fmt, with fmt's text TOLD by the authors' own Lean function (tested against real Go, not proved from fmt's source: count such statements apart). THE CARD IS WHAT COUNTS. Prove the row's statement (the work); the ties are given (YtfonmgbemcodeaaGreatDoorTie.lean); close each card by the builder's one call (the guide's Derived/Test/ToyasCard.lean, 'card_holds'). Laid BY PROGRAM, IN A SANDBOX (cutbox-door.mjs). By AI agents, Wed Nov 11 2026. No macro, syntax, notation, axiom, sorry.
-/
import Derived.Test.YtfonmgbemcodeaaGreatDoorRows
import GoSem.ClaimSeven
namespace Go.Proofs.YtfonmgbemcodeaaGreatDoor
namespace Rows

/-- THE TIED CARD OF 'chevallaw08.ExprPrefixes'. -/
def exprPrefixesCard : Claim7 := { stood := { row := exprPrefixesRow, standIns := [], harness := (true, "01d1edb135de007fa9f904159d3b1072ef4607918ee9eb07f0dac15fcd32636b"), looks := true }, kinds := [], alts := [], laidByText := true, laidKinds := [.data, .data, .data, .data, .sentinel, .sentinel, .pinned], laidTests := true, laidLooks := .later }
def ExprPrefixesCardSaid : Prop := Claim7.holds Tryz.pinned (.plain (OpenSpec.ofChange exprPrefixesSpec)) exprPrefixesCard

/-- THE SECOND FORM's CARD OF 'chevallaw08.ExprPrefixes'. -/
def exprPrefixesUptoCard : Claim7 := { stood := { row := exprPrefixesUptoRow, standIns := [], harness := (true, "01d1edb135de007fa9f904159d3b1072ef4607918ee9eb07f0dac15fcd32636b"), looks := true }, kinds := [], alts := [], laidByText := true, laidKinds := [.data, .data, .data, .data, .sentinel, .sentinel, .pinned], laidTests := true, laidLooks := .later }
def ExprPrefixesUptoCardSaid : Prop := Claim7.holds Tryz.pinned (.plain (OpenSpec.upto exprPrefixesSpec)) exprPrefixesUptoCard
end Rows
end Go.Proofs.YtfonmgbemcodeaaGreatDoor
