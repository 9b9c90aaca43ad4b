/-
  DERIVED. GIVEN WITH THE SEED: THE CARDS: each row of YthkpeomdklcnmaaGreatDoorRows.lean that lists a variable, with what it lists TIED to the program's text (the seventh form; the later family's looks); each row that meets fmt, with fmt's text TOLD by the authors' own Lean function (tested against real Go, not proved from fmt's source: count such statements apart). THE CARD IS WHAT COUNTS. Prove the row's statement (the work); the ties are given (YthkpeomdklcnmaaGreatDoorTie.lean); close each card by the builder's one call (the guide's Derived/Test/ToyasCard.lean, 'card_holds'). Laid BY PROGRAM, IN A SANDBOX (cutbox-door.mjs). By AI agents, Wed Nov 11 2026. No macro, syntax, notation, axiom, sorry.
-/
import Derived.Test.YthkpeomdklcnmaaGreatDoorRows
import GoSem.ClaimSeven
namespace Go.Proofs.YthkpeomdklcnmaaGreatDoor
namespace Rows

/-- THE TIED CARD OF 'chevallaw04.PathRemoves'. -/
def pathRemovesCard : Claim7 := { stood := { row := pathRemovesRow, standIns := [], harness := (true, "efc1c77b74d2fbaabbff63ca21eddb8c642fb3ee33cfc3ad4aff118f4161a88f"), looks := true }, kinds := [], alts := [], laidByText := true, laidKinds := [.data, .data, .data, .sentinel, .sentinel], laidTests := true, laidLooks := .later }
def PathRemovesCardSaid : Prop := Claim7.holds Tryz.pinned (.plain (OpenSpec.ofChange pathRemovesSpec)) pathRemovesCard

/-- THE SECOND FORM's CARD OF 'chevallaw04.PathRemoves'. -/
def pathRemovesUptoCard : Claim7 := { stood := { row := pathRemovesUptoRow, standIns := [], harness := (true, "efc1c77b74d2fbaabbff63ca21eddb8c642fb3ee33cfc3ad4aff118f4161a88f"), looks := true }, kinds := [], alts := [], laidByText := true, laidKinds := [.data, .data, .data, .sentinel, .sentinel], laidTests := true, laidLooks := .later }
def PathRemovesUptoCardSaid : Prop := Claim7.holds Tryz.pinned (.plain (OpenSpec.upto pathRemovesSpec)) pathRemovesUptoCard
end Rows
end Go.Proofs.YthkpeomdklcnmaaGreatDoor
