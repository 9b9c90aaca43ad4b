/-
  DERIVED. GIVEN WITH THE SEED: THE CARDS: each row of YtnenipgpncomeaaGreatDoorRows.lean that lists a variable, with what it lists TIED to the program's text (the seventh form; the later family's looks); each row that meets fmt, with fmt's text TOLD by the authors' own Lean function (tested against real Go, not proved from fmt's source: count such statements apart). THE CARD IS WHAT COUNTS. Prove the row's statement (the work); the ties are given (YtnenipgpncomeaaGreatDoorTie.lean); close each card by the builder's one call (the guide's Derived/Test/ToyasCard.lean, 'card_holds'). Laid BY PROGRAM, IN A SANDBOX (cutbox-door.mjs). By AI agents, Wed Nov 11 2026. No macro, syntax, notation, axiom, sorry.
-/
import Derived.Test.YtnenipgpncomeaaGreatDoorRows
import GoSem.ClaimSeven
namespace Go.Proofs.YtnenipgpncomeaaGreatDoor
namespace Rows

/-- THE TIED CARD OF 'chevallaw05.TokenAlls'. -/
def tokenAllsCard : Claim7 := { stood := { row := tokenAllsRow, standIns := [], harness := (true, "1650e43333a34d929a28f9bdddcdd3d7b2d407fcaf39a5cbed43fab43d3173e1"), looks := true }, kinds := [], alts := [], laidByText := true, laidKinds := [.data, .data, .data, .data, .sentinel, .sentinel, .pinned], laidTests := true, laidLooks := .later }
def TokenAllsCardSaid : Prop := Claim7.holds Tryz.pinned (.plain (OpenSpec.ofChange tokenAllsSpec)) tokenAllsCard

/-- THE TIED CARD OF 'chevallaw05.TokenSteps'. -/
def tokenStepsCard : Claim7 := { stood := { row := tokenStepsRow, standIns := [], harness := (true, "1650e43333a34d929a28f9bdddcdd3d7b2d407fcaf39a5cbed43fab43d3173e1"), looks := true }, kinds := [], alts := [], laidByText := true, laidKinds := [.data, .data, .data, .data, .sentinel, .sentinel, .pinned], laidTests := true, laidLooks := .later }
def TokenStepsCardSaid : Prop := Claim7.holds Tryz.pinned (.plain (OpenSpec.ofChange tokenStepsSpec)) tokenStepsCard

/-- THE SECOND FORM's CARD OF 'chevallaw05.TokenAlls'. -/
def tokenAllsUptoCard : Claim7 := { stood := { row := tokenAllsUptoRow, standIns := [], harness := (true, "1650e43333a34d929a28f9bdddcdd3d7b2d407fcaf39a5cbed43fab43d3173e1"), looks := true }, kinds := [], alts := [], laidByText := true, laidKinds := [.data, .data, .data, .data, .sentinel, .sentinel, .pinned], laidTests := true, laidLooks := .later }
def TokenAllsUptoCardSaid : Prop := Claim7.holds Tryz.pinned (.plain (OpenSpec.upto tokenAllsSpec)) tokenAllsUptoCard

/-- THE SECOND FORM's CARD OF 'chevallaw05.TokenSteps'. -/
def tokenStepsUptoCard : Claim7 := { stood := { row := tokenStepsUptoRow, standIns := [], harness := (true, "1650e43333a34d929a28f9bdddcdd3d7b2d407fcaf39a5cbed43fab43d3173e1"), looks := true }, kinds := [], alts := [], laidByText := true, laidKinds := [.data, .data, .data, .data, .sentinel, .sentinel, .pinned], laidTests := true, laidLooks := .later }
def TokenStepsUptoCardSaid : Prop := Claim7.holds Tryz.pinned (.plain (OpenSpec.upto tokenStepsSpec)) tokenStepsUptoCard
end Rows
end Go.Proofs.YtnenipgpncomeaaGreatDoor
