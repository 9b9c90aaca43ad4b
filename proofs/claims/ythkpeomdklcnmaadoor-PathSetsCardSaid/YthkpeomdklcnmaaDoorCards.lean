/-
  DERIVED. GIVEN WITH THE SEED: THE CARDS: each row of YthkpeomdklcnmaaDoorRows.lean that lists a variable, with what it lists TIED to the program's text (the seventh form; the later family's looks); each row that meets fmt, with fmt's text TOLD by the authors' own Lean function (tested against real Go, not proved from fmt's source: count such statements apart). THE CARD IS WHAT COUNTS. Prove the row's statement (the work); the ties are given (YthkpeomdklcnmaaDoorTie.lean); close each card by the builder's one call (the guide's Derived/Test/ToyasCard.lean, 'card_holds'). Laid BY PROGRAM, IN A SANDBOX (cutbox-door.mjs). By AI agents, Wed Nov 11 2026. No macro, syntax, notation, axiom, sorry.
-/
import Derived.Test.YthkpeomdklcnmaaDoorRows
import GoSem.ClaimSeven
namespace Go.Proofs.YthkpeomdklcnmaaDoor
namespace Rows

/-- THE TIED CARD OF 'chevallaw04.PathGets'. -/
def pathGetsCard : Claim7 := { stood := { row := pathGetsRow, standIns := [], harness := (true, "c3ebfee3abd51f4f8ed26ff68d0ededc43e1f16a3ec4cd2185d5e5521da7aed7"), looks := true }, kinds := [], alts := [], laidByText := true, laidKinds := [.data, .data, .data, .sentinel, .sentinel], laidTests := true, laidLooks := .later }
def PathGetsCardSaid : Prop := Claim7.holds Tryd.pinned (.plain (OpenSpec.ofChange pathGetsSpec)) pathGetsCard

/-- THE TIED CARD OF 'chevallaw04.PathSets'. -/
def pathSetsCard : Claim7 := { stood := { row := pathSetsRow, standIns := [], harness := (true, "c3ebfee3abd51f4f8ed26ff68d0ededc43e1f16a3ec4cd2185d5e5521da7aed7"), looks := true }, kinds := [], alts := [], laidByText := true, laidKinds := [.data, .data, .data, .sentinel, .sentinel], laidTests := true, laidLooks := .later }
def PathSetsCardSaid : Prop := Claim7.holds Tryd.pinned (.plain (OpenSpec.ofChange pathSetsSpec)) pathSetsCard

/-- THE TIED CARD OF 'chevallaw04.PathAlls'. -/
def pathAllsCard : Claim7 := { stood := { row := pathAllsRow, standIns := [], harness := (true, "c3ebfee3abd51f4f8ed26ff68d0ededc43e1f16a3ec4cd2185d5e5521da7aed7"), looks := true }, kinds := [], alts := [], laidByText := true, laidKinds := [.data, .data, .data, .sentinel, .sentinel], laidTests := true, laidLooks := .later }
def PathAllsCardSaid : Prop := Claim7.holds Tryd.pinned (.plain (OpenSpec.ofChange pathAllsSpec)) pathAllsCard

/-- THE SECOND FORM's CARD OF 'chevallaw04.PathGets'. -/
def pathGetsUptoCard : Claim7 := { stood := { row := pathGetsUptoRow, standIns := [], harness := (true, "c3ebfee3abd51f4f8ed26ff68d0ededc43e1f16a3ec4cd2185d5e5521da7aed7"), looks := true }, kinds := [], alts := [], laidByText := true, laidKinds := [.data, .data, .data, .sentinel, .sentinel], laidTests := true, laidLooks := .later }
def PathGetsUptoCardSaid : Prop := Claim7.holds Tryd.pinned (.plain (OpenSpec.upto pathGetsSpec)) pathGetsUptoCard

/-- THE SECOND FORM's CARD OF 'chevallaw04.PathSets'. -/
def pathSetsUptoCard : Claim7 := { stood := { row := pathSetsUptoRow, standIns := [], harness := (true, "c3ebfee3abd51f4f8ed26ff68d0ededc43e1f16a3ec4cd2185d5e5521da7aed7"), looks := true }, kinds := [], alts := [], laidByText := true, laidKinds := [.data, .data, .data, .sentinel, .sentinel], laidTests := true, laidLooks := .later }
def PathSetsUptoCardSaid : Prop := Claim7.holds Tryd.pinned (.plain (OpenSpec.upto pathSetsSpec)) pathSetsUptoCard

/-- THE SECOND FORM's CARD OF 'chevallaw04.PathAlls'. -/
def pathAllsUptoCard : Claim7 := { stood := { row := pathAllsUptoRow, standIns := [], harness := (true, "c3ebfee3abd51f4f8ed26ff68d0ededc43e1f16a3ec4cd2185d5e5521da7aed7"), looks := true }, kinds := [], alts := [], laidByText := true, laidKinds := [.data, .data, .data, .sentinel, .sentinel], laidTests := true, laidLooks := .later }
def PathAllsUptoCardSaid : Prop := Claim7.holds Tryd.pinned (.plain (OpenSpec.upto pathAllsSpec)) pathAllsUptoCard
end Rows
end Go.Proofs.YthkpeomdklcnmaaDoor
