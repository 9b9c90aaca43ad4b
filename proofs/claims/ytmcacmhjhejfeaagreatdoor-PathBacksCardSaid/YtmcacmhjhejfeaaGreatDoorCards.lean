/-
  DERIVED. GIVEN WITH THE SEED: THE CARDS: each row of YtmcacmhjhejfeaaGreatDoorRows.lean that lists a variable, with what it lists TIED to the program's text (the seventh form; the later family's looks); each row that meets fmt, with fmt's text TOLD by the authors' own Lean function (tested against real Go, not proved from fmt's source: count such statements apart). THE CARD IS WHAT COUNTS. Prove the row's statement (the work); the ties are given (YtmcacmhjhejfeaaGreatDoorTie.lean); close each card by the builder's one call (the guide's Derived/Test/ToyasCard.lean, 'card_holds'). Laid BY PROGRAM, IN A SANDBOX (cutbox-door.mjs). By AI agents, Wed Nov 11 2026. No macro, syntax, notation, axiom, sorry.
-/
import Derived.Test.YtmcacmhjhejfeaaGreatDoorRows
import GoSem.ClaimSeven
namespace Go.Proofs.YtmcacmhjhejfeaaGreatDoor
namespace Rows

/-- THE TIED CARD OF 'chevallaw04.PathParses'. -/
def pathParsesCard : Claim7 := { stood := { row := pathParsesRow, standIns := [], harness := (true, "250e6aa370d76763216b4f04ace19d074424a0756af96fa4f9bdc9d1e8908335"), looks := true }, kinds := [], alts := [], laidByText := true, laidKinds := [.data, .data, .data, .data, .sentinel, .sentinel, .pinned], laidTests := true, laidLooks := .later }
def PathParsesCardSaid : Prop := Claim7.holds Tryz.pinned (.plain (OpenSpec.ofChange pathParsesSpec)) pathParsesCard

/-- THE TIED CARD OF 'chevallaw04.PathBacks'. -/
def pathBacksCard : Claim7 := { stood := { row := pathBacksRow, standIns := [], harness := (true, "250e6aa370d76763216b4f04ace19d074424a0756af96fa4f9bdc9d1e8908335"), looks := true }, kinds := [], alts := [], laidByText := true, laidKinds := [.data, .data, .data, .data, .sentinel, .sentinel, .pinned], laidTests := true, laidLooks := .later }
def PathBacksCardSaid : Prop := Claim7.holds Tryz.pinned (.plain (OpenSpec.ofChange pathBacksSpec)) pathBacksCard

/-- THE TIED CARD OF 'chevallaw04.PathRemoves'. -/
def pathRemovesCard : Claim7 := { stood := { row := pathRemovesRow, standIns := [], harness := (true, "250e6aa370d76763216b4f04ace19d074424a0756af96fa4f9bdc9d1e8908335"), looks := true }, kinds := [], alts := [], laidByText := true, laidKinds := [.data, .data, .data, .sentinel, .sentinel], laidTests := true, laidLooks := .later }
def PathRemovesCardSaid : Prop := Claim7.holds Tryz.pinned (.plain (OpenSpec.ofChange pathRemovesSpec)) pathRemovesCard

/-- THE SECOND FORM's CARD OF 'chevallaw04.PathParses'. -/
def pathParsesUptoCard : Claim7 := { stood := { row := pathParsesUptoRow, standIns := [], harness := (true, "250e6aa370d76763216b4f04ace19d074424a0756af96fa4f9bdc9d1e8908335"), looks := true }, kinds := [], alts := [], laidByText := true, laidKinds := [.data, .data, .data, .data, .sentinel, .sentinel, .pinned], laidTests := true, laidLooks := .later }
def PathParsesUptoCardSaid : Prop := Claim7.holds Tryz.pinned (.plain (OpenSpec.upto pathParsesSpec)) pathParsesUptoCard

/-- THE SECOND FORM's CARD OF 'chevallaw04.PathBacks'. -/
def pathBacksUptoCard : Claim7 := { stood := { row := pathBacksUptoRow, standIns := [], harness := (true, "250e6aa370d76763216b4f04ace19d074424a0756af96fa4f9bdc9d1e8908335"), looks := true }, kinds := [], alts := [], laidByText := true, laidKinds := [.data, .data, .data, .data, .sentinel, .sentinel, .pinned], laidTests := true, laidLooks := .later }
def PathBacksUptoCardSaid : Prop := Claim7.holds Tryz.pinned (.plain (OpenSpec.upto pathBacksSpec)) pathBacksUptoCard

/-- THE SECOND FORM's CARD OF 'chevallaw04.PathRemoves'. -/
def pathRemovesUptoCard : Claim7 := { stood := { row := pathRemovesUptoRow, standIns := [], harness := (true, "250e6aa370d76763216b4f04ace19d074424a0756af96fa4f9bdc9d1e8908335"), looks := true }, kinds := [], alts := [], laidByText := true, laidKinds := [.data, .data, .data, .sentinel, .sentinel], laidTests := true, laidLooks := .later }
def PathRemovesUptoCardSaid : Prop := Claim7.holds Tryz.pinned (.plain (OpenSpec.upto pathRemovesSpec)) pathRemovesUptoCard
end Rows
end Go.Proofs.YtmcacmhjhejfeaaGreatDoor
