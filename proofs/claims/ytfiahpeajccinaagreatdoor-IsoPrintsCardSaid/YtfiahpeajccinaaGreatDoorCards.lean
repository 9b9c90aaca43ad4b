/-
  DERIVED. GIVEN WITH THE SEED: THE CARDS: each row of YtfiahpeajccinaaGreatDoorRows.lean that lists a variable, with what it lists TIED to the program's text (the seventh form; the later family's looks); each row that meets fmt, with fmt's text TOLD by the authors' own Lean function (tested against real Go, not proved from fmt's source: count such statements apart). THE CARD IS WHAT COUNTS. Prove the row's statement (the work); the ties are given (YtfiahpeajccinaaGreatDoorTie.lean); close each card by the builder's one call (the guide's Derived/Test/ToyasCard.lean, 'card_holds'). Laid BY PROGRAM, IN A SANDBOX (cutbox-door.mjs). By AI agents, Wed Nov 11 2026. No macro, syntax, notation, axiom, sorry.
-/
import Derived.Test.YtfiahpeajccinaaGreatDoorRows
import GoSem.ClaimSeven
namespace Go.Proofs.YtfiahpeajccinaaGreatDoor
namespace Rows

/-- THE TIED CARD OF 'chevallaw11.IsoGoods'. -/
def isoGoodsCard : Claim7 := { stood := { row := isoGoodsRow, standIns := [], harness := (true, "90809109536c98bfd40428b7b1bb051ed7760d7063c48b42282e786d715cc92b"), looks := true }, kinds := [], alts := [], laidByText := true, laidKinds := [.data, .data, .data, .data, .sentinel, .sentinel, .pinned], laidTests := true, laidLooks := .later }
def IsoGoodsCardSaid : Prop := Claim7.holds Tryz.pinned (.plain (OpenSpec.ofChange isoGoodsSpec)) isoGoodsCard

/-- THE TIED CARD OF 'chevallaw11.IsoTexts'. -/
def isoTextsCard : Claim7 := { stood := { row := isoTextsRow, standIns := [], harness := (true, "90809109536c98bfd40428b7b1bb051ed7760d7063c48b42282e786d715cc92b"), looks := true }, kinds := [], alts := [], laidByText := true, laidKinds := [.data, .data, .data, .data, .sentinel, .sentinel, .pinned], laidTests := true, laidLooks := .later }
def IsoTextsCardSaid : Prop := Claim7.holds Tryz.pinned (.plain (OpenSpec.ofChange isoTextsSpec)) isoTextsCard

/-- THE TIED CARD OF 'chevallaw11.IsoPrints'. -/
def isoPrintsCard : Claim7 := { stood := { row := isoPrintsRow, standIns := [], harness := (true, "90809109536c98bfd40428b7b1bb051ed7760d7063c48b42282e786d715cc92b"), looks := true }, kinds := [], alts := [], laidByText := true, laidKinds := [.data, .data, .data, .data, .sentinel, .sentinel, .pinned], laidTests := true, laidLooks := .later }
def IsoPrintsCardSaid : Prop := Claim7.holds Tryz.pinned (.plain (OpenSpec.ofChange isoPrintsSpec)) isoPrintsCard

/-- THE SECOND FORM's CARD OF 'chevallaw11.IsoGoods'. -/
def isoGoodsUptoCard : Claim7 := { stood := { row := isoGoodsUptoRow, standIns := [], harness := (true, "90809109536c98bfd40428b7b1bb051ed7760d7063c48b42282e786d715cc92b"), looks := true }, kinds := [], alts := [], laidByText := true, laidKinds := [.data, .data, .data, .data, .sentinel, .sentinel, .pinned], laidTests := true, laidLooks := .later }
def IsoGoodsUptoCardSaid : Prop := Claim7.holds Tryz.pinned (.plain (OpenSpec.upto isoGoodsSpec)) isoGoodsUptoCard

/-- THE SECOND FORM's CARD OF 'chevallaw11.IsoTexts'. -/
def isoTextsUptoCard : Claim7 := { stood := { row := isoTextsUptoRow, standIns := [], harness := (true, "90809109536c98bfd40428b7b1bb051ed7760d7063c48b42282e786d715cc92b"), looks := true }, kinds := [], alts := [], laidByText := true, laidKinds := [.data, .data, .data, .data, .sentinel, .sentinel, .pinned], laidTests := true, laidLooks := .later }
def IsoTextsUptoCardSaid : Prop := Claim7.holds Tryz.pinned (.plain (OpenSpec.upto isoTextsSpec)) isoTextsUptoCard

/-- THE SECOND FORM's CARD OF 'chevallaw11.IsoPrints'. -/
def isoPrintsUptoCard : Claim7 := { stood := { row := isoPrintsUptoRow, standIns := [], harness := (true, "90809109536c98bfd40428b7b1bb051ed7760d7063c48b42282e786d715cc92b"), looks := true }, kinds := [], alts := [], laidByText := true, laidKinds := [.data, .data, .data, .data, .sentinel, .sentinel, .pinned], laidTests := true, laidLooks := .later }
def IsoPrintsUptoCardSaid : Prop := Claim7.holds Tryz.pinned (.plain (OpenSpec.upto isoPrintsSpec)) isoPrintsUptoCard
end Rows
end Go.Proofs.YtfiahpeajccinaaGreatDoor
