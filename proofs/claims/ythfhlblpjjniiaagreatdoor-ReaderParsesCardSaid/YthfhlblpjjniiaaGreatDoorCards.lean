/-
  DERIVED. GIVEN WITH THE SEED: THE CARDS: each row of YthfhlblpjjniiaaGreatDoorRows.lean that lists a variable, with what it lists TIED to the program's text (the seventh form; the later family's looks); each row that meets fmt, with fmt's text TOLD by the authors' own Lean function (tested against real Go, not proved from fmt's source: count such statements apart). THE CARD IS WHAT COUNTS. Prove the row's statement (the work); the ties are given (YthfhlblpjjniiaaGreatDoorTie.lean); close each card by the builder's one call (the guide's Derived/Test/ToyasCard.lean, 'card_holds'). Laid BY PROGRAM, IN A SANDBOX (cutbox-door.mjs). By AI agents, Wed Nov 11 2026. No macro, syntax, notation, axiom, sorry.
-/
import Derived.Test.YthfhlblpjjniiaaGreatDoorRows
import GoSem.ClaimSeven
namespace Go.Proofs.YthfhlblpjjniiaaGreatDoor
namespace Rows

/-- THE TIED CARD OF 'chevallaw06.ReaderParses'. -/
def readerParsesCard : Claim7 := { stood := { row := readerParsesRow, standIns := [], harness := (true, "67fa92e99a07736b07ce8ebd68830868f22f5df7d95f4b942aa4859f6993f4bd"), looks := true }, kinds := [], alts := [], laidByText := true, laidKinds := [.data, .data, .data, .data, .sentinel, .sentinel, .pinned], laidTests := true, laidLooks := .later }
def ReaderParsesCardSaid : Prop := Claim7.holds Tryz.pinned (.plain (OpenSpec.ofChange readerParsesSpec)) readerParsesCard

/-- THE TIED CARD OF 'chevallaw06.ReaderWays'. -/
def readerWaysCard : Claim7 := { stood := { row := readerWaysRow, standIns := [], harness := (true, "67fa92e99a07736b07ce8ebd68830868f22f5df7d95f4b942aa4859f6993f4bd"), looks := true }, kinds := [], alts := [], laidByText := true, laidKinds := [.data, .data, .data, .data, .sentinel, .sentinel, .pinned], laidTests := true, laidLooks := .later }
def ReaderWaysCardSaid : Prop := Claim7.holds Tryz.pinned (.plain (OpenSpec.ofChange readerWaysSpec)) readerWaysCard

/-- THE TIED CARD OF 'chevallaw06.ReaderDepths'. -/
def readerDepthsCard : Claim7 := { stood := { row := readerDepthsRow, standIns := [], harness := (true, "67fa92e99a07736b07ce8ebd68830868f22f5df7d95f4b942aa4859f6993f4bd"), looks := true }, kinds := [], alts := [], laidByText := true, laidKinds := [.data, .data, .data, .data, .sentinel, .sentinel, .pinned], laidTests := true, laidLooks := .later }
def ReaderDepthsCardSaid : Prop := Claim7.holds Tryz.pinned (.plain (OpenSpec.ofChange readerDepthsSpec)) readerDepthsCard

/-- THE TIED CARD OF 'chevallaw06.ReaderNests'. -/
def readerNestsCard : Claim7 := { stood := { row := readerNestsRow, standIns := [], harness := (true, "67fa92e99a07736b07ce8ebd68830868f22f5df7d95f4b942aa4859f6993f4bd"), looks := true }, kinds := [], alts := [], laidByText := true, laidKinds := [.data, .data, .data, .data, .sentinel, .sentinel, .pinned], laidTests := true, laidLooks := .later }
def ReaderNestsCardSaid : Prop := Claim7.holds Tryz.pinned (.plain (OpenSpec.ofChange readerNestsSpec)) readerNestsCard

/-- THE TIED CARD OF 'chevallaw06.ReaderTwice'. -/
def readerTwiceCard : Claim7 := { stood := { row := readerTwiceRow, standIns := [], harness := (true, "67fa92e99a07736b07ce8ebd68830868f22f5df7d95f4b942aa4859f6993f4bd"), looks := true }, kinds := [], alts := [], laidByText := true, laidKinds := [.data, .data, .data, .data, .sentinel, .sentinel, .pinned], laidTests := true, laidLooks := .later }
def ReaderTwiceCardSaid : Prop := Claim7.holds Tryz.pinned (.plain (OpenSpec.ofChange readerTwiceSpec)) readerTwiceCard

/-- THE TIED CARD OF 'chevallaw06.ReaderEnds'. -/
def readerEndsCard : Claim7 := { stood := { row := readerEndsRow, standIns := [], harness := (true, "67fa92e99a07736b07ce8ebd68830868f22f5df7d95f4b942aa4859f6993f4bd"), looks := true }, kinds := [], alts := [], laidByText := true, laidKinds := [.data, .data, .data, .data, .sentinel, .sentinel, .pinned], laidTests := true, laidLooks := .later }
def ReaderEndsCardSaid : Prop := Claim7.holds Tryz.pinned (.plain (OpenSpec.ofChange readerEndsSpec)) readerEndsCard

/-- THE TIED CARD OF 'chevallaw07.RenderTexts'. -/
def renderTextsCard : Claim7 := { stood := { row := renderTextsRow, standIns := [], harness := (true, "67fa92e99a07736b07ce8ebd68830868f22f5df7d95f4b942aa4859f6993f4bd"), looks := true }, kinds := [], alts := [], laidByText := true, laidKinds := [.data, .data, .data, .data, .sentinel, .sentinel, .pinned], laidTests := true, laidLooks := .later }
def RenderTextsCardSaid : Prop := Claim7.holds Tryz.pinned (.plain (OpenSpec.ofChange renderTextsSpec)) renderTextsCard

/-- THE TIED CARD OF 'chevallaw07.RenderLines'. -/
def renderLinesCard : Claim7 := { stood := { row := renderLinesRow, standIns := [], harness := (true, "67fa92e99a07736b07ce8ebd68830868f22f5df7d95f4b942aa4859f6993f4bd"), looks := true }, kinds := [], alts := [], laidByText := true, laidKinds := [.data, .data, .data, .data, .sentinel, .sentinel, .pinned], laidTests := true, laidLooks := .later }
def RenderLinesCardSaid : Prop := Claim7.holds Tryz.pinned (.plain (OpenSpec.ofChange renderLinesSpec)) renderLinesCard

/-- THE TIED CARD OF 'chevallaw07.RenderOne'. -/
def renderOneCard : Claim7 := { stood := { row := renderOneRow, standIns := [], harness := (true, "67fa92e99a07736b07ce8ebd68830868f22f5df7d95f4b942aa4859f6993f4bd"), looks := true }, kinds := [], alts := [], laidByText := true, laidKinds := [.data, .data, .data, .data, .sentinel, .sentinel, .pinned], laidTests := true, laidLooks := .later }
def RenderOneCardSaid : Prop := Claim7.holds Tryz.pinned (.plain (OpenSpec.ofChange renderOneSpec)) renderOneCard

/-- THE TIED CARD OF 'chevallaw07.RenderReads'. -/
def renderReadsCard : Claim7 := { stood := { row := renderReadsRow, standIns := [], harness := (true, "67fa92e99a07736b07ce8ebd68830868f22f5df7d95f4b942aa4859f6993f4bd"), looks := true }, kinds := [], alts := [], laidByText := true, laidKinds := [.data, .data, .data, .data, .sentinel, .sentinel, .pinned], laidTests := true, laidLooks := .later }
def RenderReadsCardSaid : Prop := Claim7.holds Tryz.pinned (.plain (OpenSpec.ofChange renderReadsSpec)) renderReadsCard

/-- THE SECOND FORM's CARD OF 'chevallaw06.ReaderParses'. -/
def readerParsesUptoCard : Claim7 := { stood := { row := readerParsesUptoRow, standIns := [], harness := (true, "67fa92e99a07736b07ce8ebd68830868f22f5df7d95f4b942aa4859f6993f4bd"), looks := true }, kinds := [], alts := [], laidByText := true, laidKinds := [.data, .data, .data, .data, .sentinel, .sentinel, .pinned], laidTests := true, laidLooks := .later }
def ReaderParsesUptoCardSaid : Prop := Claim7.holds Tryz.pinned (.plain (OpenSpec.upto readerParsesSpec)) readerParsesUptoCard

/-- THE SECOND FORM's CARD OF 'chevallaw06.ReaderWays'. -/
def readerWaysUptoCard : Claim7 := { stood := { row := readerWaysUptoRow, standIns := [], harness := (true, "67fa92e99a07736b07ce8ebd68830868f22f5df7d95f4b942aa4859f6993f4bd"), looks := true }, kinds := [], alts := [], laidByText := true, laidKinds := [.data, .data, .data, .data, .sentinel, .sentinel, .pinned], laidTests := true, laidLooks := .later }
def ReaderWaysUptoCardSaid : Prop := Claim7.holds Tryz.pinned (.plain (OpenSpec.upto readerWaysSpec)) readerWaysUptoCard

/-- THE SECOND FORM's CARD OF 'chevallaw06.ReaderDepths'. -/
def readerDepthsUptoCard : Claim7 := { stood := { row := readerDepthsUptoRow, standIns := [], harness := (true, "67fa92e99a07736b07ce8ebd68830868f22f5df7d95f4b942aa4859f6993f4bd"), looks := true }, kinds := [], alts := [], laidByText := true, laidKinds := [.data, .data, .data, .data, .sentinel, .sentinel, .pinned], laidTests := true, laidLooks := .later }
def ReaderDepthsUptoCardSaid : Prop := Claim7.holds Tryz.pinned (.plain (OpenSpec.upto readerDepthsSpec)) readerDepthsUptoCard

/-- THE SECOND FORM's CARD OF 'chevallaw06.ReaderNests'. -/
def readerNestsUptoCard : Claim7 := { stood := { row := readerNestsUptoRow, standIns := [], harness := (true, "67fa92e99a07736b07ce8ebd68830868f22f5df7d95f4b942aa4859f6993f4bd"), looks := true }, kinds := [], alts := [], laidByText := true, laidKinds := [.data, .data, .data, .data, .sentinel, .sentinel, .pinned], laidTests := true, laidLooks := .later }
def ReaderNestsUptoCardSaid : Prop := Claim7.holds Tryz.pinned (.plain (OpenSpec.upto readerNestsSpec)) readerNestsUptoCard

/-- THE SECOND FORM's CARD OF 'chevallaw06.ReaderTwice'. -/
def readerTwiceUptoCard : Claim7 := { stood := { row := readerTwiceUptoRow, standIns := [], harness := (true, "67fa92e99a07736b07ce8ebd68830868f22f5df7d95f4b942aa4859f6993f4bd"), looks := true }, kinds := [], alts := [], laidByText := true, laidKinds := [.data, .data, .data, .data, .sentinel, .sentinel, .pinned], laidTests := true, laidLooks := .later }
def ReaderTwiceUptoCardSaid : Prop := Claim7.holds Tryz.pinned (.plain (OpenSpec.upto readerTwiceSpec)) readerTwiceUptoCard

/-- THE SECOND FORM's CARD OF 'chevallaw06.ReaderEnds'. -/
def readerEndsUptoCard : Claim7 := { stood := { row := readerEndsUptoRow, standIns := [], harness := (true, "67fa92e99a07736b07ce8ebd68830868f22f5df7d95f4b942aa4859f6993f4bd"), looks := true }, kinds := [], alts := [], laidByText := true, laidKinds := [.data, .data, .data, .data, .sentinel, .sentinel, .pinned], laidTests := true, laidLooks := .later }
def ReaderEndsUptoCardSaid : Prop := Claim7.holds Tryz.pinned (.plain (OpenSpec.upto readerEndsSpec)) readerEndsUptoCard

/-- THE SECOND FORM's CARD OF 'chevallaw07.RenderTexts'. -/
def renderTextsUptoCard : Claim7 := { stood := { row := renderTextsUptoRow, standIns := [], harness := (true, "67fa92e99a07736b07ce8ebd68830868f22f5df7d95f4b942aa4859f6993f4bd"), looks := true }, kinds := [], alts := [], laidByText := true, laidKinds := [.data, .data, .data, .data, .sentinel, .sentinel, .pinned], laidTests := true, laidLooks := .later }
def RenderTextsUptoCardSaid : Prop := Claim7.holds Tryz.pinned (.plain (OpenSpec.upto renderTextsSpec)) renderTextsUptoCard

/-- THE SECOND FORM's CARD OF 'chevallaw07.RenderLines'. -/
def renderLinesUptoCard : Claim7 := { stood := { row := renderLinesUptoRow, standIns := [], harness := (true, "67fa92e99a07736b07ce8ebd68830868f22f5df7d95f4b942aa4859f6993f4bd"), looks := true }, kinds := [], alts := [], laidByText := true, laidKinds := [.data, .data, .data, .data, .sentinel, .sentinel, .pinned], laidTests := true, laidLooks := .later }
def RenderLinesUptoCardSaid : Prop := Claim7.holds Tryz.pinned (.plain (OpenSpec.upto renderLinesSpec)) renderLinesUptoCard

/-- THE SECOND FORM's CARD OF 'chevallaw07.RenderOne'. -/
def renderOneUptoCard : Claim7 := { stood := { row := renderOneUptoRow, standIns := [], harness := (true, "67fa92e99a07736b07ce8ebd68830868f22f5df7d95f4b942aa4859f6993f4bd"), looks := true }, kinds := [], alts := [], laidByText := true, laidKinds := [.data, .data, .data, .data, .sentinel, .sentinel, .pinned], laidTests := true, laidLooks := .later }
def RenderOneUptoCardSaid : Prop := Claim7.holds Tryz.pinned (.plain (OpenSpec.upto renderOneSpec)) renderOneUptoCard

/-- THE SECOND FORM's CARD OF 'chevallaw07.RenderReads'. -/
def renderReadsUptoCard : Claim7 := { stood := { row := renderReadsUptoRow, standIns := [], harness := (true, "67fa92e99a07736b07ce8ebd68830868f22f5df7d95f4b942aa4859f6993f4bd"), looks := true }, kinds := [], alts := [], laidByText := true, laidKinds := [.data, .data, .data, .data, .sentinel, .sentinel, .pinned], laidTests := true, laidLooks := .later }
def RenderReadsUptoCardSaid : Prop := Claim7.holds Tryz.pinned (.plain (OpenSpec.upto renderReadsSpec)) renderReadsUptoCard
end Rows
end Go.Proofs.YthfhlblpjjniiaaGreatDoor
