/-
  DERIVED. GIVEN WITH THE SEED: THE CARDS: each row of YtikfmgedmiocgaaGreatDoorRows.lean that lists a variable, with what it lists TIED to the program's text (the seventh form; the later family's looks); each row that meets fmt, with fmt's text TOLD by the authors' own Lean function (tested against real Go, not proved from fmt's source: count such statements apart). THE CARD IS WHAT COUNTS. Prove the row's statement (the work); the ties are given (YtikfmgedmiocgaaGreatDoorTie.lean); close each card by the builder's one call (the guide's Derived/Test/ToyasCard.lean, 'card_holds'). Laid BY PROGRAM, IN A SANDBOX (cutbox-door.mjs). By AI agents, Wed Nov 11 2026. No macro, syntax, notation, axiom, sorry.
-/
import Derived.Test.YtikfmgedmiocgaaGreatDoorRows
import GoSem.ClaimSeven
namespace Go.Proofs.YtikfmgedmiocgaaGreatDoor
namespace Rows

/-- THE TIED CARD OF 'chevallaw08.ExprDeeps'. -/
def exprDeepsCard : Claim7 := { stood := { row := exprDeepsRow, standIns := [], harness := (true, "248d00bc3f06378eabc23e032d1bf554b4f67ee9d1d73201e04e16dd572fcf06"), looks := true }, kinds := [], alts := [], laidByText := true, laidKinds := [.data, .data, .data, .data, .sentinel, .sentinel, .pinned], laidTests := true, laidLooks := .later }
def ExprDeepsCardSaid : Prop := Claim7.holds Tryz.pinned (.plain (OpenSpec.ofChange exprDeepsSpec)) exprDeepsCard

/-- THE TIED CARD OF 'chevallaw08.ExprNames'. -/
def exprNamesCard : Claim7 := { stood := { row := exprNamesRow, standIns := [], harness := (true, "248d00bc3f06378eabc23e032d1bf554b4f67ee9d1d73201e04e16dd572fcf06"), looks := true }, kinds := [], alts := [], laidByText := true, laidKinds := [.data, .data, .data, .data, .sentinel, .sentinel, .pinned], laidTests := true, laidLooks := .later }
def ExprNamesCardSaid : Prop := Claim7.holds Tryz.pinned (.plain (OpenSpec.ofChange exprNamesSpec)) exprNamesCard

/-- THE TIED CARD OF 'chevallaw09.SortsWords'. -/
def sortsWordsCard : Claim7 := { stood := { row := sortsWordsRow, standIns := [], harness := (true, "248d00bc3f06378eabc23e032d1bf554b4f67ee9d1d73201e04e16dd572fcf06"), looks := true }, kinds := [], alts := [], laidByText := true, laidKinds := [.data, .data, .data, .data, .sentinel, .sentinel, .pinned], laidTests := true, laidLooks := .later }
def SortsWordsCardSaid : Prop := Claim7.holds Tryz.pinned (.plain (OpenSpec.ofChange sortsWordsSpec)) sortsWordsCard

/-- THE TIED CARD OF 'chevallaw10.EvalNames'. -/
def evalNamesCard : Claim7 := { stood := { row := evalNamesRow, standIns := [], harness := (true, "248d00bc3f06378eabc23e032d1bf554b4f67ee9d1d73201e04e16dd572fcf06"), looks := true }, kinds := [], alts := [], laidByText := true, laidKinds := [.data, .data, .data, .data, .sentinel, .sentinel, .pinned], laidTests := true, laidLooks := .later }
def EvalNamesCardSaid : Prop := Claim7.holds Tryz.pinned (.plain (OpenSpec.ofChange evalNamesSpec)) evalNamesCard

/-- THE SECOND FORM's CARD OF 'chevallaw08.ExprDeeps'. -/
def exprDeepsUptoCard : Claim7 := { stood := { row := exprDeepsUptoRow, standIns := [], harness := (true, "248d00bc3f06378eabc23e032d1bf554b4f67ee9d1d73201e04e16dd572fcf06"), looks := true }, kinds := [], alts := [], laidByText := true, laidKinds := [.data, .data, .data, .data, .sentinel, .sentinel, .pinned], laidTests := true, laidLooks := .later }
def ExprDeepsUptoCardSaid : Prop := Claim7.holds Tryz.pinned (.plain (OpenSpec.upto exprDeepsSpec)) exprDeepsUptoCard

/-- THE SECOND FORM's CARD OF 'chevallaw08.ExprNames'. -/
def exprNamesUptoCard : Claim7 := { stood := { row := exprNamesUptoRow, standIns := [], harness := (true, "248d00bc3f06378eabc23e032d1bf554b4f67ee9d1d73201e04e16dd572fcf06"), looks := true }, kinds := [], alts := [], laidByText := true, laidKinds := [.data, .data, .data, .data, .sentinel, .sentinel, .pinned], laidTests := true, laidLooks := .later }
def ExprNamesUptoCardSaid : Prop := Claim7.holds Tryz.pinned (.plain (OpenSpec.upto exprNamesSpec)) exprNamesUptoCard

/-- THE SECOND FORM's CARD OF 'chevallaw09.SortsWords'. -/
def sortsWordsUptoCard : Claim7 := { stood := { row := sortsWordsUptoRow, standIns := [], harness := (true, "248d00bc3f06378eabc23e032d1bf554b4f67ee9d1d73201e04e16dd572fcf06"), looks := true }, kinds := [], alts := [], laidByText := true, laidKinds := [.data, .data, .data, .data, .sentinel, .sentinel, .pinned], laidTests := true, laidLooks := .later }
def SortsWordsUptoCardSaid : Prop := Claim7.holds Tryz.pinned (.plain (OpenSpec.upto sortsWordsSpec)) sortsWordsUptoCard

/-- THE SECOND FORM's CARD OF 'chevallaw10.EvalNames'. -/
def evalNamesUptoCard : Claim7 := { stood := { row := evalNamesUptoRow, standIns := [], harness := (true, "248d00bc3f06378eabc23e032d1bf554b4f67ee9d1d73201e04e16dd572fcf06"), looks := true }, kinds := [], alts := [], laidByText := true, laidKinds := [.data, .data, .data, .data, .sentinel, .sentinel, .pinned], laidTests := true, laidLooks := .later }
def EvalNamesUptoCardSaid : Prop := Claim7.holds Tryz.pinned (.plain (OpenSpec.upto evalNamesSpec)) evalNamesUptoCard
end Rows
end Go.Proofs.YtikfmgedmiocgaaGreatDoor
