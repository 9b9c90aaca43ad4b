/-
  DERIVED. GIVEN WITH THE SEED: THE CARDS: each row of YtmcacmhjhejfeaaDoorRows.lean that lists a variable, with what it lists TIED to the program's text (the seventh form; the later family's looks); each row that meets fmt, with fmt's text TOLD by the authors' own Lean function (tested against real Go, not proved from fmt's source: count such statements apart). THE CARD IS WHAT COUNTS. Prove the row's statement (the work); the ties are given (YtmcacmhjhejfeaaDoorTie.lean); close each card by the builder's one call (the guide's Derived/Test/ToyasCard.lean, 'card_holds'). Laid BY PROGRAM, IN A SANDBOX (cutbox-door.mjs). By AI agents, Wed Nov 11 2026. No macro, syntax, notation, axiom, sorry.
-/
import Derived.Test.YtmcacmhjhejfeaaDoorRows
import GoSem.ClaimSeven
namespace Go.Proofs.YtmcacmhjhejfeaaDoor
namespace Rows

/-- THE TIED CARD OF 'chevallaw04.PathSets'. -/
def pathSetsCard : Claim7 := { stood := { row := pathSetsRow, standIns := [], harness := (true, "167c3f7ec89af98fa037404eac2f198321107a70d4043787e89ccf1cf8f33a32"), looks := true }, kinds := [], alts := [], laidByText := true, laidKinds := [.data, .data, .data, .sentinel, .sentinel], laidTests := true, laidLooks := .later }
def PathSetsCardSaid : Prop := Claim7.holds Tryd.pinned (.plain (OpenSpec.ofChange pathSetsSpec)) pathSetsCard

/-- THE TIED CARD OF 'chevallaw04.PathAlls'. -/
def pathAllsCard : Claim7 := { stood := { row := pathAllsRow, standIns := [], harness := (true, "167c3f7ec89af98fa037404eac2f198321107a70d4043787e89ccf1cf8f33a32"), looks := true }, kinds := [], alts := [], laidByText := true, laidKinds := [.data, .data, .data, .sentinel, .sentinel], laidTests := true, laidLooks := .later }
def PathAllsCardSaid : Prop := Claim7.holds Tryd.pinned (.plain (OpenSpec.ofChange pathAllsSpec)) pathAllsCard

/-- THE TIED CARD OF 'chevallaw04.PathApart'. -/
def pathApartCard : Claim7 := { stood := { row := pathApartRow, standIns := [], harness := (true, "167c3f7ec89af98fa037404eac2f198321107a70d4043787e89ccf1cf8f33a32"), looks := true }, kinds := [], alts := [], laidByText := true, laidKinds := [.data, .data, .data, .sentinel, .sentinel], laidTests := true, laidLooks := .later }
def PathApartCardSaid : Prop := Claim7.holds Tryd.pinned (.plain (OpenSpec.ofChange pathApartSpec)) pathApartCard

/-- THE TIED CARD OF 'chevallaw07.RenderQuotes'. -/
def renderQuotesCard : Claim7 := { stood := { row := renderQuotesRow, standIns := [], harness := (true, "167c3f7ec89af98fa037404eac2f198321107a70d4043787e89ccf1cf8f33a32"), looks := true }, kinds := [], alts := [], laidByText := true, laidKinds := [.data, .data, .data], laidTests := true, laidLooks := .later }
def RenderQuotesCardSaid : Prop := Claim7.holds Tryd.pinned (.plain (OpenSpec.ofChange renderQuotesSpec)) renderQuotesCard

/-- THE TIED CARD OF 'chevallaw07.RenderShorts'. -/
def renderShortsCard : Claim7 := { stood := { row := renderShortsRow, standIns := [], harness := (true, "167c3f7ec89af98fa037404eac2f198321107a70d4043787e89ccf1cf8f33a32"), looks := true }, kinds := [], alts := [], laidByText := true, laidKinds := [.data, .data, .data], laidTests := true, laidLooks := .later }
def RenderShortsCardSaid : Prop := Claim7.holds Tryd.pinned (.plain (OpenSpec.ofChange renderShortsSpec)) renderShortsCard

/-- THE SECOND FORM's CARD OF 'chevallaw04.PathSets'. -/
def pathSetsUptoCard : Claim7 := { stood := { row := pathSetsUptoRow, standIns := [], harness := (true, "167c3f7ec89af98fa037404eac2f198321107a70d4043787e89ccf1cf8f33a32"), looks := true }, kinds := [], alts := [], laidByText := true, laidKinds := [.data, .data, .data, .sentinel, .sentinel], laidTests := true, laidLooks := .later }
def PathSetsUptoCardSaid : Prop := Claim7.holds Tryd.pinned (.plain (OpenSpec.upto pathSetsSpec)) pathSetsUptoCard

/-- THE SECOND FORM's CARD OF 'chevallaw04.PathAlls'. -/
def pathAllsUptoCard : Claim7 := { stood := { row := pathAllsUptoRow, standIns := [], harness := (true, "167c3f7ec89af98fa037404eac2f198321107a70d4043787e89ccf1cf8f33a32"), looks := true }, kinds := [], alts := [], laidByText := true, laidKinds := [.data, .data, .data, .sentinel, .sentinel], laidTests := true, laidLooks := .later }
def PathAllsUptoCardSaid : Prop := Claim7.holds Tryd.pinned (.plain (OpenSpec.upto pathAllsSpec)) pathAllsUptoCard

/-- THE SECOND FORM's CARD OF 'chevallaw04.PathApart'. -/
def pathApartUptoCard : Claim7 := { stood := { row := pathApartUptoRow, standIns := [], harness := (true, "167c3f7ec89af98fa037404eac2f198321107a70d4043787e89ccf1cf8f33a32"), looks := true }, kinds := [], alts := [], laidByText := true, laidKinds := [.data, .data, .data, .sentinel, .sentinel], laidTests := true, laidLooks := .later }
def PathApartUptoCardSaid : Prop := Claim7.holds Tryd.pinned (.plain (OpenSpec.upto pathApartSpec)) pathApartUptoCard

/-- THE SECOND FORM's CARD OF 'chevallaw07.RenderQuotes'. -/
def renderQuotesUptoCard : Claim7 := { stood := { row := renderQuotesUptoRow, standIns := [], harness := (true, "167c3f7ec89af98fa037404eac2f198321107a70d4043787e89ccf1cf8f33a32"), looks := true }, kinds := [], alts := [], laidByText := true, laidKinds := [.data, .data, .data], laidTests := true, laidLooks := .later }
def RenderQuotesUptoCardSaid : Prop := Claim7.holds Tryd.pinned (.plain (OpenSpec.upto renderQuotesSpec)) renderQuotesUptoCard

/-- THE SECOND FORM's CARD OF 'chevallaw07.RenderShorts'. -/
def renderShortsUptoCard : Claim7 := { stood := { row := renderShortsUptoRow, standIns := [], harness := (true, "167c3f7ec89af98fa037404eac2f198321107a70d4043787e89ccf1cf8f33a32"), looks := true }, kinds := [], alts := [], laidByText := true, laidKinds := [.data, .data, .data], laidTests := true, laidLooks := .later }
def RenderShortsUptoCardSaid : Prop := Claim7.holds Tryd.pinned (.plain (OpenSpec.upto renderShortsSpec)) renderShortsUptoCard
end Rows
end Go.Proofs.YtmcacmhjhejfeaaDoor
