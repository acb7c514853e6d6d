/-
  DERIVED. GIVEN WITH THE SEED: THE CARDS: each row of YtjkefcikepnbpaaGreatDoorRows.lean that lists a variable, with what it lists TIED to the program's text (the seventh form; the later family's looks); each row that meets fmt, with fmt's text TOLD by the authors' own Lean function (tested against real Go, not proved from fmt's source: count such statements apart). THE CARD IS WHAT COUNTS. Prove the row's statement (the work); the ties are given (YtjkefcikepnbpaaGreatDoorTie.lean); close each card by the builder's one call (the guide's Derived/Test/ToyasCard.lean, 'card_holds'). Laid BY PROGRAM, IN A SANDBOX (cutbox-door.mjs). By AI agents, Wed Nov 11 2026. No macro, syntax, notation, axiom, sorry.
-/
import Derived.Test.YtjkefcikepnbpaaGreatDoorRows
import GoSem.ClaimSeven
namespace Go.Proofs.YtjkefcikepnbpaaGreatDoor
namespace Rows

/-- THE TIED CARD OF 'abacuslaw12.ShortestBack'. -/
def shortestBackCard : Claim7 := { stood := { row := shortestBackRow, standIns := [], harness := (true, "d0ecfb2a71273c890f4c4cf4cb6818f1b520cd37e50d6571ab20baa3cde4cab4"), looks := true }, kinds := [], alts := [], laidByText := true, laidKinds := [.data, .data, .data, .data, .sentinel, .sentinel, .pinned], laidTests := true, laidLooks := .later }
def ShortestBackCardSaid : Prop := Claim7.holds Tryz.pinned (.plain (OpenSpec.ofChange shortestBackSpec)) shortestBackCard

/-- THE TIED CARD OF 'abacuslaw12.ShortestSteps'. -/
def shortestStepsCard : Claim7 := { stood := { row := shortestStepsRow, standIns := [], harness := (true, "d0ecfb2a71273c890f4c4cf4cb6818f1b520cd37e50d6571ab20baa3cde4cab4"), looks := true }, kinds := [], alts := [], laidByText := true, laidKinds := [.data, .data, .data, .data, .sentinel, .sentinel, .pinned], laidTests := true, laidLooks := .later }
def ShortestStepsCardSaid : Prop := Claim7.holds Tryz.pinned (.plain (OpenSpec.ofChange shortestStepsSpec)) shortestStepsCard

/-- THE TIED CARD OF 'abacuslaw12.ShortestEdges'. -/
def shortestEdgesCard : Claim7 := { stood := { row := shortestEdgesRow, standIns := [], harness := (true, "d0ecfb2a71273c890f4c4cf4cb6818f1b520cd37e50d6571ab20baa3cde4cab4"), looks := true }, kinds := [], alts := [], laidByText := true, laidKinds := [.data, .data, .data, .data, .sentinel, .sentinel, .pinned], laidTests := true, laidLooks := .later }
def ShortestEdgesCardSaid : Prop := Claim7.holds Tryz.pinned (.plain (OpenSpec.ofChange shortestEdgesSpec)) shortestEdgesCard

/-- THE SECOND FORM's CARD OF 'abacuslaw12.ShortestBack'. -/
def shortestBackUptoCard : Claim7 := { stood := { row := shortestBackUptoRow, standIns := [], harness := (true, "d0ecfb2a71273c890f4c4cf4cb6818f1b520cd37e50d6571ab20baa3cde4cab4"), looks := true }, kinds := [], alts := [], laidByText := true, laidKinds := [.data, .data, .data, .data, .sentinel, .sentinel, .pinned], laidTests := true, laidLooks := .later }
def ShortestBackUptoCardSaid : Prop := Claim7.holds Tryz.pinned (.plain (OpenSpec.upto shortestBackSpec)) shortestBackUptoCard

/-- THE SECOND FORM's CARD OF 'abacuslaw12.ShortestSteps'. -/
def shortestStepsUptoCard : Claim7 := { stood := { row := shortestStepsUptoRow, standIns := [], harness := (true, "d0ecfb2a71273c890f4c4cf4cb6818f1b520cd37e50d6571ab20baa3cde4cab4"), looks := true }, kinds := [], alts := [], laidByText := true, laidKinds := [.data, .data, .data, .data, .sentinel, .sentinel, .pinned], laidTests := true, laidLooks := .later }
def ShortestStepsUptoCardSaid : Prop := Claim7.holds Tryz.pinned (.plain (OpenSpec.upto shortestStepsSpec)) shortestStepsUptoCard

/-- THE SECOND FORM's CARD OF 'abacuslaw12.ShortestEdges'. -/
def shortestEdgesUptoCard : Claim7 := { stood := { row := shortestEdgesUptoRow, standIns := [], harness := (true, "d0ecfb2a71273c890f4c4cf4cb6818f1b520cd37e50d6571ab20baa3cde4cab4"), looks := true }, kinds := [], alts := [], laidByText := true, laidKinds := [.data, .data, .data, .data, .sentinel, .sentinel, .pinned], laidTests := true, laidLooks := .later }
def ShortestEdgesUptoCardSaid : Prop := Claim7.holds Tryz.pinned (.plain (OpenSpec.upto shortestEdgesSpec)) shortestEdgesUptoCard
end Rows
end Go.Proofs.YtjkefcikepnbpaaGreatDoor
