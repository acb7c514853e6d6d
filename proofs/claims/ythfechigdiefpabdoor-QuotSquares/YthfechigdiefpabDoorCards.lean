/-
  DERIVED. GIVEN WITH THE SEED: THE CARDS: each row of YthfechigdiefpabDoorRows.lean that lists a variable, with what it lists TIED to the program's text (the seventh form; the later family's looks); each row that meets fmt, with fmt's text TOLD by the authors' own Lean function (tested against real Go, not proved from fmt's source: count such statements apart). THE CARD IS WHAT COUNTS. Prove the row's statement (the work); the ties are given (YthfechigdiefpabDoorTie.lean); close each card by the builder's one call (the guide's Derived/Test/ToyasCard.lean, 'card_holds'). Laid BY PROGRAM, IN A SANDBOX (cutbox-door.mjs). By AI agents, Wed Nov 11 2026. No macro, syntax, notation, axiom, sorry.
-/
import Derived.Test.YthfechigdiefpabDoorRows
import GoSem.ClaimSeven
namespace Go.Proofs.YthfechigdiefpabDoor
namespace Rows

/-- THE TIED CARD OF 'abacuslaw02.QuotSquares'. -/
def quotSquaresCard : Claim7 := { stood := { row := quotSquaresRow, standIns := [], harness := (true, "d8f617112f4aaf04ca14298257d4ca7dc656e0a3497f6480025a6251dfa0a849"), looks := false }, kinds := [], alts := [], laidByText := true, laidKinds := [.data], laidTests := true, laidLooks := .later }
def QuotSquaresCardSaid : Prop := Claim7.holds Tryd.pinned (.plain (OpenSpec.ofChange quotSquaresSpec)) quotSquaresCard

/-- THE SECOND FORM's CARD OF 'abacuslaw02.QuotSquares'. -/
def quotSquaresUptoCard : Claim7 := { stood := { row := quotSquaresUptoRow, standIns := [], harness := (true, "d8f617112f4aaf04ca14298257d4ca7dc656e0a3497f6480025a6251dfa0a849"), looks := false }, kinds := [], alts := [], laidByText := true, laidKinds := [.data], laidTests := true, laidLooks := .later }
def QuotSquaresUptoCardSaid : Prop := Claim7.holds Tryd.pinned (.plain (OpenSpec.upto quotSquaresSpec)) quotSquaresUptoCard
end Rows
end Go.Proofs.YthfechigdiefpabDoor
