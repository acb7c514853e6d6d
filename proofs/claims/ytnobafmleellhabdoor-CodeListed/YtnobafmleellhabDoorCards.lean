/-
  DERIVED. GIVEN WITH THE SEED: THE CARDS: each row of YtnobafmleellhabDoorRows.lean that lists a variable, with what it lists TIED to the program's text (the seventh form; the later family's looks); each row that meets fmt, with fmt's text TOLD by the authors' own Lean function (tested against real Go, not proved from fmt's source: count such statements apart). THE CARD IS WHAT COUNTS. Prove the row's statement (the work); the ties are given (YtnobafmleellhabDoorTie.lean); close each card by the builder's one call (the guide's Derived/Test/ToyasCard.lean, 'card_holds'). Laid BY PROGRAM, IN A SANDBOX (cutbox-door.mjs). By AI agents, Wed Nov 11 2026. No macro, syntax, notation, axiom, sorry.
-/
import Derived.Test.YtnobafmleellhabDoorRows
import GoSem.ClaimSeven
namespace Go.Proofs.YtnobafmleellhabDoor
namespace Rows

/-- THE TIED CARD OF 'abacuslaw26.CodeTurned'. -/
def codeTurnedCard : Claim7 := { stood := { row := codeTurnedRow, standIns := [], harness := (true, "8021ee1ec53443c5a23315868ada519772e18903b5d4ff9cd3301048f2795fdf"), looks := false }, kinds := [], alts := [], laidByText := true, laidKinds := [.data, .data, .data], laidTests := true, laidLooks := .later }
def CodeTurnedCardSaid : Prop := Claim7.holds Tryd.pinned (.plain (OpenSpec.ofChange codeTurnedSpec)) codeTurnedCard

/-- THE TIED CARD OF 'abacuslaw26.CodeListed'. -/
def codeListedCard : Claim7 := { stood := { row := codeListedRow, standIns := [], harness := (true, "8021ee1ec53443c5a23315868ada519772e18903b5d4ff9cd3301048f2795fdf"), looks := false }, kinds := [], alts := [], laidByText := true, laidKinds := [.data, .data, .data], laidTests := true, laidLooks := .later }
def CodeListedCardSaid : Prop := Claim7.holds Tryd.pinned (.plain (OpenSpec.ofChange codeListedSpec)) codeListedCard

/-- THE SECOND FORM's CARD OF 'abacuslaw26.CodeTurned'. -/
def codeTurnedUptoCard : Claim7 := { stood := { row := codeTurnedUptoRow, standIns := [], harness := (true, "8021ee1ec53443c5a23315868ada519772e18903b5d4ff9cd3301048f2795fdf"), looks := false }, kinds := [], alts := [], laidByText := true, laidKinds := [.data, .data, .data], laidTests := true, laidLooks := .later }
def CodeTurnedUptoCardSaid : Prop := Claim7.holds Tryd.pinned (.plain (OpenSpec.upto codeTurnedSpec)) codeTurnedUptoCard

/-- THE SECOND FORM's CARD OF 'abacuslaw26.CodeListed'. -/
def codeListedUptoCard : Claim7 := { stood := { row := codeListedUptoRow, standIns := [], harness := (true, "8021ee1ec53443c5a23315868ada519772e18903b5d4ff9cd3301048f2795fdf"), looks := false }, kinds := [], alts := [], laidByText := true, laidKinds := [.data, .data, .data], laidTests := true, laidLooks := .later }
def CodeListedUptoCardSaid : Prop := Claim7.holds Tryd.pinned (.plain (OpenSpec.upto codeListedSpec)) codeListedUptoCard
end Rows
end Go.Proofs.YtnobafmleellhabDoor
