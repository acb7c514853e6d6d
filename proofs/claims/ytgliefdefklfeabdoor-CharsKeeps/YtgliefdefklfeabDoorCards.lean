/-
  DERIVED. GIVEN WITH THE SEED: THE CARDS: each row of YtgliefdefklfeabDoorRows.lean that lists a variable, with what it lists TIED to the program's text (the seventh form; the later family's looks); each row that meets fmt, with fmt's text TOLD by the authors' own Lean function (tested against real Go, not proved from fmt's source: count such statements apart). THE CARD IS WHAT COUNTS. Prove the row's statement (the work); the ties are given (YtgliefdefklfeabDoorTie.lean); close each card by the builder's one call (the guide's Derived/Test/ToyasCard.lean, 'card_holds'). Laid BY PROGRAM, IN A SANDBOX (cutbox-door.mjs). By AI agents, Wed Nov 11 2026. No macro, syntax, notation, axiom, sorry.
-/
import Derived.Test.YtgliefdefklfeabDoorRows
import GoSem.ClaimSeven
namespace Go.Proofs.YtgliefdefklfeabDoor
namespace Rows

/-- THE TIED CARD OF 'abacuslaw20.CharsKeeps'. -/
def charsKeepsCard : Claim7 := { stood := { row := charsKeepsRow, standIns := [], harness := (true, "d2c0b89939afe9c25be338459c0b819948d427056328cbdfcc0da083000ba508"), looks := false }, kinds := [], alts := [], laidByText := true, laidKinds := [.data, .pinned], laidTests := true, laidLooks := .later }
def CharsKeepsCardSaid : Prop := Claim7.holds Tryd.pinned (.plain (OpenSpec.ofChange charsKeepsSpec)) charsKeepsCard

/-- THE SECOND FORM's CARD OF 'abacuslaw20.CharsKeeps'. -/
def charsKeepsUptoCard : Claim7 := { stood := { row := charsKeepsUptoRow, standIns := [], harness := (true, "d2c0b89939afe9c25be338459c0b819948d427056328cbdfcc0da083000ba508"), looks := false }, kinds := [], alts := [], laidByText := true, laidKinds := [.data, .pinned], laidTests := true, laidLooks := .later }
def CharsKeepsUptoCardSaid : Prop := Claim7.holds Tryd.pinned (.plain (OpenSpec.upto charsKeepsSpec)) charsKeepsUptoCard
end Rows
end Go.Proofs.YtgliefdefklfeabDoor
