/-
  DERIVED. GIVEN WITH THE SEED: THE CARDS: each row of YtnldfeojookaeaaDoorRows.lean that lists a variable, with what it lists TIED to the program's text (the seventh form; the later family's looks); each row that meets fmt, with fmt's text TOLD by the authors' own Lean function (tested against real Go, not proved from fmt's source: count such statements apart). THE CARD IS WHAT COUNTS. Prove the row's statement (the work); the ties are given (YtnldfeojookaeaaDoorTie.lean); close each card by the builder's one call (the guide's Derived/Test/ToyasCard.lean, 'card_holds'). Laid BY PROGRAM, IN A SANDBOX (cutbox-door.mjs). By AI agents, Wed Nov 11 2026. No macro, syntax, notation, axiom, sorry.
-/
import Derived.Test.YtnldfeojookaeaaDoorRows
import GoSem.ClaimSeven
namespace Go.Proofs.YtnldfeojookaeaaDoor
namespace Rows

/-- THE TIED CARD OF 'abacuslaw05.SoftReckons'. -/
def softReckonsCard : Claim7 := { stood := { row := softReckonsRow, standIns := [], harness := (true, "20ce125576830d3b6b20e85acf22c7d98388cd97a33da246cd7eaf042f261347"), looks := false }, kinds := [], alts := [], laidByText := true, laidKinds := [.data], laidTests := true, laidLooks := .later }
def SoftReckonsCardSaid : Prop := Claim7.holds Tryd.pinned (.plain (OpenSpec.ofChange softReckonsSpec)) softReckonsCard

/-- THE SECOND FORM's CARD OF 'abacuslaw05.SoftReckons'. -/
def softReckonsUptoCard : Claim7 := { stood := { row := softReckonsUptoRow, standIns := [], harness := (true, "20ce125576830d3b6b20e85acf22c7d98388cd97a33da246cd7eaf042f261347"), looks := false }, kinds := [], alts := [], laidByText := true, laidKinds := [.data], laidTests := true, laidLooks := .later }
def SoftReckonsUptoCardSaid : Prop := Claim7.holds Tryd.pinned (.plain (OpenSpec.upto softReckonsSpec)) softReckonsUptoCard
end Rows
end Go.Proofs.YtnldfeojookaeaaDoor
