/-
  DERIVED. GIVEN WITH THE SEED: THE CARDS: each row of YtbdbpjghmejfjaaDoorRows.lean that lists a variable, with what it lists TIED to the program's text (the seventh form; the later family's looks); each row that meets fmt, with fmt's text TOLD by the authors' own Lean function (tested against real Go, not proved from fmt's source: count such statements apart). THE CARD IS WHAT COUNTS. Prove the row's statement (the work); the ties are given (YtbdbpjghmejfjaaDoorTie.lean); close each card by the builder's one call (the guide's Derived/Test/ToyasCard.lean, 'card_holds'). Laid BY PROGRAM, IN A SANDBOX (cutbox-door.mjs). By AI agents, Wed Nov 11 2026. No macro, syntax, notation, axiom, sorry.
-/
import Derived.Test.YtbdbpjghmejfjaaDoorRows
import GoSem.ClaimSeven
namespace Go.Proofs.YtbdbpjghmejfjaaDoor
namespace Rows

/-- THE TIED CARD OF 'abacuslaw11.FixedAlls'. -/
def fixedAllsCard : Claim7 := { stood := { row := fixedAllsRow, standIns := [], harness := (true, "ea2196d66e01e640b1ad3613e326d807ae7a1b848165ed6ad56467264bdd3a60"), looks := false }, kinds := [], alts := [], laidByText := true, laidKinds := [.data, .data, .pinned], laidTests := true, laidLooks := .later }
def FixedAllsCardSaid : Prop := Claim7.holds Tryd.pinned (.plain (OpenSpec.ofChange fixedAllsSpec)) fixedAllsCard

/-- THE TIED CARD OF 'abacuslaw11.FixedExact'. -/
def fixedExactCard : Claim7 := { stood := { row := fixedExactRow, standIns := [], harness := (true, "ea2196d66e01e640b1ad3613e326d807ae7a1b848165ed6ad56467264bdd3a60"), looks := false }, kinds := [], alts := [], laidByText := true, laidKinds := [.data, .data, .pinned], laidTests := true, laidLooks := .later }
def FixedExactCardSaid : Prop := Claim7.holds Tryd.pinned (.plain (OpenSpec.ofChange fixedExactSpec)) fixedExactCard

/-- THE SECOND FORM's CARD OF 'abacuslaw11.FixedAlls'. -/
def fixedAllsUptoCard : Claim7 := { stood := { row := fixedAllsUptoRow, standIns := [], harness := (true, "ea2196d66e01e640b1ad3613e326d807ae7a1b848165ed6ad56467264bdd3a60"), looks := false }, kinds := [], alts := [], laidByText := true, laidKinds := [.data, .data, .pinned], laidTests := true, laidLooks := .later }
def FixedAllsUptoCardSaid : Prop := Claim7.holds Tryd.pinned (.plain (OpenSpec.upto fixedAllsSpec)) fixedAllsUptoCard

/-- THE SECOND FORM's CARD OF 'abacuslaw11.FixedExact'. -/
def fixedExactUptoCard : Claim7 := { stood := { row := fixedExactUptoRow, standIns := [], harness := (true, "ea2196d66e01e640b1ad3613e326d807ae7a1b848165ed6ad56467264bdd3a60"), looks := false }, kinds := [], alts := [], laidByText := true, laidKinds := [.data, .data, .pinned], laidTests := true, laidLooks := .later }
def FixedExactUptoCardSaid : Prop := Claim7.holds Tryd.pinned (.plain (OpenSpec.upto fixedExactSpec)) fixedExactUptoCard
end Rows
end Go.Proofs.YtbdbpjghmejfjaaDoor
