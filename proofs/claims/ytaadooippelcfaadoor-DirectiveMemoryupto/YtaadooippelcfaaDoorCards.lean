/-
  DERIVED. GIVEN WITH THE SEED: THE CARDS: each row of YtaadooippelcfaaDoorRows.lean that lists a variable, with what it lists TIED to the program's text (the seventh form; the later family's looks); each row that meets fmt, with fmt's text TOLD by the authors' own Lean function (tested against real Go, not proved from fmt's source: count such statements apart). THE CARD IS WHAT COUNTS. Prove the row's statement (the work); the ties are given (YtaadooippelcfaaDoorTie.lean); close each card by the builder's one call (the guide's Derived/Test/ToyasCard.lean, 'card_holds'). Laid BY PROGRAM, IN A SANDBOX (cutbox-door.mjs). By AI agents, Wed Nov 11 2026. No macro, syntax, notation, axiom, sorry.
-/
import Derived.Test.YtaadooippelcfaaDoorRows
import GoSem.ClaimSeven
namespace Go.Proofs.YtaadooippelcfaaDoor
namespace Rows

/-- THE TIED CARD OF 'abacuslaw13.DirectiveExact'. -/
def directiveExactCard : Claim7 := { stood := { row := directiveExactRow, standIns := [], harness := (true, "b404c3decba4cfb96a48ad3c69aba85b089614c6792fd91ab98e3d105a8eacb9"), looks := false }, kinds := [], alts := [], laidByText := true, laidKinds := [.data, .data, .data], laidTests := true, laidLooks := .later }
def DirectiveExactCardSaid : Prop := Claim7.holds Tryd.pinned (.plain (OpenSpec.ofChange directiveExactSpec)) directiveExactCard

/-- THE TIED CARD OF 'abacuslaw13.DirectiveMemory'. -/
def directiveMemoryCard : Claim7 := { stood := { row := directiveMemoryRow, standIns := [], harness := (true, "b404c3decba4cfb96a48ad3c69aba85b089614c6792fd91ab98e3d105a8eacb9"), looks := false }, kinds := [], alts := [], laidByText := true, laidKinds := [.data, .data, .data], laidTests := true, laidLooks := .later }
def DirectiveMemoryCardSaid : Prop := Claim7.holds Tryd.pinned (.plain (OpenSpec.ofChange directiveMemorySpec)) directiveMemoryCard

/-- THE SECOND FORM's CARD OF 'abacuslaw13.DirectiveExact'. -/
def directiveExactUptoCard : Claim7 := { stood := { row := directiveExactUptoRow, standIns := [], harness := (true, "b404c3decba4cfb96a48ad3c69aba85b089614c6792fd91ab98e3d105a8eacb9"), looks := false }, kinds := [], alts := [], laidByText := true, laidKinds := [.data, .data, .data], laidTests := true, laidLooks := .later }
def DirectiveExactUptoCardSaid : Prop := Claim7.holds Tryd.pinned (.plain (OpenSpec.upto directiveExactSpec)) directiveExactUptoCard

/-- THE SECOND FORM's CARD OF 'abacuslaw13.DirectiveMemory'. -/
def directiveMemoryUptoCard : Claim7 := { stood := { row := directiveMemoryUptoRow, standIns := [], harness := (true, "b404c3decba4cfb96a48ad3c69aba85b089614c6792fd91ab98e3d105a8eacb9"), looks := false }, kinds := [], alts := [], laidByText := true, laidKinds := [.data, .data, .data], laidTests := true, laidLooks := .later }
def DirectiveMemoryUptoCardSaid : Prop := Claim7.holds Tryd.pinned (.plain (OpenSpec.upto directiveMemorySpec)) directiveMemoryUptoCard
end Rows
end Go.Proofs.YtaadooippelcfaaDoor
