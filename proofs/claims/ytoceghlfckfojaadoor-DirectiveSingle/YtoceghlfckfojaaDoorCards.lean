/-
  DERIVED. GIVEN WITH THE SEED: THE CARDS: each row of YtoceghlfckfojaaDoorRows.lean that lists a variable, with what it lists TIED to the program's text (the seventh form; the later family's looks); each row that meets fmt, with fmt's text TOLD by the authors' own Lean function (tested against real Go, not proved from fmt's source: count such statements apart). THE CARD IS WHAT COUNTS. Prove the row's statement (the work); the ties are given (YtoceghlfckfojaaDoorTie.lean); close each card by the builder's one call (the guide's Derived/Test/ToyasCard.lean, 'card_holds'). Laid BY PROGRAM, IN A SANDBOX (cutbox-door.mjs). By AI agents, Wed Nov 11 2026. No macro, syntax, notation, axiom, sorry.
-/
import Derived.Test.YtoceghlfckfojaaDoorRows
import GoSem.ClaimSeven
namespace Go.Proofs.YtoceghlfckfojaaDoor
namespace Rows

/-- THE TIED CARD OF 'abacuslaw13.DirectiveExact'. -/
def directiveExactCard : Claim7 := { stood := { row := directiveExactRow, standIns := [], harness := (true, "11e66bba4800afe49736f95e720d8bf5e4e2f8b9dd69bc2db5f8f785b3067e21"), looks := false }, kinds := [], alts := [], laidByText := true, laidKinds := [.data, .data, .data], laidTests := true, laidLooks := .later }
def DirectiveExactCardSaid : Prop := Claim7.holds Tryd.pinned (.plain (OpenSpec.ofChange directiveExactSpec)) directiveExactCard

/-- THE TIED CARD OF 'abacuslaw13.DirectiveMemory'. -/
def directiveMemoryCard : Claim7 := { stood := { row := directiveMemoryRow, standIns := [], harness := (true, "11e66bba4800afe49736f95e720d8bf5e4e2f8b9dd69bc2db5f8f785b3067e21"), looks := false }, kinds := [], alts := [], laidByText := true, laidKinds := [.data, .data, .data], laidTests := true, laidLooks := .later }
def DirectiveMemoryCardSaid : Prop := Claim7.holds Tryd.pinned (.plain (OpenSpec.ofChange directiveMemorySpec)) directiveMemoryCard

/-- THE TIED CARD OF 'abacuslaw13.DirectiveSingle'. -/
def directiveSingleCard : Claim7 := { stood := { row := directiveSingleRow, standIns := [], harness := (true, "11e66bba4800afe49736f95e720d8bf5e4e2f8b9dd69bc2db5f8f785b3067e21"), looks := false }, kinds := [], alts := [], laidByText := true, laidKinds := [.data, .data, .data], laidTests := true, laidLooks := .later }
def DirectiveSingleCardSaid : Prop := Claim7.holds Tryd.pinned (.plain (OpenSpec.ofChange directiveSingleSpec)) directiveSingleCard

/-- THE SECOND FORM's CARD OF 'abacuslaw13.DirectiveExact'. -/
def directiveExactUptoCard : Claim7 := { stood := { row := directiveExactUptoRow, standIns := [], harness := (true, "11e66bba4800afe49736f95e720d8bf5e4e2f8b9dd69bc2db5f8f785b3067e21"), looks := false }, kinds := [], alts := [], laidByText := true, laidKinds := [.data, .data, .data], laidTests := true, laidLooks := .later }
def DirectiveExactUptoCardSaid : Prop := Claim7.holds Tryd.pinned (.plain (OpenSpec.upto directiveExactSpec)) directiveExactUptoCard

/-- THE SECOND FORM's CARD OF 'abacuslaw13.DirectiveMemory'. -/
def directiveMemoryUptoCard : Claim7 := { stood := { row := directiveMemoryUptoRow, standIns := [], harness := (true, "11e66bba4800afe49736f95e720d8bf5e4e2f8b9dd69bc2db5f8f785b3067e21"), looks := false }, kinds := [], alts := [], laidByText := true, laidKinds := [.data, .data, .data], laidTests := true, laidLooks := .later }
def DirectiveMemoryUptoCardSaid : Prop := Claim7.holds Tryd.pinned (.plain (OpenSpec.upto directiveMemorySpec)) directiveMemoryUptoCard

/-- THE SECOND FORM's CARD OF 'abacuslaw13.DirectiveSingle'. -/
def directiveSingleUptoCard : Claim7 := { stood := { row := directiveSingleUptoRow, standIns := [], harness := (true, "11e66bba4800afe49736f95e720d8bf5e4e2f8b9dd69bc2db5f8f785b3067e21"), looks := false }, kinds := [], alts := [], laidByText := true, laidKinds := [.data, .data, .data], laidTests := true, laidLooks := .later }
def DirectiveSingleUptoCardSaid : Prop := Claim7.holds Tryd.pinned (.plain (OpenSpec.upto directiveSingleSpec)) directiveSingleUptoCard
end Rows
end Go.Proofs.YtoceghlfckfojaaDoor
