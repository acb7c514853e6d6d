/-
  DERIVED. GIVEN WITH THE SEED: THE CARDS: each row of YthpecfncndclfabGreatDoorRows.lean that lists a variable, with what it lists TIED to the program's text (the seventh form; the later family's looks); each row that meets fmt, with fmt's text TOLD by the authors' own Lean function (tested against real Go, not proved from fmt's source: count such statements apart). THE CARD IS WHAT COUNTS. Prove the row's statement (the work); the ties are given (YthpecfncndclfabGreatDoorTie.lean); close each card by the builder's one call (the guide's Derived/Test/ToyasCard.lean, 'card_holds'). Laid BY PROGRAM, IN A SANDBOX (cutbox-door.mjs). By AI agents, Wed Nov 11 2026. No macro, syntax, notation, axiom, sorry.
-/
import Derived.Test.YthpecfncndclfabGreatDoorRows
import GoSem.ClaimSeven
namespace Go.Proofs.YthpecfncndclfabGreatDoor
namespace Rows

/-- THE TIED CARD OF 'abacuslaw18.RelateKeeps'. -/
def relateKeepsCard : Claim7 := { stood := { row := relateKeepsRow, standIns := [], harness := (true, "4ab65e17a6a0a81434083a37f01bb28d0aa55abb34bacd80067129b2df953ae3"), looks := true }, kinds := [], alts := [], laidByText := true, laidKinds := [.data, .data, .data, .data, .pinned, .pinned], laidTests := true, laidLooks := .later }
def RelateKeepsCardSaid : Prop := Claim7.holds Tryz.pinned (.plain (OpenSpec.ofChange relateKeepsSpec)) relateKeepsCard

/-- THE TIED CARD OF 'abacuslaw18.RelateNothing'. -/
def relateNothingCard : Claim7 := { stood := { row := relateNothingRow, standIns := [], harness := (true, "4ab65e17a6a0a81434083a37f01bb28d0aa55abb34bacd80067129b2df953ae3"), looks := true }, kinds := [], alts := [], laidByText := true, laidKinds := [.data, .data, .data, .data, .pinned, .pinned], laidTests := true, laidLooks := .later }
def RelateNothingCardSaid : Prop := Claim7.holds Tryz.pinned (.plain (OpenSpec.ofChange relateNothingSpec)) relateNothingCard

/-- THE SECOND FORM's CARD OF 'abacuslaw18.RelateKeeps'. -/
def relateKeepsUptoCard : Claim7 := { stood := { row := relateKeepsUptoRow, standIns := [], harness := (true, "4ab65e17a6a0a81434083a37f01bb28d0aa55abb34bacd80067129b2df953ae3"), looks := true }, kinds := [], alts := [], laidByText := true, laidKinds := [.data, .data, .data, .data, .pinned, .pinned], laidTests := true, laidLooks := .later }
def RelateKeepsUptoCardSaid : Prop := Claim7.holds Tryz.pinned (.plain (OpenSpec.upto relateKeepsSpec)) relateKeepsUptoCard

/-- THE SECOND FORM's CARD OF 'abacuslaw18.RelateNothing'. -/
def relateNothingUptoCard : Claim7 := { stood := { row := relateNothingUptoRow, standIns := [], harness := (true, "4ab65e17a6a0a81434083a37f01bb28d0aa55abb34bacd80067129b2df953ae3"), looks := true }, kinds := [], alts := [], laidByText := true, laidKinds := [.data, .data, .data, .data, .pinned, .pinned], laidTests := true, laidLooks := .later }
def RelateNothingUptoCardSaid : Prop := Claim7.holds Tryz.pinned (.plain (OpenSpec.upto relateNothingSpec)) relateNothingUptoCard
end Rows
end Go.Proofs.YthpecfncndclfabGreatDoor
