/-
  DERIVED. GIVEN WITH THE SEED: THE CARDS: each row of YtpmmbaahoegmlaaGreatDoorRows.lean that lists a variable, with what it lists TIED to the program's text (the seventh form; the later family's looks); each row that meets fmt, with fmt's text TOLD by the authors' own Lean function (tested against real Go, not proved from fmt's source: count such statements apart). THE CARD IS WHAT COUNTS. Prove the row's statement (the work); the ties are given (YtpmmbaahoegmlaaGreatDoorTie.lean); close each card by the builder's one call (the guide's Derived/Test/ToyasCard.lean, 'card_holds'). Laid BY PROGRAM, IN A SANDBOX (cutbox-door.mjs). By AI agents, Wed Nov 11 2026. No macro, syntax, notation, axiom, sorry.
-/
import Derived.Test.YtpmmbaahoegmlaaGreatDoorRows
import GoSem.ClaimSeven
namespace Go.Proofs.YtpmmbaahoegmlaaGreatDoor
namespace Rows

/-- THE TIED CARD OF 'abacuslaw18.RelateKeeps'. -/
def relateKeepsCard : Claim7 := { stood := { row := relateKeepsRow, standIns := [], harness := (true, "ec615bf6718f8c4e24e40b2b88040cec554b3455124d3775d1f1b2fb3e2b7969"), looks := true }, kinds := [], alts := [], laidByText := true, laidKinds := [.data, .data, .data, .data, .pinned, .pinned], laidTests := true, laidLooks := .later }
def RelateKeepsCardSaid : Prop := Claim7.holds Tryz.pinned (.plain (OpenSpec.ofChange relateKeepsSpec)) relateKeepsCard

/-- THE SECOND FORM's CARD OF 'abacuslaw18.RelateKeeps'. -/
def relateKeepsUptoCard : Claim7 := { stood := { row := relateKeepsUptoRow, standIns := [], harness := (true, "ec615bf6718f8c4e24e40b2b88040cec554b3455124d3775d1f1b2fb3e2b7969"), looks := true }, kinds := [], alts := [], laidByText := true, laidKinds := [.data, .data, .data, .data, .pinned, .pinned], laidTests := true, laidLooks := .later }
def RelateKeepsUptoCardSaid : Prop := Claim7.holds Tryz.pinned (.plain (OpenSpec.upto relateKeepsSpec)) relateKeepsUptoCard
end Rows
end Go.Proofs.YtpmmbaahoegmlaaGreatDoor
