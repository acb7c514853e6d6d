/-
  DERIVED. GIVEN WITH THE SEED: THE CARDS: each row of YtbldddagddmbgabDoorRows.lean that lists a variable, with what it lists TIED to the program's text (the seventh form; the later family's looks); each row that meets fmt, with fmt's text TOLD by the authors' own Lean function (tested against real Go, not proved from fmt's source: count such statements apart). THE CARD IS WHAT COUNTS. Prove the row's statement (the work); the ties are given (YtbldddagddmbgabDoorTie.lean); close each card by the builder's one call (the guide's Derived/Test/ToyasCard.lean, 'card_holds'). Laid BY PROGRAM, IN A SANDBOX (cutbox-door.mjs). By AI agents, Wed Nov 11 2026. No macro, syntax, notation, axiom, sorry.
-/
import Derived.Test.YtbldddagddmbgabDoorRows
import GoSem.ClaimSeven
namespace Go.Proofs.YtbldddagddmbgabDoor
namespace Rows

/-- THE TIED CARD OF 'abacuslaw14.WholeBases'. -/
def wholeBasesCard : Claim7 := { stood := { row := wholeBasesRow, standIns := [], harness := (true, "728b3eb539dffc6855154619c2bb1c039a4fbb65996a8a2fb9a7214a692410e9"), looks := false }, kinds := [], alts := [], laidByText := true, laidKinds := [.data, .pinned], laidTests := true, laidLooks := .later }
def WholeBasesCardSaid : Prop := Claim7.holds Tryd.pinned (.plain (OpenSpec.ofChange wholeBasesSpec)) wholeBasesCard

/-- THE SECOND FORM's CARD OF 'abacuslaw14.WholeBases'. -/
def wholeBasesUptoCard : Claim7 := { stood := { row := wholeBasesUptoRow, standIns := [], harness := (true, "728b3eb539dffc6855154619c2bb1c039a4fbb65996a8a2fb9a7214a692410e9"), looks := false }, kinds := [], alts := [], laidByText := true, laidKinds := [.data, .pinned], laidTests := true, laidLooks := .later }
def WholeBasesUptoCardSaid : Prop := Claim7.holds Tryd.pinned (.plain (OpenSpec.upto wholeBasesSpec)) wholeBasesUptoCard
end Rows
end Go.Proofs.YtbldddagddmbgabDoor
