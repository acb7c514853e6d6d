/-
  DERIVED. GIVEN WITH THE SEED: THE CARDS: each row of YtaoaniigbooihabGreatDoorRows.lean that lists a variable, with what it lists TIED to the program's text (the seventh form; the later family's looks); each row that meets fmt, with fmt's text TOLD by the authors' own Lean function (tested against real Go, not proved from fmt's source: count such statements apart). THE CARD IS WHAT COUNTS. Prove the row's statement (the work); the ties are given (YtaoaniigbooihabGreatDoorTie.lean); close each card by the builder's one call (the guide's Derived/Test/ToyasCard.lean, 'card_holds'). Laid BY PROGRAM, IN A SANDBOX (cutbox-door.mjs). By AI agents, Wed Nov 11 2026. No macro, syntax, notation, axiom, sorry.
-/
import Derived.Test.YtaoaniigbooihabGreatDoorRows
import GoSem.ClaimSeven
namespace Go.Proofs.YtaoaniigbooihabGreatDoor
namespace Rows

/-- THE TIED CARD OF 'abacuslaw15.PointCapitals'. -/
def pointCapitalsCard : Claim7 := { stood := { row := pointCapitalsRow, standIns := [], harness := (true, "bbca3bd2b046fa9b9a74b89edb018e2ab8ab7c7777f4cb1fd3da88815fea9add"), looks := false }, kinds := [], alts := [], laidByText := true, laidKinds := [.data, .data, .pinned, .pinned], laidTests := true, laidLooks := .later }
def PointCapitalsCardSaid : Prop := Claim7.holds Tryz.pinned (.plain (OpenSpec.ofChange pointCapitalsSpec)) pointCapitalsCard

/-- THE SECOND FORM's CARD OF 'abacuslaw15.PointCapitals'. -/
def pointCapitalsUptoCard : Claim7 := { stood := { row := pointCapitalsUptoRow, standIns := [], harness := (true, "bbca3bd2b046fa9b9a74b89edb018e2ab8ab7c7777f4cb1fd3da88815fea9add"), looks := false }, kinds := [], alts := [], laidByText := true, laidKinds := [.data, .data, .pinned, .pinned], laidTests := true, laidLooks := .later }
def PointCapitalsUptoCardSaid : Prop := Claim7.holds Tryz.pinned (.plain (OpenSpec.upto pointCapitalsSpec)) pointCapitalsUptoCard
end Rows
end Go.Proofs.YtaoaniigbooihabGreatDoor
