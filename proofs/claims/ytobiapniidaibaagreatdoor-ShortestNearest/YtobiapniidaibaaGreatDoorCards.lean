/-
  DERIVED. GIVEN WITH THE SEED: THE CARDS: each row of YtobiapniidaibaaGreatDoorRows.lean that lists a variable, with what it lists TIED to the program's text (the seventh form; the later family's looks); each row that meets fmt, with fmt's text TOLD by the authors' own Lean function (tested against real Go, not proved from fmt's source: count such statements apart). THE CARD IS WHAT COUNTS. Prove the row's statement (the work); the ties are given (YtobiapniidaibaaGreatDoorTie.lean); close each card by the builder's one call (the guide's Derived/Test/ToyasCard.lean, 'card_holds'). Laid BY PROGRAM, IN A SANDBOX (cutbox-door.mjs). By AI agents, Wed Nov 11 2026. No macro, syntax, notation, axiom, sorry.
-/
import Derived.Test.YtobiapniidaibaaGreatDoorRows
import GoSem.ClaimSeven
namespace Go.Proofs.YtobiapniidaibaaGreatDoor
namespace Rows

/-- THE TIED CARD OF 'abacuslaw12.ShortestNearest'. -/
def shortestNearestCard : Claim7 := { stood := { row := shortestNearestRow, standIns := [], harness := (true, "f3f572732698c3bb0c650eecc49cb1582f43863652b5f551d2d9be288d351651"), looks := true }, kinds := [], alts := [], laidByText := true, laidKinds := [.data, .data, .data, .data, .sentinel, .sentinel, .pinned], laidTests := true, laidLooks := .later }
def ShortestNearestCardSaid : Prop := Claim7.holds Tryz.pinned (.plain (OpenSpec.ofChange shortestNearestSpec)) shortestNearestCard

/-- THE TIED CARD OF 'abacuslaw12.ShortestSteps'. -/
def shortestStepsCard : Claim7 := { stood := { row := shortestStepsRow, standIns := [], harness := (true, "f3f572732698c3bb0c650eecc49cb1582f43863652b5f551d2d9be288d351651"), looks := true }, kinds := [], alts := [], laidByText := true, laidKinds := [.data, .data, .data, .data, .sentinel, .sentinel, .pinned], laidTests := true, laidLooks := .later }
def ShortestStepsCardSaid : Prop := Claim7.holds Tryz.pinned (.plain (OpenSpec.ofChange shortestStepsSpec)) shortestStepsCard

/-- THE SECOND FORM's CARD OF 'abacuslaw12.ShortestNearest'. -/
def shortestNearestUptoCard : Claim7 := { stood := { row := shortestNearestUptoRow, standIns := [], harness := (true, "f3f572732698c3bb0c650eecc49cb1582f43863652b5f551d2d9be288d351651"), looks := true }, kinds := [], alts := [], laidByText := true, laidKinds := [.data, .data, .data, .data, .sentinel, .sentinel, .pinned], laidTests := true, laidLooks := .later }
def ShortestNearestUptoCardSaid : Prop := Claim7.holds Tryz.pinned (.plain (OpenSpec.upto shortestNearestSpec)) shortestNearestUptoCard

/-- THE SECOND FORM's CARD OF 'abacuslaw12.ShortestSteps'. -/
def shortestStepsUptoCard : Claim7 := { stood := { row := shortestStepsUptoRow, standIns := [], harness := (true, "f3f572732698c3bb0c650eecc49cb1582f43863652b5f551d2d9be288d351651"), looks := true }, kinds := [], alts := [], laidByText := true, laidKinds := [.data, .data, .data, .data, .sentinel, .sentinel, .pinned], laidTests := true, laidLooks := .later }
def ShortestStepsUptoCardSaid : Prop := Claim7.holds Tryz.pinned (.plain (OpenSpec.upto shortestStepsSpec)) shortestStepsUptoCard
end Rows
end Go.Proofs.YtobiapniidaibaaGreatDoor
