/-
  DERIVED. GIVEN WITH THE SEED: THE CARDS: each row of YtbmlkfkhmaahnaaGreatDoorRows.lean that lists a variable, with what it lists TIED to the program's text (the seventh form; the later family's looks); each row that meets fmt, with fmt's text TOLD by the authors' own Lean function (tested against real Go, not proved from fmt's source: count such statements apart). THE CARD IS WHAT COUNTS. Prove the row's statement (the work); the ties are given (YtbmlkfkhmaahnaaGreatDoorTie.lean); close each card by the builder's one call (the guide's Derived/Test/ToyasCard.lean, 'card_holds'). Laid BY PROGRAM, IN A SANDBOX (cutbox-door.mjs). By AI agents, Wed Nov 11 2026. No macro, syntax, notation, axiom, sorry.
-/
import Derived.Test.YtbmlkfkhmaahnaaGreatDoorRows
import GoSem.ClaimSeven
namespace Go.Proofs.YtbmlkfkhmaahnaaGreatDoor
namespace Rows

/-- THE TIED CARD OF 'abacuslaw12.ShortestBack'. -/
def shortestBackCard : Claim7 := { stood := { row := shortestBackRow, standIns := [], harness := (true, "c3d8e20c8c12bde82a8d300307dad90618620b2f238dd6ec5b19d8313e03b52d"), looks := true }, kinds := [], alts := [], laidByText := true, laidKinds := [.data, .data, .data, .data, .sentinel, .sentinel, .pinned], laidTests := true, laidLooks := .later }
def ShortestBackCardSaid : Prop := Claim7.holds Tryz.pinned (.plain (OpenSpec.ofChange shortestBackSpec)) shortestBackCard

/-- THE TIED CARD OF 'abacuslaw12.ShortestHolds'. -/
def shortestHoldsCard : Claim7 := { stood := { row := shortestHoldsRow, standIns := [], harness := (true, "c3d8e20c8c12bde82a8d300307dad90618620b2f238dd6ec5b19d8313e03b52d"), looks := true }, kinds := [], alts := [], laidByText := true, laidKinds := [.data, .data, .data, .data, .sentinel, .sentinel, .pinned], laidTests := true, laidLooks := .later }
def ShortestHoldsCardSaid : Prop := Claim7.holds Tryz.pinned (.plain (OpenSpec.ofChange shortestHoldsSpec)) shortestHoldsCard

/-- THE SECOND FORM's CARD OF 'abacuslaw12.ShortestBack'. -/
def shortestBackUptoCard : Claim7 := { stood := { row := shortestBackUptoRow, standIns := [], harness := (true, "c3d8e20c8c12bde82a8d300307dad90618620b2f238dd6ec5b19d8313e03b52d"), looks := true }, kinds := [], alts := [], laidByText := true, laidKinds := [.data, .data, .data, .data, .sentinel, .sentinel, .pinned], laidTests := true, laidLooks := .later }
def ShortestBackUptoCardSaid : Prop := Claim7.holds Tryz.pinned (.plain (OpenSpec.upto shortestBackSpec)) shortestBackUptoCard

/-- THE SECOND FORM's CARD OF 'abacuslaw12.ShortestHolds'. -/
def shortestHoldsUptoCard : Claim7 := { stood := { row := shortestHoldsUptoRow, standIns := [], harness := (true, "c3d8e20c8c12bde82a8d300307dad90618620b2f238dd6ec5b19d8313e03b52d"), looks := true }, kinds := [], alts := [], laidByText := true, laidKinds := [.data, .data, .data, .data, .sentinel, .sentinel, .pinned], laidTests := true, laidLooks := .later }
def ShortestHoldsUptoCardSaid : Prop := Claim7.holds Tryz.pinned (.plain (OpenSpec.upto shortestHoldsSpec)) shortestHoldsUptoCard
end Rows
end Go.Proofs.YtbmlkfkhmaahnaaGreatDoor
