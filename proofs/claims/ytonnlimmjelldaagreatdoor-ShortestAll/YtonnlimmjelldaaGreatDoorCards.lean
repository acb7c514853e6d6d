/-
  DERIVED. GIVEN WITH THE SEED: THE CARDS: each row of YtonnlimmjelldaaGreatDoorRows.lean that lists a variable, with what it lists TIED to the program's text (the seventh form; the later family's looks); each row that meets fmt, with fmt's text TOLD by the authors' own Lean function (tested against real Go, not proved from fmt's source: count such statements apart). THE CARD IS WHAT COUNTS. Prove the row's statement (the work); the ties are given (YtonnlimmjelldaaGreatDoorTie.lean); close each card by the builder's one call (the guide's Derived/Test/ToyasCard.lean, 'card_holds'). Laid BY PROGRAM, IN A SANDBOX (cutbox-door.mjs). By AI agents, Wed Nov 11 2026. No macro, syntax, notation, axiom, sorry.
-/
import Derived.Test.YtonnlimmjelldaaGreatDoorRows
import GoSem.ClaimSeven
namespace Go.Proofs.YtonnlimmjelldaaGreatDoor
namespace Rows

/-- THE TIED CARD OF 'abacuslaw12.ShortestAll'. -/
def shortestAllCard : Claim7 := { stood := { row := shortestAllRow, standIns := [], harness := (true, "fa162f7bf6cb31e1707ca883393e4865e36bd6b3d6ab7e9ea256b14156c7d1cf"), looks := true }, kinds := [], alts := [], laidByText := true, laidKinds := [.data, .data, .data, .data, .sentinel, .sentinel, .pinned], laidTests := true, laidLooks := .later }
def ShortestAllCardSaid : Prop := Claim7.holds Tryz.pinned (.plain (OpenSpec.ofChange shortestAllSpec)) shortestAllCard

/-- THE SECOND FORM's CARD OF 'abacuslaw12.ShortestAll'. -/
def shortestAllUptoCard : Claim7 := { stood := { row := shortestAllUptoRow, standIns := [], harness := (true, "fa162f7bf6cb31e1707ca883393e4865e36bd6b3d6ab7e9ea256b14156c7d1cf"), looks := true }, kinds := [], alts := [], laidByText := true, laidKinds := [.data, .data, .data, .data, .sentinel, .sentinel, .pinned], laidTests := true, laidLooks := .later }
def ShortestAllUptoCardSaid : Prop := Claim7.holds Tryz.pinned (.plain (OpenSpec.upto shortestAllSpec)) shortestAllUptoCard
end Rows
end Go.Proofs.YtonnlimmjelldaaGreatDoor
