/-
  DERIVED. GIVEN WITH THE SEED: THE CARDS: each row of YtmakkfekomnpbaaGreatDoorRows.lean that lists a variable, with what it lists TIED to the program's text (the seventh form; the later family's looks); each row that meets fmt, with fmt's text TOLD by the authors' own Lean function (tested against real Go, not proved from fmt's source: count such statements apart). THE CARD IS WHAT COUNTS. Prove the row's statement (the work); the ties are given (YtmakkfekomnpbaaGreatDoorTie.lean); close each card by the builder's one call (the guide's Derived/Test/ToyasCard.lean, 'card_holds'). Laid BY PROGRAM, IN A SANDBOX (cutbox-door.mjs). By AI agents, Wed Nov 11 2026. No macro, syntax, notation, axiom, sorry.
-/
import Derived.Test.YtmakkfekomnpbaaGreatDoorRows
import GoSem.ClaimSeven
namespace Go.Proofs.YtmakkfekomnpbaaGreatDoor
namespace Rows

/-- THE TIED CARD OF 'abacuslaw06.RemainAll'. -/
def remainAllCard : Claim7 := { stood := { row := remainAllRow, standIns := [], harness := (true, "57b62580d643d6a1a358a7176e31c53c8b4e719db9e195065af5afff1ae3df47"), looks := false }, kinds := [], alts := [], laidByText := true, laidKinds := [.data], laidTests := true, laidLooks := .later }
def RemainAllCardSaid : Prop := Claim7.holds Tryz.pinned (.plain (OpenSpec.ofChange remainAllSpec)) remainAllCard

/-- THE SECOND FORM's CARD OF 'abacuslaw06.RemainAll'. -/
def remainAllUptoCard : Claim7 := { stood := { row := remainAllUptoRow, standIns := [], harness := (true, "57b62580d643d6a1a358a7176e31c53c8b4e719db9e195065af5afff1ae3df47"), looks := false }, kinds := [], alts := [], laidByText := true, laidKinds := [.data], laidTests := true, laidLooks := .later }
def RemainAllUptoCardSaid : Prop := Claim7.holds Tryz.pinned (.plain (OpenSpec.upto remainAllSpec)) remainAllUptoCard
end Rows
end Go.Proofs.YtmakkfekomnpbaaGreatDoor
