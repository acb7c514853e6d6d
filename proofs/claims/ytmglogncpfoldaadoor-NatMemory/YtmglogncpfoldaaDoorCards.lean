/-
  DERIVED. GIVEN WITH THE SEED: THE CARDS: each row of YtmglogncpfoldaaDoorRows.lean that lists a variable, with what it lists TIED to the program's text (the seventh form; the later family's looks); each row that meets fmt, with fmt's text TOLD by the authors' own Lean function (tested against real Go, not proved from fmt's source: count such statements apart). THE CARD IS WHAT COUNTS. Prove the row's statement (the work); the ties are given (YtmglogncpfoldaaDoorTie.lean); close each card by the builder's one call (the guide's Derived/Test/ToyasCard.lean, 'card_holds'). Laid BY PROGRAM, IN A SANDBOX (cutbox-door.mjs). By AI agents, Wed Nov 11 2026. No macro, syntax, notation, axiom, sorry.
-/
import Derived.Test.YtmglogncpfoldaaDoorRows
import GoSem.ClaimSeven
namespace Go.Proofs.YtmglogncpfoldaaDoor
namespace Rows

/-- THE TIED CARD OF 'abacuslaw01.NatMemory'. -/
def natMemoryCard : Claim7 := { stood := { row := natMemoryRow, standIns := [], harness := (true, "17d55576eb9e5961c4a594095a721e810d9fe15cf0e1af27a4aede07b9008691"), looks := false }, kinds := [], alts := [], laidByText := true, laidKinds := [.data], laidTests := true, laidLooks := .later }
def NatMemoryCardSaid : Prop := Claim7.holds Tryd.pinned (.plain (OpenSpec.ofChange natMemorySpec)) natMemoryCard

/-- THE SECOND FORM's CARD OF 'abacuslaw01.NatMemory'. -/
def natMemoryUptoCard : Claim7 := { stood := { row := natMemoryUptoRow, standIns := [], harness := (true, "17d55576eb9e5961c4a594095a721e810d9fe15cf0e1af27a4aede07b9008691"), looks := false }, kinds := [], alts := [], laidByText := true, laidKinds := [.data], laidTests := true, laidLooks := .later }
def NatMemoryUptoCardSaid : Prop := Claim7.holds Tryd.pinned (.plain (OpenSpec.upto natMemorySpec)) natMemoryUptoCard
end Rows
end Go.Proofs.YtmglogncpfoldaaDoor
