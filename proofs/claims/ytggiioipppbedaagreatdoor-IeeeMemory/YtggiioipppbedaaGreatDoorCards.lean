/-
  DERIVED. GIVEN WITH THE SEED: THE CARDS: each row of YtggiioipppbedaaGreatDoorRows.lean that lists a variable, with what it lists TIED to the program's text (the seventh form; the later family's looks); each row that meets fmt, with fmt's text TOLD by the authors' own Lean function (tested against real Go, not proved from fmt's source: count such statements apart). THE CARD IS WHAT COUNTS. Prove the row's statement (the work); the ties are given (YtggiioipppbedaaGreatDoorTie.lean); close each card by the builder's one call (the guide's Derived/Test/ToyasCard.lean, 'card_holds'). Laid BY PROGRAM, IN A SANDBOX (cutbox-door.mjs). By AI agents, Wed Nov 11 2026. No macro, syntax, notation, axiom, sorry.
-/
import Derived.Test.YtggiioipppbedaaGreatDoorRows
import GoSem.ClaimSeven
namespace Go.Proofs.YtggiioipppbedaaGreatDoor
namespace Rows

/-- THE TIED CARD OF 'abacuslaw04.IeeeMemory'. -/
def ieeeMemoryCard : Claim7 := { stood := { row := ieeeMemoryRow, standIns := [], harness := (true, "a17b38c7b6bdc71b9b5f644b30f69e401a9202f530f3f7c02c04cb76d9710b87"), looks := false }, kinds := [], alts := [], laidByText := true, laidKinds := [.data], laidTests := true, laidLooks := .later }
def IeeeMemoryCardSaid : Prop := Claim7.holds Tryz.pinned (.plain (OpenSpec.ofChange ieeeMemorySpec)) ieeeMemoryCard

/-- THE SECOND FORM's CARD OF 'abacuslaw04.IeeeMemory'. -/
def ieeeMemoryUptoCard : Claim7 := { stood := { row := ieeeMemoryUptoRow, standIns := [], harness := (true, "a17b38c7b6bdc71b9b5f644b30f69e401a9202f530f3f7c02c04cb76d9710b87"), looks := false }, kinds := [], alts := [], laidByText := true, laidKinds := [.data], laidTests := true, laidLooks := .later }
def IeeeMemoryUptoCardSaid : Prop := Claim7.holds Tryz.pinned (.plain (OpenSpec.upto ieeeMemorySpec)) ieeeMemoryUptoCard
end Rows
end Go.Proofs.YtggiioipppbedaaGreatDoor
