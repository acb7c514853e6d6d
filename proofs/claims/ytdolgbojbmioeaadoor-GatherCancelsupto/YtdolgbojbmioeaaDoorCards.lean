/-
  DERIVED. GIVEN WITH THE SEED: THE CARDS: each row of YtdolgbojbmioeaaDoorRows.lean that lists a variable, with what it lists TIED to the program's text (the seventh form; the later family's looks); each row that meets fmt, with fmt's text TOLD by the authors' own Lean function (tested against real Go, not proved from fmt's source: count such statements apart). THE CARD IS WHAT COUNTS. Prove the row's statement (the work); the ties are given (YtdolgbojbmioeaaDoorTie.lean); close each card by the builder's one call (the guide's Derived/Test/ToyasCard.lean, 'card_holds'). Laid BY PROGRAM, IN A SANDBOX (cutbox-door.mjs). By AI agents, Wed Nov 11 2026. No macro, syntax, notation, axiom, sorry.
-/
import Derived.Test.YtdolgbojbmioeaaDoorRows
import GoSem.ClaimSeven
namespace Go.Proofs.YtdolgbojbmioeaaDoor
namespace Rows

/-- THE TIED CARD OF 'abacuslaw07.GatherOrder'. -/
def gatherOrderCard : Claim7 := { stood := { row := gatherOrderRow, standIns := [], harness := (true, "0df8ff307c240b74be26c7d324430efe7456fe67f2717a223c1a7e979bafbcb1"), looks := false }, kinds := [], alts := [], goes := true, laidByText := true, laidKinds := [.data], laidTests := true, laidLooks := .later }
def GatherOrderCardSaid : Prop := Claim7.holds Tryd.pinned (.plain (OpenSpec.ofChange gatherOrderSpec)) gatherOrderCard

/-- THE TIED CARD OF 'abacuslaw07.GatherCancels'. -/
def gatherCancelsCard : Claim7 := { stood := { row := gatherCancelsRow, standIns := [], harness := (true, "0df8ff307c240b74be26c7d324430efe7456fe67f2717a223c1a7e979bafbcb1"), looks := false }, kinds := [], alts := [], goes := true, laidByText := true, laidKinds := [.data], laidTests := true, laidLooks := .later }
def GatherCancelsCardSaid : Prop := Claim7.holds Tryd.pinned (.plain (OpenSpec.ofChange gatherCancelsSpec)) gatherCancelsCard

/-- THE SECOND FORM's CARD OF 'abacuslaw07.GatherOrder'. -/
def gatherOrderUptoCard : Claim7 := { stood := { row := gatherOrderUptoRow, standIns := [], harness := (true, "0df8ff307c240b74be26c7d324430efe7456fe67f2717a223c1a7e979bafbcb1"), looks := false }, kinds := [], alts := [], goes := true, laidByText := true, laidKinds := [.data], laidTests := true, laidLooks := .later }
def GatherOrderUptoCardSaid : Prop := Claim7.holds Tryd.pinned (.plain (OpenSpec.upto gatherOrderSpec)) gatherOrderUptoCard

/-- THE SECOND FORM's CARD OF 'abacuslaw07.GatherCancels'. -/
def gatherCancelsUptoCard : Claim7 := { stood := { row := gatherCancelsUptoRow, standIns := [], harness := (true, "0df8ff307c240b74be26c7d324430efe7456fe67f2717a223c1a7e979bafbcb1"), looks := false }, kinds := [], alts := [], goes := true, laidByText := true, laidKinds := [.data], laidTests := true, laidLooks := .later }
def GatherCancelsUptoCardSaid : Prop := Claim7.holds Tryd.pinned (.plain (OpenSpec.upto gatherCancelsSpec)) gatherCancelsUptoCard
end Rows
end Go.Proofs.YtdolgbojbmioeaaDoor
