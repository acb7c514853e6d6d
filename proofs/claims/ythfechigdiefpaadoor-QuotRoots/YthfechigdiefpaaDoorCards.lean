/-
  DERIVED. GIVEN WITH THE SEED: THE CARDS: each row of YthfechigdiefpaaDoorRows.lean that lists a variable, with what it lists TIED to the program's text (the seventh form; the later family's looks); each row that meets fmt, with fmt's text TOLD by the authors' own Lean function (tested against real Go, not proved from fmt's source: count such statements apart). THE CARD IS WHAT COUNTS. Prove the row's statement (the work); the ties are given (YthfechigdiefpaaDoorTie.lean); close each card by the builder's one call (the guide's Derived/Test/ToyasCard.lean, 'card_holds'). Laid BY PROGRAM, IN A SANDBOX (cutbox-door.mjs). By AI agents, Wed Nov 11 2026. No macro, syntax, notation, axiom, sorry.
-/
import Derived.Test.YthfechigdiefpaaDoorRows
import GoSem.ClaimSeven
namespace Go.Proofs.YthfechigdiefpaaDoor
namespace Rows

/-- THE TIED CARD OF 'abacuslaw02.QuotRoots'. -/
def quotRootsCard : Claim7 := { stood := { row := quotRootsRow, standIns := [], harness := (true, "c991edd309dd332ea6d272dd47e48748e7fe506b4b991293b1d1533e743a3951"), looks := false }, kinds := [], alts := [], laidByText := true, laidKinds := [.data], laidTests := true, laidLooks := .later }
def QuotRootsCardSaid : Prop := Claim7.holds Tryd.pinned (.plain (OpenSpec.ofChange quotRootsSpec)) quotRootsCard

/-- THE TIED CARD OF 'abacuslaw02.QuotKeeps'. -/
def quotKeepsCard : Claim7 := { stood := { row := quotKeepsRow, standIns := [], harness := (true, "c991edd309dd332ea6d272dd47e48748e7fe506b4b991293b1d1533e743a3951"), looks := false }, kinds := [], alts := [], laidByText := true, laidKinds := [.data], laidTests := true, laidLooks := .later }
def QuotKeepsCardSaid : Prop := Claim7.holds Tryd.pinned (.plain (OpenSpec.ofChange quotKeepsSpec)) quotKeepsCard

/-- THE SECOND FORM's CARD OF 'abacuslaw02.QuotRoots'. -/
def quotRootsUptoCard : Claim7 := { stood := { row := quotRootsUptoRow, standIns := [], harness := (true, "c991edd309dd332ea6d272dd47e48748e7fe506b4b991293b1d1533e743a3951"), looks := false }, kinds := [], alts := [], laidByText := true, laidKinds := [.data], laidTests := true, laidLooks := .later }
def QuotRootsUptoCardSaid : Prop := Claim7.holds Tryd.pinned (.plain (OpenSpec.upto quotRootsSpec)) quotRootsUptoCard

/-- THE SECOND FORM's CARD OF 'abacuslaw02.QuotKeeps'. -/
def quotKeepsUptoCard : Claim7 := { stood := { row := quotKeepsUptoRow, standIns := [], harness := (true, "c991edd309dd332ea6d272dd47e48748e7fe506b4b991293b1d1533e743a3951"), looks := false }, kinds := [], alts := [], laidByText := true, laidKinds := [.data], laidTests := true, laidLooks := .later }
def QuotKeepsUptoCardSaid : Prop := Claim7.holds Tryd.pinned (.plain (OpenSpec.upto quotKeepsSpec)) quotKeepsUptoCard
end Rows
end Go.Proofs.YthfechigdiefpaaDoor
