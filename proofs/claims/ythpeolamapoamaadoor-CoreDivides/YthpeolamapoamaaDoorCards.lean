/-
  DERIVED. GIVEN WITH THE SEED: THE CARDS: each row of YthpeolamapoamaaDoorRows.lean that lists a variable, with what it lists TIED to the program's text (the seventh form; the later family's looks); each row that meets fmt, with fmt's text TOLD by the authors' own Lean function (tested against real Go, not proved from fmt's source: count such statements apart). THE CARD IS WHAT COUNTS. Prove the row's statement (the work); the ties are given (YthpeolamapoamaaDoorTie.lean); close each card by the builder's one call (the guide's Derived/Test/ToyasCard.lean, 'card_holds'). Laid BY PROGRAM, IN A SANDBOX (cutbox-door.mjs). By AI agents, Wed Nov 11 2026. No macro, syntax, notation, axiom, sorry.
-/
import Derived.Test.YthpeolamapoamaaDoorRows
import GoSem.ClaimSeven
namespace Go.Proofs.YthpeolamapoamaaDoor
namespace Rows

/-- THE TIED CARD OF 'abacustop.CoreDivides'. -/
def coreDividesCard : Claim7 := { stood := { row := coreDividesRow, standIns := [], harness := (true, "a1d8133fd892b59d7875a7457d58d47808e8bc710da47922d5a2ee69fa01b706"), looks := false }, kinds := [], alts := [], laidByText := true, laidKinds := [.data], laidTests := true, laidLooks := .later }
def CoreDividesCardSaid : Prop := Claim7.holds Tryd.pinned (.plain (OpenSpec.ofChange coreDividesSpec)) coreDividesCard

/-- THE SECOND FORM's CARD OF 'abacustop.CoreDivides'. -/
def coreDividesUptoCard : Claim7 := { stood := { row := coreDividesUptoRow, standIns := [], harness := (true, "a1d8133fd892b59d7875a7457d58d47808e8bc710da47922d5a2ee69fa01b706"), looks := false }, kinds := [], alts := [], laidByText := true, laidKinds := [.data], laidTests := true, laidLooks := .later }
def CoreDividesUptoCardSaid : Prop := Claim7.holds Tryd.pinned (.plain (OpenSpec.upto coreDividesSpec)) coreDividesUptoCard
end Rows
end Go.Proofs.YthpeolamapoamaaDoor
