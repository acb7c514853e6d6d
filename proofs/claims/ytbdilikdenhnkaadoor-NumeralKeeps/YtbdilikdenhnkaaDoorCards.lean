/-
  DERIVED. GIVEN WITH THE SEED: THE CARDS: each row of YtbdilikdenhnkaaDoorRows.lean that lists a variable, with what it lists TIED to the program's text (the seventh form; the later family's looks); each row that meets fmt, with fmt's text TOLD by the authors' own Lean function (tested against real Go, not proved from fmt's source: count such statements apart). THE CARD IS WHAT COUNTS. Prove the row's statement (the work); the ties are given (YtbdilikdenhnkaaDoorTie.lean); close each card by the builder's one call (the guide's Derived/Test/ToyasCard.lean, 'card_holds'). Laid BY PROGRAM, IN A SANDBOX (cutbox-door.mjs). By AI agents, Wed Nov 11 2026. No macro, syntax, notation, axiom, sorry.
-/
import Derived.Test.YtbdilikdenhnkaaDoorRows
import GoSem.ClaimSeven
namespace Go.Proofs.YtbdilikdenhnkaaDoor
namespace Rows

/-- THE TIED CARD OF 'abacuslaw03.NumeralKeeps'. -/
def numeralKeepsCard : Claim7 := { stood := { row := numeralKeepsRow, standIns := [], harness := (true, "3153530106bae2aed4213ff8405f448c67b1cafc4de534b3c37f9300655ee144"), looks := false }, kinds := [], alts := [], laidByText := true, laidKinds := [.data, .pinned], laidTests := true, laidLooks := .later }
def NumeralKeepsCardSaid : Prop := Claim7.holds Tryd.pinned (.plain (OpenSpec.ofChange numeralKeepsSpec)) numeralKeepsCard

/-- THE SECOND FORM's CARD OF 'abacuslaw03.NumeralKeeps'. -/
def numeralKeepsUptoCard : Claim7 := { stood := { row := numeralKeepsUptoRow, standIns := [], harness := (true, "3153530106bae2aed4213ff8405f448c67b1cafc4de534b3c37f9300655ee144"), looks := false }, kinds := [], alts := [], laidByText := true, laidKinds := [.data, .pinned], laidTests := true, laidLooks := .later }
def NumeralKeepsUptoCardSaid : Prop := Claim7.holds Tryd.pinned (.plain (OpenSpec.upto numeralKeepsSpec)) numeralKeepsUptoCard
end Rows
end Go.Proofs.YtbdilikdenhnkaaDoor
