/-
  DERIVED. GIVEN WITH THE SEED: THE CARDS: each row of YthgjflfeilbbbaaGreatDoorRows.lean that lists a variable, with what it lists TIED to the program's text (the seventh form; the later family's looks); each row that meets fmt, with fmt's text TOLD by the authors' own Lean function (tested against real Go, not proved from fmt's source: count such statements apart). THE CARD IS WHAT COUNTS. Prove the row's statement (the work); the ties are given (YthgjflfeilbbbaaGreatDoorTie.lean); close each card by the builder's one call (the guide's Derived/Test/ToyasCard.lean, 'card_holds'). Laid BY PROGRAM, IN A SANDBOX (cutbox-door.mjs). By AI agents, Wed Nov 11 2026. No macro, syntax, notation, axiom, sorry.
-/
import Derived.Test.YthgjflfeilbbbaaGreatDoorRows
import GoSem.ClaimSeven
namespace Go.Proofs.YthgjflfeilbbbaaGreatDoor
namespace Rows

/-- THE TIED CARD OF 'abacuslaw09.QuickAll'. -/
def quickAllCard : Claim7 := { stood := { row := quickAllRow, standIns := [], harness := (true, "7a75b3c33534cf7949bca7b13e72a070d5693c067fa4ca72345bb9cc8d6c2e49"), looks := false }, kinds := [], alts := [], laidByText := true, laidKinds := [.data, .data, .data, .pinned], laidTests := true, laidLooks := .later }
def QuickAllCardSaid : Prop := Claim7.holds Tryz.pinned (.plain (OpenSpec.ofChange quickAllSpec)) quickAllCard

/-- THE TIED CARD OF 'abacuslaw09.QuickSure'. -/
def quickSureCard : Claim7 := { stood := { row := quickSureRow, standIns := [], harness := (true, "7a75b3c33534cf7949bca7b13e72a070d5693c067fa4ca72345bb9cc8d6c2e49"), looks := false }, kinds := [], alts := [], laidByText := true, laidKinds := [.data, .data, .data, .pinned], laidTests := true, laidLooks := .later }
def QuickSureCardSaid : Prop := Claim7.holds Tryz.pinned (.plain (OpenSpec.ofChange quickSureSpec)) quickSureCard

/-- THE TIED CARD OF 'abacuslaw09.QuickTrue'. -/
def quickTrueCard : Claim7 := { stood := { row := quickTrueRow, standIns := [], harness := (true, "7a75b3c33534cf7949bca7b13e72a070d5693c067fa4ca72345bb9cc8d6c2e49"), looks := false }, kinds := [], alts := [], laidByText := true, laidKinds := [.data, .data, .data, .pinned], laidTests := true, laidLooks := .later }
def QuickTrueCardSaid : Prop := Claim7.holds Tryz.pinned (.plain (OpenSpec.ofChange quickTrueSpec)) quickTrueCard

/-- THE SECOND FORM's CARD OF 'abacuslaw09.QuickAll'. -/
def quickAllUptoCard : Claim7 := { stood := { row := quickAllUptoRow, standIns := [], harness := (true, "7a75b3c33534cf7949bca7b13e72a070d5693c067fa4ca72345bb9cc8d6c2e49"), looks := false }, kinds := [], alts := [], laidByText := true, laidKinds := [.data, .data, .data, .pinned], laidTests := true, laidLooks := .later }
def QuickAllUptoCardSaid : Prop := Claim7.holds Tryz.pinned (.plain (OpenSpec.upto quickAllSpec)) quickAllUptoCard

/-- THE SECOND FORM's CARD OF 'abacuslaw09.QuickSure'. -/
def quickSureUptoCard : Claim7 := { stood := { row := quickSureUptoRow, standIns := [], harness := (true, "7a75b3c33534cf7949bca7b13e72a070d5693c067fa4ca72345bb9cc8d6c2e49"), looks := false }, kinds := [], alts := [], laidByText := true, laidKinds := [.data, .data, .data, .pinned], laidTests := true, laidLooks := .later }
def QuickSureUptoCardSaid : Prop := Claim7.holds Tryz.pinned (.plain (OpenSpec.upto quickSureSpec)) quickSureUptoCard

/-- THE SECOND FORM's CARD OF 'abacuslaw09.QuickTrue'. -/
def quickTrueUptoCard : Claim7 := { stood := { row := quickTrueUptoRow, standIns := [], harness := (true, "7a75b3c33534cf7949bca7b13e72a070d5693c067fa4ca72345bb9cc8d6c2e49"), looks := false }, kinds := [], alts := [], laidByText := true, laidKinds := [.data, .data, .data, .pinned], laidTests := true, laidLooks := .later }
def QuickTrueUptoCardSaid : Prop := Claim7.holds Tryz.pinned (.plain (OpenSpec.upto quickTrueSpec)) quickTrueUptoCard
end Rows
end Go.Proofs.YthgjflfeilbbbaaGreatDoor
