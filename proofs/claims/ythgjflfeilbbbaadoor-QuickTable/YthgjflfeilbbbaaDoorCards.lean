/-
  DERIVED. GIVEN WITH THE SEED: THE CARDS: each row of YthgjflfeilbbbaaDoorRows.lean that lists a variable, with what it lists TIED to the program's text (the seventh form; the later family's looks); each row that meets fmt, with fmt's text TOLD by the authors' own Lean function (tested against real Go, not proved from fmt's source: count such statements apart). THE CARD IS WHAT COUNTS. Prove the row's statement (the work); the ties are given (YthgjflfeilbbbaaDoorTie.lean); close each card by the builder's one call (the guide's Derived/Test/ToyasCard.lean, 'card_holds'). Laid BY PROGRAM, IN A SANDBOX (cutbox-door.mjs). By AI agents, Wed Nov 11 2026. No macro, syntax, notation, axiom, sorry.
-/
import Derived.Test.YthgjflfeilbbbaaDoorRows
import GoSem.ClaimSeven
namespace Go.Proofs.YthgjflfeilbbbaaDoor
namespace Rows

/-- THE TIED CARD OF 'abacuslaw09.QuickTable'. -/
def quickTableCard : Claim7 := { stood := { row := quickTableRow, standIns := [], harness := (true, "e4c02eb3be9a648112cdcb7a4fe0899d08ae507aa8e42e4b70ec24ad87c0ba18"), looks := false }, kinds := [], alts := [], laidByText := true, laidKinds := [.data, .data, .data, .pinned], laidTests := true, laidLooks := .later }
def QuickTableCardSaid : Prop := Claim7.holds Tryd.pinned (.plain (OpenSpec.ofChange quickTableSpec)) quickTableCard

/-- THE TIED CARD OF 'abacuslaw09.QuickSound'. -/
def quickSoundCard : Claim7 := { stood := { row := quickSoundRow, standIns := [], harness := (true, "e4c02eb3be9a648112cdcb7a4fe0899d08ae507aa8e42e4b70ec24ad87c0ba18"), looks := false }, kinds := [], alts := [], laidByText := true, laidKinds := [.data, .data, .data, .pinned], laidTests := true, laidLooks := .later }
def QuickSoundCardSaid : Prop := Claim7.holds Tryd.pinned (.plain (OpenSpec.ofChange quickSoundSpec)) quickSoundCard

/-- THE SECOND FORM's CARD OF 'abacuslaw09.QuickTable'. -/
def quickTableUptoCard : Claim7 := { stood := { row := quickTableUptoRow, standIns := [], harness := (true, "e4c02eb3be9a648112cdcb7a4fe0899d08ae507aa8e42e4b70ec24ad87c0ba18"), looks := false }, kinds := [], alts := [], laidByText := true, laidKinds := [.data, .data, .data, .pinned], laidTests := true, laidLooks := .later }
def QuickTableUptoCardSaid : Prop := Claim7.holds Tryd.pinned (.plain (OpenSpec.upto quickTableSpec)) quickTableUptoCard

/-- THE SECOND FORM's CARD OF 'abacuslaw09.QuickSound'. -/
def quickSoundUptoCard : Claim7 := { stood := { row := quickSoundUptoRow, standIns := [], harness := (true, "e4c02eb3be9a648112cdcb7a4fe0899d08ae507aa8e42e4b70ec24ad87c0ba18"), looks := false }, kinds := [], alts := [], laidByText := true, laidKinds := [.data, .data, .data, .pinned], laidTests := true, laidLooks := .later }
def QuickSoundUptoCardSaid : Prop := Claim7.holds Tryd.pinned (.plain (OpenSpec.upto quickSoundSpec)) quickSoundUptoCard
end Rows
end Go.Proofs.YthgjflfeilbbbaaDoor
