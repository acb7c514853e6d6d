/-
  DERIVED. GIVEN WITH THE SEED: THE CARDS: each row of YtnfomlkhkggjeabDoorRows.lean that lists a variable, with what it lists TIED to the program's text (the seventh form; the later family's looks); each row that meets fmt, with fmt's text TOLD by the authors' own Lean function (tested against real Go, not proved from fmt's source: count such statements apart). THE CARD IS WHAT COUNTS. Prove the row's statement (the work); the ties are given (YtnfomlkhkggjeabDoorTie.lean); close each card by the builder's one call (the guide's Derived/Test/ToyasCard.lean, 'card_holds'). Laid BY PROGRAM, IN A SANDBOX (cutbox-door.mjs). By AI agents, Wed Nov 11 2026. No macro, syntax, notation, axiom, sorry.
-/
import Derived.Test.YtnfomlkhkggjeabDoorRows
import GoSem.ClaimSeven
namespace Go.Proofs.YtnfomlkhkggjeabDoor
namespace Rows

/-- THE TIED CARD OF 'abacuslaw06.RemainFirst'. -/
def remainFirstCard : Claim7 := { stood := { row := remainFirstRow, standIns := [], harness := (true, "562137f2ee553b380fa6b77e37af8e6e371802c5db700ef90653cecbfd8181a9"), looks := false }, kinds := [], alts := [], laidByText := true, laidKinds := [.data], laidTests := true, laidLooks := .later }
def RemainFirstCardSaid : Prop := Claim7.holds Tryd.pinned (.plain (OpenSpec.ofChange remainFirstSpec)) remainFirstCard

/-- THE TIED CARD OF 'abacuslaw06.RemainNearest'. -/
def remainNearestCard : Claim7 := { stood := { row := remainNearestRow, standIns := [], harness := (true, "562137f2ee553b380fa6b77e37af8e6e371802c5db700ef90653cecbfd8181a9"), looks := false }, kinds := [], alts := [], laidByText := true, laidKinds := [.data], laidTests := true, laidLooks := .later }
def RemainNearestCardSaid : Prop := Claim7.holds Tryd.pinned (.plain (OpenSpec.ofChange remainNearestSpec)) remainNearestCard

/-- THE SECOND FORM's CARD OF 'abacuslaw06.RemainFirst'. -/
def remainFirstUptoCard : Claim7 := { stood := { row := remainFirstUptoRow, standIns := [], harness := (true, "562137f2ee553b380fa6b77e37af8e6e371802c5db700ef90653cecbfd8181a9"), looks := false }, kinds := [], alts := [], laidByText := true, laidKinds := [.data], laidTests := true, laidLooks := .later }
def RemainFirstUptoCardSaid : Prop := Claim7.holds Tryd.pinned (.plain (OpenSpec.upto remainFirstSpec)) remainFirstUptoCard

/-- THE SECOND FORM's CARD OF 'abacuslaw06.RemainNearest'. -/
def remainNearestUptoCard : Claim7 := { stood := { row := remainNearestUptoRow, standIns := [], harness := (true, "562137f2ee553b380fa6b77e37af8e6e371802c5db700ef90653cecbfd8181a9"), looks := false }, kinds := [], alts := [], laidByText := true, laidKinds := [.data], laidTests := true, laidLooks := .later }
def RemainNearestUptoCardSaid : Prop := Claim7.holds Tryd.pinned (.plain (OpenSpec.upto remainNearestSpec)) remainNearestUptoCard
end Rows
end Go.Proofs.YtnfomlkhkggjeabDoor
