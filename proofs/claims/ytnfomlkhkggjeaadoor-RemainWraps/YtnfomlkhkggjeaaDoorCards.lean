/-
  DERIVED. GIVEN WITH THE SEED: THE CARDS: each row of YtnfomlkhkggjeaaDoorRows.lean that lists a variable, with what it lists TIED to the program's text (the seventh form; the later family's looks); each row that meets fmt, with fmt's text TOLD by the authors' own Lean function (tested against real Go, not proved from fmt's source: count such statements apart). THE CARD IS WHAT COUNTS. Prove the row's statement (the work); the ties are given (YtnfomlkhkggjeaaDoorTie.lean); close each card by the builder's one call (the guide's Derived/Test/ToyasCard.lean, 'card_holds'). Laid BY PROGRAM, IN A SANDBOX (cutbox-door.mjs). By AI agents, Wed Nov 11 2026. No macro, syntax, notation, axiom, sorry.
-/
import Derived.Test.YtnfomlkhkggjeaaDoorRows
import GoSem.ClaimSeven
namespace Go.Proofs.YtnfomlkhkggjeaaDoor
namespace Rows

/-- THE TIED CARD OF 'abacuslaw06.RemainWraps'. -/
def remainWrapsCard : Claim7 := { stood := { row := remainWrapsRow, standIns := [], harness := (true, "6d66745a5d6ac5ef4bb6d48f1b05bdf13ac3f1a55c6942827c81d43ef1b39616"), looks := false }, kinds := [], alts := [], laidByText := true, laidKinds := [.data], laidTests := true, laidLooks := .later }
def RemainWrapsCardSaid : Prop := Claim7.holds Tryd.pinned (.plain (OpenSpec.ofChange remainWrapsSpec)) remainWrapsCard

/-- THE TIED CARD OF 'abacuslaw06.RemainCentres'. -/
def remainCentresCard : Claim7 := { stood := { row := remainCentresRow, standIns := [], harness := (true, "6d66745a5d6ac5ef4bb6d48f1b05bdf13ac3f1a55c6942827c81d43ef1b39616"), looks := false }, kinds := [], alts := [], laidByText := true, laidKinds := [.data], laidTests := true, laidLooks := .later }
def RemainCentresCardSaid : Prop := Claim7.holds Tryd.pinned (.plain (OpenSpec.ofChange remainCentresSpec)) remainCentresCard

/-- THE TIED CARD OF 'abacuslaw06.RemainSteps'. -/
def remainStepsCard : Claim7 := { stood := { row := remainStepsRow, standIns := [], harness := (true, "6d66745a5d6ac5ef4bb6d48f1b05bdf13ac3f1a55c6942827c81d43ef1b39616"), looks := false }, kinds := [], alts := [], laidByText := true, laidKinds := [.data], laidTests := true, laidLooks := .later }
def RemainStepsCardSaid : Prop := Claim7.holds Tryd.pinned (.plain (OpenSpec.ofChange remainStepsSpec)) remainStepsCard

/-- THE SECOND FORM's CARD OF 'abacuslaw06.RemainWraps'. -/
def remainWrapsUptoCard : Claim7 := { stood := { row := remainWrapsUptoRow, standIns := [], harness := (true, "6d66745a5d6ac5ef4bb6d48f1b05bdf13ac3f1a55c6942827c81d43ef1b39616"), looks := false }, kinds := [], alts := [], laidByText := true, laidKinds := [.data], laidTests := true, laidLooks := .later }
def RemainWrapsUptoCardSaid : Prop := Claim7.holds Tryd.pinned (.plain (OpenSpec.upto remainWrapsSpec)) remainWrapsUptoCard

/-- THE SECOND FORM's CARD OF 'abacuslaw06.RemainCentres'. -/
def remainCentresUptoCard : Claim7 := { stood := { row := remainCentresUptoRow, standIns := [], harness := (true, "6d66745a5d6ac5ef4bb6d48f1b05bdf13ac3f1a55c6942827c81d43ef1b39616"), looks := false }, kinds := [], alts := [], laidByText := true, laidKinds := [.data], laidTests := true, laidLooks := .later }
def RemainCentresUptoCardSaid : Prop := Claim7.holds Tryd.pinned (.plain (OpenSpec.upto remainCentresSpec)) remainCentresUptoCard

/-- THE SECOND FORM's CARD OF 'abacuslaw06.RemainSteps'. -/
def remainStepsUptoCard : Claim7 := { stood := { row := remainStepsUptoRow, standIns := [], harness := (true, "6d66745a5d6ac5ef4bb6d48f1b05bdf13ac3f1a55c6942827c81d43ef1b39616"), looks := false }, kinds := [], alts := [], laidByText := true, laidKinds := [.data], laidTests := true, laidLooks := .later }
def RemainStepsUptoCardSaid : Prop := Claim7.holds Tryd.pinned (.plain (OpenSpec.upto remainStepsSpec)) remainStepsUptoCard
end Rows
end Go.Proofs.YtnfomlkhkggjeaaDoor
