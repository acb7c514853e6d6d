/-
  DERIVED. GIVEN WITH THE SEED: THE CARDS: each row of YthpecfncndclfaaGreatDoorRows.lean that lists a variable, with what it lists TIED to the program's text (the seventh form; the later family's looks); each row that meets fmt, with fmt's text TOLD by the authors' own Lean function (tested against real Go, not proved from fmt's source: count such statements apart). THE CARD IS WHAT COUNTS. Prove the row's statement (the work); the ties are given (YthpecfncndclfaaGreatDoorTie.lean); close each card by the builder's one call (the guide's Derived/Test/ToyasCard.lean, 'card_holds'). Laid BY PROGRAM, IN A SANDBOX (cutbox-door.mjs). By AI agents, Wed Nov 11 2026. No macro, syntax, notation, axiom, sorry.
-/
import Derived.Test.YthpecfncndclfaaGreatDoorRows
import GoSem.ClaimSeven
namespace Go.Proofs.YthpecfncndclfaaGreatDoor
namespace Rows

/-- THE TIED CARD OF 'abacuslaw18.RelateAll'. -/
def relateAllCard : Claim7 := { stood := { row := relateAllRow, standIns := [], harness := (true, "e94570e4eb60f56d45fcbf01ca8d4216650f68f509d28c5b3ffa832f1d5fb46a"), looks := true }, kinds := [], alts := [], laidByText := true, laidKinds := [.data, .data, .data, .data, .pinned, .pinned], laidTests := true, laidLooks := .later }
def RelateAllCardSaid : Prop := Claim7.holds Tryz.pinned (.plain (OpenSpec.ofChange relateAllSpec)) relateAllCard

/-- THE TIED CARD OF 'abacuslaw18.RelateTrich'. -/
def relateTrichCard : Claim7 := { stood := { row := relateTrichRow, standIns := [], harness := (true, "e94570e4eb60f56d45fcbf01ca8d4216650f68f509d28c5b3ffa832f1d5fb46a"), looks := true }, kinds := [], alts := [], laidByText := true, laidKinds := [.data, .data, .data, .data, .pinned, .pinned], laidTests := true, laidLooks := .later }
def RelateTrichCardSaid : Prop := Claim7.holds Tryz.pinned (.plain (OpenSpec.ofChange relateTrichSpec)) relateTrichCard

/-- THE TIED CARD OF 'abacuslaw18.RelateTexts'. -/
def relateTextsCard : Claim7 := { stood := { row := relateTextsRow, standIns := [], harness := (true, "e94570e4eb60f56d45fcbf01ca8d4216650f68f509d28c5b3ffa832f1d5fb46a"), looks := true }, kinds := [], alts := [], laidByText := true, laidKinds := [.data, .data, .data, .data, .pinned, .pinned], laidTests := true, laidLooks := .later }
def RelateTextsCardSaid : Prop := Claim7.holds Tryz.pinned (.plain (OpenSpec.ofChange relateTextsSpec)) relateTextsCard

/-- THE TIED CARD OF 'abacuslaw18.RelateTotal'. -/
def relateTotalCard : Claim7 := { stood := { row := relateTotalRow, standIns := [], harness := (true, "e94570e4eb60f56d45fcbf01ca8d4216650f68f509d28c5b3ffa832f1d5fb46a"), looks := true }, kinds := [], alts := [], laidByText := true, laidKinds := [.data, .data, .data, .data, .pinned, .pinned], laidTests := true, laidLooks := .later }
def RelateTotalCardSaid : Prop := Claim7.holds Tryz.pinned (.plain (OpenSpec.ofChange relateTotalSpec)) relateTotalCard

/-- THE TIED CARD OF 'abacuslaw18.RelateSorted'. -/
def relateSortedCard : Claim7 := { stood := { row := relateSortedRow, standIns := [], harness := (true, "e94570e4eb60f56d45fcbf01ca8d4216650f68f509d28c5b3ffa832f1d5fb46a"), looks := true }, kinds := [], alts := [], laidByText := true, laidKinds := [.data, .data, .data, .data, .pinned, .pinned], laidTests := true, laidLooks := .later }
def RelateSortedCardSaid : Prop := Claim7.holds Tryz.pinned (.plain (OpenSpec.ofChange relateSortedSpec)) relateSortedCard

/-- THE TIED CARD OF 'abacuslaw18.RelateLeast'. -/
def relateLeastCard : Claim7 := { stood := { row := relateLeastRow, standIns := [], harness := (true, "e94570e4eb60f56d45fcbf01ca8d4216650f68f509d28c5b3ffa832f1d5fb46a"), looks := true }, kinds := [], alts := [], laidByText := true, laidKinds := [.data, .data, .data, .data, .pinned, .pinned], laidTests := true, laidLooks := .later }
def RelateLeastCardSaid : Prop := Claim7.holds Tryz.pinned (.plain (OpenSpec.ofChange relateLeastSpec)) relateLeastCard

/-- THE SECOND FORM's CARD OF 'abacuslaw18.RelateAll'. -/
def relateAllUptoCard : Claim7 := { stood := { row := relateAllUptoRow, standIns := [], harness := (true, "e94570e4eb60f56d45fcbf01ca8d4216650f68f509d28c5b3ffa832f1d5fb46a"), looks := true }, kinds := [], alts := [], laidByText := true, laidKinds := [.data, .data, .data, .data, .pinned, .pinned], laidTests := true, laidLooks := .later }
def RelateAllUptoCardSaid : Prop := Claim7.holds Tryz.pinned (.plain (OpenSpec.upto relateAllSpec)) relateAllUptoCard

/-- THE SECOND FORM's CARD OF 'abacuslaw18.RelateTrich'. -/
def relateTrichUptoCard : Claim7 := { stood := { row := relateTrichUptoRow, standIns := [], harness := (true, "e94570e4eb60f56d45fcbf01ca8d4216650f68f509d28c5b3ffa832f1d5fb46a"), looks := true }, kinds := [], alts := [], laidByText := true, laidKinds := [.data, .data, .data, .data, .pinned, .pinned], laidTests := true, laidLooks := .later }
def RelateTrichUptoCardSaid : Prop := Claim7.holds Tryz.pinned (.plain (OpenSpec.upto relateTrichSpec)) relateTrichUptoCard

/-- THE SECOND FORM's CARD OF 'abacuslaw18.RelateTexts'. -/
def relateTextsUptoCard : Claim7 := { stood := { row := relateTextsUptoRow, standIns := [], harness := (true, "e94570e4eb60f56d45fcbf01ca8d4216650f68f509d28c5b3ffa832f1d5fb46a"), looks := true }, kinds := [], alts := [], laidByText := true, laidKinds := [.data, .data, .data, .data, .pinned, .pinned], laidTests := true, laidLooks := .later }
def RelateTextsUptoCardSaid : Prop := Claim7.holds Tryz.pinned (.plain (OpenSpec.upto relateTextsSpec)) relateTextsUptoCard

/-- THE SECOND FORM's CARD OF 'abacuslaw18.RelateTotal'. -/
def relateTotalUptoCard : Claim7 := { stood := { row := relateTotalUptoRow, standIns := [], harness := (true, "e94570e4eb60f56d45fcbf01ca8d4216650f68f509d28c5b3ffa832f1d5fb46a"), looks := true }, kinds := [], alts := [], laidByText := true, laidKinds := [.data, .data, .data, .data, .pinned, .pinned], laidTests := true, laidLooks := .later }
def RelateTotalUptoCardSaid : Prop := Claim7.holds Tryz.pinned (.plain (OpenSpec.upto relateTotalSpec)) relateTotalUptoCard

/-- THE SECOND FORM's CARD OF 'abacuslaw18.RelateSorted'. -/
def relateSortedUptoCard : Claim7 := { stood := { row := relateSortedUptoRow, standIns := [], harness := (true, "e94570e4eb60f56d45fcbf01ca8d4216650f68f509d28c5b3ffa832f1d5fb46a"), looks := true }, kinds := [], alts := [], laidByText := true, laidKinds := [.data, .data, .data, .data, .pinned, .pinned], laidTests := true, laidLooks := .later }
def RelateSortedUptoCardSaid : Prop := Claim7.holds Tryz.pinned (.plain (OpenSpec.upto relateSortedSpec)) relateSortedUptoCard

/-- THE SECOND FORM's CARD OF 'abacuslaw18.RelateLeast'. -/
def relateLeastUptoCard : Claim7 := { stood := { row := relateLeastUptoRow, standIns := [], harness := (true, "e94570e4eb60f56d45fcbf01ca8d4216650f68f509d28c5b3ffa832f1d5fb46a"), looks := true }, kinds := [], alts := [], laidByText := true, laidKinds := [.data, .data, .data, .data, .pinned, .pinned], laidTests := true, laidLooks := .later }
def RelateLeastUptoCardSaid : Prop := Claim7.holds Tryz.pinned (.plain (OpenSpec.upto relateLeastSpec)) relateLeastUptoCard
end Rows
end Go.Proofs.YthpecfncndclfaaGreatDoor
