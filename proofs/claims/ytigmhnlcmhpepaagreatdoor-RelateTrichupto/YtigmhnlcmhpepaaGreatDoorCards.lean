/-
  DERIVED. GIVEN WITH THE SEED: THE CARDS: each row of YtigmhnlcmhpepaaGreatDoorRows.lean that lists a variable, with what it lists TIED to the program's text (the seventh form; the later family's looks); each row that meets fmt, with fmt's text TOLD by the authors' own Lean function (tested against real Go, not proved from fmt's source: count such statements apart). THE CARD IS WHAT COUNTS. Prove the row's statement (the work); the ties are given (YtigmhnlcmhpepaaGreatDoorTie.lean); close each card by the builder's one call (the guide's Derived/Test/ToyasCard.lean, 'card_holds'). Laid BY PROGRAM, IN A SANDBOX (cutbox-door.mjs). By AI agents, Wed Nov 11 2026. No macro, syntax, notation, axiom, sorry.
-/
import Derived.Test.YtigmhnlcmhpepaaGreatDoorRows
import GoSem.ClaimSeven
namespace Go.Proofs.YtigmhnlcmhpepaaGreatDoor
namespace Rows

/-- THE TIED CARD OF 'abacuslaw18.RelateTrich'. -/
def relateTrichCard : Claim7 := { stood := { row := relateTrichRow, standIns := [], harness := (true, "e04f727503b56b389519adc49c0df1f41f85f0b84a3694c68bc7d8e697d62d57"), looks := true }, kinds := [], alts := [], laidByText := true, laidKinds := [.data, .data, .data, .data, .pinned, .pinned], laidTests := true, laidLooks := .later }
def RelateTrichCardSaid : Prop := Claim7.holds Tryz.pinned (.plain (OpenSpec.ofChange relateTrichSpec)) relateTrichCard

/-- THE TIED CARD OF 'abacuslaw18.RelateLeast'. -/
def relateLeastCard : Claim7 := { stood := { row := relateLeastRow, standIns := [], harness := (true, "e04f727503b56b389519adc49c0df1f41f85f0b84a3694c68bc7d8e697d62d57"), looks := true }, kinds := [], alts := [], laidByText := true, laidKinds := [.data, .data, .data, .data, .pinned, .pinned], laidTests := true, laidLooks := .later }
def RelateLeastCardSaid : Prop := Claim7.holds Tryz.pinned (.plain (OpenSpec.ofChange relateLeastSpec)) relateLeastCard

/-- THE SECOND FORM's CARD OF 'abacuslaw18.RelateTrich'. -/
def relateTrichUptoCard : Claim7 := { stood := { row := relateTrichUptoRow, standIns := [], harness := (true, "e04f727503b56b389519adc49c0df1f41f85f0b84a3694c68bc7d8e697d62d57"), looks := true }, kinds := [], alts := [], laidByText := true, laidKinds := [.data, .data, .data, .data, .pinned, .pinned], laidTests := true, laidLooks := .later }
def RelateTrichUptoCardSaid : Prop := Claim7.holds Tryz.pinned (.plain (OpenSpec.upto relateTrichSpec)) relateTrichUptoCard

/-- THE SECOND FORM's CARD OF 'abacuslaw18.RelateLeast'. -/
def relateLeastUptoCard : Claim7 := { stood := { row := relateLeastUptoRow, standIns := [], harness := (true, "e04f727503b56b389519adc49c0df1f41f85f0b84a3694c68bc7d8e697d62d57"), looks := true }, kinds := [], alts := [], laidByText := true, laidKinds := [.data, .data, .data, .data, .pinned, .pinned], laidTests := true, laidLooks := .later }
def RelateLeastUptoCardSaid : Prop := Claim7.holds Tryz.pinned (.plain (OpenSpec.upto relateLeastSpec)) relateLeastUptoCard
end Rows
end Go.Proofs.YtigmhnlcmhpepaaGreatDoor
