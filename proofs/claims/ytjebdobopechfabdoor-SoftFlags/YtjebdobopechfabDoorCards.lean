/-
  DERIVED. GIVEN WITH THE SEED: THE CARDS: each row of YtjebdobopechfabDoorRows.lean that lists a variable, with what it lists TIED to the program's text (the seventh form; the later family's looks); each row that meets fmt, with fmt's text TOLD by the authors' own Lean function (tested against real Go, not proved from fmt's source: count such statements apart). THE CARD IS WHAT COUNTS. Prove the row's statement (the work); the ties are given (YtjebdobopechfabDoorTie.lean); close each card by the builder's one call (the guide's Derived/Test/ToyasCard.lean, 'card_holds'). Laid BY PROGRAM, IN A SANDBOX (cutbox-door.mjs). By AI agents, Wed Nov 11 2026. No macro, syntax, notation, axiom, sorry.
-/
import Derived.Test.YtjebdobopechfabDoorRows
import GoSem.ClaimSeven
namespace Go.Proofs.YtjebdobopechfabDoor
namespace Rows

/-- THE TIED CARD OF 'abacuslaw05.SoftNearRoot'. -/
def softNearRootCard : Claim7 := { stood := { row := softNearRootRow, standIns := [], harness := (true, "b831d2f3e6549a82cb83cefa5892b3e3d97bd2eb901e20ece235b35eb3cf94c7"), looks := false }, kinds := [], alts := [], laidByText := true, laidKinds := [.data], laidTests := true, laidLooks := .later }
def SoftNearRootCardSaid : Prop := Claim7.holds Tryd.pinned (.plain (OpenSpec.ofChange softNearRootSpec)) softNearRootCard

/-- THE TIED CARD OF 'abacuslaw05.SoftSterbenz'. -/
def softSterbenzCard : Claim7 := { stood := { row := softSterbenzRow, standIns := [], harness := (true, "b831d2f3e6549a82cb83cefa5892b3e3d97bd2eb901e20ece235b35eb3cf94c7"), looks := false }, kinds := [], alts := [], laidByText := true, laidKinds := [.data], laidTests := true, laidLooks := .later }
def SoftSterbenzCardSaid : Prop := Claim7.holds Tryd.pinned (.plain (OpenSpec.ofChange softSterbenzSpec)) softSterbenzCard

/-- THE TIED CARD OF 'abacuslaw05.SoftTwoSum'. -/
def softTwoSumCard : Claim7 := { stood := { row := softTwoSumRow, standIns := [], harness := (true, "b831d2f3e6549a82cb83cefa5892b3e3d97bd2eb901e20ece235b35eb3cf94c7"), looks := false }, kinds := [], alts := [], laidByText := true, laidKinds := [.data], laidTests := true, laidLooks := .later }
def SoftTwoSumCardSaid : Prop := Claim7.holds Tryd.pinned (.plain (OpenSpec.ofChange softTwoSumSpec)) softTwoSumCard

/-- THE TIED CARD OF 'abacuslaw05.SoftTwoProduct'. -/
def softTwoProductCard : Claim7 := { stood := { row := softTwoProductRow, standIns := [], harness := (true, "b831d2f3e6549a82cb83cefa5892b3e3d97bd2eb901e20ece235b35eb3cf94c7"), looks := false }, kinds := [], alts := [], laidByText := true, laidKinds := [.data], laidTests := true, laidLooks := .later }
def SoftTwoProductCardSaid : Prop := Claim7.holds Tryd.pinned (.plain (OpenSpec.ofChange softTwoProductSpec)) softTwoProductCard

/-- THE TIED CARD OF 'abacuslaw05.SoftSigns'. -/
def softSignsCard : Claim7 := { stood := { row := softSignsRow, standIns := [], harness := (true, "b831d2f3e6549a82cb83cefa5892b3e3d97bd2eb901e20ece235b35eb3cf94c7"), looks := false }, kinds := [], alts := [], laidByText := true, laidKinds := [.data], laidTests := true, laidLooks := .later }
def SoftSignsCardSaid : Prop := Claim7.holds Tryd.pinned (.plain (OpenSpec.ofChange softSignsSpec)) softSignsCard

/-- THE TIED CARD OF 'abacuslaw05.SoftFlags'. -/
def softFlagsCard : Claim7 := { stood := { row := softFlagsRow, standIns := [], harness := (true, "b831d2f3e6549a82cb83cefa5892b3e3d97bd2eb901e20ece235b35eb3cf94c7"), looks := false }, kinds := [], alts := [], laidByText := true, laidKinds := [.data], laidTests := true, laidLooks := .later }
def SoftFlagsCardSaid : Prop := Claim7.holds Tryd.pinned (.plain (OpenSpec.ofChange softFlagsSpec)) softFlagsCard

/-- THE SECOND FORM's CARD OF 'abacuslaw05.SoftNearRoot'. -/
def softNearRootUptoCard : Claim7 := { stood := { row := softNearRootUptoRow, standIns := [], harness := (true, "b831d2f3e6549a82cb83cefa5892b3e3d97bd2eb901e20ece235b35eb3cf94c7"), looks := false }, kinds := [], alts := [], laidByText := true, laidKinds := [.data], laidTests := true, laidLooks := .later }
def SoftNearRootUptoCardSaid : Prop := Claim7.holds Tryd.pinned (.plain (OpenSpec.upto softNearRootSpec)) softNearRootUptoCard

/-- THE SECOND FORM's CARD OF 'abacuslaw05.SoftSterbenz'. -/
def softSterbenzUptoCard : Claim7 := { stood := { row := softSterbenzUptoRow, standIns := [], harness := (true, "b831d2f3e6549a82cb83cefa5892b3e3d97bd2eb901e20ece235b35eb3cf94c7"), looks := false }, kinds := [], alts := [], laidByText := true, laidKinds := [.data], laidTests := true, laidLooks := .later }
def SoftSterbenzUptoCardSaid : Prop := Claim7.holds Tryd.pinned (.plain (OpenSpec.upto softSterbenzSpec)) softSterbenzUptoCard

/-- THE SECOND FORM's CARD OF 'abacuslaw05.SoftTwoSum'. -/
def softTwoSumUptoCard : Claim7 := { stood := { row := softTwoSumUptoRow, standIns := [], harness := (true, "b831d2f3e6549a82cb83cefa5892b3e3d97bd2eb901e20ece235b35eb3cf94c7"), looks := false }, kinds := [], alts := [], laidByText := true, laidKinds := [.data], laidTests := true, laidLooks := .later }
def SoftTwoSumUptoCardSaid : Prop := Claim7.holds Tryd.pinned (.plain (OpenSpec.upto softTwoSumSpec)) softTwoSumUptoCard

/-- THE SECOND FORM's CARD OF 'abacuslaw05.SoftTwoProduct'. -/
def softTwoProductUptoCard : Claim7 := { stood := { row := softTwoProductUptoRow, standIns := [], harness := (true, "b831d2f3e6549a82cb83cefa5892b3e3d97bd2eb901e20ece235b35eb3cf94c7"), looks := false }, kinds := [], alts := [], laidByText := true, laidKinds := [.data], laidTests := true, laidLooks := .later }
def SoftTwoProductUptoCardSaid : Prop := Claim7.holds Tryd.pinned (.plain (OpenSpec.upto softTwoProductSpec)) softTwoProductUptoCard

/-- THE SECOND FORM's CARD OF 'abacuslaw05.SoftSigns'. -/
def softSignsUptoCard : Claim7 := { stood := { row := softSignsUptoRow, standIns := [], harness := (true, "b831d2f3e6549a82cb83cefa5892b3e3d97bd2eb901e20ece235b35eb3cf94c7"), looks := false }, kinds := [], alts := [], laidByText := true, laidKinds := [.data], laidTests := true, laidLooks := .later }
def SoftSignsUptoCardSaid : Prop := Claim7.holds Tryd.pinned (.plain (OpenSpec.upto softSignsSpec)) softSignsUptoCard

/-- THE SECOND FORM's CARD OF 'abacuslaw05.SoftFlags'. -/
def softFlagsUptoCard : Claim7 := { stood := { row := softFlagsUptoRow, standIns := [], harness := (true, "b831d2f3e6549a82cb83cefa5892b3e3d97bd2eb901e20ece235b35eb3cf94c7"), looks := false }, kinds := [], alts := [], laidByText := true, laidKinds := [.data], laidTests := true, laidLooks := .later }
def SoftFlagsUptoCardSaid : Prop := Claim7.holds Tryd.pinned (.plain (OpenSpec.upto softFlagsSpec)) softFlagsUptoCard
end Rows
end Go.Proofs.YtjebdobopechfabDoor
