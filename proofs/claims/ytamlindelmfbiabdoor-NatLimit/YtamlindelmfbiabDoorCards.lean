/-
  DERIVED. GIVEN WITH THE SEED: THE CARDS: each row of YtamlindelmfbiabDoorRows.lean that lists a variable, with what it lists TIED to the program's text (the seventh form; the later family's looks); each row that meets fmt, with fmt's text TOLD by the authors' own Lean function (tested against real Go, not proved from fmt's source: count such statements apart). THE CARD IS WHAT COUNTS. Prove the row's statement (the work); the ties are given (YtamlindelmfbiabDoorTie.lean); close each card by the builder's one call (the guide's Derived/Test/ToyasCard.lean, 'card_holds'). Laid BY PROGRAM, IN A SANDBOX (cutbox-door.mjs). By AI agents, Wed Nov 11 2026. No macro, syntax, notation, axiom, sorry.
-/
import Derived.Test.YtamlindelmfbiabDoorRows
import GoSem.ClaimSeven
namespace Go.Proofs.YtamlindelmfbiabDoor
namespace Rows

/-- THE TIED CARD OF 'abacuslaw01.NatShifts'. -/
def natShiftsCard : Claim7 := { stood := { row := natShiftsRow, standIns := [], harness := (true, "e63df8c7e98ca76d21d15b2bc37f155821b785907cd2ae1bf60a039a6a22b41c"), looks := false }, kinds := [], alts := [], laidByText := true, laidKinds := [.data], laidTests := true, laidLooks := .later }
def NatShiftsCardSaid : Prop := Claim7.holds Tryd.pinned (.plain (OpenSpec.ofChange natShiftsSpec)) natShiftsCard

/-- THE TIED CARD OF 'abacuslaw01.NatDigits'. -/
def natDigitsCard : Claim7 := { stood := { row := natDigitsRow, standIns := [], harness := (true, "e63df8c7e98ca76d21d15b2bc37f155821b785907cd2ae1bf60a039a6a22b41c"), looks := false }, kinds := [], alts := [], laidByText := true, laidKinds := [.data], laidTests := true, laidLooks := .later }
def NatDigitsCardSaid : Prop := Claim7.holds Tryd.pinned (.plain (OpenSpec.ofChange natDigitsSpec)) natDigitsCard

/-- THE TIED CARD OF 'abacuslaw01.NatLimit'. -/
def natLimitCard : Claim7 := { stood := { row := natLimitRow, standIns := [], harness := (true, "e63df8c7e98ca76d21d15b2bc37f155821b785907cd2ae1bf60a039a6a22b41c"), looks := false }, kinds := [], alts := [], laidByText := true, laidKinds := [.data], laidTests := true, laidLooks := .later }
def NatLimitCardSaid : Prop := Claim7.holds Tryd.pinned (.plain (OpenSpec.ofChange natLimitSpec)) natLimitCard

/-- THE SECOND FORM's CARD OF 'abacuslaw01.NatShifts'. -/
def natShiftsUptoCard : Claim7 := { stood := { row := natShiftsUptoRow, standIns := [], harness := (true, "e63df8c7e98ca76d21d15b2bc37f155821b785907cd2ae1bf60a039a6a22b41c"), looks := false }, kinds := [], alts := [], laidByText := true, laidKinds := [.data], laidTests := true, laidLooks := .later }
def NatShiftsUptoCardSaid : Prop := Claim7.holds Tryd.pinned (.plain (OpenSpec.upto natShiftsSpec)) natShiftsUptoCard

/-- THE SECOND FORM's CARD OF 'abacuslaw01.NatDigits'. -/
def natDigitsUptoCard : Claim7 := { stood := { row := natDigitsUptoRow, standIns := [], harness := (true, "e63df8c7e98ca76d21d15b2bc37f155821b785907cd2ae1bf60a039a6a22b41c"), looks := false }, kinds := [], alts := [], laidByText := true, laidKinds := [.data], laidTests := true, laidLooks := .later }
def NatDigitsUptoCardSaid : Prop := Claim7.holds Tryd.pinned (.plain (OpenSpec.upto natDigitsSpec)) natDigitsUptoCard

/-- THE SECOND FORM's CARD OF 'abacuslaw01.NatLimit'. -/
def natLimitUptoCard : Claim7 := { stood := { row := natLimitUptoRow, standIns := [], harness := (true, "e63df8c7e98ca76d21d15b2bc37f155821b785907cd2ae1bf60a039a6a22b41c"), looks := false }, kinds := [], alts := [], laidByText := true, laidKinds := [.data], laidTests := true, laidLooks := .later }
def NatLimitUptoCardSaid : Prop := Claim7.holds Tryd.pinned (.plain (OpenSpec.upto natLimitSpec)) natLimitUptoCard
end Rows
end Go.Proofs.YtamlindelmfbiabDoor
