/-
  DERIVED. GIVEN WITH THE SEED: THE CARDS: each row of YtpnjafacoeinnabDoorRows.lean that lists a variable, with what it lists TIED to the program's text (the seventh form; the later family's looks); each row that meets fmt, with fmt's text TOLD by the authors' own Lean function (tested against real Go, not proved from fmt's source: count such statements apart). THE CARD IS WHAT COUNTS. Prove the row's statement (the work); the ties are given (YtpnjafacoeinnabDoorTie.lean); close each card by the builder's one call (the guide's Derived/Test/ToyasCard.lean, 'card_holds'). Laid BY PROGRAM, IN A SANDBOX (cutbox-door.mjs). By AI agents, Wed Nov 11 2026. No macro, syntax, notation, axiom, sorry.
-/
import Derived.Test.YtpnjafacoeinnabDoorRows
import GoSem.ClaimSeven
namespace Go.Proofs.YtpnjafacoeinnabDoor
namespace Rows

/-- THE TIED CARD OF 'abacuslaw04.IeeeScaled'. -/
def ieeeScaledCard : Claim7 := { stood := { row := ieeeScaledRow, standIns := [], harness := (true, "527a0a25d58dbbeb935bd4f03fd8a64ded3b2e09b970bf0b208d07a53d247854"), looks := false }, kinds := [], alts := [], laidByText := true, laidKinds := [.data], laidTests := true, laidLooks := .later }
def IeeeScaledCardSaid : Prop := Claim7.holds Tryd.pinned (.plain (OpenSpec.ofChange ieeeScaledSpec)) ieeeScaledCard

/-- THE TIED CARD OF 'abacuslaw04.IeeeRising'. -/
def ieeeRisingCard : Claim7 := { stood := { row := ieeeRisingRow, standIns := [], harness := (true, "527a0a25d58dbbeb935bd4f03fd8a64ded3b2e09b970bf0b208d07a53d247854"), looks := false }, kinds := [], alts := [], laidByText := true, laidKinds := [.data], laidTests := true, laidLooks := .later }
def IeeeRisingCardSaid : Prop := Claim7.holds Tryd.pinned (.plain (OpenSpec.ofChange ieeeRisingSpec)) ieeeRisingCard

/-- THE TIED CARD OF 'abacuslaw04.IeeeWhole'. -/
def ieeeWholeCard : Claim7 := { stood := { row := ieeeWholeRow, standIns := [], harness := (true, "527a0a25d58dbbeb935bd4f03fd8a64ded3b2e09b970bf0b208d07a53d247854"), looks := false }, kinds := [], alts := [], laidByText := true, laidKinds := [.data], laidTests := true, laidLooks := .later }
def IeeeWholeCardSaid : Prop := Claim7.holds Tryd.pinned (.plain (OpenSpec.ofChange ieeeWholeSpec)) ieeeWholeCard

/-- THE SECOND FORM's CARD OF 'abacuslaw04.IeeeScaled'. -/
def ieeeScaledUptoCard : Claim7 := { stood := { row := ieeeScaledUptoRow, standIns := [], harness := (true, "527a0a25d58dbbeb935bd4f03fd8a64ded3b2e09b970bf0b208d07a53d247854"), looks := false }, kinds := [], alts := [], laidByText := true, laidKinds := [.data], laidTests := true, laidLooks := .later }
def IeeeScaledUptoCardSaid : Prop := Claim7.holds Tryd.pinned (.plain (OpenSpec.upto ieeeScaledSpec)) ieeeScaledUptoCard

/-- THE SECOND FORM's CARD OF 'abacuslaw04.IeeeRising'. -/
def ieeeRisingUptoCard : Claim7 := { stood := { row := ieeeRisingUptoRow, standIns := [], harness := (true, "527a0a25d58dbbeb935bd4f03fd8a64ded3b2e09b970bf0b208d07a53d247854"), looks := false }, kinds := [], alts := [], laidByText := true, laidKinds := [.data], laidTests := true, laidLooks := .later }
def IeeeRisingUptoCardSaid : Prop := Claim7.holds Tryd.pinned (.plain (OpenSpec.upto ieeeRisingSpec)) ieeeRisingUptoCard

/-- THE SECOND FORM's CARD OF 'abacuslaw04.IeeeWhole'. -/
def ieeeWholeUptoCard : Claim7 := { stood := { row := ieeeWholeUptoRow, standIns := [], harness := (true, "527a0a25d58dbbeb935bd4f03fd8a64ded3b2e09b970bf0b208d07a53d247854"), looks := false }, kinds := [], alts := [], laidByText := true, laidKinds := [.data], laidTests := true, laidLooks := .later }
def IeeeWholeUptoCardSaid : Prop := Claim7.holds Tryd.pinned (.plain (OpenSpec.upto ieeeWholeSpec)) ieeeWholeUptoCard
end Rows
end Go.Proofs.YtpnjafacoeinnabDoor
