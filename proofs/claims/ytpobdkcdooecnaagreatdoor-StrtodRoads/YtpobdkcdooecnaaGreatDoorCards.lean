/-
  DERIVED. GIVEN WITH THE SEED: THE CARDS: each row of YtpobdkcdooecnaaGreatDoorRows.lean that lists a variable, with what it lists TIED to the program's text (the seventh form; the later family's looks); each row that meets fmt, with fmt's text TOLD by the authors' own Lean function (tested against real Go, not proved from fmt's source: count such statements apart). THE CARD IS WHAT COUNTS. Prove the row's statement (the work); the ties are given (YtpobdkcdooecnaaGreatDoorTie.lean); close each card by the builder's one call (the guide's Derived/Test/ToyasCard.lean, 'card_holds'). Laid BY PROGRAM, IN A SANDBOX (cutbox-door.mjs). By AI agents, Wed Nov 11 2026. No macro, syntax, notation, axiom, sorry.
-/
import Derived.Test.YtpobdkcdooecnaaGreatDoorRows
import GoSem.ClaimSeven
namespace Go.Proofs.YtpobdkcdooecnaaGreatDoor
namespace Rows

/-- THE TIED CARD OF 'abacuslaw10.StrtodExact'. -/
def strtodExactCard : Claim7 := { stood := { row := strtodExactRow, standIns := [], harness := (true, "3ba60a8594567debb59aad4a9c5ff287ba8a45f8871b6d9b7b02d22bb223c312"), looks := false }, kinds := [], alts := [], laidByText := true, laidKinds := [.data, .pinned], laidTests := true, laidLooks := .later }
def StrtodExactCardSaid : Prop := Claim7.holds Tryz.pinned (.plain (OpenSpec.ofChange strtodExactSpec)) strtodExactCard

/-- THE TIED CARD OF 'abacuslaw10.StrtodRoads'. -/
def strtodRoadsCard : Claim7 := { stood := { row := strtodRoadsRow, standIns := [], harness := (true, "3ba60a8594567debb59aad4a9c5ff287ba8a45f8871b6d9b7b02d22bb223c312"), looks := false }, kinds := [], alts := [], laidByText := true, laidKinds := [.data, .data, .data, .pinned], laidTests := true, laidLooks := .later }
def StrtodRoadsCardSaid : Prop := Claim7.holds Tryz.pinned (.plain (OpenSpec.ofChange strtodRoadsSpec)) strtodRoadsCard

/-- THE TIED CARD OF 'abacuslaw10.StrtodFraming'. -/
def strtodFramingCard : Claim7 := { stood := { row := strtodFramingRow, standIns := [], harness := (true, "3ba60a8594567debb59aad4a9c5ff287ba8a45f8871b6d9b7b02d22bb223c312"), looks := false }, kinds := [], alts := [], laidByText := true, laidKinds := [.data, .pinned], laidTests := true, laidLooks := .later }
def StrtodFramingCardSaid : Prop := Claim7.holds Tryz.pinned (.plain (OpenSpec.ofChange strtodFramingSpec)) strtodFramingCard

/-- THE TIED CARD OF 'abacuslaw10.StrtodForms'. -/
def strtodFormsCard : Claim7 := { stood := { row := strtodFormsRow, standIns := [], harness := (true, "3ba60a8594567debb59aad4a9c5ff287ba8a45f8871b6d9b7b02d22bb223c312"), looks := false }, kinds := [], alts := [], laidByText := true, laidKinds := [.data, .pinned], laidTests := true, laidLooks := .later }
def StrtodFormsCardSaid : Prop := Claim7.holds Tryz.pinned (.plain (OpenSpec.ofChange strtodFormsSpec)) strtodFormsCard

/-- THE TIED CARD OF 'abacuslaw10.StrtodRising'. -/
def strtodRisingCard : Claim7 := { stood := { row := strtodRisingRow, standIns := [], harness := (true, "3ba60a8594567debb59aad4a9c5ff287ba8a45f8871b6d9b7b02d22bb223c312"), looks := false }, kinds := [], alts := [], laidByText := true, laidKinds := [.data, .pinned], laidTests := true, laidLooks := .later }
def StrtodRisingCardSaid : Prop := Claim7.holds Tryz.pinned (.plain (OpenSpec.ofChange strtodRisingSpec)) strtodRisingCard

/-- THE TIED CARD OF 'abacuslaw10.StrtodMiddles'. -/
def strtodMiddlesCard : Claim7 := { stood := { row := strtodMiddlesRow, standIns := [], harness := (true, "3ba60a8594567debb59aad4a9c5ff287ba8a45f8871b6d9b7b02d22bb223c312"), looks := false }, kinds := [], alts := [], laidByText := true, laidKinds := [.data, .pinned], laidTests := true, laidLooks := .later }
def StrtodMiddlesCardSaid : Prop := Claim7.holds Tryz.pinned (.plain (OpenSpec.ofChange strtodMiddlesSpec)) strtodMiddlesCard

/-- THE SECOND FORM's CARD OF 'abacuslaw10.StrtodExact'. -/
def strtodExactUptoCard : Claim7 := { stood := { row := strtodExactUptoRow, standIns := [], harness := (true, "3ba60a8594567debb59aad4a9c5ff287ba8a45f8871b6d9b7b02d22bb223c312"), looks := false }, kinds := [], alts := [], laidByText := true, laidKinds := [.data, .pinned], laidTests := true, laidLooks := .later }
def StrtodExactUptoCardSaid : Prop := Claim7.holds Tryz.pinned (.plain (OpenSpec.upto strtodExactSpec)) strtodExactUptoCard

/-- THE SECOND FORM's CARD OF 'abacuslaw10.StrtodRoads'. -/
def strtodRoadsUptoCard : Claim7 := { stood := { row := strtodRoadsUptoRow, standIns := [], harness := (true, "3ba60a8594567debb59aad4a9c5ff287ba8a45f8871b6d9b7b02d22bb223c312"), looks := false }, kinds := [], alts := [], laidByText := true, laidKinds := [.data, .data, .data, .pinned], laidTests := true, laidLooks := .later }
def StrtodRoadsUptoCardSaid : Prop := Claim7.holds Tryz.pinned (.plain (OpenSpec.upto strtodRoadsSpec)) strtodRoadsUptoCard

/-- THE SECOND FORM's CARD OF 'abacuslaw10.StrtodFraming'. -/
def strtodFramingUptoCard : Claim7 := { stood := { row := strtodFramingUptoRow, standIns := [], harness := (true, "3ba60a8594567debb59aad4a9c5ff287ba8a45f8871b6d9b7b02d22bb223c312"), looks := false }, kinds := [], alts := [], laidByText := true, laidKinds := [.data, .pinned], laidTests := true, laidLooks := .later }
def StrtodFramingUptoCardSaid : Prop := Claim7.holds Tryz.pinned (.plain (OpenSpec.upto strtodFramingSpec)) strtodFramingUptoCard

/-- THE SECOND FORM's CARD OF 'abacuslaw10.StrtodForms'. -/
def strtodFormsUptoCard : Claim7 := { stood := { row := strtodFormsUptoRow, standIns := [], harness := (true, "3ba60a8594567debb59aad4a9c5ff287ba8a45f8871b6d9b7b02d22bb223c312"), looks := false }, kinds := [], alts := [], laidByText := true, laidKinds := [.data, .pinned], laidTests := true, laidLooks := .later }
def StrtodFormsUptoCardSaid : Prop := Claim7.holds Tryz.pinned (.plain (OpenSpec.upto strtodFormsSpec)) strtodFormsUptoCard

/-- THE SECOND FORM's CARD OF 'abacuslaw10.StrtodRising'. -/
def strtodRisingUptoCard : Claim7 := { stood := { row := strtodRisingUptoRow, standIns := [], harness := (true, "3ba60a8594567debb59aad4a9c5ff287ba8a45f8871b6d9b7b02d22bb223c312"), looks := false }, kinds := [], alts := [], laidByText := true, laidKinds := [.data, .pinned], laidTests := true, laidLooks := .later }
def StrtodRisingUptoCardSaid : Prop := Claim7.holds Tryz.pinned (.plain (OpenSpec.upto strtodRisingSpec)) strtodRisingUptoCard

/-- THE SECOND FORM's CARD OF 'abacuslaw10.StrtodMiddles'. -/
def strtodMiddlesUptoCard : Claim7 := { stood := { row := strtodMiddlesUptoRow, standIns := [], harness := (true, "3ba60a8594567debb59aad4a9c5ff287ba8a45f8871b6d9b7b02d22bb223c312"), looks := false }, kinds := [], alts := [], laidByText := true, laidKinds := [.data, .pinned], laidTests := true, laidLooks := .later }
def StrtodMiddlesUptoCardSaid : Prop := Claim7.holds Tryz.pinned (.plain (OpenSpec.upto strtodMiddlesSpec)) strtodMiddlesUptoCard
end Rows
end Go.Proofs.YtpobdkcdooecnaaGreatDoor
