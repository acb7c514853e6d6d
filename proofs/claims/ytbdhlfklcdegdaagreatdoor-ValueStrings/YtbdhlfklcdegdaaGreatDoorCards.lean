/-
  DERIVED. GIVEN WITH THE SEED: THE CARDS: each row of YtbdhlfklcdegdaaGreatDoorRows.lean that lists a variable, with what it lists TIED to the program's text (the seventh form; the later family's looks); each row that meets fmt, with fmt's text TOLD by the authors' own Lean function (tested against real Go, not proved from fmt's source: count such statements apart). THE CARD IS WHAT COUNTS. Prove the row's statement (the work); the ties are given (YtbdhlfklcdegdaaGreatDoorTie.lean); close each card by the builder's one call (the guide's Derived/Test/ToyasCard.lean, 'card_holds'). Laid BY PROGRAM, IN A SANDBOX (cutbox-door.mjs). By AI agents, Wed Nov 11 2026. No macro, syntax, notation, axiom, sorry.
-/
import Derived.Test.YtbdhlfklcdegdaaGreatDoorRows
import GoSem.ClaimSeven
namespace Go.Proofs.YtbdhlfklcdegdaaGreatDoor
namespace Rows

/-- THE TIED CARD OF 'abacuslaw17.ValueKinds'. -/
def valueKindsCard : Claim7 := { stood := { row := valueKindsRow, standIns := [], harness := (true, "76714a5332e5131b9d9f0ded4fecb963797ac895c274249b029067e0bd02d2c3"), looks := true }, kinds := [], alts := [], laidByText := true, laidKinds := [.data, .pinned], laidTests := true, laidLooks := .later }
def ValueKindsCardSaid : Prop := Claim7.holds Tryz.pinned (.plain (OpenSpec.ofChange valueKindsSpec)) valueKindsCard

/-- THE TIED CARD OF 'abacuslaw17.ValueInputs'. -/
def valueInputsCard : Claim7 := { stood := { row := valueInputsRow, standIns := [], harness := (true, "76714a5332e5131b9d9f0ded4fecb963797ac895c274249b029067e0bd02d2c3"), looks := true }, kinds := [], alts := [], laidByText := true, laidKinds := [.data, .pinned], laidTests := true, laidLooks := .later }
def ValueInputsCardSaid : Prop := Claim7.holds Tryz.pinned (.plain (OpenSpec.ofChange valueInputsSpec)) valueInputsCard

/-- THE TIED CARD OF 'abacuslaw17.ValueStrings'. -/
def valueStringsCard : Claim7 := { stood := { row := valueStringsRow, standIns := [], harness := (true, "76714a5332e5131b9d9f0ded4fecb963797ac895c274249b029067e0bd02d2c3"), looks := true }, kinds := [], alts := [], laidByText := true, laidKinds := [.data, .data, .data, .data, .pinned, .pinned], laidTests := true, laidLooks := .later }
def ValueStringsCardSaid : Prop := Claim7.holds Tryz.pinned (.plain (OpenSpec.ofChange valueStringsSpec)) valueStringsCard

/-- THE TIED CARD OF 'abacuslaw17.ValueLooks'. -/
def valueLooksCard : Claim7 := { stood := { row := valueLooksRow, standIns := [], harness := (true, "76714a5332e5131b9d9f0ded4fecb963797ac895c274249b029067e0bd02d2c3"), looks := true }, kinds := [], alts := [], laidByText := true, laidKinds := [.data, .data, .data, .data, .pinned, .pinned], laidTests := true, laidLooks := .later }
def ValueLooksCardSaid : Prop := Claim7.holds Tryz.pinned (.plain (OpenSpec.ofChange valueLooksSpec)) valueLooksCard

/-- THE TIED CARD OF 'abacuslaw17.ValueWhole'. -/
def valueWholeCard : Claim7 := { stood := { row := valueWholeRow, standIns := [], harness := (true, "76714a5332e5131b9d9f0ded4fecb963797ac895c274249b029067e0bd02d2c3"), looks := true }, kinds := [], alts := [], laidByText := true, laidKinds := [.data, .data, .data, .data, .pinned, .pinned], laidTests := true, laidLooks := .later }
def ValueWholeCardSaid : Prop := Claim7.holds Tryz.pinned (.plain (OpenSpec.ofChange valueWholeSpec)) valueWholeCard

/-- THE TIED CARD OF 'abacuslaw17.ValueFormats'. -/
def valueFormatsCard : Claim7 := { stood := { row := valueFormatsRow, standIns := [], harness := (true, "76714a5332e5131b9d9f0ded4fecb963797ac895c274249b029067e0bd02d2c3"), looks := true }, kinds := [], alts := [], laidByText := true, laidKinds := [.data, .data, .data, .data, .pinned, .pinned], laidTests := true, laidLooks := .later }
def ValueFormatsCardSaid : Prop := Claim7.holds Tryz.pinned (.plain (OpenSpec.ofChange valueFormatsSpec)) valueFormatsCard

/-- THE SECOND FORM's CARD OF 'abacuslaw17.ValueKinds'. -/
def valueKindsUptoCard : Claim7 := { stood := { row := valueKindsUptoRow, standIns := [], harness := (true, "76714a5332e5131b9d9f0ded4fecb963797ac895c274249b029067e0bd02d2c3"), looks := true }, kinds := [], alts := [], laidByText := true, laidKinds := [.data, .pinned], laidTests := true, laidLooks := .later }
def ValueKindsUptoCardSaid : Prop := Claim7.holds Tryz.pinned (.plain (OpenSpec.upto valueKindsSpec)) valueKindsUptoCard

/-- THE SECOND FORM's CARD OF 'abacuslaw17.ValueInputs'. -/
def valueInputsUptoCard : Claim7 := { stood := { row := valueInputsUptoRow, standIns := [], harness := (true, "76714a5332e5131b9d9f0ded4fecb963797ac895c274249b029067e0bd02d2c3"), looks := true }, kinds := [], alts := [], laidByText := true, laidKinds := [.data, .pinned], laidTests := true, laidLooks := .later }
def ValueInputsUptoCardSaid : Prop := Claim7.holds Tryz.pinned (.plain (OpenSpec.upto valueInputsSpec)) valueInputsUptoCard

/-- THE SECOND FORM's CARD OF 'abacuslaw17.ValueStrings'. -/
def valueStringsUptoCard : Claim7 := { stood := { row := valueStringsUptoRow, standIns := [], harness := (true, "76714a5332e5131b9d9f0ded4fecb963797ac895c274249b029067e0bd02d2c3"), looks := true }, kinds := [], alts := [], laidByText := true, laidKinds := [.data, .data, .data, .data, .pinned, .pinned], laidTests := true, laidLooks := .later }
def ValueStringsUptoCardSaid : Prop := Claim7.holds Tryz.pinned (.plain (OpenSpec.upto valueStringsSpec)) valueStringsUptoCard

/-- THE SECOND FORM's CARD OF 'abacuslaw17.ValueLooks'. -/
def valueLooksUptoCard : Claim7 := { stood := { row := valueLooksUptoRow, standIns := [], harness := (true, "76714a5332e5131b9d9f0ded4fecb963797ac895c274249b029067e0bd02d2c3"), looks := true }, kinds := [], alts := [], laidByText := true, laidKinds := [.data, .data, .data, .data, .pinned, .pinned], laidTests := true, laidLooks := .later }
def ValueLooksUptoCardSaid : Prop := Claim7.holds Tryz.pinned (.plain (OpenSpec.upto valueLooksSpec)) valueLooksUptoCard

/-- THE SECOND FORM's CARD OF 'abacuslaw17.ValueWhole'. -/
def valueWholeUptoCard : Claim7 := { stood := { row := valueWholeUptoRow, standIns := [], harness := (true, "76714a5332e5131b9d9f0ded4fecb963797ac895c274249b029067e0bd02d2c3"), looks := true }, kinds := [], alts := [], laidByText := true, laidKinds := [.data, .data, .data, .data, .pinned, .pinned], laidTests := true, laidLooks := .later }
def ValueWholeUptoCardSaid : Prop := Claim7.holds Tryz.pinned (.plain (OpenSpec.upto valueWholeSpec)) valueWholeUptoCard

/-- THE SECOND FORM's CARD OF 'abacuslaw17.ValueFormats'. -/
def valueFormatsUptoCard : Claim7 := { stood := { row := valueFormatsUptoRow, standIns := [], harness := (true, "76714a5332e5131b9d9f0ded4fecb963797ac895c274249b029067e0bd02d2c3"), looks := true }, kinds := [], alts := [], laidByText := true, laidKinds := [.data, .data, .data, .data, .pinned, .pinned], laidTests := true, laidLooks := .later }
def ValueFormatsUptoCardSaid : Prop := Claim7.holds Tryz.pinned (.plain (OpenSpec.upto valueFormatsSpec)) valueFormatsUptoCard
end Rows
end Go.Proofs.YtbdhlfklcdegdaaGreatDoor
