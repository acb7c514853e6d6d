/-
  DERIVED. GIVEN WITH THE SEED: THE CARDS: each row of YtaoaniigbooihaaGreatDoorRows.lean that lists a variable, with what it lists TIED to the program's text (the seventh form; the later family's looks); each row that meets fmt, with fmt's text TOLD by the authors' own Lean function (tested against real Go, not proved from fmt's source: count such statements apart). THE CARD IS WHAT COUNTS. Prove the row's statement (the work); the ties are given (YtaoaniigbooihaaGreatDoorTie.lean); close each card by the builder's one call (the guide's Derived/Test/ToyasCard.lean, 'card_holds'). Laid BY PROGRAM, IN A SANDBOX (cutbox-door.mjs). By AI agents, Wed Nov 11 2026. No macro, syntax, notation, axiom, sorry.
-/
import Derived.Test.YtaoaniigbooihaaGreatDoorRows
import GoSem.ClaimSeven
namespace Go.Proofs.YtaoaniigbooihaaGreatDoor
namespace Rows

/-- THE TIED CARD OF 'abacuslaw15.PointAll'. -/
def pointAllCard : Claim7 := { stood := { row := pointAllRow, standIns := [], harness := (true, "cc89bb7110309761be873b03d13be4b169152900c6e8913537bbd29ea6d2169d"), looks := false }, kinds := [], alts := [], laidByText := true, laidKinds := [.data, .data, .data, .data, .pinned, .pinned], laidTests := true, laidLooks := .later }
def PointAllCardSaid : Prop := Claim7.holds Tryz.pinned (.plain (OpenSpec.ofChange pointAllSpec)) pointAllCard

/-- THE TIED CARD OF 'abacuslaw15.PointBack'. -/
def pointBackCard : Claim7 := { stood := { row := pointBackRow, standIns := [], harness := (true, "cc89bb7110309761be873b03d13be4b169152900c6e8913537bbd29ea6d2169d"), looks := false }, kinds := [], alts := [], laidByText := true, laidKinds := [.data, .data, .pinned, .pinned], laidTests := true, laidLooks := .later }
def PointBackCardSaid : Prop := Claim7.holds Tryz.pinned (.plain (OpenSpec.ofChange pointBackSpec)) pointBackCard

/-- THE TIED CARD OF 'abacuslaw15.PointNear'. -/
def pointNearCard : Claim7 := { stood := { row := pointNearRow, standIns := [], harness := (true, "cc89bb7110309761be873b03d13be4b169152900c6e8913537bbd29ea6d2169d"), looks := false }, kinds := [], alts := [], laidByText := true, laidKinds := [.data, .data, .pinned, .pinned], laidTests := true, laidLooks := .later }
def PointNearCardSaid : Prop := Claim7.holds Tryz.pinned (.plain (OpenSpec.ofChange pointNearSpec)) pointNearCard

/-- THE TIED CARD OF 'abacuslaw15.PointDigits'. -/
def pointDigitsCard : Claim7 := { stood := { row := pointDigitsRow, standIns := [], harness := (true, "cc89bb7110309761be873b03d13be4b169152900c6e8913537bbd29ea6d2169d"), looks := false }, kinds := [], alts := [], laidByText := true, laidKinds := [.data, .data, .pinned, .pinned], laidTests := true, laidLooks := .later }
def PointDigitsCardSaid : Prop := Claim7.holds Tryz.pinned (.plain (OpenSpec.ofChange pointDigitsSpec)) pointDigitsCard

/-- THE TIED CARD OF 'abacuslaw15.PointGeneral'. -/
def pointGeneralCard : Claim7 := { stood := { row := pointGeneralRow, standIns := [], harness := (true, "cc89bb7110309761be873b03d13be4b169152900c6e8913537bbd29ea6d2169d"), looks := false }, kinds := [], alts := [], laidByText := true, laidKinds := [.data, .data, .pinned, .pinned], laidTests := true, laidLooks := .later }
def PointGeneralCardSaid : Prop := Claim7.holds Tryz.pinned (.plain (OpenSpec.ofChange pointGeneralSpec)) pointGeneralCard

/-- THE TIED CARD OF 'abacuslaw15.PointPads'. -/
def pointPadsCard : Claim7 := { stood := { row := pointPadsRow, standIns := [], harness := (true, "cc89bb7110309761be873b03d13be4b169152900c6e8913537bbd29ea6d2169d"), looks := false }, kinds := [], alts := [], laidByText := true, laidKinds := [.data, .data, .pinned, .pinned], laidTests := true, laidLooks := .later }
def PointPadsCardSaid : Prop := Claim7.holds Tryz.pinned (.plain (OpenSpec.ofChange pointPadsSpec)) pointPadsCard

/-- THE SECOND FORM's CARD OF 'abacuslaw15.PointAll'. -/
def pointAllUptoCard : Claim7 := { stood := { row := pointAllUptoRow, standIns := [], harness := (true, "cc89bb7110309761be873b03d13be4b169152900c6e8913537bbd29ea6d2169d"), looks := false }, kinds := [], alts := [], laidByText := true, laidKinds := [.data, .data, .data, .data, .pinned, .pinned], laidTests := true, laidLooks := .later }
def PointAllUptoCardSaid : Prop := Claim7.holds Tryz.pinned (.plain (OpenSpec.upto pointAllSpec)) pointAllUptoCard

/-- THE SECOND FORM's CARD OF 'abacuslaw15.PointBack'. -/
def pointBackUptoCard : Claim7 := { stood := { row := pointBackUptoRow, standIns := [], harness := (true, "cc89bb7110309761be873b03d13be4b169152900c6e8913537bbd29ea6d2169d"), looks := false }, kinds := [], alts := [], laidByText := true, laidKinds := [.data, .data, .pinned, .pinned], laidTests := true, laidLooks := .later }
def PointBackUptoCardSaid : Prop := Claim7.holds Tryz.pinned (.plain (OpenSpec.upto pointBackSpec)) pointBackUptoCard

/-- THE SECOND FORM's CARD OF 'abacuslaw15.PointNear'. -/
def pointNearUptoCard : Claim7 := { stood := { row := pointNearUptoRow, standIns := [], harness := (true, "cc89bb7110309761be873b03d13be4b169152900c6e8913537bbd29ea6d2169d"), looks := false }, kinds := [], alts := [], laidByText := true, laidKinds := [.data, .data, .pinned, .pinned], laidTests := true, laidLooks := .later }
def PointNearUptoCardSaid : Prop := Claim7.holds Tryz.pinned (.plain (OpenSpec.upto pointNearSpec)) pointNearUptoCard

/-- THE SECOND FORM's CARD OF 'abacuslaw15.PointDigits'. -/
def pointDigitsUptoCard : Claim7 := { stood := { row := pointDigitsUptoRow, standIns := [], harness := (true, "cc89bb7110309761be873b03d13be4b169152900c6e8913537bbd29ea6d2169d"), looks := false }, kinds := [], alts := [], laidByText := true, laidKinds := [.data, .data, .pinned, .pinned], laidTests := true, laidLooks := .later }
def PointDigitsUptoCardSaid : Prop := Claim7.holds Tryz.pinned (.plain (OpenSpec.upto pointDigitsSpec)) pointDigitsUptoCard

/-- THE SECOND FORM's CARD OF 'abacuslaw15.PointGeneral'. -/
def pointGeneralUptoCard : Claim7 := { stood := { row := pointGeneralUptoRow, standIns := [], harness := (true, "cc89bb7110309761be873b03d13be4b169152900c6e8913537bbd29ea6d2169d"), looks := false }, kinds := [], alts := [], laidByText := true, laidKinds := [.data, .data, .pinned, .pinned], laidTests := true, laidLooks := .later }
def PointGeneralUptoCardSaid : Prop := Claim7.holds Tryz.pinned (.plain (OpenSpec.upto pointGeneralSpec)) pointGeneralUptoCard

/-- THE SECOND FORM's CARD OF 'abacuslaw15.PointPads'. -/
def pointPadsUptoCard : Claim7 := { stood := { row := pointPadsUptoRow, standIns := [], harness := (true, "cc89bb7110309761be873b03d13be4b169152900c6e8913537bbd29ea6d2169d"), looks := false }, kinds := [], alts := [], laidByText := true, laidKinds := [.data, .data, .pinned, .pinned], laidTests := true, laidLooks := .later }
def PointPadsUptoCardSaid : Prop := Claim7.holds Tryz.pinned (.plain (OpenSpec.upto pointPadsSpec)) pointPadsUptoCard
end Rows
end Go.Proofs.YtaoaniigbooihaaGreatDoor
