/-
  DERIVED. GIVEN WITH THE SEED: THE CARDS: each row of YtbdbpjghmejfjaaGreatDoorRows.lean that lists a variable, with what it lists TIED to the program's text (the seventh form; the later family's looks); each row that meets fmt, with fmt's text TOLD by the authors' own Lean function (tested against real Go, not proved from fmt's source: count such statements apart). THE CARD IS WHAT COUNTS. Prove the row's statement (the work); the ties are given (YtbdbpjghmejfjaaGreatDoorTie.lean); close each card by the builder's one call (the guide's Derived/Test/ToyasCard.lean, 'card_holds'). Laid BY PROGRAM, IN A SANDBOX (cutbox-door.mjs). By AI agents, Wed Nov 11 2026. No macro, syntax, notation, axiom, sorry.
-/
import Derived.Test.YtbdbpjghmejfjaaGreatDoorRows
import GoSem.ClaimSeven
namespace Go.Proofs.YtbdbpjghmejfjaaGreatDoor
namespace Rows

/-- THE TIED CARD OF 'abacuslaw11.FixedPlaces'. -/
def fixedPlacesCard : Claim7 := { stood := { row := fixedPlacesRow, standIns := [], harness := (true, "bdee7dafb0296a1708119621decd71a88c1c0aa2846e5dba9c06afb1333f7344"), looks := false }, kinds := [], alts := [], laidByText := true, laidKinds := [.data, .data, .pinned], laidTests := true, laidLooks := .later }
def FixedPlacesCardSaid : Prop := Claim7.holds Tryz.pinned (.plain (OpenSpec.ofChange fixedPlacesSpec)) fixedPlacesCard

/-- THE TIED CARD OF 'abacuslaw11.FixedNearest'. -/
def fixedNearestCard : Claim7 := { stood := { row := fixedNearestRow, standIns := [], harness := (true, "bdee7dafb0296a1708119621decd71a88c1c0aa2846e5dba9c06afb1333f7344"), looks := false }, kinds := [], alts := [], laidByText := true, laidKinds := [.data, .data, .pinned], laidTests := true, laidLooks := .later }
def FixedNearestCardSaid : Prop := Claim7.holds Tryz.pinned (.plain (OpenSpec.ofChange fixedNearestSpec)) fixedNearestCard

/-- THE TIED CARD OF 'abacuslaw11.FixedHeads'. -/
def fixedHeadsCard : Claim7 := { stood := { row := fixedHeadsRow, standIns := [], harness := (true, "bdee7dafb0296a1708119621decd71a88c1c0aa2846e5dba9c06afb1333f7344"), looks := false }, kinds := [], alts := [], laidByText := true, laidKinds := [.data, .data, .pinned], laidTests := true, laidLooks := .later }
def FixedHeadsCardSaid : Prop := Claim7.holds Tryz.pinned (.plain (OpenSpec.ofChange fixedHeadsSpec)) fixedHeadsCard

/-- THE TIED CARD OF 'abacuslaw11.FixedCuts'. -/
def fixedCutsCard : Claim7 := { stood := { row := fixedCutsRow, standIns := [], harness := (true, "bdee7dafb0296a1708119621decd71a88c1c0aa2846e5dba9c06afb1333f7344"), looks := false }, kinds := [], alts := [], laidByText := true, laidKinds := [.data, .data, .pinned], laidTests := true, laidLooks := .later }
def FixedCutsCardSaid : Prop := Claim7.holds Tryz.pinned (.plain (OpenSpec.ofChange fixedCutsSpec)) fixedCutsCard

/-- THE SECOND FORM's CARD OF 'abacuslaw11.FixedPlaces'. -/
def fixedPlacesUptoCard : Claim7 := { stood := { row := fixedPlacesUptoRow, standIns := [], harness := (true, "bdee7dafb0296a1708119621decd71a88c1c0aa2846e5dba9c06afb1333f7344"), looks := false }, kinds := [], alts := [], laidByText := true, laidKinds := [.data, .data, .pinned], laidTests := true, laidLooks := .later }
def FixedPlacesUptoCardSaid : Prop := Claim7.holds Tryz.pinned (.plain (OpenSpec.upto fixedPlacesSpec)) fixedPlacesUptoCard

/-- THE SECOND FORM's CARD OF 'abacuslaw11.FixedNearest'. -/
def fixedNearestUptoCard : Claim7 := { stood := { row := fixedNearestUptoRow, standIns := [], harness := (true, "bdee7dafb0296a1708119621decd71a88c1c0aa2846e5dba9c06afb1333f7344"), looks := false }, kinds := [], alts := [], laidByText := true, laidKinds := [.data, .data, .pinned], laidTests := true, laidLooks := .later }
def FixedNearestUptoCardSaid : Prop := Claim7.holds Tryz.pinned (.plain (OpenSpec.upto fixedNearestSpec)) fixedNearestUptoCard

/-- THE SECOND FORM's CARD OF 'abacuslaw11.FixedHeads'. -/
def fixedHeadsUptoCard : Claim7 := { stood := { row := fixedHeadsUptoRow, standIns := [], harness := (true, "bdee7dafb0296a1708119621decd71a88c1c0aa2846e5dba9c06afb1333f7344"), looks := false }, kinds := [], alts := [], laidByText := true, laidKinds := [.data, .data, .pinned], laidTests := true, laidLooks := .later }
def FixedHeadsUptoCardSaid : Prop := Claim7.holds Tryz.pinned (.plain (OpenSpec.upto fixedHeadsSpec)) fixedHeadsUptoCard

/-- THE SECOND FORM's CARD OF 'abacuslaw11.FixedCuts'. -/
def fixedCutsUptoCard : Claim7 := { stood := { row := fixedCutsUptoRow, standIns := [], harness := (true, "bdee7dafb0296a1708119621decd71a88c1c0aa2846e5dba9c06afb1333f7344"), looks := false }, kinds := [], alts := [], laidByText := true, laidKinds := [.data, .data, .pinned], laidTests := true, laidLooks := .later }
def FixedCutsUptoCardSaid : Prop := Claim7.holds Tryz.pinned (.plain (OpenSpec.upto fixedCutsSpec)) fixedCutsUptoCard
end Rows
end Go.Proofs.YtbdbpjghmejfjaaGreatDoor
