/-
  DERIVED. GIVEN WITH THE SEED: THE CARDS: each row of YtdolgbojbmioeaaGreatDoorRows.lean that lists a variable, with what it lists TIED to the program's text (the seventh form; the later family's looks); each row that meets fmt, with fmt's text TOLD by the authors' own Lean function (tested against real Go, not proved from fmt's source: count such statements apart). THE CARD IS WHAT COUNTS. Prove the row's statement (the work); the ties are given (YtdolgbojbmioeaaGreatDoorTie.lean); close each card by the builder's one call (the guide's Derived/Test/ToyasCard.lean, 'card_holds'). Laid BY PROGRAM, IN A SANDBOX (cutbox-door.mjs). By AI agents, Wed Nov 11 2026. No macro, syntax, notation, axiom, sorry.
-/
import Derived.Test.YtdolgbojbmioeaaGreatDoorRows
import GoSem.ClaimSeven
namespace Go.Proofs.YtdolgbojbmioeaaGreatDoor
namespace Rows

/-- THE TIED CARD OF 'abacuslaw07.GatherExact'. -/
def gatherExactCard : Claim7 := { stood := { row := gatherExactRow, standIns := [], harness := (true, "9873cdb88501aa70dca5431ad0dc7a20fe534cc653ba439803b2fe795d090020"), looks := false }, kinds := [], alts := [], goes := true, laidByText := true, laidKinds := [.data], laidTests := true, laidLooks := .later }
def GatherExactCardSaid : Prop := Claim7.holds Tryz.pinned (.plain (OpenSpec.ofChange gatherExactSpec)) gatherExactCard

/-- THE TIED CARD OF 'abacuslaw07.GatherLists'. -/
def gatherListsCard : Claim7 := { stood := { row := gatherListsRow, standIns := [], harness := (true, "9873cdb88501aa70dca5431ad0dc7a20fe534cc653ba439803b2fe795d090020"), looks := false }, kinds := [], alts := [], goes := true, laidByText := true, laidKinds := [.data], laidTests := true, laidLooks := .later }
def GatherListsCardSaid : Prop := Claim7.holds Tryz.pinned (.plain (OpenSpec.ofChange gatherListsSpec)) gatherListsCard

/-- THE TIED CARD OF 'abacuslaw07.GatherBetween'. -/
def gatherBetweenCard : Claim7 := { stood := { row := gatherBetweenRow, standIns := [], harness := (true, "9873cdb88501aa70dca5431ad0dc7a20fe534cc653ba439803b2fe795d090020"), looks := false }, kinds := [], alts := [], goes := true, laidByText := true, laidKinds := [.data], laidTests := true, laidLooks := .later }
def GatherBetweenCardSaid : Prop := Claim7.holds Tryz.pinned (.plain (OpenSpec.ofChange gatherBetweenSpec)) gatherBetweenCard

/-- THE TIED CARD OF 'abacuslaw07.GatherDoubles'. -/
def gatherDoublesCard : Claim7 := { stood := { row := gatherDoublesRow, standIns := [], harness := (true, "9873cdb88501aa70dca5431ad0dc7a20fe534cc653ba439803b2fe795d090020"), looks := false }, kinds := [], alts := [], goes := true, laidByText := true, laidKinds := [.data], laidTests := true, laidLooks := .later }
def GatherDoublesCardSaid : Prop := Claim7.holds Tryz.pinned (.plain (OpenSpec.ofChange gatherDoublesSpec)) gatherDoublesCard

/-- THE SECOND FORM's CARD OF 'abacuslaw07.GatherExact'. -/
def gatherExactUptoCard : Claim7 := { stood := { row := gatherExactUptoRow, standIns := [], harness := (true, "9873cdb88501aa70dca5431ad0dc7a20fe534cc653ba439803b2fe795d090020"), looks := false }, kinds := [], alts := [], goes := true, laidByText := true, laidKinds := [.data], laidTests := true, laidLooks := .later }
def GatherExactUptoCardSaid : Prop := Claim7.holds Tryz.pinned (.plain (OpenSpec.upto gatherExactSpec)) gatherExactUptoCard

/-- THE SECOND FORM's CARD OF 'abacuslaw07.GatherLists'. -/
def gatherListsUptoCard : Claim7 := { stood := { row := gatherListsUptoRow, standIns := [], harness := (true, "9873cdb88501aa70dca5431ad0dc7a20fe534cc653ba439803b2fe795d090020"), looks := false }, kinds := [], alts := [], goes := true, laidByText := true, laidKinds := [.data], laidTests := true, laidLooks := .later }
def GatherListsUptoCardSaid : Prop := Claim7.holds Tryz.pinned (.plain (OpenSpec.upto gatherListsSpec)) gatherListsUptoCard

/-- THE SECOND FORM's CARD OF 'abacuslaw07.GatherBetween'. -/
def gatherBetweenUptoCard : Claim7 := { stood := { row := gatherBetweenUptoRow, standIns := [], harness := (true, "9873cdb88501aa70dca5431ad0dc7a20fe534cc653ba439803b2fe795d090020"), looks := false }, kinds := [], alts := [], goes := true, laidByText := true, laidKinds := [.data], laidTests := true, laidLooks := .later }
def GatherBetweenUptoCardSaid : Prop := Claim7.holds Tryz.pinned (.plain (OpenSpec.upto gatherBetweenSpec)) gatherBetweenUptoCard

/-- THE SECOND FORM's CARD OF 'abacuslaw07.GatherDoubles'. -/
def gatherDoublesUptoCard : Claim7 := { stood := { row := gatherDoublesUptoRow, standIns := [], harness := (true, "9873cdb88501aa70dca5431ad0dc7a20fe534cc653ba439803b2fe795d090020"), looks := false }, kinds := [], alts := [], goes := true, laidByText := true, laidKinds := [.data], laidTests := true, laidLooks := .later }
def GatherDoublesUptoCardSaid : Prop := Claim7.holds Tryz.pinned (.plain (OpenSpec.upto gatherDoublesSpec)) gatherDoublesUptoCard
end Rows
end Go.Proofs.YtdolgbojbmioeaaGreatDoor
