/-
  DERIVED. GIVEN WITH THE SEED: THE CARDS: each row of YthefpclblejbgaaGreatDoorRows.lean that lists a variable, with what it lists TIED to the program's text (the seventh form; the later family's looks); each row that meets fmt, with fmt's text TOLD by the authors' own Lean function (tested against real Go, not proved from fmt's source: count such statements apart). THE CARD IS WHAT COUNTS. Prove the row's statement (the work); the ties are given (YthefpclblejbgaaGreatDoorTie.lean); close each card by the builder's one call (the guide's Derived/Test/ToyasCard.lean, 'card_holds'). Laid BY PROGRAM, IN A SANDBOX (cutbox-door.mjs). By AI agents, Wed Nov 11 2026. No macro, syntax, notation, axiom, sorry.
-/
import Derived.Test.YthefpclblejbgaaGreatDoorRows
import GoSem.ClaimSeven
namespace Go.Proofs.YthefpclblejbgaaGreatDoor
namespace Rows

/-- THE TIED CARD OF 'abacustop.CoreReads'. -/
def coreReadsCard : Claim7 := { stood := { row := coreReadsRow, standIns := [], harness := (true, "481b42f748f282137bf40494ce99d2397c0c93971ea47dd82b5f7ad006ec4723"), looks := false }, kinds := [], alts := [], laidByText := true, laidKinds := [.data, .pinned], laidTests := true, laidLooks := .later }
def CoreReadsCardSaid : Prop := Claim7.holds Tryz.pinned (.plain (OpenSpec.ofChange coreReadsSpec)) coreReadsCard

/-- THE TIED CARD OF 'abacustop.CoreRoads'. -/
def coreRoadsCard : Claim7 := { stood := { row := coreRoadsRow, standIns := [], harness := (true, "481b42f748f282137bf40494ce99d2397c0c93971ea47dd82b5f7ad006ec4723"), looks := false }, kinds := [], alts := [], laidByText := true, laidKinds := [.data, .data, .data, .pinned], laidTests := true, laidLooks := .later }
def CoreRoadsCardSaid : Prop := Claim7.holds Tryz.pinned (.plain (OpenSpec.ofChange coreRoadsSpec)) coreRoadsCard

/-- THE TIED CARD OF 'abacustop.CoreOrders'. -/
def coreOrdersCard : Claim7 := { stood := { row := coreOrdersRow, standIns := [], harness := (true, "481b42f748f282137bf40494ce99d2397c0c93971ea47dd82b5f7ad006ec4723"), looks := false }, kinds := [], alts := [], laidByText := true, laidKinds := [.data, .pinned], laidTests := true, laidLooks := .later }
def CoreOrdersCardSaid : Prop := Claim7.holds Tryz.pinned (.plain (OpenSpec.ofChange coreOrdersSpec)) coreOrdersCard

/-- THE SECOND FORM's CARD OF 'abacustop.CoreReads'. -/
def coreReadsUptoCard : Claim7 := { stood := { row := coreReadsUptoRow, standIns := [], harness := (true, "481b42f748f282137bf40494ce99d2397c0c93971ea47dd82b5f7ad006ec4723"), looks := false }, kinds := [], alts := [], laidByText := true, laidKinds := [.data, .pinned], laidTests := true, laidLooks := .later }
def CoreReadsUptoCardSaid : Prop := Claim7.holds Tryz.pinned (.plain (OpenSpec.upto coreReadsSpec)) coreReadsUptoCard

/-- THE SECOND FORM's CARD OF 'abacustop.CoreRoads'. -/
def coreRoadsUptoCard : Claim7 := { stood := { row := coreRoadsUptoRow, standIns := [], harness := (true, "481b42f748f282137bf40494ce99d2397c0c93971ea47dd82b5f7ad006ec4723"), looks := false }, kinds := [], alts := [], laidByText := true, laidKinds := [.data, .data, .data, .pinned], laidTests := true, laidLooks := .later }
def CoreRoadsUptoCardSaid : Prop := Claim7.holds Tryz.pinned (.plain (OpenSpec.upto coreRoadsSpec)) coreRoadsUptoCard

/-- THE SECOND FORM's CARD OF 'abacustop.CoreOrders'. -/
def coreOrdersUptoCard : Claim7 := { stood := { row := coreOrdersUptoRow, standIns := [], harness := (true, "481b42f748f282137bf40494ce99d2397c0c93971ea47dd82b5f7ad006ec4723"), looks := false }, kinds := [], alts := [], laidByText := true, laidKinds := [.data, .pinned], laidTests := true, laidLooks := .later }
def CoreOrdersUptoCardSaid : Prop := Claim7.holds Tryz.pinned (.plain (OpenSpec.upto coreOrdersSpec)) coreOrdersUptoCard
end Rows
end Go.Proofs.YthefpclblejbgaaGreatDoor
