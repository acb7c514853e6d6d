/-
  DERIVED. GIVEN WITH THE SEED: THE CARDS: each row of YtpeecbidojjfpaaDoorRows.lean that lists a variable, with what it lists TIED to the program's text (the seventh form; the later family's looks); each row that meets fmt, with fmt's text TOLD by the authors' own Lean function (tested against real Go, not proved from fmt's source: count such statements apart). THE CARD IS WHAT COUNTS. Prove the row's statement (the work); the ties are given (YtpeecbidojjfpaaDoorTie.lean); close each card by the builder's one call (the guide's Derived/Test/ToyasCard.lean, 'card_holds'). Laid BY PROGRAM, IN A SANDBOX (cutbox-door.mjs). By AI agents, Wed Nov 11 2026. No macro, syntax, notation, axiom, sorry.
-/
import Derived.Test.YtpeecbidojjfpaaDoorRows
import GoSem.ClaimSeven
namespace Go.Proofs.YtpeecbidojjfpaaDoor
namespace Rows

/-- THE TIED CARD OF 'abacuslaw06.RemainNearest'. -/
def remainNearestCard : Claim7 := { stood := { row := remainNearestRow, standIns := [], harness := (true, "06e1d37e1db2693d165d289456920074a24708e945fc15a306615be301051967"), looks := false }, kinds := [], alts := [], laidByText := true, laidKinds := [.data], laidTests := true, laidLooks := .later }
def RemainNearestCardSaid : Prop := Claim7.holds Tryd.pinned (.plain (OpenSpec.ofChange remainNearestSpec)) remainNearestCard

/-- THE TIED CARD OF 'abacuslaw20.CharsCuts'. -/
def charsCutsCard : Claim7 := { stood := { row := charsCutsRow, standIns := [], harness := (true, "06e1d37e1db2693d165d289456920074a24708e945fc15a306615be301051967"), looks := false }, kinds := [], alts := [], laidByText := true, laidKinds := [.data], laidTests := true, laidLooks := .later }
def CharsCutsCardSaid : Prop := Claim7.holds Tryd.pinned (.plain (OpenSpec.ofChange charsCutsSpec)) charsCutsCard

/-- THE SECOND FORM's CARD OF 'abacuslaw06.RemainNearest'. -/
def remainNearestUptoCard : Claim7 := { stood := { row := remainNearestUptoRow, standIns := [], harness := (true, "06e1d37e1db2693d165d289456920074a24708e945fc15a306615be301051967"), looks := false }, kinds := [], alts := [], laidByText := true, laidKinds := [.data], laidTests := true, laidLooks := .later }
def RemainNearestUptoCardSaid : Prop := Claim7.holds Tryd.pinned (.plain (OpenSpec.upto remainNearestSpec)) remainNearestUptoCard

/-- THE SECOND FORM's CARD OF 'abacuslaw20.CharsCuts'. -/
def charsCutsUptoCard : Claim7 := { stood := { row := charsCutsUptoRow, standIns := [], harness := (true, "06e1d37e1db2693d165d289456920074a24708e945fc15a306615be301051967"), looks := false }, kinds := [], alts := [], laidByText := true, laidKinds := [.data], laidTests := true, laidLooks := .later }
def CharsCutsUptoCardSaid : Prop := Claim7.holds Tryd.pinned (.plain (OpenSpec.upto charsCutsSpec)) charsCutsUptoCard
end Rows
end Go.Proofs.YtpeecbidojjfpaaDoor
