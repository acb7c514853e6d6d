/-
  DERIVED. GIVEN WITH THE SEED: THE CARDS: each row of YtbldddagddmbgaaDoorRows.lean that lists a variable, with what it lists TIED to the program's text (the seventh form; the later family's looks); each row that meets fmt, with fmt's text TOLD by the authors' own Lean function (tested against real Go, not proved from fmt's source: count such statements apart). THE CARD IS WHAT COUNTS. Prove the row's statement (the work); the ties are given (YtbldddagddmbgaaDoorTie.lean); close each card by the builder's one call (the guide's Derived/Test/ToyasCard.lean, 'card_holds'). Laid BY PROGRAM, IN A SANDBOX (cutbox-door.mjs). By AI agents, Wed Nov 11 2026. No macro, syntax, notation, axiom, sorry.
-/
import Derived.Test.YtbldddagddmbgaaDoorRows
import GoSem.ClaimSeven
namespace Go.Proofs.YtbldddagddmbgaaDoor
namespace Rows

/-- THE TIED CARD OF 'abacuslaw14.WholeSigneds'. -/
def wholeSignedsCard : Claim7 := { stood := { row := wholeSignedsRow, standIns := [], harness := (true, "888677bc565dab134f54cfe21ab39e263645cc74c6811dbff61d534bd963e1d2"), looks := false }, kinds := [], alts := [], laidByText := true, laidKinds := [.data, .pinned], laidTests := true, laidLooks := .later }
def WholeSignedsCardSaid : Prop := Claim7.holds Tryd.pinned (.plain (OpenSpec.ofChange wholeSignedsSpec)) wholeSignedsCard

/-- THE TIED CARD OF 'abacuslaw14.WholeUnsigneds'. -/
def wholeUnsignedsCard : Claim7 := { stood := { row := wholeUnsignedsRow, standIns := [], harness := (true, "888677bc565dab134f54cfe21ab39e263645cc74c6811dbff61d534bd963e1d2"), looks := false }, kinds := [], alts := [], laidByText := true, laidKinds := [.data, .pinned], laidTests := true, laidLooks := .later }
def WholeUnsignedsCardSaid : Prop := Claim7.holds Tryd.pinned (.plain (OpenSpec.ofChange wholeUnsignedsSpec)) wholeUnsignedsCard

/-- THE TIED CARD OF 'abacuslaw14.WholeWidens'. -/
def wholeWidensCard : Claim7 := { stood := { row := wholeWidensRow, standIns := [], harness := (true, "888677bc565dab134f54cfe21ab39e263645cc74c6811dbff61d534bd963e1d2"), looks := false }, kinds := [], alts := [], laidByText := true, laidKinds := [.data, .pinned], laidTests := true, laidLooks := .later }
def WholeWidensCardSaid : Prop := Claim7.holds Tryd.pinned (.plain (OpenSpec.ofChange wholeWidensSpec)) wholeWidensCard

/-- THE TIED CARD OF 'abacuslaw14.WholeReads'. -/
def wholeReadsCard : Claim7 := { stood := { row := wholeReadsRow, standIns := [], harness := (true, "888677bc565dab134f54cfe21ab39e263645cc74c6811dbff61d534bd963e1d2"), looks := false }, kinds := [], alts := [], laidByText := true, laidKinds := [.data, .pinned], laidTests := true, laidLooks := .later }
def WholeReadsCardSaid : Prop := Claim7.holds Tryd.pinned (.plain (OpenSpec.ofChange wholeReadsSpec)) wholeReadsCard

/-- THE SECOND FORM's CARD OF 'abacuslaw14.WholeSigneds'. -/
def wholeSignedsUptoCard : Claim7 := { stood := { row := wholeSignedsUptoRow, standIns := [], harness := (true, "888677bc565dab134f54cfe21ab39e263645cc74c6811dbff61d534bd963e1d2"), looks := false }, kinds := [], alts := [], laidByText := true, laidKinds := [.data, .pinned], laidTests := true, laidLooks := .later }
def WholeSignedsUptoCardSaid : Prop := Claim7.holds Tryd.pinned (.plain (OpenSpec.upto wholeSignedsSpec)) wholeSignedsUptoCard

/-- THE SECOND FORM's CARD OF 'abacuslaw14.WholeUnsigneds'. -/
def wholeUnsignedsUptoCard : Claim7 := { stood := { row := wholeUnsignedsUptoRow, standIns := [], harness := (true, "888677bc565dab134f54cfe21ab39e263645cc74c6811dbff61d534bd963e1d2"), looks := false }, kinds := [], alts := [], laidByText := true, laidKinds := [.data, .pinned], laidTests := true, laidLooks := .later }
def WholeUnsignedsUptoCardSaid : Prop := Claim7.holds Tryd.pinned (.plain (OpenSpec.upto wholeUnsignedsSpec)) wholeUnsignedsUptoCard

/-- THE SECOND FORM's CARD OF 'abacuslaw14.WholeWidens'. -/
def wholeWidensUptoCard : Claim7 := { stood := { row := wholeWidensUptoRow, standIns := [], harness := (true, "888677bc565dab134f54cfe21ab39e263645cc74c6811dbff61d534bd963e1d2"), looks := false }, kinds := [], alts := [], laidByText := true, laidKinds := [.data, .pinned], laidTests := true, laidLooks := .later }
def WholeWidensUptoCardSaid : Prop := Claim7.holds Tryd.pinned (.plain (OpenSpec.upto wholeWidensSpec)) wholeWidensUptoCard

/-- THE SECOND FORM's CARD OF 'abacuslaw14.WholeReads'. -/
def wholeReadsUptoCard : Claim7 := { stood := { row := wholeReadsUptoRow, standIns := [], harness := (true, "888677bc565dab134f54cfe21ab39e263645cc74c6811dbff61d534bd963e1d2"), looks := false }, kinds := [], alts := [], laidByText := true, laidKinds := [.data, .pinned], laidTests := true, laidLooks := .later }
def WholeReadsUptoCardSaid : Prop := Claim7.holds Tryd.pinned (.plain (OpenSpec.upto wholeReadsSpec)) wholeReadsUptoCard
end Rows
end Go.Proofs.YtbldddagddmbgaaDoor
