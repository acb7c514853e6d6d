/-
  DERIVED. GIVEN WITH THE SEED: THE CARDS: each row of YtljpmddjcfkonaaGreatDoorRows.lean that lists a variable, with what it lists TIED to the program's text (the seventh form; the later family's looks); each row that meets fmt, with fmt's text TOLD by the authors' own Lean function (tested against real Go, not proved from fmt's source: count such statements apart). THE CARD IS WHAT COUNTS. Prove the row's statement (the work); the ties are given (YtljpmddjcfkonaaGreatDoorTie.lean); close each card by the builder's one call (the guide's Derived/Test/ToyasCard.lean, 'card_holds'). Laid BY PROGRAM, IN A SANDBOX (cutbox-door.mjs). By AI agents, Wed Nov 11 2026. No macro, syntax, notation, axiom, sorry.
-/
import Derived.Test.YtljpmddjcfkonaaGreatDoorRows
import GoSem.ClaimSeven
namespace Go.Proofs.YtljpmddjcfkonaaGreatDoor
namespace Rows

/-- THE TIED CARD OF 'abacuslaw05.SoftFmas'. -/
def softFmasCard : Claim7 := { stood := { row := softFmasRow, standIns := [], harness := (true, "69e9bff72945b4ec10d59a9ec4928ea410aea7000a3692cd1917e666231b689b"), looks := false }, kinds := [], alts := [], laidByText := true, laidKinds := [.data], laidTests := true, laidLooks := .later }
def SoftFmasCardSaid : Prop := Claim7.holds Tryz.pinned (.plain (OpenSpec.ofChange softFmasSpec)) softFmasCard

/-- THE TIED CARD OF 'abacuslaw05.SoftTolds'. -/
def softToldsCard : Claim7 := { stood := { row := softToldsRow, standIns := [], harness := (true, "69e9bff72945b4ec10d59a9ec4928ea410aea7000a3692cd1917e666231b689b"), looks := false }, kinds := [], alts := [], laidByText := true, laidKinds := [.data], laidTests := true, laidLooks := .later }
def SoftToldsCardSaid : Prop := Claim7.holds Tryz.pinned (.plain (OpenSpec.ofChange softToldsSpec)) softToldsCard

/-- THE SECOND FORM's CARD OF 'abacuslaw05.SoftFmas'. -/
def softFmasUptoCard : Claim7 := { stood := { row := softFmasUptoRow, standIns := [], harness := (true, "69e9bff72945b4ec10d59a9ec4928ea410aea7000a3692cd1917e666231b689b"), looks := false }, kinds := [], alts := [], laidByText := true, laidKinds := [.data], laidTests := true, laidLooks := .later }
def SoftFmasUptoCardSaid : Prop := Claim7.holds Tryz.pinned (.plain (OpenSpec.upto softFmasSpec)) softFmasUptoCard

/-- THE SECOND FORM's CARD OF 'abacuslaw05.SoftTolds'. -/
def softToldsUptoCard : Claim7 := { stood := { row := softToldsUptoRow, standIns := [], harness := (true, "69e9bff72945b4ec10d59a9ec4928ea410aea7000a3692cd1917e666231b689b"), looks := false }, kinds := [], alts := [], laidByText := true, laidKinds := [.data], laidTests := true, laidLooks := .later }
def SoftToldsUptoCardSaid : Prop := Claim7.holds Tryz.pinned (.plain (OpenSpec.upto softToldsSpec)) softToldsUptoCard
end Rows
end Go.Proofs.YtljpmddjcfkonaaGreatDoor
