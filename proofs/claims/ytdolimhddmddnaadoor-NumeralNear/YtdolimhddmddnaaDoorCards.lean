/-
  DERIVED. GIVEN WITH THE SEED: THE CARDS: each row of YtdolimhddmddnaaDoorRows.lean that lists a variable, with what it lists TIED to the program's text (the seventh form; the later family's looks); each row that meets fmt, with fmt's text TOLD by the authors' own Lean function (tested against real Go, not proved from fmt's source: count such statements apart). THE CARD IS WHAT COUNTS. Prove the row's statement (the work); the ties are given (YtdolimhddmddnaaDoorTie.lean); close each card by the builder's one call (the guide's Derived/Test/ToyasCard.lean, 'card_holds'). Laid BY PROGRAM, IN A SANDBOX (cutbox-door.mjs). By AI agents, Wed Nov 11 2026. No macro, syntax, notation, axiom, sorry.
-/
import Derived.Test.YtdolimhddmddnaaDoorRows
import GoSem.ClaimSeven
namespace Go.Proofs.YtdolimhddmddnaaDoor
namespace Rows

/-- THE TIED CARD OF 'abacuslaw03.NumeralBack'. -/
def numeralBackCard : Claim7 := { stood := { row := numeralBackRow, standIns := [], harness := (true, "ad47de73f261f65a380c65dbb5ca359a6644be49e40182dc840fc05ba993a36b"), looks := false }, kinds := [], alts := [], laidByText := true, laidKinds := [.data, .pinned], laidTests := true, laidLooks := .later }
def NumeralBackCardSaid : Prop := Claim7.holds Tryd.pinned (.plain (OpenSpec.ofChange numeralBackSpec)) numeralBackCard

/-- THE TIED CARD OF 'abacuslaw03.NumeralForth'. -/
def numeralForthCard : Claim7 := { stood := { row := numeralForthRow, standIns := [], harness := (true, "ad47de73f261f65a380c65dbb5ca359a6644be49e40182dc840fc05ba993a36b"), looks := false }, kinds := [], alts := [], laidByText := true, laidKinds := [.data, .pinned], laidTests := true, laidLooks := .later }
def NumeralForthCardSaid : Prop := Claim7.holds Tryd.pinned (.plain (OpenSpec.ofChange numeralForthSpec)) numeralForthCard

/-- THE TIED CARD OF 'abacuslaw03.NumeralHex'. -/
def numeralHexCard : Claim7 := { stood := { row := numeralHexRow, standIns := [], harness := (true, "ad47de73f261f65a380c65dbb5ca359a6644be49e40182dc840fc05ba993a36b"), looks := false }, kinds := [], alts := [], laidByText := true, laidKinds := [.data, .pinned], laidTests := true, laidLooks := .later }
def NumeralHexCardSaid : Prop := Claim7.holds Tryd.pinned (.plain (OpenSpec.ofChange numeralHexSpec)) numeralHexCard

/-- THE TIED CARD OF 'abacuslaw03.NumeralNear'. -/
def numeralNearCard : Claim7 := { stood := { row := numeralNearRow, standIns := [], harness := (true, "ad47de73f261f65a380c65dbb5ca359a6644be49e40182dc840fc05ba993a36b"), looks := false }, kinds := [], alts := [], laidByText := true, laidKinds := [.data, .pinned], laidTests := true, laidLooks := .later }
def NumeralNearCardSaid : Prop := Claim7.holds Tryd.pinned (.plain (OpenSpec.ofChange numeralNearSpec)) numeralNearCard

/-- THE SECOND FORM's CARD OF 'abacuslaw03.NumeralBack'. -/
def numeralBackUptoCard : Claim7 := { stood := { row := numeralBackUptoRow, standIns := [], harness := (true, "ad47de73f261f65a380c65dbb5ca359a6644be49e40182dc840fc05ba993a36b"), looks := false }, kinds := [], alts := [], laidByText := true, laidKinds := [.data, .pinned], laidTests := true, laidLooks := .later }
def NumeralBackUptoCardSaid : Prop := Claim7.holds Tryd.pinned (.plain (OpenSpec.upto numeralBackSpec)) numeralBackUptoCard

/-- THE SECOND FORM's CARD OF 'abacuslaw03.NumeralForth'. -/
def numeralForthUptoCard : Claim7 := { stood := { row := numeralForthUptoRow, standIns := [], harness := (true, "ad47de73f261f65a380c65dbb5ca359a6644be49e40182dc840fc05ba993a36b"), looks := false }, kinds := [], alts := [], laidByText := true, laidKinds := [.data, .pinned], laidTests := true, laidLooks := .later }
def NumeralForthUptoCardSaid : Prop := Claim7.holds Tryd.pinned (.plain (OpenSpec.upto numeralForthSpec)) numeralForthUptoCard

/-- THE SECOND FORM's CARD OF 'abacuslaw03.NumeralHex'. -/
def numeralHexUptoCard : Claim7 := { stood := { row := numeralHexUptoRow, standIns := [], harness := (true, "ad47de73f261f65a380c65dbb5ca359a6644be49e40182dc840fc05ba993a36b"), looks := false }, kinds := [], alts := [], laidByText := true, laidKinds := [.data, .pinned], laidTests := true, laidLooks := .later }
def NumeralHexUptoCardSaid : Prop := Claim7.holds Tryd.pinned (.plain (OpenSpec.upto numeralHexSpec)) numeralHexUptoCard

/-- THE SECOND FORM's CARD OF 'abacuslaw03.NumeralNear'. -/
def numeralNearUptoCard : Claim7 := { stood := { row := numeralNearUptoRow, standIns := [], harness := (true, "ad47de73f261f65a380c65dbb5ca359a6644be49e40182dc840fc05ba993a36b"), looks := false }, kinds := [], alts := [], laidByText := true, laidKinds := [.data, .pinned], laidTests := true, laidLooks := .later }
def NumeralNearUptoCardSaid : Prop := Claim7.holds Tryd.pinned (.plain (OpenSpec.upto numeralNearSpec)) numeralNearUptoCard
end Rows
end Go.Proofs.YtdolimhddmddnaaDoor
