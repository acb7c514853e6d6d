/-
  DERIVED. GIVEN WITH THE SEED: THE CARDS: each row of YtgliefdefklfeaaDoorRows.lean that lists a variable, with what it lists TIED to the program's text (the seventh form; the later family's looks); each row that meets fmt, with fmt's text TOLD by the authors' own Lean function (tested against real Go, not proved from fmt's source: count such statements apart). THE CARD IS WHAT COUNTS. Prove the row's statement (the work); the ties are given (YtgliefdefklfeaaDoorTie.lean); close each card by the builder's one call (the guide's Derived/Test/ToyasCard.lean, 'card_holds'). Laid BY PROGRAM, IN A SANDBOX (cutbox-door.mjs). By AI agents, Wed Nov 11 2026. No macro, syntax, notation, axiom, sorry.
-/
import Derived.Test.YtgliefdefklfeaaDoorRows
import GoSem.ClaimSeven
namespace Go.Proofs.YtgliefdefklfeaaDoor
namespace Rows

/-- THE TIED CARD OF 'abacuslaw20.CharsSplits'. -/
def charsSplitsCard : Claim7 := { stood := { row := charsSplitsRow, standIns := [], harness := (true, "fee9aea4bdb4a1ee86d83cbbf8e49628db48def49738c8c1c5452e5933a7983b"), looks := false }, kinds := [], alts := [], laidByText := true, laidKinds := [.data, .pinned], laidTests := true, laidLooks := .later }
def CharsSplitsCardSaid : Prop := Claim7.holds Tryd.pinned (.plain (OpenSpec.ofChange charsSplitsSpec)) charsSplitsCard

/-- THE TIED CARD OF 'abacuslaw20.CharsBack'. -/
def charsBackCard : Claim7 := { stood := { row := charsBackRow, standIns := [], harness := (true, "fee9aea4bdb4a1ee86d83cbbf8e49628db48def49738c8c1c5452e5933a7983b"), looks := false }, kinds := [], alts := [], laidByText := true, laidKinds := [.data, .pinned], laidTests := true, laidLooks := .later }
def CharsBackCardSaid : Prop := Claim7.holds Tryd.pinned (.plain (OpenSpec.ofChange charsBackSpec)) charsBackCard

/-- THE TIED CARD OF 'abacuslaw20.CharsSwaps'. -/
def charsSwapsCard : Claim7 := { stood := { row := charsSwapsRow, standIns := [], harness := (true, "fee9aea4bdb4a1ee86d83cbbf8e49628db48def49738c8c1c5452e5933a7983b"), looks := false }, kinds := [], alts := [], laidByText := true, laidKinds := [.data, .pinned], laidTests := true, laidLooks := .later }
def CharsSwapsCardSaid : Prop := Claim7.holds Tryd.pinned (.plain (OpenSpec.ofChange charsSwapsSpec)) charsSwapsCard

/-- THE SECOND FORM's CARD OF 'abacuslaw20.CharsSplits'. -/
def charsSplitsUptoCard : Claim7 := { stood := { row := charsSplitsUptoRow, standIns := [], harness := (true, "fee9aea4bdb4a1ee86d83cbbf8e49628db48def49738c8c1c5452e5933a7983b"), looks := false }, kinds := [], alts := [], laidByText := true, laidKinds := [.data, .pinned], laidTests := true, laidLooks := .later }
def CharsSplitsUptoCardSaid : Prop := Claim7.holds Tryd.pinned (.plain (OpenSpec.upto charsSplitsSpec)) charsSplitsUptoCard

/-- THE SECOND FORM's CARD OF 'abacuslaw20.CharsBack'. -/
def charsBackUptoCard : Claim7 := { stood := { row := charsBackUptoRow, standIns := [], harness := (true, "fee9aea4bdb4a1ee86d83cbbf8e49628db48def49738c8c1c5452e5933a7983b"), looks := false }, kinds := [], alts := [], laidByText := true, laidKinds := [.data, .pinned], laidTests := true, laidLooks := .later }
def CharsBackUptoCardSaid : Prop := Claim7.holds Tryd.pinned (.plain (OpenSpec.upto charsBackSpec)) charsBackUptoCard

/-- THE SECOND FORM's CARD OF 'abacuslaw20.CharsSwaps'. -/
def charsSwapsUptoCard : Claim7 := { stood := { row := charsSwapsUptoRow, standIns := [], harness := (true, "fee9aea4bdb4a1ee86d83cbbf8e49628db48def49738c8c1c5452e5933a7983b"), looks := false }, kinds := [], alts := [], laidByText := true, laidKinds := [.data, .pinned], laidTests := true, laidLooks := .later }
def CharsSwapsUptoCardSaid : Prop := Claim7.holds Tryd.pinned (.plain (OpenSpec.upto charsSwapsSpec)) charsSwapsUptoCard
end Rows
end Go.Proofs.YtgliefdefklfeaaDoor
