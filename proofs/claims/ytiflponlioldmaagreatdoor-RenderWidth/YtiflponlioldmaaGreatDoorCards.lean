/-
  DERIVED. GIVEN WITH THE SEED: THE CARDS: each row of YtiflponlioldmaaGreatDoorRows.lean that lists a variable, with what it lists TIED to the program's text (the seventh form; the later family's looks); each row that meets fmt, with fmt's text TOLD by the authors' own Lean function (tested against real Go, not proved from fmt's source: count such statements apart). THE CARD IS WHAT COUNTS. Prove the row's statement (the work); the ties are given (YtiflponlioldmaaGreatDoorTie.lean); close each card by the builder's one call (the guide's Derived/Test/ToyasCard.lean, 'card_holds'). Laid BY PROGRAM, IN A SANDBOX (cutbox-door.mjs). By AI agents, Wed Nov 11 2026. No macro, syntax, notation, axiom, sorry.
-/
import Derived.Test.YtiflponlioldmaaGreatDoorRows
import GoSem.ClaimSeven
namespace Go.Proofs.YtiflponlioldmaaGreatDoor
namespace Rows

/-- THE TIED CARD OF 'abacuslaw16.RenderExact'. -/
def renderExactCard : Claim7 := { stood := { row := renderExactRow, standIns := [], harness := (true, "26b661bf4480a0895a1673e2920085ca21e72e743eb0a727a1043ee1725ec394"), looks := true }, kinds := [], alts := [], laidByText := true, laidKinds := [.data, .data, .data, .data, .pinned, .pinned], laidTests := true, laidLooks := .later }
def RenderExactCardSaid : Prop := Claim7.holds Tryz.pinned (.plain (OpenSpec.ofChange renderExactSpec)) renderExactCard

/-- THE TIED CARD OF 'abacuslaw16.RenderMemory'. -/
def renderMemoryCard : Claim7 := { stood := { row := renderMemoryRow, standIns := [], harness := (true, "26b661bf4480a0895a1673e2920085ca21e72e743eb0a727a1043ee1725ec394"), looks := true }, kinds := [], alts := [], laidByText := true, laidKinds := [.data, .data, .data, .data, .pinned, .pinned], laidTests := true, laidLooks := .later }
def RenderMemoryCardSaid : Prop := Claim7.holds Tryz.pinned (.plain (OpenSpec.ofChange renderMemorySpec)) renderMemoryCard

/-- THE TIED CARD OF 'abacuslaw16.RenderChain'. -/
def renderChainCard : Claim7 := { stood := { row := renderChainRow, standIns := [], harness := (true, "26b661bf4480a0895a1673e2920085ca21e72e743eb0a727a1043ee1725ec394"), looks := true }, kinds := [], alts := [], laidByText := true, laidKinds := [.data, .data, .pinned, .pinned], laidTests := true, laidLooks := .later }
def RenderChainCardSaid : Prop := Claim7.holds Tryz.pinned (.plain (OpenSpec.ofChange renderChainSpec)) renderChainCard

/-- THE TIED CARD OF 'abacuslaw16.RenderStars'. -/
def renderStarsCard : Claim7 := { stood := { row := renderStarsRow, standIns := [], harness := (true, "26b661bf4480a0895a1673e2920085ca21e72e743eb0a727a1043ee1725ec394"), looks := true }, kinds := [], alts := [], laidByText := true, laidKinds := [.data, .data, .data, .data, .pinned, .pinned], laidTests := true, laidLooks := .later }
def RenderStarsCardSaid : Prop := Claim7.holds Tryz.pinned (.plain (OpenSpec.ofChange renderStarsSpec)) renderStarsCard

/-- THE TIED CARD OF 'abacuslaw16.RenderWidth'. -/
def renderWidthCard : Claim7 := { stood := { row := renderWidthRow, standIns := [], harness := (true, "26b661bf4480a0895a1673e2920085ca21e72e743eb0a727a1043ee1725ec394"), looks := true }, kinds := [], alts := [], laidByText := true, laidKinds := [.data, .data, .pinned, .pinned], laidTests := true, laidLooks := .later }
def RenderWidthCardSaid : Prop := Claim7.holds Tryz.pinned (.plain (OpenSpec.ofChange renderWidthSpec)) renderWidthCard

/-- THE TIED CARD OF 'abacuslaw16.RenderReads'. -/
def renderReadsCard : Claim7 := { stood := { row := renderReadsRow, standIns := [], harness := (true, "26b661bf4480a0895a1673e2920085ca21e72e743eb0a727a1043ee1725ec394"), looks := true }, kinds := [], alts := [], laidByText := true, laidKinds := [.data, .data, .pinned, .pinned], laidTests := true, laidLooks := .later }
def RenderReadsCardSaid : Prop := Claim7.holds Tryz.pinned (.plain (OpenSpec.ofChange renderReadsSpec)) renderReadsCard

/-- THE SECOND FORM's CARD OF 'abacuslaw16.RenderExact'. -/
def renderExactUptoCard : Claim7 := { stood := { row := renderExactUptoRow, standIns := [], harness := (true, "26b661bf4480a0895a1673e2920085ca21e72e743eb0a727a1043ee1725ec394"), looks := true }, kinds := [], alts := [], laidByText := true, laidKinds := [.data, .data, .data, .data, .pinned, .pinned], laidTests := true, laidLooks := .later }
def RenderExactUptoCardSaid : Prop := Claim7.holds Tryz.pinned (.plain (OpenSpec.upto renderExactSpec)) renderExactUptoCard

/-- THE SECOND FORM's CARD OF 'abacuslaw16.RenderMemory'. -/
def renderMemoryUptoCard : Claim7 := { stood := { row := renderMemoryUptoRow, standIns := [], harness := (true, "26b661bf4480a0895a1673e2920085ca21e72e743eb0a727a1043ee1725ec394"), looks := true }, kinds := [], alts := [], laidByText := true, laidKinds := [.data, .data, .data, .data, .pinned, .pinned], laidTests := true, laidLooks := .later }
def RenderMemoryUptoCardSaid : Prop := Claim7.holds Tryz.pinned (.plain (OpenSpec.upto renderMemorySpec)) renderMemoryUptoCard

/-- THE SECOND FORM's CARD OF 'abacuslaw16.RenderChain'. -/
def renderChainUptoCard : Claim7 := { stood := { row := renderChainUptoRow, standIns := [], harness := (true, "26b661bf4480a0895a1673e2920085ca21e72e743eb0a727a1043ee1725ec394"), looks := true }, kinds := [], alts := [], laidByText := true, laidKinds := [.data, .data, .pinned, .pinned], laidTests := true, laidLooks := .later }
def RenderChainUptoCardSaid : Prop := Claim7.holds Tryz.pinned (.plain (OpenSpec.upto renderChainSpec)) renderChainUptoCard

/-- THE SECOND FORM's CARD OF 'abacuslaw16.RenderStars'. -/
def renderStarsUptoCard : Claim7 := { stood := { row := renderStarsUptoRow, standIns := [], harness := (true, "26b661bf4480a0895a1673e2920085ca21e72e743eb0a727a1043ee1725ec394"), looks := true }, kinds := [], alts := [], laidByText := true, laidKinds := [.data, .data, .data, .data, .pinned, .pinned], laidTests := true, laidLooks := .later }
def RenderStarsUptoCardSaid : Prop := Claim7.holds Tryz.pinned (.plain (OpenSpec.upto renderStarsSpec)) renderStarsUptoCard

/-- THE SECOND FORM's CARD OF 'abacuslaw16.RenderWidth'. -/
def renderWidthUptoCard : Claim7 := { stood := { row := renderWidthUptoRow, standIns := [], harness := (true, "26b661bf4480a0895a1673e2920085ca21e72e743eb0a727a1043ee1725ec394"), looks := true }, kinds := [], alts := [], laidByText := true, laidKinds := [.data, .data, .pinned, .pinned], laidTests := true, laidLooks := .later }
def RenderWidthUptoCardSaid : Prop := Claim7.holds Tryz.pinned (.plain (OpenSpec.upto renderWidthSpec)) renderWidthUptoCard

/-- THE SECOND FORM's CARD OF 'abacuslaw16.RenderReads'. -/
def renderReadsUptoCard : Claim7 := { stood := { row := renderReadsUptoRow, standIns := [], harness := (true, "26b661bf4480a0895a1673e2920085ca21e72e743eb0a727a1043ee1725ec394"), looks := true }, kinds := [], alts := [], laidByText := true, laidKinds := [.data, .data, .pinned, .pinned], laidTests := true, laidLooks := .later }
def RenderReadsUptoCardSaid : Prop := Claim7.holds Tryz.pinned (.plain (OpenSpec.upto renderReadsSpec)) renderReadsUptoCard
end Rows
end Go.Proofs.YtiflponlioldmaaGreatDoor
