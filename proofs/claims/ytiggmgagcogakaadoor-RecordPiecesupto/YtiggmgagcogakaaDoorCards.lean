/-
  DERIVED. GIVEN WITH THE SEED: THE CARDS: each row of YtiggmgagcogakaaDoorRows.lean that lists a variable, with what it lists TIED to the program's text (the seventh form; the later family's looks); each row that meets fmt, with fmt's text TOLD by the authors' own Lean function (tested against real Go, not proved from fmt's source: count such statements apart). THE CARD IS WHAT COUNTS. Prove the row's statement (the work); the ties are given (YtiggmgagcogakaaDoorTie.lean); close each card by the builder's one call (the guide's Derived/Test/ToyasCard.lean, 'card_holds'). Laid BY PROGRAM, IN A SANDBOX (cutbox-door.mjs). By AI agents, Wed Nov 11 2026. No macro, syntax, notation, axiom, sorry.
-/
import Derived.Test.YtiggmgagcogakaaDoorRows
import GoSem.ClaimSeven
namespace Go.Proofs.YtiggmgagcogakaaDoor
namespace Rows

/-- THE TIED CARD OF 'abacuslaw21.RecordWords'. -/
def recordWordsCard : Claim7 := { stood := { row := recordWordsRow, standIns := [], harness := (true, "aeb16cab0d51f75d27422c0f78b4aa15d1d7086693f8719e3a6e8cc6157f50d2"), looks := false }, kinds := [], alts := [], laidByText := true, laidKinds := [.data, .pinned], laidTests := true, laidLooks := .later }
def RecordWordsCardSaid : Prop := Claim7.holds Tryd.pinned (.plain (OpenSpec.ofChange recordWordsSpec)) recordWordsCard

/-- THE TIED CARD OF 'abacuslaw21.RecordPieces'. -/
def recordPiecesCard : Claim7 := { stood := { row := recordPiecesRow, standIns := [], harness := (true, "aeb16cab0d51f75d27422c0f78b4aa15d1d7086693f8719e3a6e8cc6157f50d2"), looks := false }, kinds := [], alts := [], laidByText := true, laidKinds := [.data, .pinned], laidTests := true, laidLooks := .later }
def RecordPiecesCardSaid : Prop := Claim7.holds Tryd.pinned (.plain (OpenSpec.ofChange recordPiecesSpec)) recordPiecesCard

/-- THE SECOND FORM's CARD OF 'abacuslaw21.RecordWords'. -/
def recordWordsUptoCard : Claim7 := { stood := { row := recordWordsUptoRow, standIns := [], harness := (true, "aeb16cab0d51f75d27422c0f78b4aa15d1d7086693f8719e3a6e8cc6157f50d2"), looks := false }, kinds := [], alts := [], laidByText := true, laidKinds := [.data, .pinned], laidTests := true, laidLooks := .later }
def RecordWordsUptoCardSaid : Prop := Claim7.holds Tryd.pinned (.plain (OpenSpec.upto recordWordsSpec)) recordWordsUptoCard

/-- THE SECOND FORM's CARD OF 'abacuslaw21.RecordPieces'. -/
def recordPiecesUptoCard : Claim7 := { stood := { row := recordPiecesUptoRow, standIns := [], harness := (true, "aeb16cab0d51f75d27422c0f78b4aa15d1d7086693f8719e3a6e8cc6157f50d2"), looks := false }, kinds := [], alts := [], laidByText := true, laidKinds := [.data, .pinned], laidTests := true, laidLooks := .later }
def RecordPiecesUptoCardSaid : Prop := Claim7.holds Tryd.pinned (.plain (OpenSpec.upto recordPiecesSpec)) recordPiecesUptoCard
end Rows
end Go.Proofs.YtiggmgagcogakaaDoor
