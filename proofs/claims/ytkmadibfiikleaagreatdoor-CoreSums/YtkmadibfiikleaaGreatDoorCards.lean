/-
  DERIVED. GIVEN WITH THE SEED: THE CARDS: each row of YtkmadibfiikleaaGreatDoorRows.lean that lists a variable, with what it lists TIED to the program's text (the seventh form; the later family's looks); each row that meets fmt, with fmt's text TOLD by the authors' own Lean function (tested against real Go, not proved from fmt's source: count such statements apart). THE CARD IS WHAT COUNTS. Prove the row's statement (the work); the ties are given (YtkmadibfiikleaaGreatDoorTie.lean); close each card by the builder's one call (the guide's Derived/Test/ToyasCard.lean, 'card_holds'). Laid BY PROGRAM, IN A SANDBOX (cutbox-door.mjs). By AI agents, Wed Nov 11 2026. No macro, syntax, notation, axiom, sorry.
-/
import Derived.Test.YtkmadibfiikleaaGreatDoorRows
import GoSem.ClaimSeven
namespace Go.Proofs.YtkmadibfiikleaaGreatDoor
namespace Rows

/-- THE TIED CARD OF 'abacustop.CoreSums'. -/
def coreSumsCard : Claim7 := { stood := { row := coreSumsRow, standIns := [], harness := (true, "580eafd533ad95b6df843ef28bebef3ca94010c0d5d10c65657397b0638e51b2"), looks := false }, kinds := [], alts := [], goes := true, laidByText := true, laidKinds := [.data], laidTests := true, laidLooks := .later }
def CoreSumsCardSaid : Prop := Claim7.holds Tryz.pinned (.plain (OpenSpec.ofChange coreSumsSpec)) coreSumsCard

/-- THE SECOND FORM's CARD OF 'abacustop.CoreSums'. -/
def coreSumsUptoCard : Claim7 := { stood := { row := coreSumsUptoRow, standIns := [], harness := (true, "580eafd533ad95b6df843ef28bebef3ca94010c0d5d10c65657397b0638e51b2"), looks := false }, kinds := [], alts := [], goes := true, laidByText := true, laidKinds := [.data], laidTests := true, laidLooks := .later }
def CoreSumsUptoCardSaid : Prop := Claim7.holds Tryz.pinned (.plain (OpenSpec.upto coreSumsSpec)) coreSumsUptoCard
end Rows
end Go.Proofs.YtkmadibfiikleaaGreatDoor
