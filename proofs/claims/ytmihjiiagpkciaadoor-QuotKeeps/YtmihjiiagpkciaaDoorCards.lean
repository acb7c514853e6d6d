/-
  DERIVED. GIVEN WITH THE SEED: THE CARDS: each row of YtmihjiiagpkciaaDoorRows.lean that lists a variable, with what it lists TIED to the program's text (the seventh form; the later family's looks); each row that meets fmt, with fmt's text TOLD by the authors' own Lean function (tested against real Go, not proved from fmt's source: count such statements apart). THE CARD IS WHAT COUNTS. Prove the row's statement (the work); the ties are given (YtmihjiiagpkciaaDoorTie.lean); close each card by the builder's one call (the guide's Derived/Test/ToyasCard.lean, 'card_holds'). Laid BY PROGRAM, IN A SANDBOX (cutbox-door.mjs). By AI agents, Wed Nov 11 2026. No macro, syntax, notation, axiom, sorry.
-/
import Derived.Test.YtmihjiiagpkciaaDoorRows
import GoSem.ClaimSeven
namespace Go.Proofs.YtmihjiiagpkciaaDoor
namespace Rows

/-- THE TIED CARD OF 'abacuslaw02.QuotKeeps'. -/
def quotKeepsCard : Claim7 := { stood := { row := quotKeepsRow, standIns := [], harness := (true, "55fd580a476d6acfedbd48d596d7aa2c186630c938628e745fa933e40b1958be"), looks := false }, kinds := [], alts := [], laidByText := true, laidKinds := [.data], laidTests := true, laidLooks := .later }
def QuotKeepsCardSaid : Prop := Claim7.holds Tryd.pinned (.plain (OpenSpec.ofChange quotKeepsSpec)) quotKeepsCard

/-- THE SECOND FORM's CARD OF 'abacuslaw02.QuotKeeps'. -/
def quotKeepsUptoCard : Claim7 := { stood := { row := quotKeepsUptoRow, standIns := [], harness := (true, "55fd580a476d6acfedbd48d596d7aa2c186630c938628e745fa933e40b1958be"), looks := false }, kinds := [], alts := [], laidByText := true, laidKinds := [.data], laidTests := true, laidLooks := .later }
def QuotKeepsUptoCardSaid : Prop := Claim7.holds Tryd.pinned (.plain (OpenSpec.upto quotKeepsSpec)) quotKeepsUptoCard
end Rows
end Go.Proofs.YtmihjiiagpkciaaDoor
