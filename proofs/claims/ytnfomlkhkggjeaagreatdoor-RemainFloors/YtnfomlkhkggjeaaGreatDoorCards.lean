/-
  DERIVED. GIVEN WITH THE SEED: THE CARDS: each row of YtnfomlkhkggjeaaGreatDoorRows.lean that lists a variable, with what it lists TIED to the program's text (the seventh form; the later family's looks); each row that meets fmt, with fmt's text TOLD by the authors' own Lean function (tested against real Go, not proved from fmt's source: count such statements apart). THE CARD IS WHAT COUNTS. Prove the row's statement (the work); the ties are given (YtnfomlkhkggjeaaGreatDoorTie.lean); close each card by the builder's one call (the guide's Derived/Test/ToyasCard.lean, 'card_holds'). Laid BY PROGRAM, IN A SANDBOX (cutbox-door.mjs). By AI agents, Wed Nov 11 2026. No macro, syntax, notation, axiom, sorry.
-/
import Derived.Test.YtnfomlkhkggjeaaGreatDoorRows
import GoSem.ClaimSeven
namespace Go.Proofs.YtnfomlkhkggjeaaGreatDoor
namespace Rows

/-- THE TIED CARD OF 'abacuslaw06.RemainAll'. -/
def remainAllCard : Claim7 := { stood := { row := remainAllRow, standIns := [], harness := (true, "637812f496c90431827ebb667454024bb7f1f169bef113b38ac7b4e21a30904d"), looks := false }, kinds := [], alts := [], laidByText := true, laidKinds := [.data], laidTests := true, laidLooks := .later }
def RemainAllCardSaid : Prop := Claim7.holds Tryz.pinned (.plain (OpenSpec.ofChange remainAllSpec)) remainAllCard

/-- THE TIED CARD OF 'abacuslaw06.RemainFloors'. -/
def remainFloorsCard : Claim7 := { stood := { row := remainFloorsRow, standIns := [], harness := (true, "637812f496c90431827ebb667454024bb7f1f169bef113b38ac7b4e21a30904d"), looks := false }, kinds := [], alts := [], laidByText := true, laidKinds := [.data], laidTests := true, laidLooks := .later }
def RemainFloorsCardSaid : Prop := Claim7.holds Tryz.pinned (.plain (OpenSpec.ofChange remainFloorsSpec)) remainFloorsCard

/-- THE TIED CARD OF 'abacuslaw06.RemainJoins'. -/
def remainJoinsCard : Claim7 := { stood := { row := remainJoinsRow, standIns := [], harness := (true, "637812f496c90431827ebb667454024bb7f1f169bef113b38ac7b4e21a30904d"), looks := false }, kinds := [], alts := [], laidByText := true, laidKinds := [.data], laidTests := true, laidLooks := .later }
def RemainJoinsCardSaid : Prop := Claim7.holds Tryz.pinned (.plain (OpenSpec.ofChange remainJoinsSpec)) remainJoinsCard

/-- THE SECOND FORM's CARD OF 'abacuslaw06.RemainAll'. -/
def remainAllUptoCard : Claim7 := { stood := { row := remainAllUptoRow, standIns := [], harness := (true, "637812f496c90431827ebb667454024bb7f1f169bef113b38ac7b4e21a30904d"), looks := false }, kinds := [], alts := [], laidByText := true, laidKinds := [.data], laidTests := true, laidLooks := .later }
def RemainAllUptoCardSaid : Prop := Claim7.holds Tryz.pinned (.plain (OpenSpec.upto remainAllSpec)) remainAllUptoCard

/-- THE SECOND FORM's CARD OF 'abacuslaw06.RemainFloors'. -/
def remainFloorsUptoCard : Claim7 := { stood := { row := remainFloorsUptoRow, standIns := [], harness := (true, "637812f496c90431827ebb667454024bb7f1f169bef113b38ac7b4e21a30904d"), looks := false }, kinds := [], alts := [], laidByText := true, laidKinds := [.data], laidTests := true, laidLooks := .later }
def RemainFloorsUptoCardSaid : Prop := Claim7.holds Tryz.pinned (.plain (OpenSpec.upto remainFloorsSpec)) remainFloorsUptoCard

/-- THE SECOND FORM's CARD OF 'abacuslaw06.RemainJoins'. -/
def remainJoinsUptoCard : Claim7 := { stood := { row := remainJoinsUptoRow, standIns := [], harness := (true, "637812f496c90431827ebb667454024bb7f1f169bef113b38ac7b4e21a30904d"), looks := false }, kinds := [], alts := [], laidByText := true, laidKinds := [.data], laidTests := true, laidLooks := .later }
def RemainJoinsUptoCardSaid : Prop := Claim7.holds Tryz.pinned (.plain (OpenSpec.upto remainJoinsSpec)) remainJoinsUptoCard
end Rows
end Go.Proofs.YtnfomlkhkggjeaaGreatDoor
