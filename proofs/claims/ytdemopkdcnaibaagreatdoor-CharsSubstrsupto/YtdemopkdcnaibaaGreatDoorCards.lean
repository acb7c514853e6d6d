/-
  DERIVED. GIVEN WITH THE SEED: THE CARDS: each row of YtdemopkdcnaibaaGreatDoorRows.lean that lists a variable, with what it lists TIED to the program's text (the seventh form; the later family's looks); each row that meets fmt, with fmt's text TOLD by the authors' own Lean function (tested against real Go, not proved from fmt's source: count such statements apart). THE CARD IS WHAT COUNTS. Prove the row's statement (the work); the ties are given (YtdemopkdcnaibaaGreatDoorTie.lean); close each card by the builder's one call (the guide's Derived/Test/ToyasCard.lean, 'card_holds'). Laid BY PROGRAM, IN A SANDBOX (cutbox-door.mjs). By AI agents, Wed Nov 11 2026. No macro, syntax, notation, axiom, sorry.
-/
import Derived.Test.YtdemopkdcnaibaaGreatDoorRows
import GoSem.ClaimSeven
namespace Go.Proofs.YtdemopkdcnaibaaGreatDoor
namespace Rows

/-- THE TIED CARD OF 'abacuslaw04.IeeeExact'. -/
def ieeeExactCard : Claim7 := { stood := { row := ieeeExactRow, standIns := [], harness := (true, "eb95099e29a4e1841151f5fd815a61e56c54214f5f2296efe82c0f962116404c"), looks := false }, kinds := [], alts := [], laidByText := true, laidKinds := [.data], laidTests := true, laidLooks := .later }
def IeeeExactCardSaid : Prop := Claim7.holds Tryz.pinned (.plain (OpenSpec.ofChange ieeeExactSpec)) ieeeExactCard

/-- THE TIED CARD OF 'abacuslaw05.SoftFmas'. -/
def softFmasCard : Claim7 := { stood := { row := softFmasRow, standIns := [], harness := (true, "eb95099e29a4e1841151f5fd815a61e56c54214f5f2296efe82c0f962116404c"), looks := false }, kinds := [], alts := [], laidByText := true, laidKinds := [.data], laidTests := true, laidLooks := .later }
def SoftFmasCardSaid : Prop := Claim7.holds Tryz.pinned (.plain (OpenSpec.ofChange softFmasSpec)) softFmasCard

/-- THE TIED CARD OF 'abacuslaw05.SoftTolds'. -/
def softToldsCard : Claim7 := { stood := { row := softToldsRow, standIns := [], harness := (true, "eb95099e29a4e1841151f5fd815a61e56c54214f5f2296efe82c0f962116404c"), looks := false }, kinds := [], alts := [], laidByText := true, laidKinds := [.data], laidTests := true, laidLooks := .later }
def SoftToldsCardSaid : Prop := Claim7.holds Tryz.pinned (.plain (OpenSpec.ofChange softToldsSpec)) softToldsCard

/-- THE TIED CARD OF 'abacuslaw06.RemainAll'. -/
def remainAllCard : Claim7 := { stood := { row := remainAllRow, standIns := [], harness := (true, "eb95099e29a4e1841151f5fd815a61e56c54214f5f2296efe82c0f962116404c"), looks := false }, kinds := [], alts := [], laidByText := true, laidKinds := [.data], laidTests := true, laidLooks := .later }
def RemainAllCardSaid : Prop := Claim7.holds Tryz.pinned (.plain (OpenSpec.ofChange remainAllSpec)) remainAllCard

/-- THE TIED CARD OF 'abacuslaw20.CharsSubstrs'. -/
def charsSubstrsCard : Claim7 := { stood := { row := charsSubstrsRow, standIns := [], harness := (true, "eb95099e29a4e1841151f5fd815a61e56c54214f5f2296efe82c0f962116404c"), looks := false }, kinds := [], alts := [], laidByText := true, laidKinds := [.data], laidTests := true, laidLooks := .later }
def CharsSubstrsCardSaid : Prop := Claim7.holds Tryz.pinned (.plain (OpenSpec.ofChange charsSubstrsSpec)) charsSubstrsCard

/-- THE SECOND FORM's CARD OF 'abacuslaw04.IeeeExact'. -/
def ieeeExactUptoCard : Claim7 := { stood := { row := ieeeExactUptoRow, standIns := [], harness := (true, "eb95099e29a4e1841151f5fd815a61e56c54214f5f2296efe82c0f962116404c"), looks := false }, kinds := [], alts := [], laidByText := true, laidKinds := [.data], laidTests := true, laidLooks := .later }
def IeeeExactUptoCardSaid : Prop := Claim7.holds Tryz.pinned (.plain (OpenSpec.upto ieeeExactSpec)) ieeeExactUptoCard

/-- THE SECOND FORM's CARD OF 'abacuslaw05.SoftFmas'. -/
def softFmasUptoCard : Claim7 := { stood := { row := softFmasUptoRow, standIns := [], harness := (true, "eb95099e29a4e1841151f5fd815a61e56c54214f5f2296efe82c0f962116404c"), looks := false }, kinds := [], alts := [], laidByText := true, laidKinds := [.data], laidTests := true, laidLooks := .later }
def SoftFmasUptoCardSaid : Prop := Claim7.holds Tryz.pinned (.plain (OpenSpec.upto softFmasSpec)) softFmasUptoCard

/-- THE SECOND FORM's CARD OF 'abacuslaw05.SoftTolds'. -/
def softToldsUptoCard : Claim7 := { stood := { row := softToldsUptoRow, standIns := [], harness := (true, "eb95099e29a4e1841151f5fd815a61e56c54214f5f2296efe82c0f962116404c"), looks := false }, kinds := [], alts := [], laidByText := true, laidKinds := [.data], laidTests := true, laidLooks := .later }
def SoftToldsUptoCardSaid : Prop := Claim7.holds Tryz.pinned (.plain (OpenSpec.upto softToldsSpec)) softToldsUptoCard

/-- THE SECOND FORM's CARD OF 'abacuslaw06.RemainAll'. -/
def remainAllUptoCard : Claim7 := { stood := { row := remainAllUptoRow, standIns := [], harness := (true, "eb95099e29a4e1841151f5fd815a61e56c54214f5f2296efe82c0f962116404c"), looks := false }, kinds := [], alts := [], laidByText := true, laidKinds := [.data], laidTests := true, laidLooks := .later }
def RemainAllUptoCardSaid : Prop := Claim7.holds Tryz.pinned (.plain (OpenSpec.upto remainAllSpec)) remainAllUptoCard

/-- THE SECOND FORM's CARD OF 'abacuslaw20.CharsSubstrs'. -/
def charsSubstrsUptoCard : Claim7 := { stood := { row := charsSubstrsUptoRow, standIns := [], harness := (true, "eb95099e29a4e1841151f5fd815a61e56c54214f5f2296efe82c0f962116404c"), looks := false }, kinds := [], alts := [], laidByText := true, laidKinds := [.data], laidTests := true, laidLooks := .later }
def CharsSubstrsUptoCardSaid : Prop := Claim7.holds Tryz.pinned (.plain (OpenSpec.upto charsSubstrsSpec)) charsSubstrsUptoCard
end Rows
end Go.Proofs.YtdemopkdcnaibaaGreatDoor
