/-
  DERIVED. GIVEN WITH THE SEED: THE CARDS: each row of YtjebdobopechfaaDoorRows.lean that lists a variable, with what it lists TIED to the program's text (the seventh form; the later family's looks); each row that meets fmt, with fmt's text TOLD by the authors' own Lean function (tested against real Go, not proved from fmt's source: count such statements apart). THE CARD IS WHAT COUNTS. Prove the row's statement (the work); the ties are given (YtjebdobopechfaaDoorTie.lean); close each card by the builder's one call (the guide's Derived/Test/ToyasCard.lean, 'card_holds'). Laid BY PROGRAM, IN A SANDBOX (cutbox-door.mjs). By AI agents, Wed Nov 11 2026. No macro, syntax, notation, axiom, sorry.
-/
import Derived.Test.YtjebdobopechfaaDoorRows
import GoSem.ClaimSeven
namespace Go.Proofs.YtjebdobopechfaaDoor
namespace Rows

/-- THE TIED CARD OF 'abacuslaw05.SoftReckons'. -/
def softReckonsCard : Claim7 := { stood := { row := softReckonsRow, standIns := [], harness := (true, "9093d25dc50d7a6b551bc9668881f01c0a5ee7e53bccfa58eba453c67a127fd2"), looks := false }, kinds := [], alts := [], laidByText := true, laidKinds := [.data], laidTests := true, laidLooks := .later }
def SoftReckonsCardSaid : Prop := Claim7.holds Tryd.pinned (.plain (OpenSpec.ofChange softReckonsSpec)) softReckonsCard

/-- THE TIED CARD OF 'abacuslaw05.SoftNearSum'. -/
def softNearSumCard : Claim7 := { stood := { row := softNearSumRow, standIns := [], harness := (true, "9093d25dc50d7a6b551bc9668881f01c0a5ee7e53bccfa58eba453c67a127fd2"), looks := false }, kinds := [], alts := [], laidByText := true, laidKinds := [.data], laidTests := true, laidLooks := .later }
def SoftNearSumCardSaid : Prop := Claim7.holds Tryd.pinned (.plain (OpenSpec.ofChange softNearSumSpec)) softNearSumCard

/-- THE TIED CARD OF 'abacuslaw05.SoftNearProduct'. -/
def softNearProductCard : Claim7 := { stood := { row := softNearProductRow, standIns := [], harness := (true, "9093d25dc50d7a6b551bc9668881f01c0a5ee7e53bccfa58eba453c67a127fd2"), looks := false }, kinds := [], alts := [], laidByText := true, laidKinds := [.data], laidTests := true, laidLooks := .later }
def SoftNearProductCardSaid : Prop := Claim7.holds Tryd.pinned (.plain (OpenSpec.ofChange softNearProductSpec)) softNearProductCard

/-- THE TIED CARD OF 'abacuslaw05.SoftNearQuotient'. -/
def softNearQuotientCard : Claim7 := { stood := { row := softNearQuotientRow, standIns := [], harness := (true, "9093d25dc50d7a6b551bc9668881f01c0a5ee7e53bccfa58eba453c67a127fd2"), looks := false }, kinds := [], alts := [], laidByText := true, laidKinds := [.data], laidTests := true, laidLooks := .later }
def SoftNearQuotientCardSaid : Prop := Claim7.holds Tryd.pinned (.plain (OpenSpec.ofChange softNearQuotientSpec)) softNearQuotientCard

/-- THE SECOND FORM's CARD OF 'abacuslaw05.SoftReckons'. -/
def softReckonsUptoCard : Claim7 := { stood := { row := softReckonsUptoRow, standIns := [], harness := (true, "9093d25dc50d7a6b551bc9668881f01c0a5ee7e53bccfa58eba453c67a127fd2"), looks := false }, kinds := [], alts := [], laidByText := true, laidKinds := [.data], laidTests := true, laidLooks := .later }
def SoftReckonsUptoCardSaid : Prop := Claim7.holds Tryd.pinned (.plain (OpenSpec.upto softReckonsSpec)) softReckonsUptoCard

/-- THE SECOND FORM's CARD OF 'abacuslaw05.SoftNearSum'. -/
def softNearSumUptoCard : Claim7 := { stood := { row := softNearSumUptoRow, standIns := [], harness := (true, "9093d25dc50d7a6b551bc9668881f01c0a5ee7e53bccfa58eba453c67a127fd2"), looks := false }, kinds := [], alts := [], laidByText := true, laidKinds := [.data], laidTests := true, laidLooks := .later }
def SoftNearSumUptoCardSaid : Prop := Claim7.holds Tryd.pinned (.plain (OpenSpec.upto softNearSumSpec)) softNearSumUptoCard

/-- THE SECOND FORM's CARD OF 'abacuslaw05.SoftNearProduct'. -/
def softNearProductUptoCard : Claim7 := { stood := { row := softNearProductUptoRow, standIns := [], harness := (true, "9093d25dc50d7a6b551bc9668881f01c0a5ee7e53bccfa58eba453c67a127fd2"), looks := false }, kinds := [], alts := [], laidByText := true, laidKinds := [.data], laidTests := true, laidLooks := .later }
def SoftNearProductUptoCardSaid : Prop := Claim7.holds Tryd.pinned (.plain (OpenSpec.upto softNearProductSpec)) softNearProductUptoCard

/-- THE SECOND FORM's CARD OF 'abacuslaw05.SoftNearQuotient'. -/
def softNearQuotientUptoCard : Claim7 := { stood := { row := softNearQuotientUptoRow, standIns := [], harness := (true, "9093d25dc50d7a6b551bc9668881f01c0a5ee7e53bccfa58eba453c67a127fd2"), looks := false }, kinds := [], alts := [], laidByText := true, laidKinds := [.data], laidTests := true, laidLooks := .later }
def SoftNearQuotientUptoCardSaid : Prop := Claim7.holds Tryd.pinned (.plain (OpenSpec.upto softNearQuotientSpec)) softNearQuotientUptoCard
end Rows
end Go.Proofs.YtjebdobopechfaaDoor
