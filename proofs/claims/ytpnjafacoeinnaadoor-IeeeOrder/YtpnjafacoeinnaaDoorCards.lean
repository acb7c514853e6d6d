/-
  DERIVED. GIVEN WITH THE SEED: THE CARDS: each row of YtpnjafacoeinnaaDoorRows.lean that lists a variable, with what it lists TIED to the program's text (the seventh form; the later family's looks); each row that meets fmt, with fmt's text TOLD by the authors' own Lean function (tested against real Go, not proved from fmt's source: count such statements apart). THE CARD IS WHAT COUNTS. Prove the row's statement (the work); the ties are given (YtpnjafacoeinnaaDoorTie.lean); close each card by the builder's one call (the guide's Derived/Test/ToyasCard.lean, 'card_holds'). Laid BY PROGRAM, IN A SANDBOX (cutbox-door.mjs). By AI agents, Wed Nov 11 2026. No macro, syntax, notation, axiom, sorry.
-/
import Derived.Test.YtpnjafacoeinnaaDoorRows
import GoSem.ClaimSeven
namespace Go.Proofs.YtpnjafacoeinnaaDoor
namespace Rows

/-- THE TIED CARD OF 'abacuslaw04.IeeeParts'. -/
def ieeePartsCard : Claim7 := { stood := { row := ieeePartsRow, standIns := [], harness := (true, "9bdfb817164961d21ab5f9c30645a2134837c52340e2bccc998616fe6423a647"), looks := false }, kinds := [], alts := [], laidByText := true, laidKinds := [.data], laidTests := true, laidLooks := .later }
def IeeePartsCardSaid : Prop := Claim7.holds Tryd.pinned (.plain (OpenSpec.ofChange ieeePartsSpec)) ieeePartsCard

/-- THE TIED CARD OF 'abacuslaw04.IeeeOrder'. -/
def ieeeOrderCard : Claim7 := { stood := { row := ieeeOrderRow, standIns := [], harness := (true, "9bdfb817164961d21ab5f9c30645a2134837c52340e2bccc998616fe6423a647"), looks := false }, kinds := [], alts := [], laidByText := true, laidKinds := [.data], laidTests := true, laidLooks := .later }
def IeeeOrderCardSaid : Prop := Claim7.holds Tryd.pinned (.plain (OpenSpec.ofChange ieeeOrderSpec)) ieeeOrderCard

/-- THE TIED CARD OF 'abacuslaw04.IeeeRanks'. -/
def ieeeRanksCard : Claim7 := { stood := { row := ieeeRanksRow, standIns := [], harness := (true, "9bdfb817164961d21ab5f9c30645a2134837c52340e2bccc998616fe6423a647"), looks := false }, kinds := [], alts := [], laidByText := true, laidKinds := [.data], laidTests := true, laidLooks := .later }
def IeeeRanksCardSaid : Prop := Claim7.holds Tryd.pinned (.plain (OpenSpec.ofChange ieeeRanksSpec)) ieeeRanksCard

/-- THE TIED CARD OF 'abacuslaw04.IeeeNearest'. -/
def ieeeNearestCard : Claim7 := { stood := { row := ieeeNearestRow, standIns := [], harness := (true, "9bdfb817164961d21ab5f9c30645a2134837c52340e2bccc998616fe6423a647"), looks := false }, kinds := [], alts := [], laidByText := true, laidKinds := [.data], laidTests := true, laidLooks := .later }
def IeeeNearestCardSaid : Prop := Claim7.holds Tryd.pinned (.plain (OpenSpec.ofChange ieeeNearestSpec)) ieeeNearestCard

/-- THE SECOND FORM's CARD OF 'abacuslaw04.IeeeParts'. -/
def ieeePartsUptoCard : Claim7 := { stood := { row := ieeePartsUptoRow, standIns := [], harness := (true, "9bdfb817164961d21ab5f9c30645a2134837c52340e2bccc998616fe6423a647"), looks := false }, kinds := [], alts := [], laidByText := true, laidKinds := [.data], laidTests := true, laidLooks := .later }
def IeeePartsUptoCardSaid : Prop := Claim7.holds Tryd.pinned (.plain (OpenSpec.upto ieeePartsSpec)) ieeePartsUptoCard

/-- THE SECOND FORM's CARD OF 'abacuslaw04.IeeeOrder'. -/
def ieeeOrderUptoCard : Claim7 := { stood := { row := ieeeOrderUptoRow, standIns := [], harness := (true, "9bdfb817164961d21ab5f9c30645a2134837c52340e2bccc998616fe6423a647"), looks := false }, kinds := [], alts := [], laidByText := true, laidKinds := [.data], laidTests := true, laidLooks := .later }
def IeeeOrderUptoCardSaid : Prop := Claim7.holds Tryd.pinned (.plain (OpenSpec.upto ieeeOrderSpec)) ieeeOrderUptoCard

/-- THE SECOND FORM's CARD OF 'abacuslaw04.IeeeRanks'. -/
def ieeeRanksUptoCard : Claim7 := { stood := { row := ieeeRanksUptoRow, standIns := [], harness := (true, "9bdfb817164961d21ab5f9c30645a2134837c52340e2bccc998616fe6423a647"), looks := false }, kinds := [], alts := [], laidByText := true, laidKinds := [.data], laidTests := true, laidLooks := .later }
def IeeeRanksUptoCardSaid : Prop := Claim7.holds Tryd.pinned (.plain (OpenSpec.upto ieeeRanksSpec)) ieeeRanksUptoCard

/-- THE SECOND FORM's CARD OF 'abacuslaw04.IeeeNearest'. -/
def ieeeNearestUptoCard : Claim7 := { stood := { row := ieeeNearestUptoRow, standIns := [], harness := (true, "9bdfb817164961d21ab5f9c30645a2134837c52340e2bccc998616fe6423a647"), looks := false }, kinds := [], alts := [], laidByText := true, laidKinds := [.data], laidTests := true, laidLooks := .later }
def IeeeNearestUptoCardSaid : Prop := Claim7.holds Tryd.pinned (.plain (OpenSpec.upto ieeeNearestSpec)) ieeeNearestUptoCard
end Rows
end Go.Proofs.YtpnjafacoeinnaaDoor
