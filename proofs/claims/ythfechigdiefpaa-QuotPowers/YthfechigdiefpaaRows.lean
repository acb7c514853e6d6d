/-
  No cell of these rows narrows 'for every input' (looked for: loops, veiled, ifaces, maps, wideKeys, modest, calm, conditions, laid).
  DERIVED. THE GIVEN ROWS OF THIS SEAT. 4 by the template 'for every input the law returns true; each argument reads behind the call as it read before'; 0 by the template 'total and deterministic' (their statements: YthfechigdiefpaaTotals.lean).
  GIVEN WITH THE SEED: the statements are not yours to turn. If you find one false, say at which input.
  Laid BY PROGRAM, IN A SANDBOX (cutbox-rows.mjs): the forced cells as the released guide's own fill.sh prints them over the translation a4ecc1f532a895cf… (all of the seat's roots in one cut). By AI agents, Wed Nov 11 2026. No macro, syntax, notation, axiom, sorry.
-/
import Derived.Test.YthfechigdiefpaaChecked
import GoSem.Claim
import GoSem.ClaimJoined
import GoSem.ClaimMapViews
import Derived.JoinedTies
import Derived.KernelRfl
namespace Go.Proofs.Ythfechigdiefpaa
/- THE CELL 'sum', in the pinned program and in every row, IS THE sha256 OF THE DUMP (.gsa) THAT YthfechigdiefpaaProg.lean LOADS. Nothing in Lean hashes anything: it is a label: what it is worth is what the hold of that sum in a sandbox is worth. -/
noncomputable def Try.pinned : Pinned := { name := "ythfechigdiefpaa", sum := "a4ecc1f532a895cf0c4eda93c6498fd3f8c3dc0ea21bd0a7ae17098668c4fd14", checked := Try.checked }
namespace Rows
def none {H : Type} : Left H := { results := [], args := [] }

/-- 'abacuslaw02.QuotDivides': WHATEVER THE INPUT: true; the input reads as it did. -/
def quotDividesSpec : ChangeSpec := { name := "quotDivides", fn := fun _ => fun
  | [d] => { results := [.lit (.bool true)], args := [d] }
  | _ => none }
def quotDividesRow : OpenClaim := { program := "ythfechigdiefpaa", sum := "a4ecc1f532a895cf0c4eda93c6498fd3f8c3dc0ea21bd0a7ae17098668c4fd14", func := "abacus/abacuslaw02.QuotDivides", spec := "quotDivides", inPlace := ["math/bits.Add64", "math/bits.Sub64"], named := ["math/bits.divideError", "math/bits.overflowError"], apart := false }
def QuotDividesSaid : Prop := quotDividesRow.holds Try.pinned (OpenSpec.ofChange quotDividesSpec)

/-- ITS FALSE NEIGHBOUR: 'it returns false'. Refute it at one input. -/
def quotDividesWrong : ChangeSpec := { name := "quotDivides", fn := fun _ => fun
  | [d] => { results := [.lit (.bool false)], args := [d] }
  | _ => none }
def QuotDividesWrongFalsely : Prop := quotDividesRow.holds Try.pinned (OpenSpec.ofChange quotDividesWrong)

/-- 'abacuslaw02.QuotPowers': WHATEVER THE INPUT: true; the input reads as it did. -/
def quotPowersSpec : ChangeSpec := { name := "quotPowers", fn := fun _ => fun
  | [d] => { results := [.lit (.bool true)], args := [d] }
  | _ => none }
def quotPowersRow : OpenClaim := { program := "ythfechigdiefpaa", sum := "a4ecc1f532a895cf0c4eda93c6498fd3f8c3dc0ea21bd0a7ae17098668c4fd14", func := "abacus/abacuslaw02.QuotPowers", spec := "quotPowers", inPlace := ["math/bits.Add64"], recurses := true, apart := false }
def QuotPowersSaid : Prop := quotPowersRow.holds Try.pinned (OpenSpec.ofChange quotPowersSpec)

/-- ITS FALSE NEIGHBOUR: 'it returns false'. Refute it at one input. -/
def quotPowersWrong : ChangeSpec := { name := "quotPowers", fn := fun _ => fun
  | [d] => { results := [.lit (.bool false)], args := [d] }
  | _ => none }
def QuotPowersWrongFalsely : Prop := quotPowersRow.holds Try.pinned (OpenSpec.ofChange quotPowersWrong)

/-- 'abacuslaw02.QuotSplits': WHATEVER THE INPUT: true; the input reads as it did. -/
def quotSplitsSpec : ChangeSpec := { name := "quotSplits", fn := fun _ => fun
  | [d1, d2] => { results := [.lit (.bool true)], args := [d1, d2] }
  | _ => none }
def quotSplitsRow : OpenClaim := { program := "ythfechigdiefpaa", sum := "a4ecc1f532a895cf0c4eda93c6498fd3f8c3dc0ea21bd0a7ae17098668c4fd14", func := "abacus/abacuslaw02.QuotSplits", spec := "quotSplits", inPlace := ["math/bits.Add64", "math/bits.Sub64"], named := ["math/bits.divideError", "math/bits.overflowError"], apart := false }
def QuotSplitsSaid : Prop := quotSplitsRow.holds Try.pinned (OpenSpec.ofChange quotSplitsSpec)

/-- ITS FALSE NEIGHBOUR: 'it returns false'. Refute it at one input. -/
def quotSplitsWrong : ChangeSpec := { name := "quotSplits", fn := fun _ => fun
  | [d1, d2] => { results := [.lit (.bool false)], args := [d1, d2] }
  | _ => none }
def QuotSplitsWrongFalsely : Prop := quotSplitsRow.holds Try.pinned (OpenSpec.ofChange quotSplitsWrong)

/-- 'abacuslaw02.QuotHalves': WHATEVER THE INPUT: true; the input reads as it did. -/
def quotHalvesSpec : ChangeSpec := { name := "quotHalves", fn := fun _ => fun
  | [d1, d2] => { results := [.lit (.bool true)], args := [d1, d2] }
  | _ => none }
def quotHalvesRow : OpenClaim := { program := "ythfechigdiefpaa", sum := "a4ecc1f532a895cf0c4eda93c6498fd3f8c3dc0ea21bd0a7ae17098668c4fd14", func := "abacus/abacuslaw02.QuotHalves", spec := "quotHalves", inPlace := ["math/bits.Add64", "math/bits.Sub64"], named := ["math/bits.divideError", "math/bits.overflowError"], apart := false }
def QuotHalvesSaid : Prop := quotHalvesRow.holds Try.pinned (OpenSpec.ofChange quotHalvesSpec)

/-- ITS FALSE NEIGHBOUR: 'it returns false'. Refute it at one input. -/
def quotHalvesWrong : ChangeSpec := { name := "quotHalves", fn := fun _ => fun
  | [d1, d2] => { results := [.lit (.bool false)], args := [d1, d2] }
  | _ => none }
def QuotHalvesWrongFalsely : Prop := quotHalvesRow.holds Try.pinned (OpenSpec.ofChange quotHalvesWrong)

/- THE SECOND FORM. 'bulk': how many values and letters a reading holds, each counted each time it is reached (what is shared counts as often as it is met; a slice's spare places count too). A statement '..UptoSaid' is the law's where the arguments, and the package variables that the reading takes, are together of bulk at most 1048576: NARROWER than '..Said'. Prove '..Said' where nothing that the law and all that it calls make is longer than what came in: it says more and counts as full. Else prove '..UptoSaid'. A law counts once. -/
mutual
def uptoBulk {H : Type} : DataW H → Nat
  | .lit (.string bytes) => bytes.length + 1
  | .lit _ => 1
  | .nil => 1
  | .ptr d => uptoBulk d + 1
  | .slice elems spare => uptoBulkAll elems + uptoBulkAll spare + 1
  | .agg parts => uptoBulkAll parts + 1
  | .iface _ d => uptoBulk d + 1
  | .map entries => uptoBulkEntries entries + 1
  | .held _ => 1
def uptoBulkAll {H : Type} : List (DataW H) → Nat
  | [] => 0
  | d :: r => uptoBulk d + uptoBulkAll r
def uptoBulkEntries {H : Type} : List (Lit × DataW H) → Nat
  | [] => 0
  | x :: r => uptoBulkEntry x + uptoBulkEntries r
def uptoBulkEntry {H : Type} : Lit × DataW H → Nat
  | (.string bytes, d) => bytes.length + uptoBulk d + 1
  | (_, d) => uptoBulk d + 1
 end
def uptoSmall : (H : Type) → List (DataW H) → Bool := fun _ ds => decide (uptoBulkAll ds ≤ 1048576)
def OpenSpec.upto (s : _root_.Go.ChangeSpec) : _root_.Go.OpenSpec := { _root_.Go.OpenSpec.ofChange s with cond := some uptoSmall }

/-- 'abacuslaw02.QuotDivides', WHERE WHAT IT READS IS OF BULK AT MOST 1048576: true; the input reads as it did. -/
def quotDividesUptoRow : OpenClaim := { program := "ythfechigdiefpaa", sum := "a4ecc1f532a895cf0c4eda93c6498fd3f8c3dc0ea21bd0a7ae17098668c4fd14", func := "abacus/abacuslaw02.QuotDivides", spec := "quotDivides", inPlace := ["math/bits.Add64", "math/bits.Sub64"], named := ["math/bits.divideError", "math/bits.overflowError"], apart := false, narrowed := true }
def QuotDividesUptoSaid : Prop := quotDividesUptoRow.holds Try.pinned (OpenSpec.upto quotDividesSpec)

/-- 'abacuslaw02.QuotPowers', WHERE WHAT IT READS IS OF BULK AT MOST 1048576: true; the input reads as it did. -/
def quotPowersUptoRow : OpenClaim := { program := "ythfechigdiefpaa", sum := "a4ecc1f532a895cf0c4eda93c6498fd3f8c3dc0ea21bd0a7ae17098668c4fd14", func := "abacus/abacuslaw02.QuotPowers", spec := "quotPowers", inPlace := ["math/bits.Add64"], recurses := true, apart := false, narrowed := true }
def QuotPowersUptoSaid : Prop := quotPowersUptoRow.holds Try.pinned (OpenSpec.upto quotPowersSpec)

/-- 'abacuslaw02.QuotSplits', WHERE WHAT IT READS IS OF BULK AT MOST 1048576: true; the input reads as it did. -/
def quotSplitsUptoRow : OpenClaim := { program := "ythfechigdiefpaa", sum := "a4ecc1f532a895cf0c4eda93c6498fd3f8c3dc0ea21bd0a7ae17098668c4fd14", func := "abacus/abacuslaw02.QuotSplits", spec := "quotSplits", inPlace := ["math/bits.Add64", "math/bits.Sub64"], named := ["math/bits.divideError", "math/bits.overflowError"], apart := false, narrowed := true }
def QuotSplitsUptoSaid : Prop := quotSplitsUptoRow.holds Try.pinned (OpenSpec.upto quotSplitsSpec)

/-- 'abacuslaw02.QuotHalves', WHERE WHAT IT READS IS OF BULK AT MOST 1048576: true; the input reads as it did. -/
def quotHalvesUptoRow : OpenClaim := { program := "ythfechigdiefpaa", sum := "a4ecc1f532a895cf0c4eda93c6498fd3f8c3dc0ea21bd0a7ae17098668c4fd14", func := "abacus/abacuslaw02.QuotHalves", spec := "quotHalves", inPlace := ["math/bits.Add64", "math/bits.Sub64"], named := ["math/bits.divideError", "math/bits.overflowError"], apart := false, narrowed := true }
def QuotHalvesUptoSaid : Prop := quotHalvesUptoRow.holds Try.pinned (OpenSpec.upto quotHalvesSpec)

end Rows
end Go.Proofs.Ythfechigdiefpaa
