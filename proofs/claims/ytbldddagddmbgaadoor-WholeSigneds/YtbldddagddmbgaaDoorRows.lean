/-
  NARROWER THAN 'FOR EVERY INPUT', by the rows' own cells (each row's printed sentence says how): WholeSigneds: laid · WholeUnsigneds: laid · WholeWidens: laid · WholeReads: laid.
  DERIVED. THE GIVEN ROWS OF THIS SEAT. 4 by the template 'for every input the law returns true; each argument reads behind the call as it read before'; 0 by the template 'total and deterministic' (their statements: YtbldddagddmbgaaDoorTotals.lean).
  GIVEN WITH THE SEED: the statements are not yours to turn. If you find one false, say at which input.
  Laid BY PROGRAM, IN A SANDBOX (cutbox-rows.mjs): the forced cells as the released guide's own fill.sh prints them over the translation 4e69cf19feb959b3… (all of the seat's roots in one cut). By AI agents, Wed Nov 11 2026. No macro, syntax, notation, axiom, sorry.
-/
import Derived.Test.YtbldddagddmbgaaDoorChecked
import GoSem.PinnedTables
import GoSem.Claim
import GoSem.ClaimJoined
import GoSem.ClaimMapViews
import Derived.JoinedTies
import Derived.KernelRfl
namespace Go.Proofs.YtbldddagddmbgaaDoor
/- THE CELL 'sum', in the pinned program and in every row, IS THE sha256 OF THE DUMP (.gsa) THAT YtbldddagddmbgaaDoorProg.lean LOADS. Nothing in Lean hashes anything: it is a label: what it is worth is what the hold of that sum in a sandbox is worth. -/
noncomputable def Tryd.pinned : Pinned := { name := "ytbldddagddmbgaadoor", sum := "4e69cf19feb959b3f1173b233bfa2ee64ef2e7485f7971876632a03cc989abc4", checked := Tryd.checked }
namespace Rows
def none {H : Type} : Left H := { results := [], args := [] }

/- WHAT THE LISTED PACKAGE-LEVEL VARIABLES READ AS WHEN THE CALL BEGINS. Each datum BY PROGRAM (the guide's laid-datum.mjs) off the statement by which the dump's own 'gosem.cut.vars' lays the variable. In a bare row this is a premise. The card (YtbldddagddmbgaaDoorCards.lean) ties it to the program's text. -/
def laid_unicode_utf8_acceptRanges {H : Type} : DataW H := .agg [.agg [.lit (.int .u8 128), .lit (.int .u8 191)], .agg [.lit (.int .u8 160), .lit (.int .u8 191)], .agg [.lit (.int .u8 128), .lit (.int .u8 159)], .agg [.lit (.int .u8 144), .lit (.int .u8 191)], .agg [.lit (.int .u8 128), .lit (.int .u8 143)], .agg [.lit (.int .u8 0), .lit (.int .u8 0)], .agg [.lit (.int .u8 0), .lit (.int .u8 0)], .agg [.lit (.int .u8 0), .lit (.int .u8 0)], .agg [.lit (.int .u8 0), .lit (.int .u8 0)], .agg [.lit (.int .u8 0), .lit (.int .u8 0)], .agg [.lit (.int .u8 0), .lit (.int .u8 0)], .agg [.lit (.int .u8 0), .lit (.int .u8 0)], .agg [.lit (.int .u8 0), .lit (.int .u8 0)], .agg [.lit (.int .u8 0), .lit (.int .u8 0)], .agg [.lit (.int .u8 0), .lit (.int .u8 0)], .agg [.lit (.int .u8 0), .lit (.int .u8 0)]]
/-- One of Go's own tables, pinned by name: the form's constant. -/
def laid_unicode_utf8_first : DataW Unit := Go.Pinned.utf8First

/-- 'abacuslaw14.WholeSigneds': WHATEVER THE INPUT: true; the input reads as it did. -/
def wholeSignedsSpec : ChangeSpec := { name := "wholeSigneds", fn := fun _ => fun
  | [d] => { results := [.lit (.bool true)], args := [d] }
  | _ => none }
def wholeSignedsRow : OpenClaim := { program := "ytbldddagddmbgaadoor", sum := "4e69cf19feb959b3f1173b233bfa2ee64ef2e7485f7971876632a03cc989abc4", func := "abacus/abacuslaw14.WholeSigneds", spec := "wholeSigneds", inPlace := ["internal/bytealg.IndexByteString", "math/bits.Add64", "math/bits.Sub64", "internal/abi.NoEscape", "internal/bytealg.MakeNoZero"], recurses := true, named := ["math/bits.divideError", "math/bits.overflowError", "unicode/utf8.first", "unicode/utf8.acceptRanges"], apart := false, laid := [("unicode/utf8.acceptRanges", laid_unicode_utf8_acceptRanges), ("unicode/utf8.first", laid_unicode_utf8_first)] }
def WholeSignedsSaid : Prop := wholeSignedsRow.holds Tryd.pinned (OpenSpec.ofChange wholeSignedsSpec)

/-- ITS FALSE NEIGHBOUR: 'it returns false'. Refute it at one input. -/
def wholeSignedsWrong : ChangeSpec := { name := "wholeSigneds", fn := fun _ => fun
  | [d] => { results := [.lit (.bool false)], args := [d] }
  | _ => none }
def WholeSignedsWrongFalsely : Prop := wholeSignedsRow.holds Tryd.pinned (OpenSpec.ofChange wholeSignedsWrong)

/-- 'abacuslaw14.WholeUnsigneds': WHATEVER THE INPUT: true; the input reads as it did. -/
def wholeUnsignedsSpec : ChangeSpec := { name := "wholeUnsigneds", fn := fun _ => fun
  | [d] => { results := [.lit (.bool true)], args := [d] }
  | _ => none }
def wholeUnsignedsRow : OpenClaim := { program := "ytbldddagddmbgaadoor", sum := "4e69cf19feb959b3f1173b233bfa2ee64ef2e7485f7971876632a03cc989abc4", func := "abacus/abacuslaw14.WholeUnsigneds", spec := "wholeUnsigneds", inPlace := ["internal/bytealg.IndexByteString", "math/bits.Add64", "math/bits.Sub64", "internal/abi.NoEscape", "internal/bytealg.MakeNoZero"], recurses := true, named := ["math/bits.divideError", "math/bits.overflowError", "unicode/utf8.first", "unicode/utf8.acceptRanges"], apart := false, laid := [("unicode/utf8.acceptRanges", laid_unicode_utf8_acceptRanges), ("unicode/utf8.first", laid_unicode_utf8_first)] }
def WholeUnsignedsSaid : Prop := wholeUnsignedsRow.holds Tryd.pinned (OpenSpec.ofChange wholeUnsignedsSpec)

/-- ITS FALSE NEIGHBOUR: 'it returns false'. Refute it at one input. -/
def wholeUnsignedsWrong : ChangeSpec := { name := "wholeUnsigneds", fn := fun _ => fun
  | [d] => { results := [.lit (.bool false)], args := [d] }
  | _ => none }
def WholeUnsignedsWrongFalsely : Prop := wholeUnsignedsRow.holds Tryd.pinned (OpenSpec.ofChange wholeUnsignedsWrong)

/-- 'abacuslaw14.WholeWidens': WHATEVER THE INPUT: true; the input reads as it did. -/
def wholeWidensSpec : ChangeSpec := { name := "wholeWidens", fn := fun _ => fun
  | [d] => { results := [.lit (.bool true)], args := [d] }
  | _ => none }
def wholeWidensRow : OpenClaim := { program := "ytbldddagddmbgaadoor", sum := "4e69cf19feb959b3f1173b233bfa2ee64ef2e7485f7971876632a03cc989abc4", func := "abacus/abacuslaw14.WholeWidens", spec := "wholeWidens", inPlace := ["internal/bytealg.IndexByteString", "math/bits.Add64", "math/bits.Sub64", "internal/abi.NoEscape", "internal/bytealg.MakeNoZero"], recurses := true, named := ["math/bits.divideError", "math/bits.overflowError", "unicode/utf8.first", "unicode/utf8.acceptRanges"], apart := false, laid := [("unicode/utf8.acceptRanges", laid_unicode_utf8_acceptRanges), ("unicode/utf8.first", laid_unicode_utf8_first)] }
def WholeWidensSaid : Prop := wholeWidensRow.holds Tryd.pinned (OpenSpec.ofChange wholeWidensSpec)

/-- ITS FALSE NEIGHBOUR: 'it returns false'. Refute it at one input. -/
def wholeWidensWrong : ChangeSpec := { name := "wholeWidens", fn := fun _ => fun
  | [d] => { results := [.lit (.bool false)], args := [d] }
  | _ => none }
def WholeWidensWrongFalsely : Prop := wholeWidensRow.holds Tryd.pinned (OpenSpec.ofChange wholeWidensWrong)

/-- 'abacuslaw14.WholeReads': WHATEVER THE INPUT: true; the input reads as it did. -/
def wholeReadsSpec : ChangeSpec := { name := "wholeReads", fn := fun _ => fun
  | [d1, d2, d3] => { results := [.lit (.bool true)], args := [d1, d2, d3] }
  | _ => none }
def wholeReadsRow : OpenClaim := { program := "ytbldddagddmbgaadoor", sum := "4e69cf19feb959b3f1173b233bfa2ee64ef2e7485f7971876632a03cc989abc4", func := "abacus/abacuslaw14.WholeReads", spec := "wholeReads", inPlace := ["internal/bytealg.IndexByteString", "math/bits.Add64", "math/bits.Sub64", "internal/abi.NoEscape", "internal/bytealg.MakeNoZero", "internal/bytealg.IndexString"], recurses := true, named := ["math/bits.divideError", "math/bits.overflowError", "unicode/utf8.first", "unicode/utf8.acceptRanges", "internal/bytealg.MaxLen"], apart := false, laid := [("unicode/utf8.acceptRanges", laid_unicode_utf8_acceptRanges), ("unicode/utf8.first", laid_unicode_utf8_first)] }
def WholeReadsSaid : Prop := wholeReadsRow.holds Tryd.pinned (OpenSpec.ofChange wholeReadsSpec)

/-- ITS FALSE NEIGHBOUR: 'it returns false'. Refute it at one input. -/
def wholeReadsWrong : ChangeSpec := { name := "wholeReads", fn := fun _ => fun
  | [d1, d2, d3] => { results := [.lit (.bool false)], args := [d1, d2, d3] }
  | _ => none }
def WholeReadsWrongFalsely : Prop := wholeReadsRow.holds Tryd.pinned (OpenSpec.ofChange wholeReadsWrong)

/- THE SECOND FORM. 'bulk': how many values and letters a reading holds, each counted each time it is reached (what is shared counts as often as it is met; a slice's spare places count too). A statement '..UptoSaid' is the law's where the arguments, and the package variables that the reading takes, are together of bulk at most 1048576: NARROWER than '..Said'. Prove '..Said' where nothing that the law and all that it calls make is longer than what came in: it says more and counts as full. Else prove '..UptoSaid'. A law counts once. -/
mutual
def uptoBulk {H : Type} : DataW H → Nat
  | .lit (.string bytes) => bytes.length + 1
  | .lit _ => 1
  | .nil => 1
  | .ptr d => uptoBulk d + 1
  | .slice elems spare => uptoBulkAll elems + uptoBulkAll spare + 1
  | .agg parts => uptoBulkAll parts + 1
  | .iface _ d => uptoBulk d + 1
  | .map entries => uptoBulkEntries entries + 1
  | .held _ => 1
def uptoBulkAll {H : Type} : List (DataW H) → Nat
  | [] => 0
  | d :: r => uptoBulk d + uptoBulkAll r
def uptoBulkEntries {H : Type} : List (Lit × DataW H) → Nat
  | [] => 0
  | x :: r => uptoBulkEntry x + uptoBulkEntries r
def uptoBulkEntry {H : Type} : Lit × DataW H → Nat
  | (.string bytes, d) => bytes.length + uptoBulk d + 1
  | (_, d) => uptoBulk d + 1
 end
def uptoSmall : (H : Type) → List (DataW H) → Bool := fun _ ds => decide (uptoBulkAll ds ≤ 1048576)
def OpenSpec.upto (s : _root_.Go.ChangeSpec) : _root_.Go.OpenSpec := { _root_.Go.OpenSpec.ofChange s with cond := some uptoSmall }

/-- 'abacuslaw14.WholeSigneds', WHERE WHAT IT READS IS OF BULK AT MOST 1048576: true; the input reads as it did. -/
def wholeSignedsUptoRow : OpenClaim := { program := "ytbldddagddmbgaadoor", sum := "4e69cf19feb959b3f1173b233bfa2ee64ef2e7485f7971876632a03cc989abc4", func := "abacus/abacuslaw14.WholeSigneds", spec := "wholeSigneds", inPlace := ["internal/bytealg.IndexByteString", "math/bits.Add64", "math/bits.Sub64", "internal/abi.NoEscape", "internal/bytealg.MakeNoZero"], recurses := true, named := ["math/bits.divideError", "math/bits.overflowError", "unicode/utf8.first", "unicode/utf8.acceptRanges"], apart := false, laid := [("unicode/utf8.acceptRanges", laid_unicode_utf8_acceptRanges), ("unicode/utf8.first", laid_unicode_utf8_first)], narrowed := true }
def WholeSignedsUptoSaid : Prop := wholeSignedsUptoRow.holds Tryd.pinned (OpenSpec.upto wholeSignedsSpec)

/-- 'abacuslaw14.WholeUnsigneds', WHERE WHAT IT READS IS OF BULK AT MOST 1048576: true; the input reads as it did. -/
def wholeUnsignedsUptoRow : OpenClaim := { program := "ytbldddagddmbgaadoor", sum := "4e69cf19feb959b3f1173b233bfa2ee64ef2e7485f7971876632a03cc989abc4", func := "abacus/abacuslaw14.WholeUnsigneds", spec := "wholeUnsigneds", inPlace := ["internal/bytealg.IndexByteString", "math/bits.Add64", "math/bits.Sub64", "internal/abi.NoEscape", "internal/bytealg.MakeNoZero"], recurses := true, named := ["math/bits.divideError", "math/bits.overflowError", "unicode/utf8.first", "unicode/utf8.acceptRanges"], apart := false, laid := [("unicode/utf8.acceptRanges", laid_unicode_utf8_acceptRanges), ("unicode/utf8.first", laid_unicode_utf8_first)], narrowed := true }
def WholeUnsignedsUptoSaid : Prop := wholeUnsignedsUptoRow.holds Tryd.pinned (OpenSpec.upto wholeUnsignedsSpec)

/-- 'abacuslaw14.WholeWidens', WHERE WHAT IT READS IS OF BULK AT MOST 1048576: true; the input reads as it did. -/
def wholeWidensUptoRow : OpenClaim := { program := "ytbldddagddmbgaadoor", sum := "4e69cf19feb959b3f1173b233bfa2ee64ef2e7485f7971876632a03cc989abc4", func := "abacus/abacuslaw14.WholeWidens", spec := "wholeWidens", inPlace := ["internal/bytealg.IndexByteString", "math/bits.Add64", "math/bits.Sub64", "internal/abi.NoEscape", "internal/bytealg.MakeNoZero"], recurses := true, named := ["math/bits.divideError", "math/bits.overflowError", "unicode/utf8.first", "unicode/utf8.acceptRanges"], apart := false, laid := [("unicode/utf8.acceptRanges", laid_unicode_utf8_acceptRanges), ("unicode/utf8.first", laid_unicode_utf8_first)], narrowed := true }
def WholeWidensUptoSaid : Prop := wholeWidensUptoRow.holds Tryd.pinned (OpenSpec.upto wholeWidensSpec)

/-- 'abacuslaw14.WholeReads', WHERE WHAT IT READS IS OF BULK AT MOST 1048576: true; the input reads as it did. -/
def wholeReadsUptoRow : OpenClaim := { program := "ytbldddagddmbgaadoor", sum := "4e69cf19feb959b3f1173b233bfa2ee64ef2e7485f7971876632a03cc989abc4", func := "abacus/abacuslaw14.WholeReads", spec := "wholeReads", inPlace := ["internal/bytealg.IndexByteString", "math/bits.Add64", "math/bits.Sub64", "internal/abi.NoEscape", "internal/bytealg.MakeNoZero", "internal/bytealg.IndexString"], recurses := true, named := ["math/bits.divideError", "math/bits.overflowError", "unicode/utf8.first", "unicode/utf8.acceptRanges", "internal/bytealg.MaxLen"], apart := false, laid := [("unicode/utf8.acceptRanges", laid_unicode_utf8_acceptRanges), ("unicode/utf8.first", laid_unicode_utf8_first)], narrowed := true }
def WholeReadsUptoSaid : Prop := wholeReadsUptoRow.holds Tryd.pinned (OpenSpec.upto wholeReadsSpec)

end Rows
end Go.Proofs.YtbldddagddmbgaaDoor
