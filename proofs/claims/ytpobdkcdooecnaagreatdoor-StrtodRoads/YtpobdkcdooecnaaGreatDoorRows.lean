/-
  NARROWER THAN 'FOR EVERY INPUT', by the rows' own cells (each row's printed sentence says how): StrtodExact: laid · StrtodRoads: laid · StrtodFraming: laid · StrtodForms: laid · StrtodRising: laid · StrtodMiddles: laid.
  DERIVED. THE GIVEN ROWS OF THIS SEAT. 6 by the template 'for every input the law returns true; each argument reads behind the call as it read before'; 0 by the template 'total and deterministic' (their statements: YtpobdkcdooecnaaGreatDoorTotals.lean).
  GIVEN WITH THE SEED: the statements are not yours to turn. If you find one false, say at which input.
  Laid BY PROGRAM, IN A SANDBOX (cutbox-rows.mjs): the forced cells as the released guide's own fill.sh prints them over the translation a000baa0f78e71c1… (all of the seat's roots in one cut). By AI agents, Wed Nov 11 2026. No macro, syntax, notation, axiom, sorry.
-/
import Derived.Test.YtpobdkcdooecnaaGreatDoorChecked
import GoSem.PinnedTables
import GoSem.Claim
import GoSem.ClaimJoined
import GoSem.ClaimMapViews
import Derived.JoinedTies
import Derived.KernelRfl
namespace Go.Proofs.YtpobdkcdooecnaaGreatDoor
/- THE CELL 'sum', in the pinned program and in every row, IS THE sha256 OF THE DUMP (.gsa) THAT YtpobdkcdooecnaaGreatDoorProg.lean LOADS. Nothing in Lean hashes anything: it is a label: what it is worth is what the hold of that sum in a sandbox is worth. -/
noncomputable def Tryz.pinned : Pinned := { name := "ytpobdkcdooecnaagreatdoor", sum := "a000baa0f78e71c165accec576a46133fa55722132fbdf435a60d1282ec989b7", checked := Tryz.checked }
namespace Rows
def none {H : Type} : Left H := { results := [], args := [] }

/- WHAT THE LISTED PACKAGE-LEVEL VARIABLES READ AS WHEN THE CALL BEGINS. Each datum BY PROGRAM (the guide's laid-datum.mjs) off the statement by which the dump's own 'gosem.cut.vars' lays the variable. In a bare row this is a premise. The card (YtpobdkcdooecnaaGreatDoorCards.lean) ties it to the program's text. -/
def laid_unicode_utf8_acceptRanges {H : Type} : DataW H := .agg [.agg [.lit (.int .u8 128), .lit (.int .u8 191)], .agg [.lit (.int .u8 160), .lit (.int .u8 191)], .agg [.lit (.int .u8 128), .lit (.int .u8 159)], .agg [.lit (.int .u8 144), .lit (.int .u8 191)], .agg [.lit (.int .u8 128), .lit (.int .u8 143)], .agg [.lit (.int .u8 0), .lit (.int .u8 0)], .agg [.lit (.int .u8 0), .lit (.int .u8 0)], .agg [.lit (.int .u8 0), .lit (.int .u8 0)], .agg [.lit (.int .u8 0), .lit (.int .u8 0)], .agg [.lit (.int .u8 0), .lit (.int .u8 0)], .agg [.lit (.int .u8 0), .lit (.int .u8 0)], .agg [.lit (.int .u8 0), .lit (.int .u8 0)], .agg [.lit (.int .u8 0), .lit (.int .u8 0)], .agg [.lit (.int .u8 0), .lit (.int .u8 0)], .agg [.lit (.int .u8 0), .lit (.int .u8 0)], .agg [.lit (.int .u8 0), .lit (.int .u8 0)]]
/-- One of Go's own tables, pinned by name: the form's constant. -/
def laid_unicode_utf8_first : DataW Unit := Go.Pinned.utf8First
def laid_math_bits_deBruijn64tab {H : Type} : DataW H := .agg [.lit (.int .u8 0), .lit (.int .u8 1), .lit (.int .u8 56), .lit (.int .u8 2), .lit (.int .u8 57), .lit (.int .u8 49), .lit (.int .u8 28), .lit (.int .u8 3), .lit (.int .u8 61), .lit (.int .u8 58), .lit (.int .u8 42), .lit (.int .u8 50), .lit (.int .u8 38), .lit (.int .u8 29), .lit (.int .u8 17), .lit (.int .u8 4), .lit (.int .u8 62), .lit (.int .u8 47), .lit (.int .u8 59), .lit (.int .u8 36), .lit (.int .u8 45), .lit (.int .u8 43), .lit (.int .u8 51), .lit (.int .u8 22), .lit (.int .u8 53), .lit (.int .u8 39), .lit (.int .u8 33), .lit (.int .u8 30), .lit (.int .u8 24), .lit (.int .u8 18), .lit (.int .u8 12), .lit (.int .u8 5), .lit (.int .u8 63), .lit (.int .u8 55), .lit (.int .u8 48), .lit (.int .u8 27), .lit (.int .u8 60), .lit (.int .u8 41), .lit (.int .u8 37), .lit (.int .u8 16), .lit (.int .u8 46), .lit (.int .u8 35), .lit (.int .u8 44), .lit (.int .u8 21), .lit (.int .u8 52), .lit (.int .u8 32), .lit (.int .u8 23), .lit (.int .u8 11), .lit (.int .u8 54), .lit (.int .u8 26), .lit (.int .u8 40), .lit (.int .u8 15), .lit (.int .u8 34), .lit (.int .u8 20), .lit (.int .u8 31), .lit (.int .u8 10), .lit (.int .u8 25), .lit (.int .u8 14), .lit (.int .u8 19), .lit (.int .u8 9), .lit (.int .u8 13), .lit (.int .u8 8), .lit (.int .u8 7), .lit (.int .u8 6)]
def laid_abacus_quick_tens {H : Type} : DataW H := .agg [.agg [.lit (.int .u64 1), .lit (.int .u64 0)], .agg [.lit (.int .u64 10), .lit (.int .u64 0)], .agg [.lit (.int .u64 100), .lit (.int .u64 0)], .agg [.lit (.int .u64 1000), .lit (.int .u64 0)], .agg [.lit (.int .u64 10000), .lit (.int .u64 0)], .agg [.lit (.int .u64 100000), .lit (.int .u64 0)], .agg [.lit (.int .u64 1000000), .lit (.int .u64 0)], .agg [.lit (.int .u64 10000000), .lit (.int .u64 0)], .agg [.lit (.int .u64 100000000), .lit (.int .u64 0)], .agg [.lit (.int .u64 1000000000), .lit (.int .u64 0)], .agg [.lit (.int .u64 10000000000), .lit (.int .u64 0)], .agg [.lit (.int .u64 100000000000), .lit (.int .u64 0)], .agg [.lit (.int .u64 1000000000000), .lit (.int .u64 0)], .agg [.lit (.int .u64 10000000000000), .lit (.int .u64 0)], .agg [.lit (.int .u64 100000000000000), .lit (.int .u64 0)], .agg [.lit (.int .u64 1000000000000000), .lit (.int .u64 0)], .agg [.lit (.int .u64 10000000000000000), .lit (.int .u64 0)], .agg [.lit (.int .u64 100000000000000000), .lit (.int .u64 0)], .agg [.lit (.int .u64 1000000000000000000), .lit (.int .u64 0)], .agg [.lit (.int .u64 10000000000000000000), .lit (.int .u64 0)], .agg [.lit (.int .u64 7766279631452241920), .lit (.int .u64 5)], .agg [.lit (.int .u64 3875820019684212736), .lit (.int .u64 54)], .agg [.lit (.int .u64 1864712049423024128), .lit (.int .u64 542)]]

/-- 'abacuslaw10.StrtodExact': WHATEVER THE INPUT: true; the input reads as it did. -/
def strtodExactSpec : ChangeSpec := { name := "strtodExact", fn := fun _ => fun
  | [d] => { results := [.lit (.bool true)], args := [d] }
  | _ => none }
def strtodExactRow : OpenClaim := { program := "ytpobdkcdooecnaagreatdoor", sum := "a000baa0f78e71c165accec576a46133fa55722132fbdf435a60d1282ec989b7", func := "abacus/abacuslaw10.StrtodExact", spec := "strtodExact", inPlace := ["internal/bytealg.IndexByteString", "internal/bytealg.IndexString"], unfollowed := true, recurses := true, named := ["unicode/utf8.first", "unicode/utf8.acceptRanges", "internal/bytealg.MaxLen"], apart := false, laid := [("unicode/utf8.acceptRanges", laid_unicode_utf8_acceptRanges), ("unicode/utf8.first", laid_unicode_utf8_first)] }
def StrtodExactSaid : Prop := strtodExactRow.holds Tryz.pinned (OpenSpec.ofChange strtodExactSpec)

/-- ITS FALSE NEIGHBOUR: 'it returns false'. Refute it at one input. -/
def strtodExactWrong : ChangeSpec := { name := "strtodExact", fn := fun _ => fun
  | [d] => { results := [.lit (.bool false)], args := [d] }
  | _ => none }
def StrtodExactWrongFalsely : Prop := strtodExactRow.holds Tryz.pinned (OpenSpec.ofChange strtodExactWrong)

/-- 'abacuslaw10.StrtodRoads': WHATEVER THE INPUT: true; the input reads as it did. -/
def strtodRoadsSpec : ChangeSpec := { name := "strtodRoads", fn := fun _ => fun
  | [d1, d2] => { results := [.lit (.bool true)], args := [d1, d2] }
  | _ => none }
def strtodRoadsRow : OpenClaim := { program := "ytpobdkcdooecnaagreatdoor", sum := "a000baa0f78e71c165accec576a46133fa55722132fbdf435a60d1282ec989b7", func := "abacus/abacuslaw10.StrtodRoads", spec := "strtodRoads", inPlace := ["internal/bytealg.IndexByteString", "internal/bytealg.IndexString", "math/bits.Add64", "math/bits.Sub64"], unfollowed := true, recurses := true, named := ["unicode/utf8.first", "unicode/utf8.acceptRanges", "abacus/quick.tens", "math/bits.deBruijn64tab", "math/bits.divideError", "math/bits.overflowError", "internal/bytealg.MaxLen"], apart := false, laid := [("math/bits.deBruijn64tab", laid_math_bits_deBruijn64tab), ("unicode/utf8.acceptRanges", laid_unicode_utf8_acceptRanges), ("abacus/quick.tens", laid_abacus_quick_tens), ("unicode/utf8.first", laid_unicode_utf8_first)] }
def StrtodRoadsSaid : Prop := strtodRoadsRow.holds Tryz.pinned (OpenSpec.ofChange strtodRoadsSpec)

/-- ITS FALSE NEIGHBOUR: 'it returns false'. Refute it at one input. -/
def strtodRoadsWrong : ChangeSpec := { name := "strtodRoads", fn := fun _ => fun
  | [d1, d2] => { results := [.lit (.bool false)], args := [d1, d2] }
  | _ => none }
def StrtodRoadsWrongFalsely : Prop := strtodRoadsRow.holds Tryz.pinned (OpenSpec.ofChange strtodRoadsWrong)

/-- 'abacuslaw10.StrtodFraming': WHATEVER THE INPUT: true; the input reads as it did. -/
def strtodFramingSpec : ChangeSpec := { name := "strtodFraming", fn := fun _ => fun
  | [d1, d2] => { results := [.lit (.bool true)], args := [d1, d2] }
  | _ => none }
def strtodFramingRow : OpenClaim := { program := "ytpobdkcdooecnaagreatdoor", sum := "a000baa0f78e71c165accec576a46133fa55722132fbdf435a60d1282ec989b7", func := "abacus/abacuslaw10.StrtodFraming", spec := "strtodFraming", inPlace := ["internal/bytealg.IndexByteString", "internal/bytealg.IndexString"], unfollowed := true, recurses := true, named := ["unicode/utf8.first", "unicode/utf8.acceptRanges", "internal/bytealg.MaxLen"], apart := false, laid := [("unicode/utf8.acceptRanges", laid_unicode_utf8_acceptRanges), ("unicode/utf8.first", laid_unicode_utf8_first)] }
def StrtodFramingSaid : Prop := strtodFramingRow.holds Tryz.pinned (OpenSpec.ofChange strtodFramingSpec)

/-- ITS FALSE NEIGHBOUR: 'it returns false'. Refute it at one input. -/
def strtodFramingWrong : ChangeSpec := { name := "strtodFraming", fn := fun _ => fun
  | [d1, d2] => { results := [.lit (.bool false)], args := [d1, d2] }
  | _ => none }
def StrtodFramingWrongFalsely : Prop := strtodFramingRow.holds Tryz.pinned (OpenSpec.ofChange strtodFramingWrong)

/-- 'abacuslaw10.StrtodForms': WHATEVER THE INPUT: true; the input reads as it did. -/
def strtodFormsSpec : ChangeSpec := { name := "strtodForms", fn := fun _ => fun
  | [d1, d2] => { results := [.lit (.bool true)], args := [d1, d2] }
  | _ => none }
def strtodFormsRow : OpenClaim := { program := "ytpobdkcdooecnaagreatdoor", sum := "a000baa0f78e71c165accec576a46133fa55722132fbdf435a60d1282ec989b7", func := "abacus/abacuslaw10.StrtodForms", spec := "strtodForms", inPlace := ["internal/bytealg.IndexByteString", "internal/bytealg.IndexString"], unfollowed := true, recurses := true, named := ["unicode/utf8.first", "unicode/utf8.acceptRanges", "internal/bytealg.MaxLen"], apart := false, laid := [("unicode/utf8.acceptRanges", laid_unicode_utf8_acceptRanges), ("unicode/utf8.first", laid_unicode_utf8_first)] }
def StrtodFormsSaid : Prop := strtodFormsRow.holds Tryz.pinned (OpenSpec.ofChange strtodFormsSpec)

/-- ITS FALSE NEIGHBOUR: 'it returns false'. Refute it at one input. -/
def strtodFormsWrong : ChangeSpec := { name := "strtodForms", fn := fun _ => fun
  | [d1, d2] => { results := [.lit (.bool false)], args := [d1, d2] }
  | _ => none }
def StrtodFormsWrongFalsely : Prop := strtodFormsRow.holds Tryz.pinned (OpenSpec.ofChange strtodFormsWrong)

/-- 'abacuslaw10.StrtodRising': WHATEVER THE INPUT: true; the input reads as it did. -/
def strtodRisingSpec : ChangeSpec := { name := "strtodRising", fn := fun _ => fun
  | [d1, d2] => { results := [.lit (.bool true)], args := [d1, d2] }
  | _ => none }
def strtodRisingRow : OpenClaim := { program := "ytpobdkcdooecnaagreatdoor", sum := "a000baa0f78e71c165accec576a46133fa55722132fbdf435a60d1282ec989b7", func := "abacus/abacuslaw10.StrtodRising", spec := "strtodRising", inPlace := ["internal/bytealg.IndexByteString", "internal/bytealg.IndexString", "internal/bytealg.abigen_runtime_cmpstring"], unfollowed := true, recurses := true, named := ["unicode/utf8.first", "unicode/utf8.acceptRanges", "internal/bytealg.MaxLen"], apart := false, laid := [("unicode/utf8.acceptRanges", laid_unicode_utf8_acceptRanges), ("unicode/utf8.first", laid_unicode_utf8_first)] }
def StrtodRisingSaid : Prop := strtodRisingRow.holds Tryz.pinned (OpenSpec.ofChange strtodRisingSpec)

/-- ITS FALSE NEIGHBOUR: 'it returns false'. Refute it at one input. -/
def strtodRisingWrong : ChangeSpec := { name := "strtodRising", fn := fun _ => fun
  | [d1, d2] => { results := [.lit (.bool false)], args := [d1, d2] }
  | _ => none }
def StrtodRisingWrongFalsely : Prop := strtodRisingRow.holds Tryz.pinned (OpenSpec.ofChange strtodRisingWrong)

/-- 'abacuslaw10.StrtodMiddles': WHATEVER THE INPUT: true; the input reads as it did. -/
def strtodMiddlesSpec : ChangeSpec := { name := "strtodMiddles", fn := fun _ => fun
  | [d1, d2] => { results := [.lit (.bool true)], args := [d1, d2] }
  | _ => none }
def strtodMiddlesRow : OpenClaim := { program := "ytpobdkcdooecnaagreatdoor", sum := "a000baa0f78e71c165accec576a46133fa55722132fbdf435a60d1282ec989b7", func := "abacus/abacuslaw10.StrtodMiddles", spec := "strtodMiddles", inPlace := ["internal/bytealg.IndexByteString", "internal/bytealg.IndexString", "math/bits.Add64", "math/bits.Sub64"], unfollowed := true, recurses := true, named := ["unicode/utf8.first", "unicode/utf8.acceptRanges", "math/bits.divideError", "math/bits.overflowError", "internal/bytealg.MaxLen"], apart := false, laid := [("unicode/utf8.acceptRanges", laid_unicode_utf8_acceptRanges), ("unicode/utf8.first", laid_unicode_utf8_first)] }
def StrtodMiddlesSaid : Prop := strtodMiddlesRow.holds Tryz.pinned (OpenSpec.ofChange strtodMiddlesSpec)

/-- ITS FALSE NEIGHBOUR: 'it returns false'. Refute it at one input. -/
def strtodMiddlesWrong : ChangeSpec := { name := "strtodMiddles", fn := fun _ => fun
  | [d1, d2] => { results := [.lit (.bool false)], args := [d1, d2] }
  | _ => none }
def StrtodMiddlesWrongFalsely : Prop := strtodMiddlesRow.holds Tryz.pinned (OpenSpec.ofChange strtodMiddlesWrong)

/- THE SECOND FORM. 'bulk': how many values and letters a reading holds, each counted each time it is reached (what is shared counts as often as it is met; a slice's spare places count too). A statement '..UptoSaid' is the law's where the arguments, and the package variables that the reading takes, are together of bulk at most 1048576: NARROWER than '..Said'. Prove '..Said' where nothing that the law and all that it calls make is longer than what came in: it says more and counts as full. Else prove '..UptoSaid'. A law counts once. -/
mutual
def uptoBulk {H : Type} : DataW H → Nat
  | .lit (.string bytes) => bytes.length + 1
  | .lit _ => 1
  | .nil => 1
  | .ptr d => uptoBulk d + 1
  | .slice elems spare => uptoBulkAll elems + uptoBulkAll spare + 1
  | .agg parts => uptoBulkAll parts + 1
  | .iface _ d => uptoBulk d + 1
  | .map entries => uptoBulkEntries entries + 1
  | .held _ => 1
def uptoBulkAll {H : Type} : List (DataW H) → Nat
  | [] => 0
  | d :: r => uptoBulk d + uptoBulkAll r
def uptoBulkEntries {H : Type} : List (Lit × DataW H) → Nat
  | [] => 0
  | x :: r => uptoBulkEntry x + uptoBulkEntries r
def uptoBulkEntry {H : Type} : Lit × DataW H → Nat
  | (.string bytes, d) => bytes.length + uptoBulk d + 1
  | (_, d) => uptoBulk d + 1
 end
def uptoSmall : (H : Type) → List (DataW H) → Bool := fun _ ds => decide (uptoBulkAll ds ≤ 1048576)
def OpenSpec.upto (s : _root_.Go.ChangeSpec) : _root_.Go.OpenSpec := { _root_.Go.OpenSpec.ofChange s with cond := some uptoSmall }

/-- 'abacuslaw10.StrtodExact', WHERE WHAT IT READS IS OF BULK AT MOST 1048576: true; the input reads as it did. -/
def strtodExactUptoRow : OpenClaim := { program := "ytpobdkcdooecnaagreatdoor", sum := "a000baa0f78e71c165accec576a46133fa55722132fbdf435a60d1282ec989b7", func := "abacus/abacuslaw10.StrtodExact", spec := "strtodExact", inPlace := ["internal/bytealg.IndexByteString", "internal/bytealg.IndexString"], unfollowed := true, recurses := true, named := ["unicode/utf8.first", "unicode/utf8.acceptRanges", "internal/bytealg.MaxLen"], apart := false, laid := [("unicode/utf8.acceptRanges", laid_unicode_utf8_acceptRanges), ("unicode/utf8.first", laid_unicode_utf8_first)], narrowed := true }
def StrtodExactUptoSaid : Prop := strtodExactUptoRow.holds Tryz.pinned (OpenSpec.upto strtodExactSpec)

/-- 'abacuslaw10.StrtodRoads', WHERE WHAT IT READS IS OF BULK AT MOST 1048576: true; the input reads as it did. -/
def strtodRoadsUptoRow : OpenClaim := { program := "ytpobdkcdooecnaagreatdoor", sum := "a000baa0f78e71c165accec576a46133fa55722132fbdf435a60d1282ec989b7", func := "abacus/abacuslaw10.StrtodRoads", spec := "strtodRoads", inPlace := ["internal/bytealg.IndexByteString", "internal/bytealg.IndexString", "math/bits.Add64", "math/bits.Sub64"], unfollowed := true, recurses := true, named := ["unicode/utf8.first", "unicode/utf8.acceptRanges", "abacus/quick.tens", "math/bits.deBruijn64tab", "math/bits.divideError", "math/bits.overflowError", "internal/bytealg.MaxLen"], apart := false, laid := [("math/bits.deBruijn64tab", laid_math_bits_deBruijn64tab), ("unicode/utf8.acceptRanges", laid_unicode_utf8_acceptRanges), ("abacus/quick.tens", laid_abacus_quick_tens), ("unicode/utf8.first", laid_unicode_utf8_first)], narrowed := true }
def StrtodRoadsUptoSaid : Prop := strtodRoadsUptoRow.holds Tryz.pinned (OpenSpec.upto strtodRoadsSpec)

/-- 'abacuslaw10.StrtodFraming', WHERE WHAT IT READS IS OF BULK AT MOST 1048576: true; the input reads as it did. -/
def strtodFramingUptoRow : OpenClaim := { program := "ytpobdkcdooecnaagreatdoor", sum := "a000baa0f78e71c165accec576a46133fa55722132fbdf435a60d1282ec989b7", func := "abacus/abacuslaw10.StrtodFraming", spec := "strtodFraming", inPlace := ["internal/bytealg.IndexByteString", "internal/bytealg.IndexString"], unfollowed := true, recurses := true, named := ["unicode/utf8.first", "unicode/utf8.acceptRanges", "internal/bytealg.MaxLen"], apart := false, laid := [("unicode/utf8.acceptRanges", laid_unicode_utf8_acceptRanges), ("unicode/utf8.first", laid_unicode_utf8_first)], narrowed := true }
def StrtodFramingUptoSaid : Prop := strtodFramingUptoRow.holds Tryz.pinned (OpenSpec.upto strtodFramingSpec)

/-- 'abacuslaw10.StrtodForms', WHERE WHAT IT READS IS OF BULK AT MOST 1048576: true; the input reads as it did. -/
def strtodFormsUptoRow : OpenClaim := { program := "ytpobdkcdooecnaagreatdoor", sum := "a000baa0f78e71c165accec576a46133fa55722132fbdf435a60d1282ec989b7", func := "abacus/abacuslaw10.StrtodForms", spec := "strtodForms", inPlace := ["internal/bytealg.IndexByteString", "internal/bytealg.IndexString"], unfollowed := true, recurses := true, named := ["unicode/utf8.first", "unicode/utf8.acceptRanges", "internal/bytealg.MaxLen"], apart := false, laid := [("unicode/utf8.acceptRanges", laid_unicode_utf8_acceptRanges), ("unicode/utf8.first", laid_unicode_utf8_first)], narrowed := true }
def StrtodFormsUptoSaid : Prop := strtodFormsUptoRow.holds Tryz.pinned (OpenSpec.upto strtodFormsSpec)

/-- 'abacuslaw10.StrtodRising', WHERE WHAT IT READS IS OF BULK AT MOST 1048576: true; the input reads as it did. -/
def strtodRisingUptoRow : OpenClaim := { program := "ytpobdkcdooecnaagreatdoor", sum := "a000baa0f78e71c165accec576a46133fa55722132fbdf435a60d1282ec989b7", func := "abacus/abacuslaw10.StrtodRising", spec := "strtodRising", inPlace := ["internal/bytealg.IndexByteString", "internal/bytealg.IndexString", "internal/bytealg.abigen_runtime_cmpstring"], unfollowed := true, recurses := true, named := ["unicode/utf8.first", "unicode/utf8.acceptRanges", "internal/bytealg.MaxLen"], apart := false, laid := [("unicode/utf8.acceptRanges", laid_unicode_utf8_acceptRanges), ("unicode/utf8.first", laid_unicode_utf8_first)], narrowed := true }
def StrtodRisingUptoSaid : Prop := strtodRisingUptoRow.holds Tryz.pinned (OpenSpec.upto strtodRisingSpec)

/-- 'abacuslaw10.StrtodMiddles', WHERE WHAT IT READS IS OF BULK AT MOST 1048576: true; the input reads as it did. -/
def strtodMiddlesUptoRow : OpenClaim := { program := "ytpobdkcdooecnaagreatdoor", sum := "a000baa0f78e71c165accec576a46133fa55722132fbdf435a60d1282ec989b7", func := "abacus/abacuslaw10.StrtodMiddles", spec := "strtodMiddles", inPlace := ["internal/bytealg.IndexByteString", "internal/bytealg.IndexString", "math/bits.Add64", "math/bits.Sub64"], unfollowed := true, recurses := true, named := ["unicode/utf8.first", "unicode/utf8.acceptRanges", "math/bits.divideError", "math/bits.overflowError", "internal/bytealg.MaxLen"], apart := false, laid := [("unicode/utf8.acceptRanges", laid_unicode_utf8_acceptRanges), ("unicode/utf8.first", laid_unicode_utf8_first)], narrowed := true }
def StrtodMiddlesUptoSaid : Prop := strtodMiddlesUptoRow.holds Tryz.pinned (OpenSpec.upto strtodMiddlesSpec)

end Rows
end Go.Proofs.YtpobdkcdooecnaaGreatDoor
