/-
  NARROWER THAN 'FOR EVERY INPUT', by the rows' own cells (each row's printed sentence says how): IeeeExact: laid · SoftFmas: laid · SoftTolds: laid · RemainAll: laid · CharsSubstrs: laid.
  DERIVED. THE GIVEN ROWS OF THIS SEAT. 5 by the template 'for every input the law returns true; each argument reads behind the call as it read before'; 0 by the template 'total and deterministic' (their statements: YtdemopkdcnaibaaGreatDoorTotals.lean).
  GIVEN WITH THE SEED: the statements are not yours to turn. If you find one false, say at which input.
  Laid BY PROGRAM, IN A SANDBOX (cutbox-rows.mjs): the forced cells as the released guide's own fill.sh prints them over the translation ff30e41138454c72… (all of the seat's roots in one cut). By AI agents, Wed Nov 11 2026. No macro, syntax, notation, axiom, sorry.
-/
import Derived.Test.YtdemopkdcnaibaaGreatDoorChecked
import GoSem.Claim
import GoSem.ClaimJoined
import GoSem.ClaimMapViews
import Derived.JoinedTies
import Derived.KernelRfl
namespace Go.Proofs.YtdemopkdcnaibaaGreatDoor
/- THE CELL 'sum', in the pinned program and in every row, IS THE sha256 OF THE DUMP (.gsa) THAT YtdemopkdcnaibaaGreatDoorProg.lean LOADS. Nothing in Lean hashes anything: it is a label: what it is worth is what the hold of that sum in a sandbox is worth. -/
noncomputable def Tryz.pinned : Pinned := { name := "ytdemopkdcnaibaagreatdoor", sum := "ff30e41138454c725b975872b4130ec6cd9fb918c79797530245c61bad4d3588", checked := Tryz.checked }
namespace Rows
def none {H : Type} : Left H := { results := [], args := [] }

/- WHAT THE LISTED PACKAGE-LEVEL VARIABLES READ AS WHEN THE CALL BEGINS. Each datum BY PROGRAM (the guide's laid-datum.mjs) off the statement by which the dump's own 'gosem.cut.vars' lays the variable. In a bare row this is a premise. The card (YtdemopkdcnaibaaGreatDoorCards.lean) ties it to the program's text. -/
def laid_math_bits_deBruijn64tab {H : Type} : DataW H := .agg [.lit (.int .u8 0), .lit (.int .u8 1), .lit (.int .u8 56), .lit (.int .u8 2), .lit (.int .u8 57), .lit (.int .u8 49), .lit (.int .u8 28), .lit (.int .u8 3), .lit (.int .u8 61), .lit (.int .u8 58), .lit (.int .u8 42), .lit (.int .u8 50), .lit (.int .u8 38), .lit (.int .u8 29), .lit (.int .u8 17), .lit (.int .u8 4), .lit (.int .u8 62), .lit (.int .u8 47), .lit (.int .u8 59), .lit (.int .u8 36), .lit (.int .u8 45), .lit (.int .u8 43), .lit (.int .u8 51), .lit (.int .u8 22), .lit (.int .u8 53), .lit (.int .u8 39), .lit (.int .u8 33), .lit (.int .u8 30), .lit (.int .u8 24), .lit (.int .u8 18), .lit (.int .u8 12), .lit (.int .u8 5), .lit (.int .u8 63), .lit (.int .u8 55), .lit (.int .u8 48), .lit (.int .u8 27), .lit (.int .u8 60), .lit (.int .u8 41), .lit (.int .u8 37), .lit (.int .u8 16), .lit (.int .u8 46), .lit (.int .u8 35), .lit (.int .u8 44), .lit (.int .u8 21), .lit (.int .u8 52), .lit (.int .u8 32), .lit (.int .u8 23), .lit (.int .u8 11), .lit (.int .u8 54), .lit (.int .u8 26), .lit (.int .u8 40), .lit (.int .u8 15), .lit (.int .u8 34), .lit (.int .u8 20), .lit (.int .u8 31), .lit (.int .u8 10), .lit (.int .u8 25), .lit (.int .u8 14), .lit (.int .u8 19), .lit (.int .u8 9), .lit (.int .u8 13), .lit (.int .u8 8), .lit (.int .u8 7), .lit (.int .u8 6)]

/-- 'abacuslaw04.IeeeExact': WHATEVER THE INPUT: true; the input reads as it did. -/
def ieeeExactSpec : ChangeSpec := { name := "ieeeExact", fn := fun _ => fun
  | [d] => { results := [.lit (.bool true)], args := [d] }
  | _ => none }
def ieeeExactRow : OpenClaim := { program := "ytdemopkdcnaibaagreatdoor", sum := "ff30e41138454c725b975872b4130ec6cd9fb918c79797530245c61bad4d3588", func := "abacus/abacuslaw04.IeeeExact", spec := "ieeeExact", inPlace := ["math/bits.Add64", "math/bits.Sub64"], named := ["math/bits.deBruijn64tab", "math/bits.divideError", "math/bits.overflowError"], apart := false, laid := [("math/bits.deBruijn64tab", laid_math_bits_deBruijn64tab)] }
def IeeeExactSaid : Prop := ieeeExactRow.holds Tryz.pinned (OpenSpec.ofChange ieeeExactSpec)

/-- ITS FALSE NEIGHBOUR: 'it returns false'. Refute it at one input. -/
def ieeeExactWrong : ChangeSpec := { name := "ieeeExact", fn := fun _ => fun
  | [d] => { results := [.lit (.bool false)], args := [d] }
  | _ => none }
def IeeeExactWrongFalsely : Prop := ieeeExactRow.holds Tryz.pinned (OpenSpec.ofChange ieeeExactWrong)

/-- 'abacuslaw05.SoftFmas': WHATEVER THE INPUT: true; the input reads as it did. -/
def softFmasSpec : ChangeSpec := { name := "softFmas", fn := fun _ => fun
  | [d] => { results := [.lit (.bool true)], args := [d] }
  | _ => none }
def softFmasRow : OpenClaim := { program := "ytdemopkdcnaibaagreatdoor", sum := "ff30e41138454c725b975872b4130ec6cd9fb918c79797530245c61bad4d3588", func := "abacus/abacuslaw05.SoftFmas", spec := "softFmas", inPlace := ["math/bits.Add64", "math/bits.Sub64"], named := ["math/bits.deBruijn64tab", "math/bits.divideError", "math/bits.overflowError"], apart := false, laid := [("math/bits.deBruijn64tab", laid_math_bits_deBruijn64tab)] }
def SoftFmasSaid : Prop := softFmasRow.holds Tryz.pinned (OpenSpec.ofChange softFmasSpec)

/-- ITS FALSE NEIGHBOUR: 'it returns false'. Refute it at one input. -/
def softFmasWrong : ChangeSpec := { name := "softFmas", fn := fun _ => fun
  | [d] => { results := [.lit (.bool false)], args := [d] }
  | _ => none }
def SoftFmasWrongFalsely : Prop := softFmasRow.holds Tryz.pinned (OpenSpec.ofChange softFmasWrong)

/-- 'abacuslaw05.SoftTolds': WHATEVER THE INPUT: true; the input reads as it did. -/
def softToldsSpec : ChangeSpec := { name := "softTolds", fn := fun _ => fun
  | [d1, d2] => { results := [.lit (.bool true)], args := [d1, d2] }
  | _ => none }
def softToldsRow : OpenClaim := { program := "ytdemopkdcnaibaagreatdoor", sum := "ff30e41138454c725b975872b4130ec6cd9fb918c79797530245c61bad4d3588", func := "abacus/abacuslaw05.SoftTolds", spec := "softTolds", inPlace := ["math/bits.Add64", "math/bits.Sub64"], unfollowed := true, recurses := true, named := ["math/bits.deBruijn64tab", "math/bits.divideError", "math/bits.overflowError"], apart := false, laid := [("math/bits.deBruijn64tab", laid_math_bits_deBruijn64tab)] }
def SoftToldsSaid : Prop := softToldsRow.holds Tryz.pinned (OpenSpec.ofChange softToldsSpec)

/-- ITS FALSE NEIGHBOUR: 'it returns false'. Refute it at one input. -/
def softToldsWrong : ChangeSpec := { name := "softTolds", fn := fun _ => fun
  | [d1, d2] => { results := [.lit (.bool false)], args := [d1, d2] }
  | _ => none }
def SoftToldsWrongFalsely : Prop := softToldsRow.holds Tryz.pinned (OpenSpec.ofChange softToldsWrong)

/-- 'abacuslaw06.RemainAll': WHATEVER THE INPUT: true; the input reads as it did. -/
def remainAllSpec : ChangeSpec := { name := "remainAll", fn := fun _ => fun
  | [d] => { results := [.lit (.bool true)], args := [d] }
  | _ => none }
def remainAllRow : OpenClaim := { program := "ytdemopkdcnaibaagreatdoor", sum := "ff30e41138454c725b975872b4130ec6cd9fb918c79797530245c61bad4d3588", func := "abacus/abacuslaw06.RemainAll", spec := "remainAll", inPlace := ["math/bits.Add64", "math/bits.Sub64"], unfollowed := true, recurses := true, named := ["math/bits.deBruijn64tab", "math/bits.divideError", "math/bits.overflowError"], apart := false, laid := [("math/bits.deBruijn64tab", laid_math_bits_deBruijn64tab)] }
def RemainAllSaid : Prop := remainAllRow.holds Tryz.pinned (OpenSpec.ofChange remainAllSpec)

/-- ITS FALSE NEIGHBOUR: 'it returns false'. Refute it at one input. -/
def remainAllWrong : ChangeSpec := { name := "remainAll", fn := fun _ => fun
  | [d] => { results := [.lit (.bool false)], args := [d] }
  | _ => none }
def RemainAllWrongFalsely : Prop := remainAllRow.holds Tryz.pinned (OpenSpec.ofChange remainAllWrong)

/-- 'abacuslaw20.CharsSubstrs': WHATEVER THE INPUT: true; the input reads as it did. -/
def charsSubstrsSpec : ChangeSpec := { name := "charsSubstrs", fn := fun _ => fun
  | [d] => { results := [.lit (.bool true)], args := [d] }
  | _ => none }
def charsSubstrsRow : OpenClaim := { program := "ytdemopkdcnaibaagreatdoor", sum := "ff30e41138454c725b975872b4130ec6cd9fb918c79797530245c61bad4d3588", func := "abacus/abacuslaw20.CharsSubstrs", spec := "charsSubstrs", inPlace := ["math/bits.Add64", "math/bits.Sub64"], unfollowed := true, recurses := true, named := ["math/bits.deBruijn64tab"], apart := false, laid := [("math/bits.deBruijn64tab", laid_math_bits_deBruijn64tab)] }
def CharsSubstrsSaid : Prop := charsSubstrsRow.holds Tryz.pinned (OpenSpec.ofChange charsSubstrsSpec)

/-- ITS FALSE NEIGHBOUR: 'it returns false'. Refute it at one input. -/
def charsSubstrsWrong : ChangeSpec := { name := "charsSubstrs", fn := fun _ => fun
  | [d] => { results := [.lit (.bool false)], args := [d] }
  | _ => none }
def CharsSubstrsWrongFalsely : Prop := charsSubstrsRow.holds Tryz.pinned (OpenSpec.ofChange charsSubstrsWrong)

/- THE SECOND FORM. 'bulk': how many values and letters a reading holds, each counted each time it is reached (what is shared counts as often as it is met; a slice's spare places count too). A statement '..UptoSaid' is the law's where the arguments, and the package variables that the reading takes, are together of bulk at most 1048576: NARROWER than '..Said'. Prove '..Said' where nothing that the law and all that it calls make is longer than what came in: it says more and counts as full. Else prove '..UptoSaid'. A law counts once. -/
mutual
def uptoBulk {H : Type} : DataW H → Nat
  | .lit (.string bytes) => bytes.length + 1
  | .lit _ => 1
  | .nil => 1
  | .ptr d => uptoBulk d + 1
  | .slice elems spare => uptoBulkAll elems + uptoBulkAll spare + 1
  | .agg parts => uptoBulkAll parts + 1
  | .iface _ d => uptoBulk d + 1
  | .map entries => uptoBulkEntries entries + 1
  | .held _ => 1
def uptoBulkAll {H : Type} : List (DataW H) → Nat
  | [] => 0
  | d :: r => uptoBulk d + uptoBulkAll r
def uptoBulkEntries {H : Type} : List (Lit × DataW H) → Nat
  | [] => 0
  | x :: r => uptoBulkEntry x + uptoBulkEntries r
def uptoBulkEntry {H : Type} : Lit × DataW H → Nat
  | (.string bytes, d) => bytes.length + uptoBulk d + 1
  | (_, d) => uptoBulk d + 1
 end
def uptoSmall : (H : Type) → List (DataW H) → Bool := fun _ ds => decide (uptoBulkAll ds ≤ 1048576)
def OpenSpec.upto (s : _root_.Go.ChangeSpec) : _root_.Go.OpenSpec := { _root_.Go.OpenSpec.ofChange s with cond := some uptoSmall }

/-- 'abacuslaw04.IeeeExact', WHERE WHAT IT READS IS OF BULK AT MOST 1048576: true; the input reads as it did. -/
def ieeeExactUptoRow : OpenClaim := { program := "ytdemopkdcnaibaagreatdoor", sum := "ff30e41138454c725b975872b4130ec6cd9fb918c79797530245c61bad4d3588", func := "abacus/abacuslaw04.IeeeExact", spec := "ieeeExact", inPlace := ["math/bits.Add64", "math/bits.Sub64"], named := ["math/bits.deBruijn64tab", "math/bits.divideError", "math/bits.overflowError"], apart := false, laid := [("math/bits.deBruijn64tab", laid_math_bits_deBruijn64tab)], narrowed := true }
def IeeeExactUptoSaid : Prop := ieeeExactUptoRow.holds Tryz.pinned (OpenSpec.upto ieeeExactSpec)

/-- 'abacuslaw05.SoftFmas', WHERE WHAT IT READS IS OF BULK AT MOST 1048576: true; the input reads as it did. -/
def softFmasUptoRow : OpenClaim := { program := "ytdemopkdcnaibaagreatdoor", sum := "ff30e41138454c725b975872b4130ec6cd9fb918c79797530245c61bad4d3588", func := "abacus/abacuslaw05.SoftFmas", spec := "softFmas", inPlace := ["math/bits.Add64", "math/bits.Sub64"], named := ["math/bits.deBruijn64tab", "math/bits.divideError", "math/bits.overflowError"], apart := false, laid := [("math/bits.deBruijn64tab", laid_math_bits_deBruijn64tab)], narrowed := true }
def SoftFmasUptoSaid : Prop := softFmasUptoRow.holds Tryz.pinned (OpenSpec.upto softFmasSpec)

/-- 'abacuslaw05.SoftTolds', WHERE WHAT IT READS IS OF BULK AT MOST 1048576: true; the input reads as it did. -/
def softToldsUptoRow : OpenClaim := { program := "ytdemopkdcnaibaagreatdoor", sum := "ff30e41138454c725b975872b4130ec6cd9fb918c79797530245c61bad4d3588", func := "abacus/abacuslaw05.SoftTolds", spec := "softTolds", inPlace := ["math/bits.Add64", "math/bits.Sub64"], unfollowed := true, recurses := true, named := ["math/bits.deBruijn64tab", "math/bits.divideError", "math/bits.overflowError"], apart := false, laid := [("math/bits.deBruijn64tab", laid_math_bits_deBruijn64tab)], narrowed := true }
def SoftToldsUptoSaid : Prop := softToldsUptoRow.holds Tryz.pinned (OpenSpec.upto softToldsSpec)

/-- 'abacuslaw06.RemainAll', WHERE WHAT IT READS IS OF BULK AT MOST 1048576: true; the input reads as it did. -/
def remainAllUptoRow : OpenClaim := { program := "ytdemopkdcnaibaagreatdoor", sum := "ff30e41138454c725b975872b4130ec6cd9fb918c79797530245c61bad4d3588", func := "abacus/abacuslaw06.RemainAll", spec := "remainAll", inPlace := ["math/bits.Add64", "math/bits.Sub64"], unfollowed := true, recurses := true, named := ["math/bits.deBruijn64tab", "math/bits.divideError", "math/bits.overflowError"], apart := false, laid := [("math/bits.deBruijn64tab", laid_math_bits_deBruijn64tab)], narrowed := true }
def RemainAllUptoSaid : Prop := remainAllUptoRow.holds Tryz.pinned (OpenSpec.upto remainAllSpec)

/-- 'abacuslaw20.CharsSubstrs', WHERE WHAT IT READS IS OF BULK AT MOST 1048576: true; the input reads as it did. -/
def charsSubstrsUptoRow : OpenClaim := { program := "ytdemopkdcnaibaagreatdoor", sum := "ff30e41138454c725b975872b4130ec6cd9fb918c79797530245c61bad4d3588", func := "abacus/abacuslaw20.CharsSubstrs", spec := "charsSubstrs", inPlace := ["math/bits.Add64", "math/bits.Sub64"], unfollowed := true, recurses := true, named := ["math/bits.deBruijn64tab"], apart := false, laid := [("math/bits.deBruijn64tab", laid_math_bits_deBruijn64tab)], narrowed := true }
def CharsSubstrsUptoSaid : Prop := charsSubstrsUptoRow.holds Tryz.pinned (OpenSpec.upto charsSubstrsSpec)

end Rows
end Go.Proofs.YtdemopkdcnaibaaGreatDoor
