/-
  abacuslaw26: CodeHeights.
-/
import Derived.Test.YtnobafmleellhaaDoorCdZ2
namespace Go.Proofs.YtnobafmleellhaaDoor
open Go Go.RowKit Go.Deep Go.Shelf

theorem heights_law (l : List Cd.In) (nums : List Int) (strs : List ByteArray) (p q r : Option Addr) (cap c2 c3 : Nat) (w : World) (hT : Tab10 w) (hL : Cd.LI w p l) (hQ : Cd.NI w q nums) (hR : TR w r strs) (hU : Cd.U64 nums) (hZ : ∀ s ∈ strs, s.size ≤ 9223372036854775807) (hn : l.length ≤ 9223372036854775807) (hN : nums.length ≤ 9223372036854775807) (hS : strs.length ≤ 9223372036854775807) :
    Calls Tryd.prog 5 #[.agg #[.slice p l.length cap, .slice q nums.length c2, .slice r strs.length c3]] w fun e w' => e = .returned (.bool true) ∧ Below w.heap.size w w' := by
  rcases Cd.hts_err l nums.length strs.length with h | h
  · exact heights_ok l nums strs p q r cap c2 c3 w hT hL hQ hR hU hZ hn hN hS h
  · exact heights_err l nums strs p q r cap c2 c3 w hT hL hQ hR hU hZ hn hN hS h.1
end Go.Proofs.YtnobafmleellhaaDoor
