import Derived.Test.YtdemopkdcnaibaaGreatDoorIOrdD
/-
  Orders as numbers.
-/
namespace Go.Proofs.YtdemopkdcnaibaaGreatDoor
open Go Go.RowKit Go.Deep

namespace Ie
/-- Where a pattern stands in the order of all. -/
def plc (d : Int) : Int := if d < 9223372036854775808 then d else 9223372036854775807 - d
/-- -1, 0 or 1. -/
def cm (a b : Int) : Int := if a < b then -1 else if b < a then 1 else 0
end Ie

namespace Ie
/-- Compare's number. -/
def cmv (a b : Int) : Int := if okd a = true ∧ okd b = true then cm (rk a) (rk b) else 0
end Ie
end Go.Proofs.YtdemopkdcnaibaaGreatDoor
