/-
  abacuslaw18's RelateLeast over calls that were handed in.
-/
import Derived.Test.YtigmhnlcmhpepaaGreatDoorReLe
import Derived.Test.YtigmhnlcmhpepaaGreatDoorGL
namespace Go.Proofs.YtigmhnlcmhpepaaGreatDoor
open Go Go.RowKit Go.Deep Go.Shelf

theorem rleast_ops (p : Option Addr) (len cap : Nat) (A : List Re.Op) (w : World) (ht : Tab10 w) (hx : A.length = len) (hv : Re.LO w p A) (hw : ∀ o ∈ A, Re.OpW o) (hl : len ≤ cap) (hc : cap ≤ 4398046511104) :
    Calls Tryz.prog 4 #[.slice p len cap] w fun e w' => e = .returned (.bool true) ∧ Below w.heap.size w w' := by
  subst hx
  exact rleast_law p cap A w ht hv hw (Nat.le_trans hl hc)
end Go.Proofs.YtigmhnlcmhpepaaGreatDoor
