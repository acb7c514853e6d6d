/-
  Cmp, ITS ANSWER KNOWN BY NAME.
-/
import Derived.Test.YtmihjiiagpkciaaDoorSmallA
import Derived.Test.YtmihjiiagpkciaaDoorWalk5
namespace Go.Proofs.YtmihjiiagpkciaaDoor
open Go.RowKit Go.Deep

theorem cmp_is (c : Int) (p q : Option Addr) (n cap m cap' : Nat) (zs ys : List Int) (w : World) (ha : Arg w p n cap zs) (hb : Arg w q m cap' ys) (hc : cmpI (Nm.val zs) (Nm.val ys) = c) :
    Calls Tryd.prog 34 #[.slice p n cap, .slice q m cap'] w fun e w' => e = .returned (.int .i64 c) ∧ Below w.heap.size w w' := by
  rw [← hc]
  exact cmp_any p q n cap m cap' zs ys w ha hb
end Go.Proofs.YtmihjiiagpkciaaDoor
