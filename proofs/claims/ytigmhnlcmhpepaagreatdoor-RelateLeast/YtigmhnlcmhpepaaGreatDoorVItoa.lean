/-
  strconv.Itoa, by the shelf's contract; in our words.
-/
import Derived.Test.YtigmhnlcmhpepaaGreatDoorVStr
import Derived.Shelf.Strconv.Itoa3
namespace Go.Proofs.YtigmhnlcmhpepaaGreatDoor
open Go Go.RowKit Go.Deep Go.Shelf

def Tab10 (w : World) : Prop := Lib.TabIs Tryz.prog w "internal/strconv.uint64pow10" .u64 Lib.pow10Tab

def itl (n : Int) : List Int := (Lib.itoa n).map fun b => (b.toNat : Int)
theorem itl_str (n : Int) : Str ⟨(Lib.itoa n).toArray⟩ (itl n) := rfl

theorem below_grown {w : World} (k : Nat) (os : Array Obj) : Below w.heap.size w (Go.Sort.grow (w.drewN k) os) := by
  refine ⟨rfl, rfl, rfl, ?_, fun j hj => ?_⟩
  · show w.heap.size ≤ (w.heap ++ os).size
    simp
  · show (w.heap ++ os)[j]? = w.heap[j]?
    rw [Array.getElem?_append_left hj]

end Go.Proofs.YtigmhnlcmhpepaaGreatDoor
