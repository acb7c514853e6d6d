/-
  The document's put.
-/
import Derived.Test.YtonnlimmjelldaaGreatDoorIWalk1C
namespace Go.Proofs.YtonnlimmjelldaaGreatDoor
open Go Go.RowKit Go.Deep

theorem ret_sg {neg : Bool} {a b : Int} (h : a = b) : Ending.returned (.tuple #[.int .u64 (Ie.sg neg a), .int .i64 0]) = .returned (.tuple #[.int .u64 (Ie.sg neg b), .int .i64 0]) := by rw [h]
end Go.Proofs.YtonnlimmjelldaaGreatDoor
