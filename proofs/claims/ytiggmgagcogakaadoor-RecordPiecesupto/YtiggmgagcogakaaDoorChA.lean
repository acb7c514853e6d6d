/-
  chars: length, Join, Cat; Index; blanks; law20's alike.
-/
import Derived.Test.YtiggmgagcogakaaDoorChMem
namespace Go.Proofs.YtiggmgagcogakaaDoor
open Go Go.RowKit Go.Deep Go.Shelf

namespace Ch
def jE (sep : L8) (xs : List ByteArray) : Int := if (jn sep xs).length ≤ 16777216 then 0 else 3
def jS (sep : L8) (xs : List ByteArray) : ByteArray := if (jn sep xs).length ≤ 16777216 then tx (jn sep xs) else tx []
end Ch
end Go.Proofs.YtiggmgagcogakaaDoor
