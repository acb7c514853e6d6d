/-
  Sub, from the text that has it.
-/
import Derived.Test.YtkmadibfiikleaaDoorSub
