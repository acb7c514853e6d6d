/-
  Strings, from the text that has them.
-/
import Derived.Test.YtbldddagddmbgaaDoorNMem
import Derived.Test.YtbldddagddmbgaaDoorVStr
