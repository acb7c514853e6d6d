/-
  Strings, from the text that has them.
-/
import Derived.Test.YtbldddagddmbgabDoorNMem
import Derived.Test.YtbldddagddmbgabDoorVStr
