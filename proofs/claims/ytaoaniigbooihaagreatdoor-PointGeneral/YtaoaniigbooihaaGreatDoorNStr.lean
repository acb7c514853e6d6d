/-
  Strings, from the text that has them.
-/
import Derived.Test.YtaoaniigbooihaaGreatDoorNMem
import Derived.Test.YtaoaniigbooihaaGreatDoorVStr
