/-
  Strings, from the text that has them.
-/
import Derived.Test.YtaoaniigbooihabGreatDoorNMem
import Derived.Test.YtaoaniigbooihabGreatDoorVStr
