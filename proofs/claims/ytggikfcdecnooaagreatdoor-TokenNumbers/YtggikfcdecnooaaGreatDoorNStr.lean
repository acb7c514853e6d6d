/-
  Strings, from the text that has them.
-/
import Derived.Test.YtggikfcdecnooaaGreatDoorNMem
import Derived.Test.YtggikfcdecnooaaGreatDoorVStr
