/-
  Strings, from the text that has them.
-/
import Derived.Test.YtmdcilllcgaliaaGreatDoorNMem
import Derived.Test.YtmdcilllcgaliaaGreatDoorVStr
