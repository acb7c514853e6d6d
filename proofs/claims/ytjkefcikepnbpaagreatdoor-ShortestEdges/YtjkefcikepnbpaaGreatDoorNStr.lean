/-
  Strings, from the text that has them.
-/
import Derived.Test.YtjkefcikepnbpaaGreatDoorNMem
import Derived.Test.YtjkefcikepnbpaaGreatDoorVStr
