/-
  Strings, from the text that has them.
-/
import Derived.Test.YtonnlimmjelldaaGreatDoorNMem
import Derived.Test.YtonnlimmjelldaaGreatDoorVStr
