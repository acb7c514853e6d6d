/-
  Bytes in memory: what ChRow wants where there are no lists of texts.
-/
import Derived.Test.YtcigpfnlkjoibaaVStr
import Derived.Test.YtcigpfnlkjoibaaChN
import Derived.Laws.OwnMore
import Derived.OwnWalk
import Derived.Deep.LoopGhost
import Derived.Shelf.Vars
import Derived.Shelf.Pu.Clone
