/-
  Squeezed.
-/
import Derived.Test.YtbdhlfklcdegdaaGreatDoorWAT
namespace Go.Proofs.YtbdhlfklcdegdaaGreatDoor
open Go Go.RowKit Go.Deep
namespace Fx
end Fx
end Go.Proofs.YtbdhlfklcdegdaaGreatDoor
