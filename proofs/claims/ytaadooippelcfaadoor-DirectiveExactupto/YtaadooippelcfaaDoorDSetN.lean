/-
  WHAT Settle TELLS, as numbers (of DSettle).
-/
import Derived.Test.YtaadooippelcfaaDoorDBackN
import Derived.WalkKit
namespace Go.Proofs.YtaadooippelcfaaDoor
open Go

def sW (p : Dr.Pc) (x : Int) : Int := if p.wk = 2 then x else p.wd
def sP (p : Dr.Pc) (y : Int) : Int := if p.pk = 0 then -1 else if p.pk = 2 then max y (-1) else p.pr
def ste (p : Dr.Pc) (x y : Int) : Int := if Dr.isR p then (if sW p x < -4096 ∨ 4096 < sW p x ∨ 4096 < sP p y then 6 else 0) else 132
def spv (p : Dr.Pc) (x y : Int) : Array Value := if ste p x y = 0 then #[.int .u8 p.v, .int .i64 (if sW p x < 0 then bits .or .i64 p.fl 1 else p.fl), .int .i64 (if sW p x < 0 then - sW p x else sW p x), .int .i64 (sP p y)] else #[.int .u8 0, .int .i64 0, .int .i64 0, .int .i64 0]
end Go.Proofs.YtaadooippelcfaaDoor
