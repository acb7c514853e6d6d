/-
  Two Specs held against each other (split of DSgC).
-/
import Derived.Test.YtaadooippelcfaaDoorDSetN
import Derived.Test.YtaadooippelcfaaDoorS4B
import Derived.Test.YtaadooippelcfaaDoorDForm
namespace Go.Proofs.YtaadooippelcfaaDoor
open Go Go.RowKit Go.Deep Go.Shelf

theorem eq_spec13 (v f a b v' f' a' b' : Int) (w : World) : (Op.equalIn 10000 46 (.agg #[.int .u8 v, .int .i64 f, .int .i64 a, .int .i64 b]) (.agg #[.int .u8 v', .int .i64 f', .int .i64 a', .int .i64 b'])).run Tryd.prog w = .ok (v == v' && f == f' && a == a' && b == b') w := by
  have u3 := Tryd.underlying3
  have a3 := Tryd.isAgg3
  have z3 := Tryd.sizeOf3
  have u5 := Tryd.underlying5
  have a5 := Tryd.isAgg5
  have z5 := Tryd.sizeOf5
  have hS : Tryd.prog.underlying 46 = some (.struct (Tryd.prog.fieldsOf 46)) := by kernel_rfl
  rw [show (10000 : Nat) = 9999 + 1 from rfl, run_equalIn_struct w 9999 46 _ _ hS (by kernel_rfl)]
  simp only [Program.fieldsOf, Tryd.underlying46]
  go_simp
  by_cases h2 : v = v' <;> by_cases h3 : f = f' <;> by_cases h4 : a = a' <;> by_cases h5 : b = b' <;> simp [h2, h3, h4, h5]
end Go.Proofs.YtaadooippelcfaaDoor
