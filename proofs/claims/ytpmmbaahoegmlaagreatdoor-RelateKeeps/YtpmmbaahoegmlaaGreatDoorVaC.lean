/-
  value: inside.
-/
import Derived.Test.YtpmmbaahoegmlaaGreatDoorV0
import Derived.Test.YtpmmbaahoegmlaaGreatDoorVStr
import Derived.Deep.LoopGhost
import Derived.Deep.RegionHeld3
import Derived.Deep.CutBlock
import Derived.Deep.CutRange
import Derived.Deep.DeepCutAuto
namespace Go.Proofs.YtpmmbaahoegmlaaGreatDoor
open Go Go.RowKit Go.Deep

namespace Va
/-- What counts in a raw value. -/
def ins (k n : Int) (s : ByteArray) : Value := if k = 1 then .iface 81 (.agg #[.int .u64 n]) else if k = 2 then .iface 77 (.agg #[.string s]) else if k = 3 then .iface 83 (.agg #[.int .u64 n, .string s]) else .iface 112 (.agg #[])
end Va

set_option maxRecDepth 100000 in
theorem vinside_any (k n : Int) (s : ByteArray) (w : World) :
    Calls Tryz.prog 35 #[.agg #[.int .i64 k, .int .u64 n, .string s]] w fun e w' => e = .returned (Va.ins k n s) ∧ Below w.heap.size w w' := by
  have B := hid (alloc_b w (.cells #[.int .i64 k, .int .u64 n, .string s] 26))
  by_cases k1 : k = 1
  · subst k1
    go_enter Tryz.func35, Tryz.ntmps35
    go_wp2_with fail
    go_ret
    exact ⟨rfl, B.out⟩
  have e1 : (k == 1) = false := by simpa using k1
  by_cases k2 : k = 2
  · subst k2
    go_enter Tryz.func35, Tryz.ntmps35
    go_wp2_with fail
    go_ret
    exact ⟨rfl, B.out⟩
  have e2 : (k == 2) = false := by simpa using k2
  by_cases k3 : k = 3
  · subst k3
    go_enter Tryz.func35, Tryz.ntmps35
    go_wp2_with fail
    go_ret
    exact ⟨rfl, B.out⟩
  have e3 : (k == 3) = false := by simpa using k3
  have F : Hid (Va.ins k n s = .iface 112 (.agg #[])) := by rw [Hid, Va.ins, if_neg k1, if_neg k2, if_neg k3]
  clear k1 k2 k3
  go_enter Tryz.func35, Tryz.ntmps35
  go_wp2_with fail
  go_ret
  exact ⟨by rw [F.out]; rfl, B.out⟩
end Go.Proofs.YtpmmbaahoegmlaaGreatDoor
