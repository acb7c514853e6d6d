/-
  cmp.Compare at int.
-/
import Derived.Test.YtigmhnlcmhpepaaGreatDoorV0
import Derived.Test.YtigmhnlcmhpepaaGreatDoorGA
namespace Go.Proofs.YtigmhnlcmhpepaaGreatDoor
open Go Go.RowKit Go.Deep

theorem isnan_any (x : Int) (w : World) : Calls Tryz.prog 52 #[.int .i64 x] w fun e w' => e = .returned (.bool false) ∧ w' = w := by
  have h : (x != x) = false := by simp
  go_enter Tryz.func52, Tryz.ntmps52
  go_wp2_with fail
  go_ret
  exact ⟨by simp, rfl⟩

theorem cmpint_any (x y : Int) (w : World) : Calls Tryz.prog 39 #[.int .i64 x, .int .i64 y] w fun e w' => e = .returned (.int .i64 (Sc.cmpI x y)) ∧ w' = w := by
  have X := hid (fun wx => isnan_any x wx)
  have Y := hid (fun wx => isnan_any y wx)
  have C := hid (Sc.cmpI_c x y)
  go_enter Tryz.func39, Tryz.ntmps39
  go_wp2_with fail
  refine (X.out _).mono ?_
  rintro e w1 ⟨rfl, rfl⟩
  go_wp2_with fail
  refine (Y.out _).mono ?_
  rintro e w1 ⟨rfl, rfl⟩
  go_wp2_with fail
  all_goals (go_ret; exact ⟨congrArg (fun z => Ending.returned (.int .i64 z)) (by have := C.out; omega), rfl⟩)
end Go.Proofs.YtigmhnlcmhpepaaGreatDoor
