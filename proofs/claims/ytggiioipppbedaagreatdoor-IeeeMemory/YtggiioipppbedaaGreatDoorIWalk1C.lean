import Derived.Test.YtggiioipppbedaaGreatDoorIBit
import Derived.Test.YtggiioipppbedaaGreatDoorMem
/-
  ieee: field, Class, signed, within, Neg, Abs, place; cmp.Compare of two int64.
-/
namespace Go.Proofs.YtggiioipppbedaaGreatDoor
open Go Go.RowKit Go.Deep

namespace Ie
/-- The exponent field. -/
def fld (d : Int) : Int := d / 4503599627370496 % 2048

/-- The class. -/
def cls (d : Int) : Int :=
  if fld d = 0 then (if d % 4503599627370496 = 0 then 0 else 1)
  else if fld d = 2047 then (if d % 4503599627370496 = 0 then 3 else 4) else 2
end Ie

theorem i_retI {a b : Int} (h : a = b) : Ending.returned (.int .i64 a) = .returned (.int .i64 b) := by rw [h]
theorem i_retU {a b : Int} (h : a = b) : Ending.returned (.int .u64 a) = .returned (.int .u64 b) := by rw [h]

/-- The bits of a double with a sign. -/
def Ie.sg (neg : Bool) (x : Int) : Int := if neg = true then x + 9223372036854775808 else x

set_option maxRecDepth 100000 in
theorem signed_any (neg : Bool) (d : Int) (w : World) (h0 : 0 ≤ d) (h1 : d < 9223372036854775808) :
    Calls Tryz.prog 48 #[.bool neg, .int .u64 d] w fun e w' => e = .returned (.int .u64 (Ie.sg neg d)) ∧ w' = w := by
  have B := Ib.sign_or d h0 h1
  cases neg
  · go_enter Tryz.func48, Tryz.ntmps48
    go_wp2
    go_ret
    exact ⟨rfl, rfl⟩
  · go_enter Tryz.func48, Tryz.ntmps48
    go_wp2
    go_ret
    exact ⟨rfl, rfl⟩

/-- An exponent held near to 0. -/
def Ie.win (e : Int) : Int := min (max e (-2097152)) 2097152

set_option maxRecDepth 100000 in
theorem within_any (x : Int) (w : World) :
    Calls Tryz.prog 51 #[.int .i64 x] w fun e w' => e = .returned (.int .i64 (Ie.win x)) ∧ w' = w := by
  rcases (show x < -2097152 ∨ (-2097152 ≤ x ∧ x ≤ 2097152) ∨ 2097152 < x by omega) with h | ⟨h, h'⟩ | h
  · have E : Hid (Ie.win x = -2097152) := by rw [Hid, Ie.win]; omega
    go_enter Tryz.func51, Tryz.ntmps51
    go_wp2
    go_ret
    exact ⟨i_retI E.out.symm, rfl⟩
  · have E : Hid (Ie.win x = x) := by rw [Hid, Ie.win]; omega
    go_enter Tryz.func51, Tryz.ntmps51
    go_wp2
    go_ret
    exact ⟨i_retI E.out.symm, rfl⟩
  · have E : Hid (Ie.win x = 2097152) := by rw [Hid, Ie.win]; omega
    go_enter Tryz.func51, Tryz.ntmps51
    go_wp2
    go_ret
    exact ⟨i_retI E.out.symm, rfl⟩


/-- The sign bit turned. -/
def Ie.ng (d : Int) : Int := if d < 9223372036854775808 then d + 9223372036854775808 else d - 9223372036854775808
end Go.Proofs.YtggiioipppbedaaGreatDoor
