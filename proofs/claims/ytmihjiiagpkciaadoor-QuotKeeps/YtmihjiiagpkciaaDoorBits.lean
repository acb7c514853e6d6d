/-
  math/bits: Mul64, over Int, at this program's own numbers.
-/
import Derived.Test.YtmihjiiagpkciaaDoorBitsA
import Derived.Shelf.Bits.Mul64
namespace Go.Proofs.YtmihjiiagpkciaaDoor
open Go.RowKit Go.Deep

/-- The kit's contract for Mul64, laid at this program. -/
def mulRen : Go.Shelf.Ren := ⟨fun _ => 74, fun t => if t = 53 then 26 else 62, fun g => g⟩
theorem mulLays : Lays.n264 Tryd.prog mulRen where
  mixed := by kernel_rfl
  f264 := by kernel_rfl
  t46 := by kernel_rfl
  a46 := fun _ => by kernel_rfl
  z46 := fun _ => by kernel_rfl
  v46 := fun _ => by kernel_rfl
  t53 := by kernel_rfl
  a53 := fun _ => by kernel_rfl
  z53 := fun _ => by kernel_rfl
  v53 := fun _ => by kernel_rfl

theorem mul64_nat (x y : Nat) (hx : x < 18446744073709551616) (hy : y < 18446744073709551616) (w : World) :
    Calls Tryd.prog 74 #[.int .u64 x, .int .u64 y] w fun e w' => e = .returned (.tuple #[.int .u64 ((x * y / 18446744073709551616 : Nat) : Int), .int .u64 ((x * y % 18446744073709551616 : Nat) : Int)]) ∧ w' = w :=
  Any.bits_Mul64 mulLays x y hx hy w

/-- Mul64: the two limbs of the product, under names. -/
theorem mul64 (x y : Int) (hx : 0 ≤ x) (hx' : x < 18446744073709551616) (hy : 0 ≤ y) (hy' : y < 18446744073709551616) (w : World) :
    Calls Tryd.prog 74 #[.int .u64 x, .int .u64 y] w fun e w' => ∃ h l : Int, e = .returned (.tuple #[.int .u64 h, .int .u64 l]) ∧ (0 ≤ h ∧ h ≤ 18446744073709551614 ∧ 0 ≤ l ∧ l < 18446744073709551616) ∧ Hid (l + 18446744073709551616 * h = x * y) ∧ Hid (h = x * y / 18446744073709551616) ∧ w' = w := by
  obtain ⟨x, rfl⟩ := Int.eq_ofNat_of_zero_le hx
  obtain ⟨y, rfl⟩ := Int.eq_ofNat_of_zero_le hy
  refine (mul64_nat x y (by omega) (by omega) w).mono ?_
  rintro e w' ⟨rfl, rfl⟩
  have hb : x * y ≤ 18446744073709551615 * 18446744073709551615 := Nat.mul_le_mul (by omega) (by omega)
  have hc : ((x * y : Nat) : Int) = (x : Int) * (y : Int) := Int.natCast_mul x y
  rw [← hc]
  refine ⟨_, _, rfl, ?_, ?_, ?_, rfl⟩
  · generalize x * y = t at hb
    omega
  · show _ = _
    generalize x * y = t
    omega
  · show _ = _
    generalize x * y = t
    omega
end Go.Proofs.YtmihjiiagpkciaaDoor
