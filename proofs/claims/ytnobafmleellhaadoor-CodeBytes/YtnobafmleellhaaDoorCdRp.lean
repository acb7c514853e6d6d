/-
  code's reader: the digits of a number.
-/
import Derived.Test.YtnobafmleellhaaDoorCdRa
namespace Go.Proofs.YtnobafmleellhaaDoor
open Go Go.RowKit Go.Deep Go.Shelf

namespace Cd
theorem nbl_more {first k i n : Nat} {B : Ch.L8} {s : Rd} (h : 128 ≤ (next B s).1.toNat) : nbl first (k + 1) i n B s = nbl first k (i + 1) (n + (next B s).1.toNat % 128 * 2 ^ (7 * i)) B (next B s).2 := by
  show (if 128 ≤ (next B s).1.toNat then nbl first k (i + 1) (n + (next B s).1.toNat % 128 * 2 ^ (7 * i)) else nbe first i (n + (next B s).1.toNat % 128 * 2 ^ (7 * i)) (next B s).1) B (next B s).2 = _
  rw [if_pos h]
theorem nbl_last {first k i n : Nat} {B : Ch.L8} {s : Rd} (h : ¬ 128 ≤ (next B s).1.toNat) : nbl first (k + 1) i n B s = nbe first i (n + (next B s).1.toNat * 2 ^ (7 * i)) (next B s).1 B (next B s).2 := by
  show (if 128 ≤ (next B s).1.toNat then nbl first k (i + 1) (n + (next B s).1.toNat % 128 * 2 ^ (7 * i)) else nbe first i (n + (next B s).1.toNat % 128 * 2 ^ (7 * i)) (next B s).1) B (next B s).2 = _
  rw [if_neg h, Nat.mod_eq_of_lt (by omega)]
theorem rf_some (s : Rd) (p : Nat) : (rf s p).f.isSome = true := by
  unfold rf
  split
  · assumption
  · rfl
theorem nbe_yes {first i n : Nat} {c : UInt8} {B : Ch.L8} {s : Rd} (h : (c.toNat = 0 ∧ 0 < i) ∨ 2147483647 < n) : nbe first i n c B s = (0, rf s first) := by
  unfold nbe
  simp only [if_pos h, rf_some, if_true]
theorem nbe_no {first i n : Nat} {c : UInt8} {B : Ch.L8} {s : Rd} (h : ¬ ((c.toNat = 0 ∧ 0 < i) ∨ 2147483647 < n)) : nbe first i n c B s = (if s.f.isSome then 0 else n, s) := by
  unfold nbe
  simp only [if_neg h]
  split <;> rfl
theorem nbl_end {first i n : Nat} {B : Ch.L8} {s : Rd} : nbl first 0 i n B s = (0, rf s first) := rfl
end Cd
end Go.Proofs.YtnobafmleellhaaDoor
