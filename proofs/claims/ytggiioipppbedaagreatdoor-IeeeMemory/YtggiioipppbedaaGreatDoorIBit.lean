import Derived.Test.YtggiioipppbedaaGreatDoorMem
import Derived.Laws.BitsAllLaws
/-
  The bits of a double as numbers.
-/
namespace Go.Proofs.YtggiioipppbedaaGreatDoor
open Go
namespace Ib
theorem sign_and (d : Int) (h0 : 0 ≤ d) (h1 : d < 18446744073709551616) : bits .and .u64 d 9223372036854775808 = d / 9223372036854775808 * 9223372036854775808 := by
  obtain ⟨a, rfl⟩ := Int.eq_ofNat_of_zero_le h0
  have h := u64_and_nat a 9223372036854775808 (by omega) (by omega)
  rw [show ((9223372036854775808 : Nat) : Int) = 9223372036854775808 from rfl] at h
  rw [h, show (9223372036854775808 : Nat) = 2 ^ 63 from rfl, nat_bit]
  omega

theorem frac_and (d : Int) (h0 : 0 ≤ d) (h1 : d < 18446744073709551616) : bits .and .u64 d 4503599627370495 = d % 4503599627370496 := by
  obtain ⟨a, rfl⟩ := Int.eq_ofNat_of_zero_le h0
  have h := u64_and_nat a 4503599627370495 (by omega) (by omega)
  rw [show ((4503599627370495 : Nat) : Int) = 4503599627370495 from rfl] at h
  rw [h, nat_mask52]
  omega

theorem field_and (d : Int) (h0 : 0 ≤ d) (h1 : d < 18446744073709551616) : bits .and .u64 d 2047 = d % 2048 := by
  obtain ⟨a, rfl⟩ := Int.eq_ofNat_of_zero_le h0
  have h := u64_and_nat a 2047 (by omega) (by omega)
  rw [show ((2047 : Nat) : Int) = 2047 from rfl] at h
  rw [h, nat_mask11]
  omega

theorem one_and (d : Int) (h0 : 0 ≤ d) (h1 : d < 18446744073709551616) : bits .and .u64 d 1 = d % 2 := by
  obtain ⟨a, rfl⟩ := Int.eq_ofNat_of_zero_le h0
  have h := u64_and_nat a 1 (by omega) (by omega)
  rw [show ((1 : Nat) : Int) = 1 from rfl] at h
  rw [h, nat_mask1]
  omega

theorem hidden_or (d : Int) (h0 : 0 ≤ d) (h1 : d < 4503599627370496) : bits .or .u64 4503599627370496 d = 4503599627370496 + d := by
  obtain ⟨a, rfl⟩ := Int.eq_ofNat_of_zero_le h0
  have h := u64_or_nat 4503599627370496 a (by omega) (by omega)
  rw [show ((4503599627370496 : Nat) : Int) = 4503599627370496 from rfl] at h
  rw [h, nat_join 52 _ _ (by decide) (by omega)]
  omega

theorem sign_or (d : Int) (h0 : 0 ≤ d) (h1 : d < 9223372036854775808) : bits .or .u64 d 9223372036854775808 = d + 9223372036854775808 := by
  obtain ⟨a, rfl⟩ := Int.eq_ofNat_of_zero_le h0
  have h := u64_or_nat a 9223372036854775808 (by omega) (by omega)
  rw [show ((9223372036854775808 : Nat) : Int) = 9223372036854775808 from rfl] at h
  rw [h, Nat.or_comm, nat_join 63 _ _ (by decide) (by omega)]
  omega

/-- What lies in the fraction and what lies in the field don't meet. -/
theorem field_or (d f : Int) (h0 : 0 ≤ d) (h1 : d < 4503599627370496) (f0 : 0 ≤ f) (f1 : f < 4096) : bits .or .u64 d (f * 4503599627370496) = d + f * 4503599627370496 := by
  obtain ⟨a, rfl⟩ := Int.eq_ofNat_of_zero_le h0
  obtain ⟨b, rfl⟩ := Int.eq_ofNat_of_zero_le f0
  have h := u64_or_nat a (b * 4503599627370496) (by omega) (by omega)
  rw [show ((b * 4503599627370496 : Nat) : Int) = (b : Int) * 4503599627370496 by omega] at h
  rw [h, Nat.or_comm, nat_join 52 _ _ (by omega) (by omega)]
  omega

theorem xor_lo (a : Nat) (h : a < 2 ^ 63) : a ^^^ 2 ^ 63 = a + 2 ^ 63 := by
  have hj : 2 ^ 63 ||| a = 2 ^ 63 + a := nat_join 63 _ _ (by decide) h
  rw [Nat.add_comm, ← hj]
  apply Nat.eq_of_testBit_eq
  intro j
  rw [Nat.testBit_xor, Nat.testBit_or, Nat.testBit_two_pow]
  by_cases e : 63 = j
  · subst e
    rw [Nat.testBit_lt_two_pow h]
    decide
  · simp [e]

theorem sign_xor (d : Int) (h0 : 0 ≤ d) (h1 : d < 18446744073709551616) : bits .xor .u64 d 9223372036854775808 = if d < 9223372036854775808 then d + 9223372036854775808 else d - 9223372036854775808 := by
  obtain ⟨a, rfl⟩ := Int.eq_ofNat_of_zero_le h0
  have h := u64_xor_nat a 9223372036854775808 (by omega) (by omega)
  rw [show ((9223372036854775808 : Nat) : Int) = 9223372036854775808 from rfl] at h
  rw [h, show (9223372036854775808 : Nat) = 2 ^ 63 from rfl]
  by_cases ha : a < 2 ^ 63
  · rw [xor_lo a ha, if_pos (by omega)]
    omega
  · obtain ⟨b, rfl⟩ : ∃ b, a = b + 2 ^ 63 := ⟨a - 2 ^ 63, by omega⟩
    rw [← xor_lo b (by omega), Nat.xor_assoc, Nat.xor_self, Nat.xor_zero, xor_lo b (by omega), if_neg (by omega)]
    omega

theorem sign_andNot (d : Int) (h0 : 0 ≤ d) (h1 : d < 18446744073709551616) : bits .andNot .u64 d 9223372036854775808 = d % 9223372036854775808 := by
  obtain ⟨a, rfl⟩ := Int.eq_ofNat_of_zero_le h0
  have h := u64_andNot_nat a 9223372036854775808 (by omega) (by omega)
  rw [show ((9223372036854775808 : Nat) : Int) = 9223372036854775808 from rfl] at h
  rw [h, show (18446744073709551615 - 9223372036854775808 : Nat) = 2 ^ 63 - 1 from rfl, Nat.and_two_pow_sub_one_eq_mod]
  omega

theorem xor_hi (a : Nat) (h : a < 2 ^ 63) : a ^^^ (2 ^ 63 - 1) = 2 ^ 63 - 1 - a := by
  have := BitVec.toNat_xor (BitVec.ofNat 63 a) (BitVec.allOnes 63)
  have e : BitVec.ofNat 63 a ^^^ BitVec.allOnes 63 = ~~~ BitVec.ofNat 63 a := BitVec.xor_allOnes
  rw [e, BitVec.toNat_not, BitVec.toNat_ofNat, BitVec.toNat_allOnes, Nat.mod_eq_of_lt h] at this
  exact this.symm

/-- Below nothing the patterns count downward. -/
theorem low_xor (d : Int) (h0 : 9223372036854775808 ≤ d) (h1 : d < 18446744073709551616) : bits .xor .u64 d 9223372036854775807 = 27670116110564327423 - d := by
  obtain ⟨b, rfl⟩ : ∃ b : Nat, d = ((b + 2 ^ 63 : Nat) : Int) := ⟨(d - 9223372036854775808).toNat, by omega⟩
  have h := u64_xor_nat (b + 2 ^ 63) 9223372036854775807 (by omega) (by omega)
  rw [show ((9223372036854775807 : Nat) : Int) = 9223372036854775807 from rfl] at h
  rw [h, ← xor_lo b (by omega), Nat.xor_assoc, Nat.xor_comm (2 ^ 63), ← Nat.xor_assoc, show (9223372036854775807 : Nat) = 2 ^ 63 - 1 from rfl, xor_hi b (by omega), xor_lo _ (by omega)]
  rw [xor_lo b (by omega)]
  omega
end Ib
end Go.Proofs.YtggiioipppbedaaGreatDoor
