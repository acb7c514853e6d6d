/-
  Limbs moved by binary digits.
-/
import Derived.Test.YtmihjiiagpkciaaDoorMem
namespace Go.Proofs.YtmihjiiagpkciaaDoor
open Go.RowKit Go.Deep

namespace Sh
theorem wrap_mod (x : Int) : IntKind.u64.wrap x = x % 18446744073709551616 := by rw [IntKind.wrap_u64]

/-- Digits that don't meet: 'or' is a sum. -/
theorem or_sum (hi c : Int) (s : Nat) (h0 : 0 ≤ hi) (hc0 : 0 ≤ c) (hc : c < 2 ^ s) (h1 : hi * 2 ^ s < 18446744073709551616) (h2 : c < 18446744073709551616) : bits .or .u64 (hi * 2 ^ s) c = hi * 2 ^ s + c := by
  obtain ⟨a, rfl⟩ := Int.eq_ofNat_of_zero_le h0
  obtain ⟨b, rfl⟩ := Int.eq_ofNat_of_zero_le hc0
  have hP : (2 : Int) ^ s = ((2 ^ s : Nat) : Int) := by simp
  rw [hP] at hc h1 ⊢
  have hb : b < 2 ^ s := by omega
  rw [← Int.natCast_mul] at h1 ⊢
  have h := bits_or_u64_nat (a * 2 ^ s) b (by omega) (by omega)
  rw [h, Nat.mul_comm a, ← Nat.two_pow_add_eq_or_of_lt hb a]
  omega

theorem split64 (r : Nat) (hr : r ≤ 63) : (2 : Int) ^ r * 2 ^ (64 - r) = 18446744073709551616 := by
  rw [← Nm.two_add, show r + (64 - r) = 64 by omega, Nm.two_64]

/-- One limb moved up by r binary digits, with what came up from below: the limb s, and what goes on. -/
theorem up (x sp : Int) (r : Nat) (hr : r ≤ 63) (x0 : 0 ≤ x) (x1 : x < 18446744073709551616) (s0 : 0 ≤ sp) (s1 : sp < 2 ^ r) :
    ∃ A s sp', IntKind.u64.wrap (x * 2 ^ r) = A ∧ bits .or .u64 A sp = s ∧ x / 2 ^ (64 - r) = sp' ∧ (0 ≤ s ∧ s < 18446744073709551616) ∧ (0 ≤ sp' ∧ sp' < 2 ^ r) ∧ Hid (s + 18446744073709551616 * sp' = x * 2 ^ r + sp) := by
  have hP := Nm.two_pos r
  have hQ := Nm.two_pos (64 - r)
  have hPQ := split64 r hr
  obtain ⟨P, hPe⟩ : ∃ P : Int, 2 ^ r = P := ⟨_, rfl⟩
  obtain ⟨Q, hQe⟩ : ∃ Q : Int, 2 ^ (64 - r) = Q := ⟨_, rfl⟩
  have d1 := Int.emod_add_mul_ediv x Q
  have d2 := Int.emod_nonneg x (show Q ≠ 0 by omega)
  have d3 := Int.emod_lt_of_pos x (show 0 < Q by omega)
  have a0 : 0 ≤ x / Q := Int.ediv_nonneg x0 (by omega)
  rw [hPe] at hP s1 hPQ
  rw [hQe] at hQ hPQ
  have a1 : x / Q < P := by
    rw [Int.ediv_lt_iff_lt_mul hQ, hPQ]
    exact x1
  have a4 : x * P = x % Q * P + 18446744073709551616 * (x / Q) := by
    have : (x % Q + Q * (x / Q)) * P = x * P := by rw [d1]
    rw [Int.add_mul, Int.mul_right_comm, Int.mul_comm Q P, hPQ] at this
    omega
  have a5 : (x % Q + 1) * P ≤ Q * P := Int.mul_le_mul_of_nonneg_right (by omega) (by omega)
  rw [Int.add_mul, Int.one_mul, Int.mul_comm Q P, hPQ] at a5
  have a6 : 0 ≤ x % Q * P := Int.mul_nonneg d2 (by omega)
  have hA : IntKind.u64.wrap (x * P) = x % Q * P := by rw [wrap_mod]; omega
  have hO := or_sum (x % Q) sp r d2 s0 (by rw [hPe]; exact s1) (by rw [hPe]; omega) (by omega)
  rw [hPe] at hO
  rw [hPe, hQe]
  exact ⟨_, _, _, hA, hO, rfl, by omega, ⟨a0, a1⟩, show _ = _ by omega⟩
end Sh
end Go.Proofs.YtmihjiiagpkciaaDoor
