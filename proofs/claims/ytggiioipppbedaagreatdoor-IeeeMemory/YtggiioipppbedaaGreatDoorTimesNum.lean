/-
  PRODUCTS BY DIGITS OF 32 BITS: plain mathematics (as the first layer's reference has it).
-/
import Derived.Test.YtggiioipppbedaaGreatDoorRefNum
import Derived.Test.YtggiioipppbedaaGreatDoorMem
import Derived.Laws.Bits64b
namespace Go.Proofs.YtggiioipppbedaaGreatDoor
open Go.RowKit Go.Deep

namespace Nm
theorem v32_take_next (zs : List Int) (k : Nat) : v32 (zs.take (k + 1)) = v32 (zs.take k) + p32 k * zs.getD k 0 := by
  by_cases h : k < zs.length
  · exact v32_take_succ zs k h
  · rw [List.take_of_length_le (by omega), List.take_of_length_le (by omega)]
    simp [List.getD, List.getElem?_eq_none (Nat.le_of_not_lt h)]

theorem v32_set : ∀ (zs : List Int) (i : Nat) (s : Int), i < zs.length → v32 (zs.set i s) = v32 zs + p32 i * (s - zs.getD i 0)
  | [], _, _, h => by simp at h
  | z :: zs, 0, s, _ => by simp only [List.set_cons_zero, v32, p32, List.getD_cons_zero]; omega
  | z :: zs, i + 1, s, h => by
    have := v32_set zs i s (by simpa using h)
    simp only [List.set_cons_succ, v32, p32, List.getD_cons_succ, this, Int.mul_add, Int.mul_assoc]
    omega

theorem Halves.set {zs : List Int} (h : Halves zs) (i : Nat) {s : Int} (h0 : 0 ≤ s) (h1 : s < 4294967296) : Halves (zs.set i s) := by
  intro z hz
  rcases List.mem_or_eq_of_mem_set hz with a | rfl
  · exact h z a
  · exact ⟨h0, h1⟩

theorem v32_zeros : ∀ n, v32 (List.replicate n 0) = 0
  | 0 => rfl
  | n + 1 => by simp only [List.replicate, v32, v32_zeros n]; rfl

theorem Halves.zeros (n : Nat) : Halves (List.replicate n 0) := by
  intro z hz
  rw [List.eq_of_mem_replicate hz]
  omega

theorem p32_add (a : Nat) : ∀ b, p32 (a + b) = p32 a * p32 b
  | 0 => by simp [p32]
  | b + 1 => by rw [← Nat.add_assoc]; simp only [p32, p32_add a b]; rw [Int.mul_left_comm]

/-- One digit of a product added in. -/
theorem times_digit {ps ys : List Int} {i j : Nat} {x c c' lo V pv : Int} (hk : i + j < ps.length) (hp : pv = ps.getD (i + j) 0) (h : v32 ps + p32 (i + j) * c = V + p32 i * (x * v32 (ys.take j))) (hs : lo + 4294967296 * c' = x * ys.getD j 0 + pv + c) :
    v32 (ps.set (i + j) lo) + p32 (i + (j + 1)) * c' = V + p32 i * (x * v32 (ys.take (j + 1))) := by
  rw [v32_set ps (i + j) lo hk, v32_take_next, ← hp, Int.mul_add x, Int.mul_add (p32 i)]
  have e1 : p32 (i + (j + 1)) * c' = p32 (i + j) * (4294967296 * c') := by
    rw [← Nat.add_assoc]; simp only [p32]; rw [Int.mul_comm 4294967296 (p32 (i + j)), Int.mul_assoc]
  have e2 : p32 i * (x * (p32 j * ys.getD j 0)) = p32 (i + j) * (x * ys.getD j 0) := by
    rw [p32_add, Int.mul_left_comm x, ← Int.mul_assoc, ← Int.mul_assoc]
  have e3 : p32 (i + j) * (lo + 4294967296 * c') = p32 (i + j) * (x * ys.getD j 0 + pv + c) := by rw [hs]
  rw [Int.mul_add, Int.mul_add, Int.mul_add] at e3
  rw [e1, e2, Int.mul_sub]
  omega
end Nm

theorem r_mask32 (x : Int) (h0 : 0 ≤ x) (h1 : x < 18446744073709551616) : bits .and .u64 x 4294967295 = x % 4294967296 := by
  obtain ⟨n, rfl⟩ := Int.eq_ofNat_of_zero_le h0
  have h := bits_and_u64_nat n 4294967295 (by omega) (by omega)
  have e : n &&& 4294967295 = n % 4294967296 := Nat.and_two_pow_sub_one_eq_mod n 32
  rw [e] at h
  rw [show (4294967295 : Int) = ((4294967295 : Nat) : Int) from rfl, h]
  omega

/-- Behind j digits of the second factor, for digit i of the first. -/
def TimesInv (g K : Nat) (w : World) (T c : Int) (k top : Nat) (ps : List Int) (wr : World) : Prop :=
  Own wr g ps ∧ ps.length = K ∧ Nm.Halves ps ∧ Nm.v32 ps + Nm.p32 k * c = T ∧ (∀ t, top ≤ t → ps.getD t 0 = 0) ∧ Below g w wr
end Go.Proofs.YtggiioipppbedaaGreatDoor
