/-
  POWERS: plain mathematics.
-/
import Derived.Test.YtdolimhddmddnaaBitNum
namespace Go.Proofs.Ytdolimhddmddnaa
namespace Pn

theorem pow_pos' {A : Int} (h : 1 ≤ A) (n : Nat) : 1 ≤ A ^ n := by
  have : (0 : Int) < A ^ n := Int.pow_pos (by omega)
  omega

theorem pow_mono {A : Int} (h : 1 ≤ A) {a b : Nat} (hab : a ≤ b) : A ^ a ≤ A ^ b := by
  obtain ⟨c, rfl⟩ := Nat.exists_eq_add_of_le hab
  rw [Int.pow_add]
  have h1 := pow_pos' h a
  have h2 := pow_pos' h c
  have : A ^ a * 1 ≤ A ^ a * A ^ c := Int.mul_le_mul_of_nonneg_left h2 (by omega)
  omega

theorem pow_base {a A : Int} (h0 : 0 ≤ a) (h : a ≤ A) : ∀ n : Nat, a ^ n ≤ A ^ n
  | 0 => by simp
  | n + 1 => by
    rw [Int.pow_succ, Int.pow_succ]
    exact Int.mul_le_mul (pow_base h0 h n) h h0 (Int.pow_nonneg (by omega))

/-- What is found out early is too big. -/
theorem early {A : Int} {L n k : Nat} (hL : (2 : Int) ^ L ≤ A) (h : 64 * k ≤ L * n) : Nm.pw k ≤ A ^ n := by
  have h1 := pow_base (a := 2 ^ L) (A := A) (by have := Nm.two_pos L; omega) hL n
  rw [← Int.pow_mul] at h1
  have h2 := Nm.two_mono h
  rw [Nm.pw_two]
  omega

/-- One binary digit of the exponent. -/
theorem half (n t : Nat) : n / 2 ^ t = 2 * (n / 2 ^ (t + 1)) + n / 2 ^ t % 2 := by
  have : n / 2 ^ (t + 1) = n / 2 ^ t / 2 := by rw [Nat.pow_succ, Nat.div_div_eq_div_mul]
  omega

theorem square (A : Int) (n t : Nat) (h : n / 2 ^ t % 2 = 0) : A ^ (n / 2 ^ (t + 1)) * A ^ (n / 2 ^ (t + 1)) = A ^ (n / 2 ^ t) := by
  rw [← Int.pow_add]
  have := half n t
  congr 1
  omega

theorem square_odd (A : Int) (n t : Nat) (h : n / 2 ^ t % 2 = 1) : A ^ (n / 2 ^ (t + 1)) * A ^ (n / 2 ^ (t + 1)) * A = A ^ (n / 2 ^ t) := by
  rw [← Int.pow_add, ← Int.pow_succ]
  have := half n t
  congr 1
  omega

theorem square_le {A : Int} (hA : 1 ≤ A) (n t : Nat) : A ^ (n / 2 ^ (t + 1)) * A ^ (n / 2 ^ (t + 1)) ≤ A ^ n := by
  rw [← Int.pow_add]
  refine pow_mono hA ?_
  have := half n t
  have h2 : n / 2 ^ t ≤ n := Nat.div_le_self _ _
  omega

theorem part_le {A : Int} (hA : 1 ≤ A) (n t : Nat) : A ^ (n / 2 ^ t) ≤ A ^ n := pow_mono hA (Nat.div_le_self _ _)
end Pn
end Go.Proofs.Ytdolimhddmddnaa
