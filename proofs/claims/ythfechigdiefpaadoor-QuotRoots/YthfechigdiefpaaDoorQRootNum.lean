/-
  THE ROOT, TWO BINARY DIGITS AT A TIME: plain mathematics.
-/
import Derived.Test.YthfechigdiefpaaDoorBitNum
namespace Go.Proofs.YthfechigdiefpaaDoor
namespace Rn

/-- The root R of what has been brought down, and what is left of it. -/
def Inv (P R S : Int) : Prop := 0 ≤ R ∧ 0 ≤ S ∧ R * R + S = P ∧ S ≤ 2 * R

theorem step_one {P R S pr : Int} (h : Inv P R S) (p1 : pr ≤ 3) (hge : 4 * R + 1 ≤ 4 * S + pr) : Inv (4 * P + pr) (2 * R + 1) (4 * S + pr - (4 * R + 1)) := by
  obtain ⟨h1, h2, h3, h4⟩ := h
  refine ⟨by omega, by omega, ?_, by omega⟩
  have e : (2 * R + 1) * (2 * R + 1) = 4 * (R * R) + 4 * R + 1 := by
    rw [Int.add_mul, Int.mul_add, Int.one_mul, Int.mul_one, Int.mul_assoc, Int.mul_left_comm R]
    omega
  rw [e]
  omega

theorem step_zero {P R S pr : Int} (h : Inv P R S) (p0 : 0 ≤ pr) (hlt : 4 * S + pr < 4 * R + 1) : Inv (4 * P + pr) (2 * R) (4 * S + pr) := by
  obtain ⟨h1, h2, h3, h4⟩ := h
  refine ⟨by omega, by omega, ?_, by omega⟩
  have e : (2 * R) * (2 * R) = 4 * (R * R) := by
    rw [Int.mul_assoc, Int.mul_left_comm R]
    omega
  rw [e]
  omega

theorem four (t : Nat) : (4 : Int) ^ t = 2 ^ (2 * t) := by rw [Int.pow_mul]; rfl

theorem down (A : Int) (t : Nat) : A / 4 ^ t = 4 * (A / 4 ^ (t + 1)) + A / 4 ^ t % 4 := by
  have : A / 4 ^ (t + 1) = A / 4 ^ t / 4 := by
    rw [Int.pow_succ, Int.ediv_ediv_of_nonneg (Int.le_of_lt (Int.pow_pos (by omega)))]
  omega

/-- The pair of binary digits t of a number, in its limb. -/
theorem pair_at (zs : List Int) (t k e sh : Nat) (ht : t = 32 * k + e) (he : e < 32) (hsh : sh = 2 * e) (hz : Nm.Limbs zs) (hk : k < zs.length) : Nm.val zs / 4 ^ t % 4 = zs.getD k 0 / 2 ^ sh % 4 := by
  have h1 := Nm.val_drop zs k (by omega)
  have h2 := Nm.val_bd _ (hz.take k)
  rw [List.length_take, Nat.min_eq_left (by omega)] at h2
  have e1 : (4 : Int) ^ t = Nm.pw k * 2 ^ sh := by
    rw [four, Nm.pw_two, ← Nm.two_add]
    congr 1
    omega
  have hp := Nm.pw_pos k
  have e2 : Nm.val zs / Nm.pw k = Nm.val (zs.drop k) := by
    rw [h1, Int.add_mul_ediv_left _ _ (by omega), Int.ediv_eq_zero_of_lt h2.1 h2.2, Int.zero_add]
  rw [e1, ← Int.ediv_ediv_of_nonneg (Int.le_of_lt hp), e2]
  obtain ⟨z, r, hzr⟩ : ∃ z r, zs.drop k = z :: r := ⟨_, _, List.drop_eq_getElem_cons hk⟩
  have e3 : zs.getD k 0 = z := by
    have : (zs.drop k).getD 0 0 = z := by rw [hzr]; rfl
    rw [← this]
    simp [List.getD, List.getElem?_drop]
  rw [hzr, e3]
  show (z + 18446744073709551616 * Nm.val r) / 2 ^ sh % 4 = _
  have e4 : (18446744073709551616 : Int) = 2 ^ sh * (4 * 2 ^ (62 - sh)) := by
    rw [show (4 : Int) = 2 ^ 2 from rfl, ← Nm.two_add, ← Nm.two_add, show sh + (2 + (62 - sh)) = 64 by omega, Nm.two_64]
  rw [e4, Int.mul_assoc, Int.add_mul_ediv_left _ _ (by have := Nm.two_pos sh; omega), Int.mul_assoc]
  omega

theorem start (A : Int) (n : Nat) (h0 : 0 ≤ A) (h : A < Nm.pw n) : A / 4 ^ (32 * n) = 0 := by
  have e : (4 : Int) ^ (32 * n) = Nm.pw n := by rw [four, Nm.pw_two]; congr 1; omega
  rw [e]
  exact Int.ediv_eq_zero_of_lt h0 h

/-- There is but one whole root. -/
theorem unique {A R R' : Int} (h0 : 0 ≤ R) (h1 : R * R ≤ A) (h2 : A < (R + 1) * (R + 1)) (k0 : 0 ≤ R') (k1 : R' * R' ≤ A) (k2 : A < (R' + 1) * (R' + 1)) : R = R' := by
  rcases (show R = R' ∨ R + 1 ≤ R' ∨ R' + 1 ≤ R by omega) with h | h | h
  · exact h
  · exfalso
    have : (R + 1) * (R + 1) ≤ R' * R' := Int.mul_le_mul h h (by omega) (by omega)
    omega
  · exfalso
    have : (R' + 1) * (R' + 1) ≤ R * R := Int.mul_le_mul h h (by omega) (by omega)
    omega

theorem Inv.root {A R S : Int} (h : Inv A R S) : 0 ≤ R ∧ R * R ≤ A ∧ A < (R + 1) * (R + 1) := by
  obtain ⟨h1, h2, h3, h4⟩ := h
  refine ⟨h1, by omega, ?_⟩
  have e : (R + 1) * (R + 1) = R * R + 2 * R + 1 := by rw [Int.add_mul, Int.mul_add, Int.one_mul, Int.mul_one]; omega
  omega
end Rn
end Go.Proofs.YthfechigdiefpaaDoor
