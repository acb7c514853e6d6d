import Derived.Test.YtonnlimmjelldaaGreatDoorIDec
import Derived.Test.YtonnlimmjelldaaGreatDoorINum2
/-
  What Decode tells, by the bits without the sign.
-/
namespace Go.Proofs.YtonnlimmjelldaaGreatDoor
open Go Go.RowKit Go.Deep

namespace Ie
theorem dec_kinds (d : Int) : ∀ r, d % 9223372036854775808 = r →
    (cls d = 0 ∧ dm d = 0 ∧ de d = 0 ∧ r = 0) ∨ (cls d = 1 ∧ dm d = r ∧ de d = -1074 ∧ 0 < r ∧ r < 4503599627370496) ∨ (cls d = 2 ∧ dm d = man r ∧ de d = (ex r : Int) - 1074 ∧ 4503599627370496 ≤ r ∧ r < 9218868437227405312) ∨
    (cls d = 3 ∧ dm d = 0 ∧ de d = 0 ∧ r = 9218868437227405312) ∨ (cls d = 4 ∧ dm d = r - 9218868437227405312 ∧ de d = 0 ∧ 9218868437227405312 < r ∧ r < 9223372036854775808) := by
  intro r hr
  have hf : fld d = r / 4503599627370496 := by simp only [fld]; omega
  have hy : d % 4503599627370496 = r % 4503599627370496 := by omega
  have hm : dm d = if cls d = 2 then 4503599627370496 + r % 4503599627370496 else if cls d = 1 ∨ cls d = 4 then r % 4503599627370496 else 0 := by rw [dm, hy]
  have he : de d = if cls d = 2 then r / 4503599627370496 - 1075 else if cls d = 1 then -1074 else 0 := by rw [de, hf]
  have hc : cls d = if r / 4503599627370496 = 0 then (if r % 4503599627370496 = 0 then 0 else 1) else if r / 4503599627370496 = 2047 then (if r % 4503599627370496 = 0 then 3 else 4) else 2 := by rw [cls, hf, hy]
  by_cases a : r / 4503599627370496 = 0
  · by_cases b : r % 4503599627370496 = 0
    · rw [if_pos a, if_pos b] at hc
      left; rw [hm, he, hc]; exact ⟨rfl, rfl, rfl, by omega⟩
    · rw [if_pos a, if_neg b] at hc
      right; left; rw [hm, he, hc]; exact ⟨rfl, show r % 4503599627370496 = r by omega, rfl, by omega, by omega⟩
  · by_cases a2 : r / 4503599627370496 = 2047
    · by_cases b : r % 4503599627370496 = 0
      · rw [if_neg a, if_pos a2, if_pos b] at hc
        right; right; right; left; rw [hm, he, hc]; exact ⟨rfl, rfl, rfl, by omega⟩
      · rw [if_neg a, if_pos a2, if_neg b] at hc
        right; right; right; right; rw [hm, he, hc]; exact ⟨rfl, show r % 4503599627370496 = _ by omega, rfl, by omega, by omega⟩
    · rw [if_neg a, if_neg a2] at hc
      right; right; left; rw [hm, he, hc]
      refine ⟨rfl, ?_, ?_, by omega, by omega⟩
      · show 4503599627370496 + r % 4503599627370496 = man r
        rw [man, if_neg (by omega)]
      · show r / 4503599627370496 - 1075 = (ex r : Int) - 1074
        rw [ex]; omega
end Ie

namespace Ie
/-- The whole part of a finite double's value. -/
def whp (r : Int) : Int := vl r / 2 ^ 1075

theorem whp_low (r : Int) (k : Nat) (h : (ex r : Int) + k = 1074) : whp r = man r / 2 ^ k := by
  have e1 : vl r = man r * 2 ^ (ex r + 1) := by rw [vl, Nm.two_succ]; ac_rfl
  have e2 : (2 : Int) ^ 1075 = 2 ^ k * 2 ^ (ex r + 1) := by rw [← Nm.two_add]; congr 1; omega
  rw [whp, e1, e2, Int.mul_ediv_mul_of_pos_left _ _ (Nm.two_pos _)]

theorem whp_high (r : Int) (k : Nat) (h : (ex r : Int) = 1074 + k) : whp r = man r * 2 ^ k ∧ vl r = whp r * 2 ^ 1075 := by
  have e1 : vl r = man r * 2 ^ k * 2 ^ 1075 := by
    have e0 : (2 : Int) ^ 1075 = 2 * 2 ^ 1074 := Nm.two_succ 1074
    rw [vl, show ex r = k + 1074 by omega, Nm.two_add, e0]
    generalize (2 : Int) ^ 1074 = P
    generalize (2 : Int) ^ k = Q
    ac_rfl
  have e2 : whp r = man r * 2 ^ k := by rw [whp, e1, Int.mul_ediv_cancel _ (by have := Nm.two_pos 1075; omega)]
  exact ⟨e2, by rw [e2]; exact e1⟩

theorem whp_zero : whp 0 = 0 := by rw [whp, vl_zero, Int.zero_ediv]

theorem shr_min (m : Int) (k : Nat) (h0 : 0 ≤ m) (h1 : m < 9007199254740992) : m / 2 ^ min k 64 = m / 2 ^ k := by
  rcases Nat.le_total k 64 with h | h
  · rw [Nat.min_eq_left h]
  · rw [Nat.min_eq_right h]
    have e53 : (2 : Int) ^ 53 = 9007199254740992 := by decide
    have g1 := Nm.two_mono (show 53 ≤ k by omega)
    have g2 := Nm.two_mono (show 53 ≤ 64 by omega)
    rw [Int.ediv_eq_zero_of_lt h0 (by omega), Int.ediv_eq_zero_of_lt h0 (by omega)]
end Ie
end Go.Proofs.YtonnlimmjelldaaGreatDoor
