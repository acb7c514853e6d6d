/-
  Texts put together: IKinds, IIntgN, VaN.
-/
import Derived.Test.YtigmhnlcmhpepaaGreatDoorIDec
import Derived.Test.YtigmhnlcmhpepaaGreatDoorGC
/-
  What Decode tells, by the bits without the sign.
-/
namespace Go.Proofs.YtigmhnlcmhpepaaGreatDoor
open Go Go.RowKit Go.Deep

namespace Ie
theorem dec_kinds (d : Int) : ∀ r, d % 9223372036854775808 = r →
    (cls d = 0 ∧ dm d = 0 ∧ de d = 0 ∧ r = 0) ∨ (cls d = 1 ∧ dm d = r ∧ de d = -1074 ∧ 0 < r ∧ r < 4503599627370496) ∨ (cls d = 2 ∧ dm d = man r ∧ de d = (ex r : Int) - 1074 ∧ 4503599627370496 ≤ r ∧ r < 9218868437227405312) ∨
    (cls d = 3 ∧ dm d = 0 ∧ de d = 0 ∧ r = 9218868437227405312) ∨ (cls d = 4 ∧ dm d = r - 9218868437227405312 ∧ de d = 0 ∧ 9218868437227405312 < r ∧ r < 9223372036854775808) := by
  intro r hr
  have hf : fld d = r / 4503599627370496 := by simp only [fld]; omega
  have hy : d % 4503599627370496 = r % 4503599627370496 := by omega
  have hm : dm d = if cls d = 2 then 4503599627370496 + r % 4503599627370496 else if cls d = 1 ∨ cls d = 4 then r % 4503599627370496 else 0 := by rw [dm, hy]
  have he : de d = if cls d = 2 then r / 4503599627370496 - 1075 else if cls d = 1 then -1074 else 0 := by rw [de, hf]
  have hc : cls d = if r / 4503599627370496 = 0 then (if r % 4503599627370496 = 0 then 0 else 1) else if r / 4503599627370496 = 2047 then (if r % 4503599627370496 = 0 then 3 else 4) else 2 := by rw [cls, hf, hy]
  by_cases a : r / 4503599627370496 = 0
  · by_cases b : r % 4503599627370496 = 0
    · rw [if_pos a, if_pos b] at hc
      left; rw [hm, he, hc]; exact ⟨rfl, rfl, rfl, by omega⟩
    · rw [if_pos a, if_neg b] at hc
      right; left; rw [hm, he, hc]; exact ⟨rfl, show r % 4503599627370496 = r by omega, rfl, by omega, by omega⟩
  · by_cases a2 : r / 4503599627370496 = 2047
    · by_cases b : r % 4503599627370496 = 0
      · rw [if_neg a, if_pos a2, if_pos b] at hc
        right; right; right; left; rw [hm, he, hc]; exact ⟨rfl, rfl, rfl, by omega⟩
      · rw [if_neg a, if_pos a2, if_neg b] at hc
        right; right; right; right; rw [hm, he, hc]; exact ⟨rfl, show r % 4503599627370496 = _ by omega, rfl, by omega, by omega⟩
    · rw [if_neg a, if_neg a2] at hc
      right; right; left; rw [hm, he, hc]
      refine ⟨rfl, ?_, ?_, by omega, by omega⟩
      · show 4503599627370496 + r % 4503599627370496 = man r
        rw [man, if_neg (by omega)]
      · show r / 4503599627370496 - 1075 = (ex r : Int) - 1074
        rw [ex]; omega
end Ie

namespace Ie
/-- The whole part of a finite double's value. -/
def whp (r : Int) : Int := vl r / 2 ^ 1075

theorem whp_low (r : Int) (k : Nat) (h : (ex r : Int) + k = 1074) : whp r = man r / 2 ^ k := by
  have e1 : vl r = man r * 2 ^ (ex r + 1) := by rw [vl, Nm.two_succ]; ac_rfl
  have e2 : (2 : Int) ^ 1075 = 2 ^ k * 2 ^ (ex r + 1) := by rw [← Nm.two_add]; congr 1; omega
  rw [whp, e1, e2, Int.mul_ediv_mul_of_pos_left _ _ (Nm.two_pos _)]

theorem whp_high (r : Int) (k : Nat) (h : (ex r : Int) = 1074 + k) : whp r = man r * 2 ^ k ∧ vl r = whp r * 2 ^ 1075 := by
  have e1 : vl r = man r * 2 ^ k * 2 ^ 1075 := by
    have e0 : (2 : Int) ^ 1075 = 2 * 2 ^ 1074 := Nm.two_succ 1074
    rw [vl, show ex r = k + 1074 by omega, Nm.two_add, e0]
    generalize (2 : Int) ^ 1074 = P
    generalize (2 : Int) ^ k = Q
    ac_rfl
  have e2 : whp r = man r * 2 ^ k := by rw [whp, e1, Int.mul_ediv_cancel _ (by have := Nm.two_pos 1075; omega)]
  exact ⟨e2, by rw [e2]; exact e1⟩

theorem whp_zero : whp 0 = 0 := by rw [whp, vl_zero, Int.zero_ediv]

theorem shr_min (m : Int) (k : Nat) (h0 : 0 ≤ m) (h1 : m < 9007199254740992) : m / 2 ^ min k 64 = m / 2 ^ k := by
  rcases Nat.le_total k 64 with h | h
  · rw [Nat.min_eq_left h]
  · rw [Nat.min_eq_right h]
    have e53 : (2 : Int) ^ 53 = 9007199254740992 := by decide
    have g1 := Nm.two_mono (show 53 ≤ k by omega)
    have g2 := Nm.two_mono (show 53 ≤ 64 by omega)
    rw [Int.ediv_eq_zero_of_lt h0 (by omega), Int.ediv_eq_zero_of_lt h0 (by omega)]
end Ie
end Go.Proofs.YtigmhnlcmhpepaaGreatDoor

namespace Go.Proofs.YtigmhnlcmhpepaaGreatDoor
theorem ctz_int (n q t : Nat) (h : n = 2 ^ t * (2 * q + 1)) : (n : Int) = 2 ^ t * (2 * (q : Int) + 1) := by
  have e : ((2 ^ t * (2 * q + 1) : Nat) : Int) = 2 ^ t * (2 * (q : Int) + 1) := by simp
  rw [← e, ← h]
namespace Ie
/-- Whether it is a whole number. -/
def intg (d : Int) : Bool := decide (d % 9223372036854775808 < 9218868437227405312 ∧ vl (d % 9223372036854775808) = whp (d % 9223372036854775808) * 2 ^ 1075)

theorem intg_iff (r m q : Int) (t : Nat) (hm : man r = m) (h : m = 2 ^ t * (2 * q + 1)) : (vl r = whp r * 2 ^ 1075) ↔ 0 ≤ (ex r : Int) - 1074 + t := by
  have e1 : vl r = (2 * q + 1) * 2 ^ (t + ex r + 1) := by
    rw [vl, hm, h, Nm.two_succ, Nm.two_add]; ac_rfl
  constructor
  · intro he
    rcases (show 0 ≤ (ex r : Int) - 1074 + t ∨ t + ex r + 1 < 1075 by omega) with g | g
    · exact g
    · exfalso
      obtain ⟨s, hs⟩ : ∃ s, 1075 = (s + 1) + (t + ex r + 1) := ⟨1075 - (t + ex r + 1) - 1, by omega⟩
      rw [e1, hs, Nm.two_add (s + 1), ← Int.mul_assoc] at he
      have := Int.eq_of_mul_eq_mul_right (by have := Nm.two_pos (t + ex r + 1); omega) he
      exact Nm.odd_unique (this.trans (Int.mul_comm _ _))
  · intro g
    obtain ⟨s, hs⟩ : ∃ s, t + ex r + 1 = s + 1075 := ⟨t + ex r + 1 - 1075, by omega⟩
    rw [hs, Nm.two_add, ← Int.mul_assoc] at e1
    rw [whp, e1, Int.mul_ediv_cancel _ (by have := Nm.two_pos 1075; omega)]
end Ie
end Go.Proofs.YtigmhnlcmhpepaaGreatDoor

namespace Go.Proofs.YtigmhnlcmhpepaaGreatDoor
namespace Va
open Ie

/-- Whether Integer has digits for it. -/
def ok (d : Int) : Bool := intg d && decide (d % 9223372036854775808 < 4890909195324358656)
/-- Its number. -/
def num (d : Int) : Int := if 9223372036854775808 ≤ d then - whp (d % 9223372036854775808) else whp (d % 9223372036854775808)

/-- What toInt tells of it. -/
def vi (d : Int) : Int := if ok d = true then num d else 0

theorem two_pos (n : Nat) : (0 : Int) < 2 ^ n := Int.pow_pos (by omega)
theorem two_add (m n : Nat) : (2 : Int) ^ (m + n) = 2 ^ m * 2 ^ n := Int.pow_add 2 m n

/-- The mantissa at the top, against what lies behind the point. -/
theorem top_at {a : Int} {p : Nat} (hp : p ≤ 62) (ha : a / 4503599627370496 = p + 1023) : vl a = ((a % 4503599627370496 + 4503599627370496) * 2048) * 2 ^ (p + 1012) ∧ (2 : Int) ^ 1075 = 2 ^ (63 - p) * 2 ^ (p + 1012) := by
  constructor
  · have h1 : ¬ a < 4503599627370496 := by omega
    have h2 : ex a = p + 1022 := by unfold ex; omega
    rw [vl, man, if_neg h1, h2, show p + 1022 = 10 + (p + 1012) by omega, two_add, show (2 : Int) ^ 10 = 1024 from rfl]
    generalize (2 : Int) ^ (p + 1012) = K
    generalize a % 4503599627370496 = m
    rw [show 2 * (4503599627370496 + m) * (1024 * K) = ((4503599627370496 + m) * 2048) * K by
      rw [← Int.mul_assoc, Int.mul_comm 2 (4503599627370496 + m), Int.mul_assoc (4503599627370496 + m) 2 1024]; rfl, Int.add_comm 4503599627370496 m]
  · rw [← two_add, show 63 - p + (p + 1012) = 1075 by omega]
theorem top_whp {a : Int} {p : Nat} (hp : p ≤ 62) (ha : a / 4503599627370496 = p + 1023) : whp a = ((a % 4503599627370496 + 4503599627370496) * 2048) / 2 ^ (63 - p) := by
  obtain ⟨e1, e2⟩ := top_at hp ha
  rw [whp, e1, e2]
  exact Int.mul_ediv_mul_of_pos_left _ _ (two_pos _)
theorem top_intg {a : Int} {p : Nat} (hp : p ≤ 62) (ha : a / 4503599627370496 = p + 1023) : vl a = whp a * 2 ^ 1075 ↔ ((a % 4503599627370496 + 4503599627370496) * 2048) / 2 ^ (63 - p) * 2 ^ (63 - p) = (a % 4503599627370496 + 4503599627370496) * 2048 := by
  obtain ⟨e1, e2⟩ := top_at hp ha
  rw [top_whp hp ha, e1, e2]
  generalize (a % 4503599627370496 + 4503599627370496) * 2048 = M
  have k := two_pos (p + 1012)
  generalize (2 : Int) ^ (p + 1012) = K at *
  generalize (2 : Int) ^ (63 - p) = B
  rw [← Int.mul_assoc]
  constructor
  · intro h
    exact (Int.eq_of_mul_eq_mul_right (by omega) h).symm
  · intro h; rw [h]
/-- Below one nothing but zero is whole. -/
theorem low_intg {a : Int} (h0 : 0 < a) (h : a / 4503599627370496 < 1023) : ¬ vl a = whp a * 2 ^ 1075 := by
  intro q
  have m0 := man_nn a (by omega)
  have hm : 0 < man a := by
    unfold man
    split
    · exact h0
    · omega
  have he : ex a ≤ 1021 := by unfold ex; omega
  have v0 : 0 < vl a := Int.mul_pos (by omega) (two_pos _)
  have v1 : vl a < 2 ^ 1075 := by
    have h1 : (2 : Int) ^ 1075 = 2 ^ 54 * (2 ^ ex a * 2 ^ (1021 - ex a)) := by rw [← two_add, ← two_add, show 54 + (ex a + (1021 - ex a)) = 1075 by omega]
    have h2 : (1 : Int) ≤ 2 ^ (1021 - ex a) := two_pos _
    have h3 := two_pos (ex a)
    rw [h1, vl]
    have h4 : (2 : Int) ^ ex a * 1 ≤ 2 ^ ex a * 2 ^ (1021 - ex a) := Int.mul_le_mul_of_nonneg_left h2 (Int.le_of_lt h3)
    have h5 : (2 : Int) ^ 54 = 18014398509481984 := by decide
    rw [h5]
    have h6 : 2 * man a * 2 ^ ex a < 18014398509481984 * 2 ^ ex a := Int.mul_lt_mul_of_pos_right (by omega) h3
    generalize (2 : Int) ^ (1021 - ex a) = X at *
    generalize (2 : Int) ^ ex a = Y at *
    omega
  have w0 : whp a = 0 := Int.ediv_eq_zero_of_lt (Int.le_of_lt v0) v1
  rw [w0, Int.zero_mul] at q
  omega
theorem zero_intg : vl 0 = whp 0 * 2 ^ 1075 ∧ whp 0 = 0 := by
  have e : vl 0 = 0 := by unfold vl man; simp
  have w : whp 0 = 0 := by rw [whp, e]; exact Int.zero_ediv _
  exact ⟨by rw [e, w, Int.zero_mul], w⟩

/-- What toInt tells: each way by itself. -/
theorem ok_zero {d : Int} (h : d % 9223372036854775808 = 0) : ok d = true ∧ num d = 0 := by
  obtain ⟨a, b⟩ := zero_intg
  refine ⟨?_, ?_⟩
  · rw [ok, intg, h, decide_eq_true ⟨by omega, a⟩]; rfl
  · rw [num, h, b]; simp
theorem ok_low {d : Int} (h0 : 0 < d % 9223372036854775808) (h : d % 9223372036854775808 / 4503599627370496 < 1023) : ok d = false := by
  rw [ok, intg, decide_eq_false (fun q => low_intg h0 h q.2)]; rfl
theorem ok_high {d : Int} (h : 1086 ≤ d % 9223372036854775808 / 4503599627370496) : ok d = false := by
  rw [ok, decide_eq_false (show ¬ d % 9223372036854775808 < 4890909195324358656 by omega), Bool.and_false]
theorem ok_mid {d : Int} {p : Nat} (hp : p ≤ 62) (h : d % 9223372036854775808 / 4503599627370496 = p + 1023) : ok d = decide (((d % 9223372036854775808 % 4503599627370496 + 4503599627370496) * 2048) / 2 ^ (63 - p) * 2 ^ (63 - p) = (d % 9223372036854775808 % 4503599627370496 + 4503599627370496) * 2048) := by
  rw [ok, decide_eq_true (show d % 9223372036854775808 < 4890909195324358656 by omega), Bool.and_true, intg]
  refine decide_eq_decide.2 ?_
  rw [top_intg hp h]
  exact ⟨fun q => q.2, fun q => ⟨by omega, q⟩⟩
theorem num_mid {d : Int} {p : Nat} (hp : p ≤ 62) (h : d % 9223372036854775808 / 4503599627370496 = p + 1023) : num d = if 9223372036854775808 ≤ d then - (((d % 9223372036854775808 % 4503599627370496 + 4503599627370496) * 2048) / 2 ^ (63 - p)) else ((d % 9223372036854775808 % 4503599627370496 + 4503599627370496) * 2048) / 2 ^ (63 - p) := by
  rw [num, top_whp hp h]
/-- Its size. -/
theorem mid_bd {m : Int} {p : Nat} (hp : p ≤ 62) (h0 : 0 ≤ m) (h1 : m < 4503599627370496) : 0 ≤ ((m + 4503599627370496) * 2048) / 2 ^ (63 - p) ∧ ((m + 4503599627370496) * 2048) / 2 ^ (63 - p) < 9223372036854775808 := by
  have b := two_pos (63 - p)
  have b2 : (2 : Int) ≤ 2 ^ (63 - p) := by
    rw [show 63 - p = 1 + (62 - p) by omega, two_add]
    have := two_pos (62 - p)
    rw [show (2 : Int) ^ 1 = 2 from rfl]; omega
  refine ⟨Int.ediv_nonneg (by omega) (Int.le_of_lt b), ?_⟩
  refine Int.ediv_lt_of_lt_mul b ?_
  generalize (2 : Int) ^ (63 - p) = B at *
  have : 9223372036854775808 * 2 ≤ 9223372036854775808 * B := Int.mul_le_mul_of_nonneg_left b2 (by omega)
  omega
end Va
end Go.Proofs.YtigmhnlcmhpepaaGreatDoor
