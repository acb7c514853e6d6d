import Derived.Test.YtpnjafacoeinnaaDoorIOrderTT
import Derived.Test.YtpnjafacoeinnaaDoorIOrderTE
import Derived.Test.YtpnjafacoeinnaaDoorIOrderFT
import Derived.Test.YtpnjafacoeinnaaDoorIOrderTF
import Derived.Test.YtpnjafacoeinnaaDoorIOrderFF
/-
  IeeeOrder (made by mkorder.py).
-/
namespace Go.Proofs.YtpnjafacoeinnaaDoor
open Go Go.RowKit Go.Deep

namespace Ie
theorem cm_cases (p q : Int) : (p < q ∧ cm p q = -1 ∧ cm q p = 1) ∨ (p = q ∧ cm p q = 0 ∧ cm q p = 0) ∨ (q < p ∧ cm p q = 1 ∧ cm q p = -1) := by
  rcases (show p < q ∨ p = q ∨ q < p by omega) with h | h | h
  · left; exact ⟨h, by rw [cm, if_pos h], by rw [cm, if_neg (by omega), if_pos h]⟩
  · right; left; exact ⟨h, by rw [cm, if_neg (by omega), if_neg (by omega)], by rw [cm, if_neg (by omega), if_neg (by omega)]⟩
  · right; right; exact ⟨h, by rw [cm, if_neg (by omega), if_pos h], by rw [cm, if_pos h]⟩
end Ie

/-- Three places in their order. -/
theorem three_cm (A B C : Int) : (Ie.cm A B = -1 ∧ Ie.cm B C ≤ 0 ∧ Ie.cm A C ≤ 0) ∨ (Ie.cm A B = -1 ∧ 0 < Ie.cm B C) ∨ (Ie.cm A B = 1 ∧ 0 ≤ Ie.cm B C ∧ 0 ≤ Ie.cm A C) ∨ (Ie.cm A B = 1 ∧ Ie.cm B C < 0) ∨ (Ie.cm A B = 0 ∧ Ie.cm B C < 0 ∧ Ie.cm A C ≤ 0) ∨ (Ie.cm A B = 0 ∧ Ie.cm B C = 0 ∧ Ie.cm A C = 0) ∨ (Ie.cm A B = 0 ∧ 0 < Ie.cm B C ∧ 0 ≤ Ie.cm A C) := by
  rcases Ie.cm_cases A B with ⟨h1, e1, _⟩ | ⟨h1, e1, _⟩ | ⟨h1, e1, _⟩ <;> rcases Ie.cm_cases B C with ⟨h2, e2, _⟩ | ⟨h2, e2, _⟩ | ⟨h2, e2, _⟩ <;> rcases Ie.cm_cases A C with ⟨h3, e3, _⟩ | ⟨h3, e3, _⟩ | ⟨h3, e3, _⟩ <;> rw [e1, e2, e3] <;> omega

/-- Places tell every two patterns apart. -/
theorem plc_ab (a b : Int) (a0 : 0 ≤ a) (a1 : a < 18446744073709551616) (b0 : 0 ≤ b) (b1 : b < 18446744073709551616) :
    (Ie.cm (Ie.plc a) (Ie.plc b) = -1 ∧ Ie.cm (Ie.plc b) (Ie.plc a) = 1 ∧ a ≠ b ∧ Ie.plc a < Ie.plc b) ∨ (Ie.cm (Ie.plc a) (Ie.plc b) = 0 ∧ Ie.cm (Ie.plc b) (Ie.plc a) = 0 ∧ a = b) ∨ (Ie.cm (Ie.plc a) (Ie.plc b) = 1 ∧ Ie.cm (Ie.plc b) (Ie.plc a) = -1 ∧ a ≠ b ∧ Ie.plc b < Ie.plc a) := by
  rcases Ie.cm_cases (Ie.plc a) (Ie.plc b) with ⟨h, e, e'⟩ | ⟨h, e, e'⟩ | ⟨h, e, e'⟩
  · left; exact ⟨e, e', fun hh => by rw [hh] at h; omega, h⟩
  · right; left; refine ⟨e, e', ?_⟩
    simp only [Ie.plc] at h
    split at h <;> split at h <;> omega
  · right; right; exact ⟨e, e', fun hh => by rw [hh] at h; omega, h⟩

theorem plc_lt (a : Int) (h : a < 9223372036854775808) : Ie.plc a = a := by rw [Ie.plc, if_pos h]
theorem plc_ge (a : Int) (h : 9223372036854775808 ≤ a) : Ie.plc a = 9223372036854775807 - a := by rw [Ie.plc, if_neg (by omega)]
theorem rk_lt (a : Int) (h : a < 9223372036854775808) : Ie.rk a = a := by rw [Ie.rk, if_pos h]
theorem rk_ge (a : Int) (h : 9223372036854775808 ≤ a) : Ie.rk a = 9223372036854775808 - a := by rw [Ie.rk, if_neg (by omega)]

/-- What is told of a pattern: its place and its rank. -/
theorem pr (a : Int) (a0 : 0 ≤ a) (a1 : a < 18446744073709551616) : (a < 9223372036854775808 ∧ Ie.plc a = a ∧ Ie.rk a = a) ∨ (9223372036854775808 ≤ a ∧ Ie.plc a = 9223372036854775807 - a ∧ Ie.rk a = 9223372036854775808 - a) := by
  rcases (show a < 9223372036854775808 ∨ 9223372036854775808 ≤ a by omega) with h | h
  · exact .inl ⟨h, plc_lt a h, rk_lt a h⟩
  · exact .inr ⟨h, plc_ge a h, rk_ge a h⟩

theorem order_any (a b c : Int) (w : World) (hT : Tab w) (a0 : 0 ≤ a) (a1 : a < 18446744073709551616) (b0 : 0 ≤ b) (b1 : b < 18446744073709551616) (c0 : 0 ≤ c) (c1 : c < 18446744073709551616) :
    Calls Tryd.prog 4 #[.int .u64 a, .int .u64 b, .int .u64 c] w fun r w' => r = .returned (.bool true) ∧ Below w.heap.size w w'  := by
  have RA := fun (wx : World) => rank_any a wx a0 a1
  have RB := fun (wx : World) => rank_any b wx b0 b1
  have CA := fun (wx : World) => compare_any a b wx a0 a1 b0 b1
  have CB := fun (wx : World) => compare_any b a wx b0 b1 a0 a1
  have TA := fun (wx : World) => total_any a b wx a0 a1 b0 b1
  have TB := fun (wx : World) => total_any b c wx b0 b1 c0 c1
  have TC := fun (wx : World) => total_any a c wx a0 a1 c0 c1
  have TD := fun (wx : World) => total_any b a wx b0 b1 a0 a1
  have L := three_cm (Ie.plc a) (Ie.plc b) (Ie.plc c)
  have K := plc_ab a b a0 a1 b0 b1
  have pa := pr a a0 a1
  have pb := pr b b0 b1
  have v1 : Ie.cmv a b = if Ie.okd a = true ∧ Ie.okd b = true then Ie.cm (Ie.rk a) (Ie.rk b) else 0 := rfl
  have v2 : Ie.cmv b a = if Ie.okd b = true ∧ Ie.okd a = true then Ie.cm (Ie.rk b) (Ie.rk a) else 0 := rfl
  have x1 : Ie.okd a = true → Ie.rkv a = Ie.rk a := fun h => by rw [Ie.rkv, if_pos h]
  have x2 : Ie.okd b = true → Ie.rkv b = Ie.rk b := fun h => by rw [Ie.rkv, if_pos h]
  by_cases oa : a % 9223372036854775808 ≤ 9218868437227405312
  · have oa' : Ie.okd a = true := by rw [Ie.okd, decide_eq_true_iff]; exact oa
    by_cases ob : b % 9223372036854775808 ≤ 9218868437227405312
    · have ob' : Ie.okd b = true := by rw [Ie.okd, decide_eq_true_iff]; exact ob
      rw [oa', ob'] at v1 v2 CA CB
      rw [if_pos ⟨rfl, rfl⟩] at v1 v2
      rw [v1] at CA
      rw [v2] at CB
      rw [x1 oa', oa'] at RA
      rw [x2 ob', ob'] at RB
      rcases Ie.cm_cases (Ie.rk a) (Ie.rk b) with ⟨h, e, e'⟩ | ⟨h, e, e'⟩ | ⟨h, e, e'⟩
      · refine orderTT a b c _ _ _ _ _ _ _ _ w hT a0 a1 b0 b1 RA RB CA CB TA TB TC TD oa ob (.inl ?_) L
        rcases K with k | k | k
        · exact ⟨e, e', h, by omega, k.1, k.2.1, k.2.2.1⟩
        · omega
        · omega
      · refine orderTE a b c _ _ _ _ _ _ _ _ w hT a0 a1 b0 b1 RA RB CA CB TA TB TC TD oa ob ?_ L
        rcases K with k | k | k
        · exact .inl ⟨e, e', by omega, by omega, k.1, k.2.1, k.2.2.1⟩
        · exact .inr (.inl ⟨e, e', by omega, by omega, k.1, k.2.1, k.2.2⟩)
        · exact .inr (.inr ⟨e, e', by omega, by omega, k.1, k.2.1, k.2.2.1⟩)
      · refine orderTT a b c _ _ _ _ _ _ _ _ w hT a0 a1 b0 b1 RA RB CA CB TA TB TC TD oa ob (.inr ?_) L
        rcases K with k | k | k
        · omega
        · omega
        · exact ⟨e, e', by omega, h, k.1, k.2.1, k.2.2.1⟩
    · have ob' : Ie.okd b = false := by rw [Ie.okd, decide_eq_false_iff_not]; exact ob
      rw [oa', ob'] at v1 v2 CA CB
      rw [if_neg (by decide)] at v1 v2
      rw [v1] at CA
      rw [v2] at CB
      rw [oa'] at RA
      rw [ob'] at RB
      refine orderTF a b c _ _ _ _ _ _ _ _ w hT a0 a1 b0 b1 RA RB CA CB TA TB TC TD oa ob ?_ L
      rcases K with k | k | k
      · exact .inl ⟨rfl, rfl, k.1, k.2.1, k.2.2.1⟩
      · exfalso; apply ob; rw [← k.2.2]; exact oa
      · exact .inr ⟨rfl, rfl, k.1, k.2.1, k.2.2.1⟩
  · have oa' : Ie.okd a = false := by rw [Ie.okd, decide_eq_false_iff_not]; exact oa
    by_cases ob : b % 9223372036854775808 ≤ 9218868437227405312
    · have ob' : Ie.okd b = true := by rw [Ie.okd, decide_eq_true_iff]; exact ob
      rw [oa', ob'] at v1 v2 CA CB
      rw [if_neg (by decide)] at v1 v2
      rw [v1] at CA
      rw [v2] at CB
      rw [oa'] at RA
      rw [ob'] at RB
      refine orderFT a b c _ _ _ _ _ _ _ _ w hT a0 a1 b0 b1 RA RB CA CB TA TB TC TD oa ob ?_ L
      rcases K with k | k | k
      · exact .inl ⟨rfl, rfl, k.1, k.2.1, k.2.2.1, by omega⟩
      · exfalso; apply oa; rw [k.2.2]; exact ob
      · exact .inr ⟨rfl, rfl, k.1, k.2.1, k.2.2.1, by omega⟩
    · have ob' : Ie.okd b = false := by rw [Ie.okd, decide_eq_false_iff_not]; exact ob
      rw [oa', ob'] at v1 v2 CA CB
      rw [if_neg (by decide)] at v1 v2
      rw [v1] at CA
      rw [v2] at CB
      rw [oa'] at RA
      rw [ob'] at RB
      refine orderFF a b c _ _ _ _ _ _ _ _ w hT a0 a1 b0 b1 RA RB CA CB TA TB TC TD oa ob ?_ L
      rcases K with k | k | k
      · exact .inl ⟨rfl, rfl, k.1, k.2.1, k.2.2.1⟩
      · exact .inr (.inl ⟨rfl, rfl, k.1, k.2.1, k.2.2⟩)
      · exact .inr (.inr ⟨rfl, rfl, k.1, k.2.1, k.2.2.1⟩)
end Go.Proofs.YtpnjafacoeinnaaDoor
