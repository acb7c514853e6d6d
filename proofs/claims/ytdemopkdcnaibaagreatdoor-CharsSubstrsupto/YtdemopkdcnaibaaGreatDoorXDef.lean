import Derived.Test.YtdemopkdcnaibaaGreatDoorIKinds
import Derived.Test.YtdemopkdcnaibaaGreatDoorXNum
/-
  A double's magnitude, sign and kinds; what Decode tells of a finite one.
-/
namespace Go.Proofs.YtdemopkdcnaibaaGreatDoor
namespace Ie
/-- The bits without the sign. -/
def ab (d : Int) : Int := d % 9223372036854775808
/-- The sign. -/
def ngd (d : Int) : Bool := decide (9223372036854775808 ≤ d)
def isn (d : Int) : Bool := decide (9218868437227405312 < ab d)
def isi (d : Int) : Bool := decide (ab d = 9218868437227405312)
def isz (d : Int) : Bool := decide (ab d = 0)
/-- Finite. -/
def fin (d : Int) : Prop := ab d < 9218868437227405312

theorem isn_cls (d : Int) : (cls d == 4) = isn d := by
  rw [isn, Bool.eq_iff_iff]
  simp only [beq_iff_eq, decide_eq_true_eq]
  rcases dec_kinds d _ rfl with h | h | h | h | h <;> simp only [ab] <;> omega
theorem isi_cls (d : Int) : (cls d == 3) = isi d := by
  rw [isi, Bool.eq_iff_iff]
  simp only [beq_iff_eq, decide_eq_true_eq]
  rcases dec_kinds d _ rfl with h | h | h | h | h <;> simp only [ab] <;> omega
theorem isz_cls (d : Int) : (cls d == 0) = isz d := by
  rw [isz, Bool.eq_iff_iff]
  simp only [beq_iff_eq, decide_eq_true_eq]
  rcases dec_kinds d _ rfl with h | h | h | h | h <;> simp only [ab] <;> omega

theorem sb_ab (d : Int) (h0 : 0 ≤ d) (h1 : d < 18446744073709551616) : d = sb (ngd d) (ab d) := by
  rcases (show d < 9223372036854775808 ∨ 9223372036854775808 ≤ d by omega) with h | h
  · rw [ngd, decide_eq_false (by omega), sb, if_neg (by decide), ab]; omega
  · rw [ngd, decide_eq_true (by omega), sb, if_pos rfl, ab]; omega

theorem ab_sb (neg : Bool) (x : Int) (h0 : 0 ≤ x) (h1 : x < 9223372036854775808) : ab (sb neg x) = x ∧ ngd (sb neg x) = neg := by
  cases neg
  · rw [sb, if_neg (by decide), ab, ngd]; exact ⟨by omega, decide_eq_false (by omega)⟩
  · rw [sb, if_pos rfl, ab, ngd]; exact ⟨by omega, decide_eq_true (by omega)⟩

theorem ab_bd (d : Int) : 0 ≤ ab d ∧ ab d < 9223372036854775808 := by rw [ab]; omega

/-- What Decode tells of a finite double. -/
theorem dec_f (d : Int) (h : fin d) : (0 ≤ dm d ∧ dm d < 9007199254740992) ∧ (-1074 ≤ de d ∧ de d ≤ 971) ∧ (∀ k : Nat, (k : Int) = de d + 1074 → dm d * 2 ^ k = un (ab d)) ∧ (dm d = 0 ↔ ab d = 0) := by
  have b := ab_bd d
  have mb := man_nn (ab d) b.1
  rw [fin] at h
  rcases dec_kinds d _ rfl with ⟨c, m, x, k1⟩ | ⟨c, m, x, k1, k2⟩ | ⟨c, m, x, k1, k2⟩ | ⟨c, m, x, k1⟩ | ⟨c, m, x, k1, k2⟩ <;> rw [m, x]
  · rw [← ab] at k1
    rw [k1, un_zero]
    exact ⟨by omega, by omega, fun k _ => Int.zero_mul _, by omega⟩
  · rw [← ab] at k1 k2 ⊢
    refine ⟨by omega, by omega, fun k hk => ?_, by omega⟩
    have e0 : ex (ab d) = 0 := by rw [ex]; omega
    have m0 : man (ab d) = ab d := by rw [man, if_pos k2]
    rw [un, e0, m0, show k = 0 by omega]
  · rw [← ab] at k1 k2 ⊢
    have eb : (ex (ab d) : Int) ≤ 2045 := by simp only [ex]; omega
    have mp : 4503599627370496 ≤ man (ab d) := by rw [man, if_neg (by omega)]; omega
    refine ⟨mb, by omega, fun k hk => ?_, by omega⟩
    rw [un, show k = ex (ab d) by omega]
  · rw [← ab] at k1; omega
  · rw [← ab] at k1; omega
end Ie
end Go.Proofs.YtdemopkdcnaibaaGreatDoor
