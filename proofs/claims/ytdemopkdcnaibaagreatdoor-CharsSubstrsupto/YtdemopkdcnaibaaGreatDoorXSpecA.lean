import Derived.Test.YtdemopkdcnaibaaGreatDoorXDef
import Derived.Test.YtdemopkdcnaibaaGreatDoorIWalk1B
/-
  Rounded signed fractions: the value of a double, closed ones.
-/
namespace Go.Proofs.YtdemopkdcnaibaaGreatDoor
namespace Ie

/-- The value of a double that is no NaN, in units of 2^-1074. -/
def uv (d : Int) : Int := sn (ngd d) (un (ab d))

theorem rs_of {neg : Bool} {V e x S Q : Int} {z : Bool} (hR : Rnd V 1 e false x) (hV : 0 ≤ V) (c q : Nat) (hc : (c : Int) - q = e + 1074) (hS : S = sn neg (V * 2 ^ c)) (hQ : Q = 2 ^ q) (hz : S = 0 → neg = z) : RS S Q z (sg neg x) := by
  refine ⟨neg, V * 2 ^ c, x, rfl, hS, Int.mul_nonneg hV (by have := Nm.two_pos c; omega), ?_, hz⟩
  have h := hR (c + 1) q (by omega)
  rw [Int.one_mul] at h
  rw [hQ, show 2 * (V * 2 ^ c) = V * 2 ^ (c + 1) by rw [Nm.two_succ]; ac_rfl]
  exact h

theorem sn_eq_zero {neg : Bool} {V : Int} (h : sn neg V = 0) : V = 0 := by
  cases neg <;> simp only [sn, Bool.false_eq_true, if_true, if_false] at h <;> omega

theorem fin_not {d : Int} (h : fin d) : isn d = false ∧ isi d = false := by
  rw [fin] at h
  exact ⟨by rw [isn, decide_eq_false_iff_not]; omega, by rw [isi, decide_eq_false_iff_not]; omega⟩

theorem un_lit {x m : Int} {E : Nat} (h1 : man x = m) (h2 : ex x = E) : un x = m * 2 ^ E := by rw [un, h1, h2]

theorem p1022 : (2 : Int) ^ 1023 = 2 * 2 ^ 1022 ∧ (2 : Int) ^ 1024 = 4 * 2 ^ 1022 ∧ (2 : Int) ^ 1025 = 8 * 2 ^ 1022 := by
  refine ⟨Nm.two_succ 1022, ?_, ?_⟩
  · rw [show 1024 = 2 + 1022 by rfl, Nm.two_add]; rfl
  · rw [show 1025 = 3 + 1022 by rfl, Nm.two_add]; rfl

theorem un_1 : un 4607182418800017408 = 4503599627370496 * 2 ^ 1022 := un_lit (by decide) (by decide)
theorem un_2 : un 4611686018427387904 = 4503599627370496 * 2 ^ 1023 := un_lit (by decide) (by decide)
theorem un_3 : un 4613937818241073152 = 6755399441055744 * 2 ^ 1023 := un_lit (by decide) (by decide)
theorem un_6 : un 4618441417868443648 = 6755399441055744 * 2 ^ 1024 := un_lit (by decide) (by decide)
theorem un_9 : un 4621256167635550208 = 5066549580791808 * 2 ^ 1025 := un_lit (by decide) (by decide)

theorem uv_pos {x : Int} (h0 : 0 ≤ x) (h1 : x < 9223372036854775808) : uv x = un x := by
  have h := ab_sb false x h0 h1
  rw [show sb false x = x from rfl] at h
  rw [uv, h.1, h.2]; rfl
theorem uv_neg {x : Int} (h0 : 0 ≤ x) (h1 : x < 9223372036854775808) : uv (x + 9223372036854775808) = -un x := by
  have h := ab_sb true x h0 h1
  rw [show sb true x = x + 9223372036854775808 from rfl] at h
  rw [uv, h.1, h.2]; rfl

/-- An exact answer above nothing. -/
theorem RS.lit {S Q : Int} {z : Bool} {r : Int} (hQ : 0 < Q) (h : RS S Q z r) (y : Int) (y0 : 0 < y) (y1 : y < 9218868437227405312) (e : S = un y * Q) : r = y := by
  have p := Int.mul_pos (un_pos y0) hQ
  obtain ⟨neg, rfl, hS, -⟩ := h.exact hQ y (by omega) y1 (by rw [e]; rcases (show 0 ≤ un y * Q by omega) with h; simp only [az]; split <;> omega)
  cases neg
  · rfl
  · exfalso
    rw [sn_true] at hS
    omega

end Ie
end Go.Proofs.YtdemopkdcnaibaaGreatDoor
