/-
  THE ARITHMETIC OF A LONG DIVISION OF TWO LIMBS BY ONE, over digits of 32 bits.
-/
namespace Go.Proofs.YthfechigdiefpaaDoor
namespace Dv

/-- q is the digit: U * 2^32 + u divided by Y. -/
def Dig (U u Y q : Int) : Prop := 0 ≤ q ∧ q < 4294967296 ∧ q * Y ≤ U * 4294967296 + u ∧ U * 4294967296 + u < q * Y + Y

/-- The estimate is never too small, and what is left of the highest digits goes with it. -/
def Est (U u Y v1 q r : Int) : Prop := 0 ≤ q ∧ 0 ≤ r ∧ r < 4294967296 ∧ q * v1 + r = U ∧ U * 4294967296 + u < q * Y + Y

/-- The divisor: two digits, the higher one at least 2^31. -/
def Nrm (Y v1 v0 : Int) : Prop := Y = v1 * 4294967296 + v0 ∧ 0 ≤ v0 ∧ v0 < 4294967296 ∧ 2147483648 ≤ v1 ∧ v1 < 4294967296

theorem mulY {Y v1 v0 : Int} (h : Nrm Y v1 v0) (q : Int) : q * Y = q * v1 * 4294967296 + q * v0 := by
  rw [h.1, Int.mul_add, Int.mul_assoc]

theorem est_first {U u Y v1 v0 : Int} (hY : Nrm Y v1 v0) (hU : 0 ≤ U) (hu0 : 0 ≤ u) (hu : u < 4294967296) : Est U u Y v1 (U / v1) (U - U / v1 * v1) := by
  have hv := hY.2.2.2.1
  have hv' := hY.2.2.2.2
  have h1 := Int.emod_add_mul_ediv U v1
  have h2 := Int.emod_nonneg U (show v1 ≠ 0 by omega)
  have h3 := Int.emod_lt_of_pos U (show 0 < v1 by omega)
  have h4 : 0 ≤ U / v1 := Int.ediv_nonneg hU (by omega)
  rw [Int.mul_comm v1] at h1
  have h5 := mulY hY (U / v1)
  have h6 : 0 ≤ U / v1 * v0 := Int.mul_nonneg h4 hY.2.1
  have h7 := hY.1
  have h8 := hY.2.1
  refine ⟨h4, by omega, by omega, by omega, ?_⟩
  omega

theorem est_down {U u Y v1 v0 q r : Int} (hY : Nrm Y v1 v0) (hUY : U < Y) (_hu0 : 0 ≤ u) (hu : u < 4294967296) (h : Est U u Y v1 q r) (hc : 4294967296 ≤ q ∨ 4294967296 * r + u < q * v0) :
    1 ≤ q ∧ (q - 1) * v1 + (r + v1) = U ∧ U * 4294967296 + u < (q - 1) * Y + Y := by
  obtain ⟨h1, h2, h3, h4, h5⟩ := h
  have hq : 1 ≤ q := by
    rcases hc with hc | hc
    · omega
    · rcases (show q < 1 ∨ 1 ≤ q by omega) with hq | hq
      · have : q = 0 := by omega
        subst this
        rw [Int.zero_mul] at hc
        omega
      · exact hq
  have e1 := mulY hY q
  refine ⟨hq, ?_, ?_⟩
  · rw [Int.sub_mul, Int.one_mul]; omega
  · rw [Int.sub_mul, Int.one_mul]
    rcases hc with hc | hc
    · have : 4294967296 * Y ≤ q * Y := Int.mul_le_mul_of_nonneg_right hc (by have := hY.1; have := hY.2.1; have := hY.2.2.2.1; omega)
      omega
    · omega

/-- Another round. -/
theorem est_on {U u Y v1 v0 q r : Int} (hY : Nrm Y v1 v0) (hUY : U < Y) (hu0 : 0 ≤ u) (hu : u < 4294967296) (h : Est U u Y v1 q r) (hc : 4294967296 ≤ q ∨ 4294967296 * r + u < q * v0) (hr : r + v1 < 4294967296) : Est U u Y v1 (q - 1) (r + v1) := by
  obtain ⟨h1, h2, h3⟩ := est_down hY hUY hu0 hu h hc
  exact ⟨by omega, by have := h.2.1; have := hY.2.2.2.1; omega, hr, h2, h3⟩

/-- Left because the rest has a digit more. -/
theorem dig_break {U u Y v1 v0 q r : Int} (hY : Nrm Y v1 v0) (hUY : U < Y) (hu0 : 0 ≤ u) (hu : u < 4294967296) (h : Est U u Y v1 q r) (hc : 4294967296 ≤ q ∨ 4294967296 * r + u < q * v0) (hr : 4294967296 ≤ r + v1) : Dig U u Y (q - 1) := by
  obtain ⟨h1, h2, h3⟩ := est_down hY hUY hu0 hu h hc
  obtain ⟨y1, y2, y3, y4, y5⟩ := hY
  have hq : q - 1 < 4294967296 := by
    rcases (show (q - 1) < 4294967296 ∨ 4294967296 ≤ (q - 1) by omega) with hq | hq
    · exact hq
    · have : 4294967296 * v1 ≤ (q - 1) * v1 := Int.mul_le_mul_of_nonneg_right hq (by omega)
      omega
  have e1 := mulY ⟨y1, y2, y3, y4, y5⟩ (q - 1)
  have e2 : (q - 1) * v0 ≤ 4294967296 * v0 := Int.mul_le_mul_of_nonneg_right (by omega) y2
  exact ⟨by omega, hq, by omega, h3⟩

/-- Left because the estimate is right. -/
theorem dig_exit {U u Y v1 v0 q r : Int} (hY : Nrm Y v1 v0) (h : Est U u Y v1 q r) (h1 : q < 4294967296) (h2 : q * v0 ≤ 4294967296 * r + u) : Dig U u Y q := by
  have e1 := mulY hY q
  obtain ⟨a1, a2, a3, a4, a5⟩ := h
  exact ⟨a1, h1, by omega, a5⟩

/-- What is made of the two digits. -/
theorem whole {hi lo y P Y U L u1 u0 q1 q0 R R0 : Int} (hP : 0 < P) (hYP : Y = y * P) (hN : U * 18446744073709551616 + L = (hi * 18446744073709551616 + lo) * P) (hL : L = u1 * 4294967296 + u0)
    (hR : R = U * 4294967296 + u1 - q1 * Y) (hR0 : R0 = R * 4294967296 + u0 - q0 * Y) (h0 : 0 ≤ R0) (h1 : R0 < Y) (_hy : 0 < y) :
    (hi * 18446744073709551616 + lo) / y = q1 * 4294967296 + q0 ∧ (hi * 18446744073709551616 + lo) % y = R0 / P := by
  obtain ⟨N, hNe⟩ : ∃ N, N = hi * 18446744073709551616 + lo := ⟨_, rfl⟩
  rw [← hNe] at hN ⊢
  have e1 : N * P = (q1 * 4294967296 + q0) * Y + R0 := by
    rw [Int.add_mul, Int.mul_right_comm q1 4294967296 Y]
    omega
  have e2 : R0 = (N - (q1 * 4294967296 + q0) * y) * P := by
    rw [Int.sub_mul, Int.mul_assoc, ← hYP]
    omega
  obtain ⟨Q, hQ⟩ : ∃ Q, Q = q1 * 4294967296 + q0 := ⟨_, rfl⟩
  rw [← hQ] at e2 ⊢
  obtain ⟨ρ, hρ⟩ : ∃ ρ, ρ = N - Q * y := ⟨_, rfl⟩
  rw [← hρ] at e2
  have r0 : 0 ≤ ρ := by
    rcases (show ρ < 0 ∨ 0 ≤ ρ by omega) with h | h
    · have : ρ * P ≤ (-1) * P := Int.mul_le_mul_of_nonneg_right (by omega) (by omega)
      omega
    · exact h
  have r1 : ρ < y := by
    rcases (show ρ < y ∨ y ≤ ρ by omega) with h | h
    · exact h
    · have : y * P ≤ ρ * P := Int.mul_le_mul_of_nonneg_right h (by omega)
      omega
  have e3 : R0 / P = ρ := by rw [e2, Int.mul_ediv_cancel _ (by omega)]
  have e4 : N = ρ + y * Q := by rw [Int.mul_comm y]; omega
  rw [e3, e4]
  refine ⟨?_, ?_⟩
  · rw [Int.add_mul_ediv_left _ _ (by omega), Int.ediv_eq_zero_of_lt r0 r1, Int.zero_add]
  · rw [Int.add_mul_emod_self_left, Int.emod_eq_of_lt r0 r1]

/-- The operands moved up by s binary digits: P is 2^s, Q what makes 2^64 of it. -/
theorem moved {hi lo y P Q : Int} (hP : 0 < P) (hQ : 0 < Q) (hPQ : P * Q = 18446744073709551616) (h0 : 0 ≤ hi) (hy : hi < y) (l0 : 0 ≤ lo) (l1 : lo < 18446744073709551616) :
    0 ≤ lo / Q ∧ lo / Q < P ∧ 0 ≤ hi * P ∧ hi * P + lo / Q < y * P ∧ (lo * P) % 18446744073709551616 = lo % Q * P ∧ (hi * P + lo / Q) * 18446744073709551616 + lo % Q * P = (hi * 18446744073709551616 + lo) * P := by
  have d1 := Int.emod_add_mul_ediv lo Q
  have d2 := Int.emod_nonneg lo (show Q ≠ 0 by omega)
  have d3 := Int.emod_lt_of_pos lo hQ
  have a0 : 0 ≤ lo / Q := Int.ediv_nonneg l0 (by omega)
  have a1 : lo / Q < P := by
    rw [Int.ediv_lt_iff_lt_mul hQ, hPQ]
    exact l1
  have a2 : 0 ≤ hi * P := Int.mul_nonneg h0 (by omega)
  have a3 : (hi + 1) * P ≤ y * P := Int.mul_le_mul_of_nonneg_right (by omega) (by omega)
  rw [Int.add_mul, Int.one_mul] at a3
  have a4 : lo * P = lo % Q * P + 18446744073709551616 * (lo / Q) := by
    have : (lo % Q + Q * (lo / Q)) * P = lo * P := by rw [d1]
    rw [Int.add_mul, Int.mul_right_comm, Int.mul_comm Q P, hPQ] at this
    omega
  have a5 : lo % Q * P < Q * P := Int.mul_lt_mul_of_pos_right d3 hP
  have a6 : 0 ≤ lo % Q * P := Int.mul_nonneg d2 (by omega)
  rw [Int.mul_comm Q P, hPQ] at a5
  refine ⟨a0, a1, a2, by omega, by omega, ?_⟩
  rw [Int.add_mul (hi * 18446744073709551616), Int.mul_right_comm]
  omega
end Dv
end Go.Proofs.YthfechigdiefpaaDoor
