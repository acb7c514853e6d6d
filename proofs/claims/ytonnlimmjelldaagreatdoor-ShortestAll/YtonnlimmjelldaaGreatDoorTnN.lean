/-
  THE DOCUMENT'S SHORTEST DIGITS, AS NUMBERS.
-/
import Derived.Test.YtonnlimmjelldaaGreatDoorLNum4
import Derived.Test.YtonnlimmjelldaaGreatDoorFDec
namespace Go.Proofs.YtonnlimmjelldaaGreatDoor
open Go.RowKit Go.Deep
namespace Tn
open Sh

/-- The lower bound, in quarters. -/
def lo (a : Int) : Int := if Ie.man a = 4503599627370496 ∧ 0 < Ie.ex a then 4 * Ie.man a - 1 else 4 * Ie.man a - 2
theorem mid_V (a : Int) : 4 * Ie.man a * 2 ^ Ie.ex a * T5 = 2 * V a := by
  rw [V, Ie.vl, show 4 * Ie.man a = 2 * (2 * Ie.man a) by omega, Int.mul_assoc 2, Int.mul_assoc 2]
theorem hi_B (a : Int) : (4 * Ie.man a + 2) * 2 ^ Ie.ex a * T5 = 2 * B a := by
  rw [B, Ie.md, show 4 * Ie.man a + 2 = 2 * (2 * Ie.man a + 1) by omega, Int.mul_assoc 2, Int.mul_assoc 2]
theorem lo_A {a : Int} (h : 0 < a) : lo a * 2 ^ Ie.ex a * T5 = 2 * A a := by
  rw [A, if_neg (by omega), B, lo]
  by_cases c : Ie.man a = 4503599627370496 ∧ 0 < Ie.ex a
  · rw [if_pos c, Ie.md_pred' a h c, c.1]
    obtain ⟨k, hk⟩ : ∃ k, Ie.ex a = k + 1 := ⟨Ie.ex a - 1, by omega⟩
    rw [hk, show k + 1 - 1 = k by omega, Int.pow_succ, ← Int.mul_assoc, show (4 * 4503599627370496 - 1 : Int) = 18014398509481983 by decide, Int.mul_comm _ 2, Int.mul_assoc 2]
  · rw [if_neg c, Ie.md_pred a h c, show 4 * Ie.man a - 2 = 2 * (2 * Ie.man a - 1) by omega, Int.mul_assoc 2, Int.mul_assoc 2]

/-- The fraction that Scaled tells. -/
def nu (m x e : Int) : Int := m * 10 ^ (-e).toNat * 2 ^ x.toNat
def de (x e : Int) : Int := 10 ^ e.toNat * 2 ^ (-x).toNat
def S (e : Int) : Int := 10 ^ (e + 1075).toNat
theorem S_pos (e : Int) : 0 < S e := Fx.p_pos _
theorem de_pos (x e : Int) : 0 < de x e := Int.mul_pos (Fx.p_pos _) (Int.pow_pos (by omega))
theorem sc_gen (m : Int) (K p q u v P U : Nat) (F : Int) (hF : (10 : Int) ^ K = 2 ^ K * F) (h1 : p + P = q + K) (h2 : u + (K + 1) = U + v) :
    m * 10 ^ p * 2 ^ u * (2 * 10 ^ P) = m * 2 ^ U * F * (10 ^ q * 2 ^ v) := by
  have e1 : (10 : Int) ^ p * 10 ^ P = 10 ^ q * (2 ^ K * F) := by rw [← Int.pow_add, h1, Int.pow_add, hF]
  have e2 : (2 : Int) ^ u * 2 ^ (K + 1) = 2 ^ U * 2 ^ v := by rw [← Int.pow_add, h2, Int.pow_add]
  have a1 : m * 10 ^ p * 2 ^ u * (2 * 10 ^ P) = m * 2 ^ u * 2 * (10 ^ p * 10 ^ P) := by
    simp only [Int.mul_assoc, Int.mul_comm, Int.mul_left_comm]
  have a2 : m * 2 ^ u * 2 * (10 ^ q * (2 ^ K * F)) = m * (2 ^ u * 2 ^ (K + 1)) * F * 10 ^ q := by
    rw [Int.pow_succ]
    simp only [Int.mul_assoc, Int.mul_comm, Int.mul_left_comm]
  rw [a1, e1, a2, e2]
  simp only [Int.mul_assoc, Int.mul_comm, Int.mul_left_comm]
theorem ten_T5 : (10 : Int) ^ 1075 = 2 ^ 1075 * T5 := by
  unfold T5
  rw [← Int.mul_pow]
  rfl
theorem sc (m x e : Int) (hx : -1076 ≤ x) (he : -1075 ≤ e) : nu m x e * (2 * S e) = m * 2 ^ (x + 1076).toNat * T5 * de x e :=
  sc_gen m 1075 _ _ _ _ _ _ T5 ten_T5 (by omega) (by omega)
theorem sc_is {m x e a U : Int} (hx : x = (Ie.ex a : Int) - 1076) (he : -1075 ≤ e) (h : m * 2 ^ Ie.ex a * T5 = 2 * U) : nu m x e * S e = U * de x e := by
  have k := sc m x e (by omega) he
  rw [show (x + 1076).toNat = Ie.ex a by omega, h, Int.mul_left_comm, Int.mul_assoc] at k
  omega
theorem div_eq {N D U S : Int} (hD : 0 < D) (hS : 0 < S) (h : N * S = U * D) : N / D = U / S ∧ (N % D) * S = (U % S) * D := by
  obtain ⟨d1, d2, d3⟩ := divS (U := U) hS
  obtain ⟨t, ht⟩ : ∃ t, N = U / S * D + t := ⟨N - U / S * D, by omega⟩
  have e : t * S = U % S * D := by
    have : (U / S * D + t) * S = (U / S * S + U % S) * D := by rw [← ht, ← d1, h]
    rw [Int.add_mul, Int.add_mul, Int.mul_right_comm] at this
    omega
  have t0 : 0 ≤ t := by
    rcases (show t < 0 ∨ 0 ≤ t by omega) with c | c
    · have h1 : t * S < 0 := Int.mul_neg_of_neg_of_pos c hS
      have h2 : 0 ≤ U % S * D := Int.mul_nonneg d2 (Int.le_of_lt hD)
      omega
    · exact c
  have t1 : t < D := by
    rcases (show t < D ∨ D ≤ t by omega) with c | c
    · exact c
    · have h1 : D * S ≤ t * S := Int.mul_le_mul_of_nonneg_right c (Int.le_of_lt hS)
      have h2 : U % S * D < S * D := Int.mul_lt_mul_of_pos_right d3 hD
      rw [Int.mul_comm D S] at h1
      omega
  have r := (Int.ediv_emod_unique hD (a := N) (r := t) (q := U / S)).2 ⟨by rw [ht, Int.mul_comm D]; omega, t0, t1⟩
  rw [r.1, r.2]
  exact ⟨rfl, e⟩
theorem cmp_lt {N D U S k : Int} (hD : 0 < D) (hS : 0 < S) (h : N * S = U * D) : N < k * D ↔ U < k * S := by
  constructor
  · intro c
    have := Int.mul_lt_mul_of_pos_right c hS
    rw [h, Int.mul_right_comm] at this
    exact Int.lt_of_mul_lt_mul_right this (Int.le_of_lt hD)
  · intro c
    have := Int.mul_lt_mul_of_pos_right c hD
    rw [← h, Int.mul_right_comm] at this
    exact Int.lt_of_mul_lt_mul_right this (Int.le_of_lt hS)
theorem cmp_gt {N D U S k : Int} (hD : 0 < D) (hS : 0 < S) (h : N * S = U * D) : k * D < N ↔ k * S < U := by
  constructor
  · intro c
    have := Int.mul_lt_mul_of_pos_right c hS
    rw [h, Int.mul_right_comm] at this
    exact Int.lt_of_mul_lt_mul_right this (Int.le_of_lt hD)
  · intro c
    have := Int.mul_lt_mul_of_pos_right c hD
    rw [← h, Int.mul_right_comm] at this
    exact Int.lt_of_mul_lt_mul_right this (Int.le_of_lt hS)
theorem rest_lt {R D r S : Int} (hD : 0 < D) (hS : 0 < S) (h : R * S = r * D) : (D < 2 * R ↔ S < 2 * r) ∧ (D = 2 * R ↔ S = 2 * r) := by
  have h2 : 2 * R * S = 2 * r * D := by rw [Int.mul_assoc, Int.mul_assoc, h]
  have a := cmp_gt (k := 1) hD hS h2
  have b := cmp_lt (k := 1) hD hS h2
  rw [Int.one_mul, Int.one_mul] at a b
  exact ⟨a, by omega⟩

/-- What choose tells. -/
def ck (a S : Int) : Int := if V a % S = 0 then V a / S else if inB a (V a / S * S) = false then V a / S + 1 else if inB a ((V a / S + 1) * S) = false then V a / S else if upB (V a) S = true then V a / S + 1 else V a / S
def co (a S : Int) : Bool := if V a % S = 0 then true else if inB a (V a / S * S) = false then inB a ((V a / S + 1) * S) else true
theorem S_div {a : Int} {n : Nat} (ha : 0 < a) (hl : ln (V a) ≤ n) : V a % S (pl (V a) - n) = 0 := by
  have o := dd_is (V_nn (Int.le_of_lt ha))
  have lo := o.1.lo
  have e : V a = dv (dd (V a)).ds * 10 ^ ((dd (V a)).e + 1075).toNat := by
    have := o.2
    unfold uv at this
    exact this.symm
  have e2 : ((dd (V a)).e + 1075).toNat = ((dd (V a)).e + 1075).toNat - (pl (V a) - n + 1075).toNat + (pl (V a) - n + 1075).toNat := by unfold pl; omega
  refine Int.emod_eq_zero_of_dvd ⟨dv (dd (V a)).ds * 10 ^ (((dd (V a)).e + 1075).toNat - (pl (V a) - n + 1075).toNat), e.trans ?_⟩
  rw [S, Int.mul_left_comm, ← Int.pow_add, Nat.add_comm, ← e2]
theorem wn_ck {a : Int} {n : Nat} (ha : 0 < a) (hn : 1 ≤ n) : wn a n = if co a (S (pl (V a) - n)) = true then some (ck a (S (pl (V a) - n)) * S (pl (V a) - n)) else none := by
  have es : st (V a) n = S (pl (V a) - n) := st_pl _ _
  by_cases hl : ln (V a) ≤ n
  · have z := S_div ha hl
    obtain ⟨d1, d2, d3⟩ := divS (U := V a) (S_pos (pl (V a) - n))
    rw [wn, if_pos hl, co, if_pos z, if_pos rfl, ck, if_pos z]
    congr 1
    omega
  · have k := k_room ha hn (by omega)
    rw [es] at k
    rw [wn, if_neg hl, es]
    have nz : ¬ V a % S (pl (V a) - n) = 0 := by omega
    unfold co ck k1 k2
    rw [if_neg nz, if_neg nz]
    generalize S (pl (V a) - n) = S at *
    cases h1 : inB a (V a / S * S) <;> cases h2 : inB a ((V a / S + 1) * S) <;> cases h3 : upB (V a) S <;> simp [h1, h2]
theorem ck_pos {a : Int} {n : Nat} (ha : 0 < a) (hn : 1 ≤ n) (hr : 0 ≤ pl (V a) - n + 1075) : 1 ≤ ck a (S (pl (V a) - n)) ∧ ck a (S (pl (V a) - n)) ≤ 10 ^ n := by
  obtain ⟨p1, p2, p3⟩ := place (V_pos ha)
  have sp := S_pos (pl (V a) - n)
  have e1 : (10 : Int) ^ (pl (V a) + 1075).toNat = 10 ^ n * S (pl (V a) - n) := by
    unfold S
    rw [← Int.pow_add]
    congr 1
    omega
  have e2 : S (pl (V a) - n) ≤ 10 ^ (pl (V a) + 1074).toNat := Fx.p_le (by omega)
  have k1 : 1 ≤ V a / S (pl (V a) - n) := (Int.le_ediv_iff_mul_le sp).2 (by omega)
  have k2 : V a / S (pl (V a) - n) < 10 ^ n := (Int.ediv_lt_iff_lt_mul sp).2 (by omega)
  unfold ck
  split
  · omega
  · split
    · omega
    · split
      · omega
      · split <;> omega
end Tn
end Go.Proofs.YtonnlimmjelldaaGreatDoor
