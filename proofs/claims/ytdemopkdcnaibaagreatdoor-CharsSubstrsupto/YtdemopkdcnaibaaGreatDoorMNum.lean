import Derived.Test.YtdemopkdcnaibaaGreatDoorXTwo
/-
  Stage 6, plain mathematics: scaling, powers, what is left, whole parts.
-/
namespace Go.Proofs.YtdemopkdcnaibaaGreatDoor
namespace Ie

/-- The power of two that Scale takes. -/
def scl (n : Int) : Int := min (max n (-2200)) 2200

theorem scl_bd (n : Int) : -2200 ≤ scl n ∧ scl n ≤ 2200 := by simp only [scl]; omega

theorem scl_ok {n e x m : Int} (m0 : 0 ≤ m) (m1 : m < 9007199254740992) (e0 : -1074 ≤ e) (e1 : e ≤ 971) (h : Rnd m 1 (e + scl n) false x) : Rnd m 1 (e + n) false x := by
  have e53 : (2 : Int) ^ 53 = 9007199254740992 := by decide
  rcases (show scl n = n ∨ (scl n = 2200 ∧ 2200 < n) ∨ (scl n = -2200 ∧ n < -2200) by simp only [scl]; omega) with g | ⟨g, g'⟩ | ⟨g, g'⟩
  · rw [g] at h; exact h
  · rw [g] at h
    rcases (show m = 0 ∨ 0 < m by omega) with h0 | h0
    · subst h0
      have := h.one (by decide) (by decide) (rnd_zero 1 (e + 2200) false (by decide)) (a := 0) (a' := 0) (by omega) rfl
      rw [this]
      exact rnd_zero 1 _ false (by decide)
    · have p0 : (2 : Int) ^ 0 ≤ m := by rw [Int.pow_zero]; omega
      have := h.one (by decide) (by decide) (rnd_inf m 1 (e + 2200) 0 0 false p0 (by decide) (by omega)) (a := 0) (a' := 0) (by omega) rfl
      rw [this]
      exact rnd_inf m 1 _ 0 0 false p0 (by decide) (by omega)
  · rw [g] at h
    have := h.one (by decide) (by decide) (rnd_small m 1 (e + -2200) 53 0 false (by omega) (by decide) (by omega)) (a := 0) (a' := 0) (by omega) rfl
    rw [this]
    exact rnd_small m 1 _ 53 0 false (by omega) (by decide) (by omega)

theorem Rnd.up {V D e x : Int} {more : Bool} (s : Nat) (h : Rnd V D e more x) : Rnd (V * 2 ^ s) D (e - s) more x := by
  intro a b hab
  have := h (s + a) b (by omega)
  rw [Nm.two_add, ← Int.mul_assoc] at this
  exact this

theorem Rnd.dup {V D e x : Int} {more : Bool} (s : Nat) (h : Rnd V D e more x) : Rnd V (D * 2 ^ s) (e + s) more x := by
  intro a b hab
  have := h a (s + b) (by omega)
  rw [Nm.two_add, ← Int.mul_assoc] at this
  exact this

theorem Rnd.ddn {V D e x : Int} {more : Bool} (s : Nat) (h : Rnd V (D * 2 ^ s) (e + s) more x) : Rnd V D e more x := by
  obtain ⟨a, b, hab, hN⟩ := h.at
  rw [Int.mul_assoc, ← Nm.two_add] at hN
  exact Rnd.of (a := a) (b := s + b) (by omega) hN

theorem pow_shift (o : Int) (t : Nat) : ∀ k : Nat, (o * 2 ^ t) ^ k = o ^ k * 2 ^ (t * k)
  | 0 => by simp
  | k + 1 => by rw [Int.pow_succ, pow_shift o t k, Int.pow_succ, Nat.mul_succ, Nm.two_add]; ac_rfl

theorem pow_pos' {o : Int} (h : 0 < o) : ∀ k : Nat, 0 < o ^ k
  | 0 => by simp
  | k + 1 => by rw [Int.pow_succ]; exact Int.mul_pos (pow_pos' h k) h

theorem pow_le' {o : Int} (h0 : 0 < o) (h1 : o < 9007199254740992) : ∀ k : Nat, o ^ k ≤ 2 ^ (53 * k)
  | 0 => by simp
  | k + 1 => by
    have h := pow_le' h0 h1 k
    have e53 : (2 : Int) ^ 53 = 9007199254740992 := by decide
    rw [Int.pow_succ, Nat.mul_succ, Nm.two_add, e53]
    exact Int.mul_le_mul h (by omega) (by omega) (by have := Nm.two_pos (53 * k); omega)

theorem pow_bd {o : Int} {k : Nat} (h0 : 0 < o) (h1 : o < 9007199254740992) (hk : k ≤ 1024) : 0 < o ^ k ∧ o ^ k ≤ 2 ^ 54272 := by
  have h := pow_le' h0 h1 k
  have := Nm.two_mono (show 53 * k ≤ 54272 by omega)
  exact ⟨pow_pos' h0 k, by omega⟩

/-- The rounded power of m * 2^e. -/
def PowIs (m e n : Int) (r : Int) : Prop := (∀ k : Nat, n = (k : Int) → Rnd (m ^ k) 1 (e * n) false r) ∧ (∀ k : Nat, n = -(k : Int) → Rnd 1 (m ^ k) (e * n) false r)

theorem mul_split (e t n : Int) : (e + t) * n = e * n + t * n := Int.add_mul _ _ _

/-- The power of the odd part, at its exponent, is the power. -/
theorem PowIs.mk {m o e n r : Int} {t : Nat} (hm : m = o * 2 ^ t) (hn : n ≠ 0) (h1 : ∀ k : Nat, n = (k : Int) → Rnd (o ^ k) 1 ((e + t) * n) false r) (h2 : ∀ k : Nat, n = -(k : Int) → Rnd 1 (o ^ k) ((e + t) * n) false r) : PowIs m e n r := by
  have _ := hn
  constructor
  · intro k hk
    have h := (h1 k hk).up (t * k)
    rw [hm, pow_shift]
    have e1 : (e + t) * n - ((t * k : Nat) : Int) = e * n := by rw [mul_split, hk]; simp only [Int.natCast_mul]; omega
    rw [e1] at h
    exact h
  · intro k hk
    have h := (h2 k hk).dup (t * k)
    rw [hm, pow_shift]
    have e1 : (e + t) * n + ((t * k : Nat) : Int) = e * n := by rw [mul_split, hk]; simp only [Int.natCast_mul, Int.mul_neg]; omega
    rw [e1] at h
    exact h

theorem PowIs.odd {m o e n r : Int} {t : Nat} (hm : m = o * 2 ^ t) (h : PowIs m e n r) : (∀ k : Nat, n = (k : Int) → Rnd (o ^ k) 1 ((e + t) * n) false r) ∧ (∀ k : Nat, n = -(k : Int) → Rnd 1 (o ^ k) ((e + t) * n) false r) := by
  constructor
  · intro k hk
    have h := h.1 k hk
    rw [hm, pow_shift] at h
    refine Rnd.num (t * k) ?_
    have e1 : (e + t) * n - ((t * k : Nat) : Int) = e * n := by rw [mul_split, hk]; simp only [Int.natCast_mul]; omega
    rw [e1]
    exact h
  · intro k hk
    have h := h.2 k hk
    rw [hm, pow_shift] at h
    refine Rnd.ddn (t * k) ?_
    have e1 : (e + t) * n + ((t * k : Nat) : Int) = e * n := by rw [mul_split, hk]; simp only [Int.natCast_mul, Int.mul_neg]; omega
    rw [e1]
    exact h

/-- A number of 53 bits at most, from 2^-1074 on, is a double. -/
theorem rnd_rep {R e x : Int} {c : Nat} {more : Bool} (hc : (c : Int) = e + 1074) (h0 : 0 ≤ R) (h1 : R < 9007199254740992) (hc2 : c ≤ 2045) (h : Rnd R 1 e more x) : un x = R * 2 ^ c ∧ 0 ≤ x ∧ x < 9218868437227405312 := by
  obtain ⟨y, y0, y1, hy⟩ := un_rep c R h0 h1 hc2
  have h2 : Rnd R 1 e more y := rnd_vl R e y more (c + 1) 0 (by omega) y0 y1 (by rw [vl_un, hy, Nm.two_succ, Int.pow_zero, Int.mul_one]; ac_rfl)
  have := h.one (by decide) (by decide) h2 (a := 0) (a' := 0) (by omega) rfl
  subst this
  exact ⟨hy, y0, y1⟩

theorem emod_scale (a b c : Int) (hc : 0 < c) : a * c % (b * c) = a % b * c := by
  rw [Int.mul_comm a c, Int.mul_comm b c, Int.mul_emod_mul_of_pos _ _ hc, Int.mul_comm]
theorem ediv_scale (a b c : Int) (hc : 0 < c) : a * c / (b * c) = a / b := Int.mul_ediv_mul_of_pos_left _ _ hc

/-- What is left is less than 2^53 of the smaller unit. -/
theorem left_bd {ma mb : Int} {i j : Nat} (hij : i = 0 ∨ j = 0) (a0 : 0 ≤ ma) (a1 : ma < 9007199254740992) (b0 : 0 < mb) (b1 : mb < 9007199254740992) :
    0 < mb * 2 ^ j ∧ 0 ≤ ma * 2 ^ i ∧ 0 ≤ ma * 2 ^ i % (mb * 2 ^ j) ∧ ma * 2 ^ i % (mb * 2 ^ j) < mb * 2 ^ j ∧ ma * 2 ^ i % (mb * 2 ^ j) < 9007199254740992 ∧
    (mb * 2 ^ j ≤ 2 * (ma * 2 ^ i % (mb * 2 ^ j)) → mb * 2 ^ j - ma * 2 ^ i % (mb * 2 ^ j) < 9007199254740992) := by
  have hV2 : 0 < mb * 2 ^ j := Int.mul_pos b0 (Nm.two_pos j)
  have hV1 : 0 ≤ ma * 2 ^ i := Int.mul_nonneg a0 (by have := Nm.two_pos i; omega)
  have r0 := Int.emod_nonneg (ma * 2 ^ i) (show mb * 2 ^ j ≠ 0 by omega)
  have r1 := Int.emod_lt_of_pos (ma * 2 ^ i) hV2
  have rd := Int.mul_ediv_add_emod (ma * 2 ^ i) (mb * 2 ^ j)
  have rq : 0 ≤ mb * 2 ^ j * (ma * 2 ^ i / (mb * 2 ^ j)) := Int.mul_nonneg (by omega) (Int.ediv_nonneg hV1 (by omega))
  refine ⟨hV2, hV1, r0, r1, ?_, fun h => ?_⟩
  · rcases hij with h | h <;> subst h
    · rw [Int.pow_zero, Int.mul_one] at *; omega
    · rw [Int.pow_zero, Int.mul_one] at *; omega
  · rcases hij with h | h <;> subst h
    · rw [Int.pow_zero, Int.mul_one] at *; omega
    · rw [Int.pow_zero, Int.mul_one] at *; omega

theorem lt_scale {a b c : Int} (hc : 0 < c) : a * c < b * c ↔ a < b :=
  ⟨fun h => Int.lt_of_mul_lt_mul_right h (by omega), fun h => Int.mul_lt_mul_of_pos_right h hc⟩
theorem eq_scale {a b c : Int} (hc : 0 < c) : a * c = b * c ↔ a = b :=
  ⟨fun h => Int.eq_of_mul_eq_mul_right (by omega) h, fun h => by rw [h]⟩

/-- The whole part and the rest against a half, by the mantissa. -/
theorem whole_cut {m U : Int} {k dr : Nat} (m0 : 0 ≤ m) (m1 : m < 9007199254740992) (k1 : 1 ≤ k) (k2 : k ≤ 1074) (hd : dr = min k 63) (hU : U = m * 2 ^ (1074 - k)) :
    m / 2 ^ dr = U / 2 ^ 1074 ∧ (m % 2 ^ dr < 2 ^ (dr - 1) ↔ U % 2 ^ 1074 < 2 ^ 1073) ∧ (m % 2 ^ dr = 2 ^ (dr - 1) ↔ U % 2 ^ 1074 = 2 ^ 1073) := by
  have hp := Nm.two_pos (1074 - k)
  have e1 : (2 : Int) ^ 1074 = 2 ^ k * 2 ^ (1074 - k) := by rw [← Nm.two_add]; congr 1; omega
  have e2 : (2 : Int) ^ 1073 = 2 ^ (k - 1) * 2 ^ (1074 - k) := by rw [← Nm.two_add]; congr 1; omega
  rw [e1, e2, hU, ediv_scale _ _ _ hp, emod_scale _ _ _ hp, lt_scale hp, eq_scale hp]
  rcases Nat.le_total k 63 with h | h
  · rw [hd, Nat.min_eq_left h]; exact ⟨rfl, Iff.rfl, Iff.rfl⟩
  · rw [hd, Nat.min_eq_right h]
    have g1 := Nm.two_mono (show 63 ≤ k by omega)
    have g2 := Nm.two_mono (show 62 ≤ k - 1 by omega)
    have e63 : (2 : Int) ^ 63 = 9223372036854775808 := by decide
    have e62 : (2 : Int) ^ (63 - 1) = 4611686018427387904 := by decide
    have e62' : (2 : Int) ^ 62 = 4611686018427387904 := by decide
    have d1 : m / 2 ^ k = 0 := Int.ediv_eq_zero_of_lt m0 (by omega)
    have d2 : m % 2 ^ k = m := Int.emod_eq_of_lt m0 (by omega)
    rw [d1, d2, e63, e62]
    omega

theorem intg_un (r : Int) : (vl r = vl r / 2 ^ 1075 * 2 ^ 1075) ↔ un r % 2 ^ 1074 = 0 := by
  have e0 : (2 : Int) ^ 1075 = 2 * 2 ^ 1074 := Nm.two_succ 1074
  have hp := Nm.two_pos 1074
  rw [vl_un, e0, Int.mul_ediv_mul_of_pos _ _ (by decide)]
  have := Int.mul_ediv_add_emod (un r) (2 ^ 1074)
  rw [Int.mul_comm] at this
  generalize hq : un r / 2 ^ 1074 = q at *
  generalize un r % 2 ^ 1074 = s at *
  generalize (2 : Int) ^ 1074 = P at *
  have e3 : q * (2 * P) = 2 * (q * P) := Int.mul_left_comm _ _ _
  rw [e3]
  omega

theorem ediv_un (r : Int) : vl r / 2 ^ 1075 = un r / 2 ^ 1074 := by
  have e0 : (2 : Int) ^ 1075 = 2 * 2 ^ 1074 := Nm.two_succ 1074
  rw [vl_un, e0, Int.mul_ediv_mul_of_pos _ _ (by decide)]
end Ie
end Go.Proofs.YtdemopkdcnaibaaGreatDoor
