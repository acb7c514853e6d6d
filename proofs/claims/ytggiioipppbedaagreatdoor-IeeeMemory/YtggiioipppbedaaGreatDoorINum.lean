import Derived.Test.YtggiioipppbedaaGreatDoorNums
/-
  Doubles as numbers: mantissa, exponent, middles; what it is to be rounded.
-/
namespace Go.Proofs.YtggiioipppbedaaGreatDoor
namespace Ie

/-- The mantissa of the double x (its bits, no sign). -/
def man (x : Int) : Int := if x < 4503599627370496 then x else 4503599627370496 + x % 4503599627370496

/-- Its exponent and 1074. -/
def ex (x : Int) : Nat := (x / 4503599627370496 - 1).toNat

/-- Its value, in units of 2^-1075. -/
def vl (x : Int) : Int := 2 * man x * 2 ^ ex x

/-- The middle between it and the next one. -/
def md (x : Int) : Int := (2 * man x + 1) * 2 ^ ex x

theorem md_eq (x : Int) : md x = vl x + 2 ^ ex x := by rw [md, vl, Int.add_mul, Int.one_mul]

theorem vl_lt_md (x : Int) : vl x < md x := by have := md_eq x; have := Nm.two_pos (ex x); omega

theorem vl_succ (x : Int) (h : 0 ≤ x) : vl (x + 1) = vl x + 2 * 2 ^ ex x := by
  have hp := Nm.two_pos (ex x)
  by_cases h1 : x + 1 < 4503599627370496
  · have e : ex (x + 1) = ex x := by simp only [ex]; omega
    rw [vl, e, vl, man, man, if_pos h1, if_pos (by omega), Int.mul_add, Int.add_mul]
    omega
  · by_cases h2 : x < 4503599627370496
    · have hx : x = 4503599627370495 := by omega
      subst hx
      decide
    · by_cases h3 : x % 4503599627370496 = 4503599627370495
      · have e : ex (x + 1) = ex x + 1 := by simp only [ex]; omega
        have m : (x + 1) % 4503599627370496 = 0 := by omega
        rw [vl, e, vl, man, man, if_neg h1, if_neg h2, m, h3, Nm.two_succ]
        omega
      · have e : ex (x + 1) = ex x := by simp only [ex]; omega
        have m : (x + 1) % 4503599627370496 = x % 4503599627370496 + 1 := by omega
        rw [vl, e, vl, man, man, if_neg h1, if_neg h2, m, Int.mul_add, Int.mul_add, Int.mul_add, Int.add_mul, Int.add_mul, Int.add_mul]
        omega

theorem md_lt_vl (x : Int) (h : 0 ≤ x) : md x < vl (x + 1) := by
  have := md_eq x; have := vl_succ x h; have := Nm.two_pos (ex x); omega

theorem vl_mono (x : Int) (h : 0 ≤ x) : ∀ k : Nat, vl x ≤ vl (x + k)
  | 0 => by simp
  | k + 1 => by
    have := vl_mono x h k
    have h1 := vl_succ (x + k) (by omega)
    have := Nm.two_pos (ex (x + k))
    have e : x + ((k + 1 : Nat) : Int) = x + (k : Int) + 1 := by omega
    rw [e]
    omega

theorem vl_le {x y : Int} (h : 0 ≤ x) (hxy : x ≤ y) : vl x ≤ vl y := by
  have := vl_mono x h (y - x).toNat
  rwa [show x + ((y - x).toNat : Int) = y by omega] at this

theorem md_lt {x y : Int} (h : 0 ≤ x) (hxy : x < y) : md x < md y := by
  have := md_lt_vl x h
  have := vl_le (x := x + 1) (y := y) (by omega) (by omega)
  have := vl_lt_md y
  omega

theorem man_nn (x : Int) (h : 0 ≤ x) : 0 ≤ man x ∧ man x < 9007199254740992 := by
  simp only [man]; split <;> omega

theorem vl_zero : vl 0 = 0 := by decide
theorem md_zero : md 0 = 1 := by decide
theorem md_nn (x : Int) (h : 0 ≤ x) : 0 < md x := by
  have h1 := man_nn x h
  exact Int.mul_pos (by omega) (Nm.two_pos _)

/-- The double x is what the number P / Q (in units of 2^-1075) is rounded to; more: a trifle above. -/
def Near (P Q : Int) (more : Bool) (x : Int) : Prop :=
  (0 ≤ x ∧ x ≤ 9218868437227405312) ∧ (0 < x → md (x - 1) * Q < P ∨ (md (x - 1) * Q = P ∧ (x % 2 = 0 ∨ more = true))) ∧
    (x < 9218868437227405312 → P < md x * Q ∨ (P = md x * Q ∧ x % 2 = 0 ∧ more = false))

theorem Near.mono {P Q P' Q' : Int} {m m' : Bool} {x y : Int} (hQ : 0 < Q) (hQ' : 0 < Q') (h : Near P Q m x) (h' : Near P' Q' m' y) (hv : P * Q' < P' * Q ∨ (P * Q' = P' * Q ∧ (m = true → m' = true))) : x ≤ y := by
  rcases (show y < x ∨ x ≤ y by omega) with hl | hl
  · exfalso
    have h1 := h.2.1 (by have := h'.1.1; omega)
    have h2 := h'.2.2 (by have := h.1.2; omega)
    have a1 : md (x - 1) * Q ≤ P := by rcases h1 with h | h <;> omega
    have a2 : P' ≤ md y * Q' := by rcases h2 with h | h <;> omega
    have b1 : md (x - 1) * Q * Q' ≤ P * Q' := Int.mul_le_mul_of_nonneg_right a1 (by omega)
    have b2 : P' * Q ≤ md y * Q' * Q := Int.mul_le_mul_of_nonneg_right a2 (by omega)
    have c1 : md (x - 1) * Q * Q' = md (x - 1) * (Q * Q') := Int.mul_assoc _ _ _
    have c2 : md y * Q' * Q = md y * (Q * Q') := by rw [Int.mul_assoc, Int.mul_comm Q' Q]
    have hq := Int.mul_pos hQ hQ'
    by_cases hxy : x - 1 = y
    · rw [hxy] at a1 b1 c1 h1
      have e1 : P * Q' = P' * Q := by rcases hv with h | h <;> omega
      have e2 : md y * (Q * Q') = P * Q' := by omega
      have e3 : md y * Q = P := by
        rcases h1 with h | h
        · have := Int.mul_lt_mul_of_pos_right h hQ'
          omega
        · exact h.1
      have e4 : P' = md y * Q' := by
        rcases h2 with h | h
        · have := Int.mul_lt_mul_of_pos_right h hQ
          omega
        · exact h.1
      rcases h1 with h | ⟨_, h⟩
      · omega
      · rcases h2 with h2 | ⟨_, h2, h3⟩
        · omega
        · rcases h with h | h
          · omega
          · rcases hv with hv | ⟨_, hv⟩
            · omega
            · rw [hv h] at h3; cases h3
    · have := md_lt h'.1.1 (show y < x - 1 by omega)
      have := Int.mul_lt_mul_of_pos_right this hq
      rcases hv with h | h <;> omega
  · exact hl

theorem Near.one {P Q P' Q' : Int} {m : Bool} {x y : Int} (hQ : 0 < Q) (hQ' : 0 < Q') (h : Near P Q m x) (h' : Near P' Q' m y) (hv : P * Q' = P' * Q) : x = y := by
  have h1 := h.mono hQ hQ' h' (.inr ⟨hv, id⟩)
  have h2 := h'.mono hQ' hQ h (.inr ⟨hv.symm, id⟩)
  omega

/-- How the mantissa m at the exponent U - 1074, and what the bits below say, make a double. -/
theorem near_of (P Q : Int) (more : Bool) (m : Int) (U : Nat) (hQ : 0 < Q) (h0 : 0 ≤ m) (h1 : m < 9007199254740992) (hU : 0 < U → 4503599627370496 ≤ m) (hU2 : U ≤ 2045)
    (lo : 2 * m * 2 ^ U * Q ≤ P) (hi : P < (2 * m + 2) * 2 ^ U * Q) (up : Bool)
    (hup : up = true → (2 * m + 1) * 2 ^ U * Q < P ∨ ((2 * m + 1) * 2 ^ U * Q = P ∧ (m % 2 = 1 ∨ more = true)))
    (hno : up = false → P < (2 * m + 1) * 2 ^ U * Q ∨ (P = (2 * m + 1) * 2 ^ U * Q ∧ m % 2 = 0 ∧ more = false)) :
    Near P Q more ((U : Int) * 4503599627370496 + m + if up = true then 1 else 0) := by
  obtain ⟨x, hx⟩ : ∃ x : Int, x = (U : Int) * 4503599627370496 + m := ⟨_, rfl⟩
  rw [← hx]
  have hm : man x = m := by
    simp only [man]
    split
    · rcases Nat.eq_zero_or_pos U with h | h
      · subst h; omega
      · have := hU h; omega
    · rcases Nat.eq_zero_or_pos U with h | h
      · subst h; omega
      · have := hU h; omega
  have he : ex x = U := by
    simp only [ex]
    rcases Nat.eq_zero_or_pos U with h | h
    · subst h; omega
    · have := hU h; omega
  have x0 : 0 ≤ x := by omega
  have hmd : md x = (2 * m + 1) * 2 ^ U := by rw [md, hm, he]
  have hvl : vl x = 2 * m * 2 ^ U := by rw [vl, hm, he]
  have hvs : vl (x + 1) = (2 * m + 2) * 2 ^ U := by rw [vl_succ x x0, hvl, he, Int.add_mul]
  cases up
  · have := hno rfl
    simp only [Bool.false_eq_true, if_false, Int.add_zero]
    refine ⟨⟨x0, by omega⟩, fun hp => .inl ?_, fun _ => ?_⟩
    · have h2 := md_lt_vl (x - 1) (by omega)
      rw [show x - 1 + 1 = x by omega] at h2
      have := Int.mul_lt_mul_of_pos_right h2 hQ
      rw [hvl] at this
      omega
    · rw [hmd]
      rcases this with h | ⟨h, h', h''⟩
      · exact .inl h
      · exact .inr ⟨h, by omega, h''⟩
  · have := hup rfl
    simp only [if_true]
    refine ⟨⟨by omega, by omega⟩, fun hp => ?_, fun _ => .inl ?_⟩
    · rw [show x + 1 - 1 = x by omega, hmd]
      rcases this with h | ⟨h, h'⟩
      · exact .inl h
      · refine .inr ⟨h, ?_⟩
        rcases h' with h' | h'
        · left; omega
        · exact .inr h'
    · have h2 := vl_lt_md (x + 1)
      have := Int.mul_lt_mul_of_pos_right h2 hQ
      rw [hvs] at this
      omega

/-- n * 2^e rounds to x. -/
def Rnd (n d e : Int) (more : Bool) (x : Int) : Prop := ∀ a b : Nat, (a : Int) - b = e + 1075 → Near (n * 2 ^ a) (d * 2 ^ b) more x

theorem md_last : md 9218868437227405311 = 18014398509481983 * 2 ^ 2045 := by
  have h1 : man 9218868437227405311 = 9007199254740991 := by decide
  have h2 : ex 9218868437227405311 = 2045 := by decide
  rw [md, h1, h2]
  rfl

theorem rnd_zero (d e : Int) (more : Bool) (hd : 0 < d) : Rnd 0 d e more 0 := by
  intro a b h
  refine ⟨⟨by omega, by omega⟩, fun h => absurd h (by omega), fun _ => .inl ?_⟩
  rw [Int.zero_mul, md_zero, Int.one_mul]
  exact Int.mul_pos hd (Nm.two_pos b)

/-- So great that it is infinity. -/
theorem rnd_inf (n d e : Int) (L M : Nat) (more : Bool) (hn : 2 ^ L ≤ n) (hd : d ≤ 2 ^ M) (he : 1024 ≤ (L : Int) - M + e) : Rnd n d e more 9218868437227405312 := by
  intro a b h
  refine ⟨⟨by omega, by omega⟩, fun _ => .inl ?_, fun h => absurd h (by omega)⟩
  rw [show (9218868437227405312 : Int) - 1 = 9218868437227405311 by omega, md_last]
  have h1 : (2 : Int) ^ (L + a) ≤ n * 2 ^ a := by rw [Nm.two_add]; exact Int.mul_le_mul_of_nonneg_right hn (by have := Nm.two_pos a; omega)
  have h2 : d * 2 ^ b ≤ 2 ^ (M + b) := by rw [Nm.two_add]; exact Int.mul_le_mul_of_nonneg_right hd (by have := Nm.two_pos b; omega)
  have h3 : (18014398509481983 : Int) * 2 ^ 2045 * (d * 2 ^ b) ≤ 18014398509481983 * 2 ^ 2045 * 2 ^ (M + b) :=
    Int.mul_le_mul_of_nonneg_left h2 (Int.mul_nonneg (by omega) (by have := Nm.two_pos 2045; omega))
  have h4 : (2 : Int) ^ (54 + (2045 + (M + b))) ≤ 2 ^ (L + a) := Nm.two_mono (by omega)
  rw [Nm.two_add 54, Nm.two_add 2045] at h4
  rw [Int.mul_assoc 18014398509481983 (2 ^ 2045) (2 ^ (M + b))] at h3
  have h5 := Int.mul_pos (Nm.two_pos 2045) (Nm.two_pos (M + b))
  have h6 : (2 : Int) ^ 54 = 18014398509481984 := by decide
  rw [h6] at h4
  generalize (2 : Int) ^ 2045 * 2 ^ (M + b) = z at h3 h4 h5
  omega

/-- So small that it is zero. -/
theorem rnd_small (n d e : Int) (L M : Nat) (more : Bool) (hn : n < 2 ^ L) (hd : 2 ^ M ≤ d) (he : (L : Int) - M + e ≤ -1075) : Rnd n d e more 0 := by
  intro a b h
  refine ⟨⟨by omega, by omega⟩, fun h => absurd h (by omega), fun _ => .inl ?_⟩
  rw [md_zero, Int.one_mul]
  have h1 : n * 2 ^ a < 2 ^ (L + a) := by rw [Nm.two_add]; exact Int.mul_lt_mul_of_pos_right hn (Nm.two_pos a)
  have h2 : (2 : Int) ^ (M + b) ≤ d * 2 ^ b := by rw [Nm.two_add]; exact Int.mul_le_mul_of_nonneg_right hd (by have := Nm.two_pos b; omega)
  have h3 : (2 : Int) ^ (L + a) ≤ 2 ^ (M + b) := Nm.two_mono (by omega)
  omega

theorem Rnd.at {n d e : Int} {more : Bool} {x : Int} (h : Rnd n d e more x) : ∃ a b : Nat, (a : Int) - b = e + 1075 ∧ Near (n * 2 ^ a) (d * 2 ^ b) more x := by
  refine ⟨(e + 1075).toNat, (-(e + 1075)).toNat, by omega, h _ _ (by omega)⟩

theorem Rnd.bd {n d e : Int} {more : Bool} {x : Int} (h : Rnd n d e more x) : 0 ≤ x ∧ x ≤ 9218868437227405312 := by
  obtain ⟨a, b, _, h⟩ := h.at
  exact h.1

theorem Rnd.of {n d e : Int} {more : Bool} {x : Int} {a b : Nat} (h : (a : Int) - b = e + 1075) (hn : Near (n * 2 ^ a) (d * 2 ^ b) more x) : Rnd n d e more x := by
  intro a' b' h'
  have e1 : (2 : Int) ^ a * 2 ^ b' = 2 ^ a' * 2 ^ b := by rw [← Nm.two_add, ← Nm.two_add]; congr 1; omega
  have hb := Nm.two_pos b
  have hb' := Nm.two_pos b'
  have key : ∀ y : Int, (y * (d * 2 ^ b') < n * 2 ^ a' ↔ y * (d * 2 ^ b) < n * 2 ^ a) ∧ (y * (d * 2 ^ b') = n * 2 ^ a' ↔ y * (d * 2 ^ b) = n * 2 ^ a) ∧ (n * 2 ^ a' < y * (d * 2 ^ b') ↔ n * 2 ^ a < y * (d * 2 ^ b)) := by
    intro y
    have f1 : y * (d * 2 ^ b') * 2 ^ b = y * d * (2 ^ b' * 2 ^ b) := by simp only [Int.mul_assoc]
    have f2 : y * (d * 2 ^ b) * 2 ^ b' = y * d * (2 ^ b' * 2 ^ b) := by rw [Int.mul_comm (2 ^ b') (2 ^ b)]; simp only [Int.mul_assoc]
    have f3 : n * 2 ^ a' * 2 ^ b = n * (2 ^ a' * 2 ^ b) := Int.mul_assoc _ _ _
    have f4 : n * 2 ^ a * 2 ^ b' = n * (2 ^ a' * 2 ^ b) := by rw [← e1, Int.mul_assoc]
    refine ⟨⟨fun g => ?_, fun g => ?_⟩, ⟨fun g => ?_, fun g => ?_⟩, ⟨fun g => ?_, fun g => ?_⟩⟩
    · have := Int.mul_lt_mul_of_pos_right g hb
      exact Int.lt_of_mul_lt_mul_right (a := 2 ^ b') (by omega) (by omega)
    · have := Int.mul_lt_mul_of_pos_right g hb'
      exact Int.lt_of_mul_lt_mul_right (a := 2 ^ b) (by omega) (by omega)
    · rw [g] at f1
      exact Int.eq_of_mul_eq_mul_right (a := 2 ^ b') (by omega) (by omega)
    · rw [g] at f2
      exact Int.eq_of_mul_eq_mul_right (a := 2 ^ b) (by omega) (by omega)
    · have := Int.mul_lt_mul_of_pos_right g hb
      exact Int.lt_of_mul_lt_mul_right (a := 2 ^ b') (by omega) (by omega)
    · have := Int.mul_lt_mul_of_pos_right g hb'
      exact Int.lt_of_mul_lt_mul_right (a := 2 ^ b) (by omega) (by omega)
  refine ⟨hn.1, fun hx => ?_, fun hx => ?_⟩
  · rcases hn.2.1 hx with g | ⟨g, g'⟩
    · exact .inl ((key _).1.2 g)
    · exact .inr ⟨(key _).2.1.2 g, g'⟩
  · rcases hn.2.2 hx with g | ⟨g, g'⟩
    · exact .inl ((key _).2.2.2 g)
    · exact .inr ⟨((key _).2.1.2 g.symm).symm, g'⟩

theorem Rnd.mono {n d e n' d' e' : Int} {m m' : Bool} {x y : Int} (hd : 0 < d) (hd' : 0 < d') (h : Rnd n d e m x) (h' : Rnd n' d' e' m' y) {a a' : Nat} (haa : (a : Int) - a' = e - e')
    (hv : n * d' * 2 ^ a < n' * d * 2 ^ a' ∨ (n * d' * 2 ^ a = n' * d * 2 ^ a' ∧ (m = true → m' = true))) : x ≤ y := by
  obtain ⟨p, q, hpq, hN⟩ := h'.at
  -- e' + 1075 = p - q; e + 1075 = p - q + a - a'
  have hN2 := h (p + a) (q + a') (by omega)
  have hp := Nm.two_pos p
  have hq := Nm.two_pos q
  have ha' := Nm.two_pos a'
  refine hN2.mono (Int.mul_pos hd (Nm.two_pos _)) (Int.mul_pos hd' hq) hN ?_
  have e1 : n * 2 ^ (p + a) * (d' * 2 ^ q) = n * d' * 2 ^ a * (2 ^ p * 2 ^ q) := by
    rw [Nm.two_add]; ac_rfl
  have e2 : n' * 2 ^ p * (d * 2 ^ (q + a')) = n' * d * 2 ^ a' * (2 ^ p * 2 ^ q) := by
    rw [Nm.two_add]; ac_rfl
  rw [e1, e2]
  rcases hv with g | ⟨g, g'⟩
  · exact .inl (Int.mul_lt_mul_of_pos_right g (Int.mul_pos hp hq))
  · exact .inr ⟨by rw [g], g'⟩

theorem Rnd.one {n d e n' d' e' : Int} {m : Bool} {x y : Int} (hd : 0 < d) (hd' : 0 < d') (h : Rnd n d e m x) (h' : Rnd n' d' e' m y) {a a' : Nat} (haa : (a : Int) - a' = e - e')
    (hv : n * d' * 2 ^ a = n' * d * 2 ^ a') : x = y := by
  have h1 := h.mono hd hd' h' haa (.inr ⟨hv, id⟩)
  have h2 := h'.mono hd' hd h (a := a') (a' := a) (by omega) (.inr ⟨hv.symm, id⟩)
  omega

/-- A number that is exact at its mantissa. -/
theorem rnd_exact (n e : Int) (L j U : Nat) (more : Bool) (hn : 0 < n) (h1 : 2 ^ (L - 1) ≤ n) (hl : 1 ≤ L) (h2 : n < 2 ^ L) (hj : L + j ≤ 53) (hU : 0 < U → L + j = 53) (hU2 : U ≤ 2045) (he : (j : Int) + U = e + 1074) :
    Rnd n 1 e more ((U : Int) * 4503599627370496 + n * 2 ^ j) := by
  intro a b hab
  have e53 : (2 : Int) ^ 53 = 9007199254740992 := by decide
  have e52 : (2 : Int) ^ 52 = 4503599627370496 := by decide
  have hp := Nm.two_pos j
  have hb := Nm.two_pos b
  have m0 : 0 < n * 2 ^ j := Int.mul_pos hn hp
  have m1 : n * 2 ^ j < 9007199254740992 := by
    have g1 : n * 2 ^ j < 2 ^ (L + j) := by rw [Nm.two_add]; exact Int.mul_lt_mul_of_pos_right h2 hp
    have g2 := Nm.two_mono hj
    omega
  have m2 : 0 < U → 4503599627370496 ≤ n * 2 ^ j := by
    intro h
    have g1 : (2 : Int) ^ (L - 1 + j) ≤ n * 2 ^ j := by rw [Nm.two_add]; exact Int.mul_le_mul_of_nonneg_right h1 (by omega)
    rw [show L - 1 + j = 52 by have := hU h; omega] at g1
    omega
  have key : n * 2 ^ a = 2 * (n * 2 ^ j) * 2 ^ U * (1 * 2 ^ b) := by
    rw [show a = 1 + (j + (U + b)) by omega, Nm.two_add, Nm.two_add, Nm.two_add, Int.one_mul, show (2 : Int) ^ 1 = 2 by rfl]
    ac_rfl
  have hw := Int.mul_pos (Nm.two_pos U) hb
  have := near_of (n * 2 ^ a) (1 * 2 ^ b) more (n * 2 ^ j) U (by omega) (by omega) m1 m2 hU2 (by omega)
    (by
      rw [key, Int.one_mul, Int.mul_assoc, Int.mul_assoc (2 * (n * 2 ^ j) + 2)]
      exact Int.mul_lt_mul_of_pos_right (by omega) hw) false (fun h => by cases h)
    (fun _ => .inl (by
      rw [key, Int.one_mul, Int.mul_assoc, Int.mul_assoc (2 * (n * 2 ^ j) + 1)]
      exact Int.mul_lt_mul_of_pos_right (by omega) hw))
  simpa using this

/-- A number whose k lowest bits are cut off. -/
theorem rnd_cut (n e : Int) (L k U : Nat) (more up : Bool) (hn : 0 < n) (h1 : 2 ^ (L - 1) ≤ n) (_hl : 1 ≤ L) (h2 : n < 2 ^ L) (hk : L ≤ k + 53) (hU : 0 < U → L = k + 53) (hU2 : U ≤ 2045) (he : (U : Int) = e + 1074 + k)
    (hup : up = true ↔ (1 ≤ k ∧ n / 2 ^ (k - 1) % 2 = 1 ∧ (more = true ∨ n / 2 ^ k % 2 = 1 ∨ n % 2 ^ (k - 1) ≠ 0))) :
    Rnd n 1 e more ((U : Int) * 4503599627370496 + n / 2 ^ k + if up = true then 1 else 0) := by
  intro a b hab
  have e53 : (2 : Int) ^ 53 = 9007199254740992 := by decide
  have e52 : (2 : Int) ^ 52 = 4503599627370496 := by decide
  have hp := Nm.two_pos k
  have hb := Nm.two_pos b
  have ha := Nm.two_pos a
  have dm := Int.mul_ediv_add_emod n (2 ^ k)
  have r0 := Int.emod_nonneg n (show (2 : Int) ^ k ≠ 0 by omega)
  have r1 := Int.emod_lt_of_pos n hp
  obtain ⟨m, hm⟩ : ∃ m, n / 2 ^ k = m := ⟨_, rfl⟩
  obtain ⟨r, hr⟩ : ∃ r, n % 2 ^ k = r := ⟨_, rfl⟩
  rw [hm, hr] at dm
  rw [hr] at r0 r1
  rw [hm]
  have m0 : 0 ≤ m := by rw [← hm]; exact Int.ediv_nonneg (by omega) (by omega)
  have m1 : m < 9007199254740992 := by
    rw [← hm, Int.ediv_lt_iff_lt_mul hp]
    have g := Nm.two_mono hk
    rw [Nm.two_add, e53] at g
    rw [Int.mul_comm]
    omega
  have m2 : 0 < U → 4503599627370496 ≤ m := by
    intro h
    rw [← hm, Int.le_ediv_iff_mul_le hp]
    rw [show L - 1 = 52 + k by have := hU h; omega, Nm.two_add, e52] at h1
    exact h1
  have hw := Int.mul_pos (Nm.two_pos U) hb
  have ka : (2 : Int) ^ k * 2 ^ a = 2 * (2 ^ U * 2 ^ b) := by
    rw [← Nm.two_add, ← Nm.two_add, ← Nm.two_succ]; congr 1; omega
  have fl : n * 2 ^ a = m * (2 * (2 ^ U * 2 ^ b)) + r * 2 ^ a := by
    rw [← ka, ← dm, Int.add_mul, Int.mul_comm (2 ^ k) m, Int.mul_assoc]
  have rr : 0 ≤ r * 2 ^ a := Int.mul_nonneg r0 (by omega)
  have rl : r * 2 ^ a < 2 * (2 ^ U * 2 ^ b) := by rw [← ka]; exact Int.mul_lt_mul_of_pos_right r1 ha
  have x1 : ∀ c : Int, (2 * m + c) * 2 ^ U * (1 * 2 ^ b) = m * (2 * (2 ^ U * 2 ^ b)) + c * (2 ^ U * 2 ^ b) := by
    intro c
    rw [Int.one_mul, Int.mul_assoc, Int.add_mul, Int.mul_comm 2 m, Int.mul_assoc]
  have half : (1 ≤ k ∧ ∃ s t : Int, n / 2 ^ (k - 1) % 2 = s ∧ n % 2 ^ (k - 1) = t ∧ (s = 0 ∨ s = 1) ∧ 0 ≤ t ∧ r * 2 ^ a = s * (2 ^ U * 2 ^ b) + t * 2 ^ a ∧ t * 2 ^ a < 2 ^ U * 2 ^ b) ∨ (k = 0 ∧ r = 0) := by
    rcases Nat.eq_zero_or_pos k with h | h
    · right
      refine ⟨h, ?_⟩
      subst h
      have : (2 : Int) ^ 0 = 1 := rfl
      omega
    · left
      have hq := Nm.two_pos (k - 1)
      have dq := Int.mul_ediv_add_emod n (2 ^ (k - 1))
      have ds : n / 2 ^ (k - 1) / 2 = m := by
        rw [Int.ediv_ediv_of_nonneg (by omega), ← hm]
        congr 1
        rw [Int.mul_comm, ← Nm.two_succ]; congr 1; omega
      have kk : (2 : Int) ^ (k - 1) * 2 ^ a = 2 ^ U * 2 ^ b := by
        rw [← Nm.two_add, ← Nm.two_add]; congr 1; omega
      have t0 := Int.emod_nonneg n (show (2 : Int) ^ (k - 1) ≠ 0 by omega)
      have t1 := Int.emod_lt_of_pos n hq
      refine ⟨h, _, _, rfl, rfl, by omega, t0, ?_, ?_⟩
      · generalize n % 2 ^ (k - 1) = t at *
        obtain ⟨y, hy⟩ : ∃ y, n / 2 ^ (k - 1) = y := ⟨_, rfl⟩
        rw [hy] at dq ds ⊢
        have hy2 : y = 2 * m + y % 2 := by omega
        have : n * 2 ^ a = (2 * m + y % 2) * (2 ^ U * 2 ^ b) + t * 2 ^ a := by
          rw [← hy2, ← kk, ← dq, Int.add_mul, Int.mul_comm (2 ^ (k - 1)) y, Int.mul_assoc]
        rw [fl, Int.add_mul, Int.mul_comm 2 m, Int.mul_assoc] at this
        omega
      · rw [← kk]; exact Int.mul_lt_mul_of_pos_right t1 ha
  have hx0 := x1 0
  rw [Int.add_zero, Int.zero_mul, Int.add_zero] at hx0
  refine near_of (n * 2 ^ a) (1 * 2 ^ b) more m U (by omega) m0 m1 m2 hU2 (by rw [hx0, fl]; omega) (by rw [x1, fl]; omega) up ?_ ?_
  · intro h
    obtain ⟨g0, g1, g2⟩ := hup.1 h
    rcases half with ⟨_, s, t, hs, ht, _, t0, ht2, _⟩ | ⟨h, _⟩
    · rw [hs] at g1
      rw [ht, hm] at g2
      rw [x1, fl, ht2, g1]
      rcases (show t = 0 ∨ 0 < t by omega) with h0 | h0
      · refine .inr ⟨by rw [h0]; omega, ?_⟩
        rcases g2 with g | g | g
        · exact .inr g
        · exact .inl g
        · exact absurd h0 g
      · have := Int.mul_pos h0 ha
        left; omega
    · omega
  · intro h
    have hn' : ¬ _ := fun g => by rw [hup.2 g] at h; cases h
    rcases half with ⟨hk1, s, t, hs, ht, hs2, t0, ht2, ht3⟩ | ⟨h, h'⟩
    · rw [hs, ht, hm] at hn'
      rw [x1, fl, ht2]
      rcases hs2 with rfl | rfl
      · left; omega
      · right
        have : ¬ (more = true ∨ m % 2 = 1 ∨ t ≠ 0) := fun g => hn' ⟨hk1, rfl, g⟩
        have f1 : t = 0 := by
          rcases (show t = 0 ∨ t ≠ 0 by omega) with h | h
          · exact h
          · exact absurd (.inr (.inr h)) this
        have f2 : m % 2 = 0 := by
          rcases (show m % 2 = 0 ∨ m % 2 = 1 by omega) with h | h
          · exact h
          · exact absurd (.inr (.inl h)) this
        refine ⟨by rw [f1]; omega, f2, ?_⟩
        cases more
        · rfl
        · exact absurd (.inl rfl) this
    · left
      rw [x1, fl, h']
      omega

theorem md_form (x : Int) (h : 0 ≤ x) : ∃ (M : Int) (E : Nat), md x = M * 2 ^ E ∧ 0 < M ∧ M < 18014398509481984 := by
  have := man_nn x h
  exact ⟨_, _, rfl, by omega, by omega⟩

/-- What is known of a fraction by its whole part, which has 55 bits at least, and whether there is a rest. -/
theorem rnd_floor (N D e x : Int) (hD : 0 < D) (hq : 18014398509481984 ≤ N / D) (h : Rnd (N / D) 1 e (decide (N % D ≠ 0)) x) : Rnd N D e false x := by
  obtain ⟨a, b, hab, hN⟩ := h.at
  refine Rnd.of hab ?_
  have dm := Int.mul_ediv_add_emod N D
  have r0 := Int.emod_nonneg N (show D ≠ 0 by omega)
  have r1 := Int.emod_lt_of_pos N hD
  generalize N / D = q at *
  generalize N % D = r at *
  have ha := Nm.two_pos a
  have hb := Nm.two_pos b
  rw [Int.one_mul] at hN
  have fl : N * 2 ^ a = q * 2 ^ a * D + r * 2 ^ a := by rw [← dm, Int.add_mul, Int.mul_comm D q, Int.mul_right_comm]
  have rr := Int.mul_nonneg r0 (show (0 : Int) ≤ 2 ^ a by omega)
  have cm : ∀ y : Int, y * (D * 2 ^ b) = y * 2 ^ b * D := by intro y; rw [Int.mul_comm D, Int.mul_assoc]
  refine ⟨hN.1, fun hx => ?_, fun hx => ?_⟩
  · rw [cm, fl]
    rcases hN.2.1 hx with g | ⟨g, g'⟩
    · have := Int.mul_lt_mul_of_pos_right g hD
      left; omega
    · rw [g]
      rcases (show r = 0 ∨ 0 < r by omega) with h0 | h0
      · refine .inr ⟨by rw [h0]; omega, .inl ?_⟩
        rcases g' with g' | g'
        · exact g'
        · simp [h0] at g'
      · have := Int.mul_pos h0 ha
        left; omega
  · rw [cm, fl]
    rcases hN.2.2 hx with g | ⟨g, g', g''⟩
    · left
      obtain ⟨M, E, hM, M0, M1⟩ := md_form x hN.1.1
      have e54 : (2 : Int) ^ 54 = 18014398509481984 := by decide
      have hEb := Nm.two_pos (E + b)
      rw [hM, Int.mul_assoc, ← Nm.two_add] at g
      have lt : a < E + b := by
        rcases Nat.lt_or_ge a (E + b) with h | h
        · exact h
        · exfalso
          have g1 := Nm.two_mono h
          have g2 : M * 2 ^ (E + b) ≤ 18014398509481984 * 2 ^ (E + b) := Int.mul_le_mul_of_nonneg_right (by omega) (by omega)
          have g3 : 18014398509481984 * 2 ^ a ≤ q * 2 ^ a := Int.mul_le_mul_of_nonneg_right hq (by omega)
          omega
      rw [show E + b = (E + b - a) + a by omega, Nm.two_add, ← Int.mul_assoc] at g
      have g1 := Int.lt_of_mul_lt_mul_right g (by omega)
      have g2 : q * 2 ^ a * D + r * 2 ^ a < (q + 1) * (2 ^ a * D) := by
        have := Int.mul_lt_mul_of_pos_right r1 ha
        rw [Int.add_mul, Int.one_mul, Int.mul_assoc, Int.mul_comm (2 ^ a) D]
        omega
      have g3 : (q + 1) * (2 ^ a * D) ≤ M * 2 ^ (E + b - a) * (2 ^ a * D) := Int.mul_le_mul_of_nonneg_right (by omega) (by have := Int.mul_pos ha hD; omega)
      have g4 : M * 2 ^ (E + b - a) * (2 ^ a * D) = md x * 2 ^ b * D := by
        rw [hM, ← Int.mul_assoc, Int.mul_assoc M, ← Nm.two_add, show E + b - a + a = E + b by omega, Nm.two_add]
        ac_rfl
      omega
    · have h0 : r = 0 := by
        rcases (show r = 0 ∨ r ≠ 0 by omega) with h | h
        · exact h
        · simp [h] at g''
      refine .inr ⟨by rw [h0, g]; omega, g', rfl⟩

theorem Rnd.num {n d e x : Int} {more : Bool} (s : Nat) (h : Rnd (n * 2 ^ s) d (e - s) more x) : Rnd n d e more x := by
  obtain ⟨a, b, hab, hN⟩ := h.at
  rw [Int.mul_assoc, ← Nm.two_add] at hN
  exact Rnd.of (a := s + a) (b := b) (by omega) hN

theorem Rnd.den {n d e x : Int} {more : Bool} (s : Nat) (h : Rnd n (d * 2 ^ s) (e + s) more x) : Rnd n d e more x := by
  obtain ⟨a, b, hab, hN⟩ := h.at
  rw [Int.mul_assoc, ← Nm.two_add] at hN
  exact Rnd.of (a := a) (b := s + b) (by omega) hN

/-- A double is rounded to itself. -/
theorem rnd_self (x e : Int) (more : Bool) (h0 : 0 ≤ x) (h1 : x < 9218868437227405312) (he : e = (ex x : Int) - 1074) : Rnd (man x) 1 e more x := by
  have hQ := Nm.two_pos 0
  refine Rnd.of (a := ex x + 1) (b := 0) (by omega) ?_
  have e1 : man x * 2 ^ (ex x + 1) = vl x := by rw [Nm.two_succ, vl]; ac_rfl
  rw [e1, show (1 : Int) * 2 ^ 0 = 1 by rfl]
  refine ⟨⟨h0, by omega⟩, fun hx => .inl ?_, fun _ => .inl ?_⟩
  · have := md_lt_vl (x - 1) (by omega)
    rw [show x - 1 + 1 = x by omega] at this
    omega
  · have := vl_lt_md x
    omega
end Ie
end Go.Proofs.YtggiioipppbedaaGreatDoor
