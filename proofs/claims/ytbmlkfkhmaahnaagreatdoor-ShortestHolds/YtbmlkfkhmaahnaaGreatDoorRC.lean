/-
  Texts put together: INum, INum2, LNum, LNum2, LNum3.
-/
import Derived.Test.YtbmlkfkhmaahnaaGreatDoorNums
import Derived.Test.YtbmlkfkhmaahnaaGreatDoorRA
import Derived.Test.YtbmlkfkhmaahnaaGreatDoorVOrd
/-
  Doubles as numbers: mantissa, exponent, middles; what it is to be rounded.
-/
namespace Go.Proofs.YtbmlkfkhmaahnaaGreatDoor
namespace Ie

/-- The mantissa of the double x (its bits, no sign). -/
def man (x : Int) : Int := if x < 4503599627370496 then x else 4503599627370496 + x % 4503599627370496

/-- Its exponent and 1074. -/
def ex (x : Int) : Nat := (x / 4503599627370496 - 1).toNat

/-- Its value, in units of 2^-1075. -/
def vl (x : Int) : Int := 2 * man x * 2 ^ ex x

/-- The middle between it and the next one. -/
def md (x : Int) : Int := (2 * man x + 1) * 2 ^ ex x

theorem md_eq (x : Int) : md x = vl x + 2 ^ ex x := by rw [md, vl, Int.add_mul, Int.one_mul]

theorem vl_lt_md (x : Int) : vl x < md x := by have := md_eq x; have := Nm.two_pos (ex x); omega

theorem vl_succ (x : Int) (h : 0 ≤ x) : vl (x + 1) = vl x + 2 * 2 ^ ex x := by
  have hp := Nm.two_pos (ex x)
  by_cases h1 : x + 1 < 4503599627370496
  · have e : ex (x + 1) = ex x := by simp only [ex]; omega
    rw [vl, e, vl, man, man, if_pos h1, if_pos (by omega), Int.mul_add, Int.add_mul]
    omega
  · by_cases h2 : x < 4503599627370496
    · have hx : x = 4503599627370495 := by omega
      subst hx
      decide
    · by_cases h3 : x % 4503599627370496 = 4503599627370495
      · have e : ex (x + 1) = ex x + 1 := by simp only [ex]; omega
        have m : (x + 1) % 4503599627370496 = 0 := by omega
        rw [vl, e, vl, man, man, if_neg h1, if_neg h2, m, h3, Nm.two_succ]
        omega
      · have e : ex (x + 1) = ex x := by simp only [ex]; omega
        have m : (x + 1) % 4503599627370496 = x % 4503599627370496 + 1 := by omega
        rw [vl, e, vl, man, man, if_neg h1, if_neg h2, m, Int.mul_add, Int.mul_add, Int.mul_add, Int.add_mul, Int.add_mul, Int.add_mul]
        omega

theorem md_lt_vl (x : Int) (h : 0 ≤ x) : md x < vl (x + 1) := by
  have := md_eq x; have := vl_succ x h; have := Nm.two_pos (ex x); omega

theorem vl_mono (x : Int) (h : 0 ≤ x) : ∀ k : Nat, vl x ≤ vl (x + k)
  | 0 => by simp
  | k + 1 => by
    have := vl_mono x h k
    have h1 := vl_succ (x + k) (by omega)
    have := Nm.two_pos (ex (x + k))
    have e : x + ((k + 1 : Nat) : Int) = x + (k : Int) + 1 := by omega
    rw [e]
    omega

theorem vl_le {x y : Int} (h : 0 ≤ x) (hxy : x ≤ y) : vl x ≤ vl y := by
  have := vl_mono x h (y - x).toNat
  rwa [show x + ((y - x).toNat : Int) = y by omega] at this

theorem md_lt {x y : Int} (h : 0 ≤ x) (hxy : x < y) : md x < md y := by
  have := md_lt_vl x h
  have := vl_le (x := x + 1) (y := y) (by omega) (by omega)
  have := vl_lt_md y
  omega

theorem man_nn (x : Int) (h : 0 ≤ x) : 0 ≤ man x ∧ man x < 9007199254740992 := by
  simp only [man]; split <;> omega

theorem vl_zero : vl 0 = 0 := by decide
theorem md_zero : md 0 = 1 := by decide
theorem md_nn (x : Int) (h : 0 ≤ x) : 0 < md x := by
  have h1 := man_nn x h
  exact Int.mul_pos (by omega) (Nm.two_pos _)

/-- The double x is what the number P / Q (in units of 2^-1075) is rounded to; more: a trifle above. -/
def Near (P Q : Int) (more : Bool) (x : Int) : Prop :=
  (0 ≤ x ∧ x ≤ 9218868437227405312) ∧ (0 < x → md (x - 1) * Q < P ∨ (md (x - 1) * Q = P ∧ (x % 2 = 0 ∨ more = true))) ∧
    (x < 9218868437227405312 → P < md x * Q ∨ (P = md x * Q ∧ x % 2 = 0 ∧ more = false))

theorem Near.mono {P Q P' Q' : Int} {m m' : Bool} {x y : Int} (hQ : 0 < Q) (hQ' : 0 < Q') (h : Near P Q m x) (h' : Near P' Q' m' y) (hv : P * Q' < P' * Q ∨ (P * Q' = P' * Q ∧ (m = true → m' = true))) : x ≤ y := by
  rcases (show y < x ∨ x ≤ y by omega) with hl | hl
  · exfalso
    have h1 := h.2.1 (by have := h'.1.1; omega)
    have h2 := h'.2.2 (by have := h.1.2; omega)
    have a1 : md (x - 1) * Q ≤ P := by rcases h1 with h | h <;> omega
    have a2 : P' ≤ md y * Q' := by rcases h2 with h | h <;> omega
    have b1 : md (x - 1) * Q * Q' ≤ P * Q' := Int.mul_le_mul_of_nonneg_right a1 (by omega)
    have b2 : P' * Q ≤ md y * Q' * Q := Int.mul_le_mul_of_nonneg_right a2 (by omega)
    have c1 : md (x - 1) * Q * Q' = md (x - 1) * (Q * Q') := Int.mul_assoc _ _ _
    have c2 : md y * Q' * Q = md y * (Q * Q') := by rw [Int.mul_assoc, Int.mul_comm Q' Q]
    have hq := Int.mul_pos hQ hQ'
    by_cases hxy : x - 1 = y
    · rw [hxy] at a1 b1 c1 h1
      have e1 : P * Q' = P' * Q := by rcases hv with h | h <;> omega
      have e2 : md y * (Q * Q') = P * Q' := by omega
      have e3 : md y * Q = P := by
        rcases h1 with h | h
        · have := Int.mul_lt_mul_of_pos_right h hQ'
          omega
        · exact h.1
      have e4 : P' = md y * Q' := by
        rcases h2 with h | h
        · have := Int.mul_lt_mul_of_pos_right h hQ
          omega
        · exact h.1
      rcases h1 with h | ⟨_, h⟩
      · omega
      · rcases h2 with h2 | ⟨_, h2, h3⟩
        · omega
        · rcases h with h | h
          · omega
          · rcases hv with hv | ⟨_, hv⟩
            · omega
            · rw [hv h] at h3; cases h3
    · have := md_lt h'.1.1 (show y < x - 1 by omega)
      have := Int.mul_lt_mul_of_pos_right this hq
      rcases hv with h | h <;> omega
  · exact hl

theorem Near.one {P Q P' Q' : Int} {m : Bool} {x y : Int} (hQ : 0 < Q) (hQ' : 0 < Q') (h : Near P Q m x) (h' : Near P' Q' m y) (hv : P * Q' = P' * Q) : x = y := by
  have h1 := h.mono hQ hQ' h' (.inr ⟨hv, id⟩)
  have h2 := h'.mono hQ' hQ h (.inr ⟨hv.symm, id⟩)
  omega

/-- How the mantissa m at the exponent U - 1074, and what the bits below say, make a double. -/
theorem near_of (P Q : Int) (more : Bool) (m : Int) (U : Nat) (hQ : 0 < Q) (h0 : 0 ≤ m) (h1 : m < 9007199254740992) (hU : 0 < U → 4503599627370496 ≤ m) (hU2 : U ≤ 2045)
    (lo : 2 * m * 2 ^ U * Q ≤ P) (hi : P < (2 * m + 2) * 2 ^ U * Q) (up : Bool)
    (hup : up = true → (2 * m + 1) * 2 ^ U * Q < P ∨ ((2 * m + 1) * 2 ^ U * Q = P ∧ (m % 2 = 1 ∨ more = true)))
    (hno : up = false → P < (2 * m + 1) * 2 ^ U * Q ∨ (P = (2 * m + 1) * 2 ^ U * Q ∧ m % 2 = 0 ∧ more = false)) :
    Near P Q more ((U : Int) * 4503599627370496 + m + if up = true then 1 else 0) := by
  obtain ⟨x, hx⟩ : ∃ x : Int, x = (U : Int) * 4503599627370496 + m := ⟨_, rfl⟩
  rw [← hx]
  have hm : man x = m := by
    simp only [man]
    split
    · rcases Nat.eq_zero_or_pos U with h | h
      · subst h; omega
      · have := hU h; omega
    · rcases Nat.eq_zero_or_pos U with h | h
      · subst h; omega
      · have := hU h; omega
  have he : ex x = U := by
    simp only [ex]
    rcases Nat.eq_zero_or_pos U with h | h
    · subst h; omega
    · have := hU h; omega
  have x0 : 0 ≤ x := by omega
  have hmd : md x = (2 * m + 1) * 2 ^ U := by rw [md, hm, he]
  have hvl : vl x = 2 * m * 2 ^ U := by rw [vl, hm, he]
  have hvs : vl (x + 1) = (2 * m + 2) * 2 ^ U := by rw [vl_succ x x0, hvl, he, Int.add_mul]
  cases up
  · have := hno rfl
    simp only [Bool.false_eq_true, if_false, Int.add_zero]
    refine ⟨⟨x0, by omega⟩, fun hp => .inl ?_, fun _ => ?_⟩
    · have h2 := md_lt_vl (x - 1) (by omega)
      rw [show x - 1 + 1 = x by omega] at h2
      have := Int.mul_lt_mul_of_pos_right h2 hQ
      rw [hvl] at this
      omega
    · rw [hmd]
      rcases this with h | ⟨h, h', h''⟩
      · exact .inl h
      · exact .inr ⟨h, by omega, h''⟩
  · have := hup rfl
    simp only [if_true]
    refine ⟨⟨by omega, by omega⟩, fun hp => ?_, fun _ => .inl ?_⟩
    · rw [show x + 1 - 1 = x by omega, hmd]
      rcases this with h | ⟨h, h'⟩
      · exact .inl h
      · refine .inr ⟨h, ?_⟩
        rcases h' with h' | h'
        · left; omega
        · exact .inr h'
    · have h2 := vl_lt_md (x + 1)
      have := Int.mul_lt_mul_of_pos_right h2 hQ
      rw [hvs] at this
      omega

/-- n * 2^e rounds to x. -/
def Rnd (n d e : Int) (more : Bool) (x : Int) : Prop := ∀ a b : Nat, (a : Int) - b = e + 1075 → Near (n * 2 ^ a) (d * 2 ^ b) more x

theorem md_last : md 9218868437227405311 = 18014398509481983 * 2 ^ 2045 := by
  have h1 : man 9218868437227405311 = 9007199254740991 := by decide
  have h2 : ex 9218868437227405311 = 2045 := by decide
  rw [md, h1, h2]
  rfl

theorem rnd_zero (d e : Int) (more : Bool) (hd : 0 < d) : Rnd 0 d e more 0 := by
  intro a b h
  refine ⟨⟨by omega, by omega⟩, fun h => absurd h (by omega), fun _ => .inl ?_⟩
  rw [Int.zero_mul, md_zero, Int.one_mul]
  exact Int.mul_pos hd (Nm.two_pos b)

/-- So great that it is infinity. -/
theorem rnd_inf (n d e : Int) (L M : Nat) (more : Bool) (hn : 2 ^ L ≤ n) (hd : d ≤ 2 ^ M) (he : 1024 ≤ (L : Int) - M + e) : Rnd n d e more 9218868437227405312 := by
  intro a b h
  refine ⟨⟨by omega, by omega⟩, fun _ => .inl ?_, fun h => absurd h (by omega)⟩
  rw [show (9218868437227405312 : Int) - 1 = 9218868437227405311 by omega, md_last]
  have h1 : (2 : Int) ^ (L + a) ≤ n * 2 ^ a := by rw [Nm.two_add]; exact Int.mul_le_mul_of_nonneg_right hn (by have := Nm.two_pos a; omega)
  have h2 : d * 2 ^ b ≤ 2 ^ (M + b) := by rw [Nm.two_add]; exact Int.mul_le_mul_of_nonneg_right hd (by have := Nm.two_pos b; omega)
  have h3 : (18014398509481983 : Int) * 2 ^ 2045 * (d * 2 ^ b) ≤ 18014398509481983 * 2 ^ 2045 * 2 ^ (M + b) :=
    Int.mul_le_mul_of_nonneg_left h2 (Int.mul_nonneg (by omega) (by have := Nm.two_pos 2045; omega))
  have h4 : (2 : Int) ^ (54 + (2045 + (M + b))) ≤ 2 ^ (L + a) := Nm.two_mono (by omega)
  rw [Nm.two_add 54, Nm.two_add 2045] at h4
  rw [Int.mul_assoc 18014398509481983 (2 ^ 2045) (2 ^ (M + b))] at h3
  have h5 := Int.mul_pos (Nm.two_pos 2045) (Nm.two_pos (M + b))
  have h6 : (2 : Int) ^ 54 = 18014398509481984 := by decide
  rw [h6] at h4
  generalize (2 : Int) ^ 2045 * 2 ^ (M + b) = z at h3 h4 h5
  omega

/-- So small that it is zero. -/
theorem rnd_small (n d e : Int) (L M : Nat) (more : Bool) (hn : n < 2 ^ L) (hd : 2 ^ M ≤ d) (he : (L : Int) - M + e ≤ -1075) : Rnd n d e more 0 := by
  intro a b h
  refine ⟨⟨by omega, by omega⟩, fun h => absurd h (by omega), fun _ => .inl ?_⟩
  rw [md_zero, Int.one_mul]
  have h1 : n * 2 ^ a < 2 ^ (L + a) := by rw [Nm.two_add]; exact Int.mul_lt_mul_of_pos_right hn (Nm.two_pos a)
  have h2 : (2 : Int) ^ (M + b) ≤ d * 2 ^ b := by rw [Nm.two_add]; exact Int.mul_le_mul_of_nonneg_right hd (by have := Nm.two_pos b; omega)
  have h3 : (2 : Int) ^ (L + a) ≤ 2 ^ (M + b) := Nm.two_mono (by omega)
  omega

theorem Rnd.at {n d e : Int} {more : Bool} {x : Int} (h : Rnd n d e more x) : ∃ a b : Nat, (a : Int) - b = e + 1075 ∧ Near (n * 2 ^ a) (d * 2 ^ b) more x := by
  refine ⟨(e + 1075).toNat, (-(e + 1075)).toNat, by omega, h _ _ (by omega)⟩

theorem Rnd.bd {n d e : Int} {more : Bool} {x : Int} (h : Rnd n d e more x) : 0 ≤ x ∧ x ≤ 9218868437227405312 := by
  obtain ⟨a, b, _, h⟩ := h.at
  exact h.1

theorem Rnd.of {n d e : Int} {more : Bool} {x : Int} {a b : Nat} (h : (a : Int) - b = e + 1075) (hn : Near (n * 2 ^ a) (d * 2 ^ b) more x) : Rnd n d e more x := by
  intro a' b' h'
  have e1 : (2 : Int) ^ a * 2 ^ b' = 2 ^ a' * 2 ^ b := by rw [← Nm.two_add, ← Nm.two_add]; congr 1; omega
  have hb := Nm.two_pos b
  have hb' := Nm.two_pos b'
  have key : ∀ y : Int, (y * (d * 2 ^ b') < n * 2 ^ a' ↔ y * (d * 2 ^ b) < n * 2 ^ a) ∧ (y * (d * 2 ^ b') = n * 2 ^ a' ↔ y * (d * 2 ^ b) = n * 2 ^ a) ∧ (n * 2 ^ a' < y * (d * 2 ^ b') ↔ n * 2 ^ a < y * (d * 2 ^ b)) := by
    intro y
    have f1 : y * (d * 2 ^ b') * 2 ^ b = y * d * (2 ^ b' * 2 ^ b) := by simp only [Int.mul_assoc]
    have f2 : y * (d * 2 ^ b) * 2 ^ b' = y * d * (2 ^ b' * 2 ^ b) := by rw [Int.mul_comm (2 ^ b') (2 ^ b)]; simp only [Int.mul_assoc]
    have f3 : n * 2 ^ a' * 2 ^ b = n * (2 ^ a' * 2 ^ b) := Int.mul_assoc _ _ _
    have f4 : n * 2 ^ a * 2 ^ b' = n * (2 ^ a' * 2 ^ b) := by rw [← e1, Int.mul_assoc]
    refine ⟨⟨fun g => ?_, fun g => ?_⟩, ⟨fun g => ?_, fun g => ?_⟩, ⟨fun g => ?_, fun g => ?_⟩⟩
    · have := Int.mul_lt_mul_of_pos_right g hb
      exact Int.lt_of_mul_lt_mul_right (a := 2 ^ b') (by omega) (by omega)
    · have := Int.mul_lt_mul_of_pos_right g hb'
      exact Int.lt_of_mul_lt_mul_right (a := 2 ^ b) (by omega) (by omega)
    · rw [g] at f1
      exact Int.eq_of_mul_eq_mul_right (a := 2 ^ b') (by omega) (by omega)
    · rw [g] at f2
      exact Int.eq_of_mul_eq_mul_right (a := 2 ^ b) (by omega) (by omega)
    · have := Int.mul_lt_mul_of_pos_right g hb
      exact Int.lt_of_mul_lt_mul_right (a := 2 ^ b') (by omega) (by omega)
    · have := Int.mul_lt_mul_of_pos_right g hb'
      exact Int.lt_of_mul_lt_mul_right (a := 2 ^ b) (by omega) (by omega)
  refine ⟨hn.1, fun hx => ?_, fun hx => ?_⟩
  · rcases hn.2.1 hx with g | ⟨g, g'⟩
    · exact .inl ((key _).1.2 g)
    · exact .inr ⟨(key _).2.1.2 g, g'⟩
  · rcases hn.2.2 hx with g | ⟨g, g'⟩
    · exact .inl ((key _).2.2.2 g)
    · exact .inr ⟨((key _).2.1.2 g.symm).symm, g'⟩

theorem Rnd.mono {n d e n' d' e' : Int} {m m' : Bool} {x y : Int} (hd : 0 < d) (hd' : 0 < d') (h : Rnd n d e m x) (h' : Rnd n' d' e' m' y) {a a' : Nat} (haa : (a : Int) - a' = e - e')
    (hv : n * d' * 2 ^ a < n' * d * 2 ^ a' ∨ (n * d' * 2 ^ a = n' * d * 2 ^ a' ∧ (m = true → m' = true))) : x ≤ y := by
  obtain ⟨p, q, hpq, hN⟩ := h'.at
  -- e' + 1075 = p - q; e + 1075 = p - q + a - a'
  have hN2 := h (p + a) (q + a') (by omega)
  have hp := Nm.two_pos p
  have hq := Nm.two_pos q
  have ha' := Nm.two_pos a'
  refine hN2.mono (Int.mul_pos hd (Nm.two_pos _)) (Int.mul_pos hd' hq) hN ?_
  have e1 : n * 2 ^ (p + a) * (d' * 2 ^ q) = n * d' * 2 ^ a * (2 ^ p * 2 ^ q) := by
    rw [Nm.two_add]; ac_rfl
  have e2 : n' * 2 ^ p * (d * 2 ^ (q + a')) = n' * d * 2 ^ a' * (2 ^ p * 2 ^ q) := by
    rw [Nm.two_add]; ac_rfl
  rw [e1, e2]
  rcases hv with g | ⟨g, g'⟩
  · exact .inl (Int.mul_lt_mul_of_pos_right g (Int.mul_pos hp hq))
  · exact .inr ⟨by rw [g], g'⟩

theorem Rnd.one {n d e n' d' e' : Int} {m : Bool} {x y : Int} (hd : 0 < d) (hd' : 0 < d') (h : Rnd n d e m x) (h' : Rnd n' d' e' m y) {a a' : Nat} (haa : (a : Int) - a' = e - e')
    (hv : n * d' * 2 ^ a = n' * d * 2 ^ a') : x = y := by
  have h1 := h.mono hd hd' h' haa (.inr ⟨hv, id⟩)
  have h2 := h'.mono hd' hd h (a := a') (a' := a) (by omega) (.inr ⟨hv.symm, id⟩)
  omega

/-- A number that is exact at its mantissa. -/
theorem rnd_exact (n e : Int) (L j U : Nat) (more : Bool) (hn : 0 < n) (h1 : 2 ^ (L - 1) ≤ n) (hl : 1 ≤ L) (h2 : n < 2 ^ L) (hj : L + j ≤ 53) (hU : 0 < U → L + j = 53) (hU2 : U ≤ 2045) (he : (j : Int) + U = e + 1074) :
    Rnd n 1 e more ((U : Int) * 4503599627370496 + n * 2 ^ j) := by
  intro a b hab
  have e53 : (2 : Int) ^ 53 = 9007199254740992 := by decide
  have e52 : (2 : Int) ^ 52 = 4503599627370496 := by decide
  have hp := Nm.two_pos j
  have hb := Nm.two_pos b
  have m0 : 0 < n * 2 ^ j := Int.mul_pos hn hp
  have m1 : n * 2 ^ j < 9007199254740992 := by
    have g1 : n * 2 ^ j < 2 ^ (L + j) := by rw [Nm.two_add]; exact Int.mul_lt_mul_of_pos_right h2 hp
    have g2 := Nm.two_mono hj
    omega
  have m2 : 0 < U → 4503599627370496 ≤ n * 2 ^ j := by
    intro h
    have g1 : (2 : Int) ^ (L - 1 + j) ≤ n * 2 ^ j := by rw [Nm.two_add]; exact Int.mul_le_mul_of_nonneg_right h1 (by omega)
    rw [show L - 1 + j = 52 by have := hU h; omega] at g1
    omega
  have key : n * 2 ^ a = 2 * (n * 2 ^ j) * 2 ^ U * (1 * 2 ^ b) := by
    rw [show a = 1 + (j + (U + b)) by omega, Nm.two_add, Nm.two_add, Nm.two_add, Int.one_mul, show (2 : Int) ^ 1 = 2 by rfl]
    ac_rfl
  have hw := Int.mul_pos (Nm.two_pos U) hb
  have := near_of (n * 2 ^ a) (1 * 2 ^ b) more (n * 2 ^ j) U (by omega) (by omega) m1 m2 hU2 (by omega)
    (by
      rw [key, Int.one_mul, Int.mul_assoc, Int.mul_assoc (2 * (n * 2 ^ j) + 2)]
      exact Int.mul_lt_mul_of_pos_right (by omega) hw) false (fun h => by cases h)
    (fun _ => .inl (by
      rw [key, Int.one_mul, Int.mul_assoc, Int.mul_assoc (2 * (n * 2 ^ j) + 1)]
      exact Int.mul_lt_mul_of_pos_right (by omega) hw))
  simpa using this

/-- A number whose k lowest bits are cut off. -/
theorem rnd_cut (n e : Int) (L k U : Nat) (more up : Bool) (hn : 0 < n) (h1 : 2 ^ (L - 1) ≤ n) (_hl : 1 ≤ L) (h2 : n < 2 ^ L) (hk : L ≤ k + 53) (hU : 0 < U → L = k + 53) (hU2 : U ≤ 2045) (he : (U : Int) = e + 1074 + k)
    (hup : up = true ↔ (1 ≤ k ∧ n / 2 ^ (k - 1) % 2 = 1 ∧ (more = true ∨ n / 2 ^ k % 2 = 1 ∨ n % 2 ^ (k - 1) ≠ 0))) :
    Rnd n 1 e more ((U : Int) * 4503599627370496 + n / 2 ^ k + if up = true then 1 else 0) := by
  intro a b hab
  have e53 : (2 : Int) ^ 53 = 9007199254740992 := by decide
  have e52 : (2 : Int) ^ 52 = 4503599627370496 := by decide
  have hp := Nm.two_pos k
  have hb := Nm.two_pos b
  have ha := Nm.two_pos a
  have dm := Int.mul_ediv_add_emod n (2 ^ k)
  have r0 := Int.emod_nonneg n (show (2 : Int) ^ k ≠ 0 by omega)
  have r1 := Int.emod_lt_of_pos n hp
  obtain ⟨m, hm⟩ : ∃ m, n / 2 ^ k = m := ⟨_, rfl⟩
  obtain ⟨r, hr⟩ : ∃ r, n % 2 ^ k = r := ⟨_, rfl⟩
  rw [hm, hr] at dm
  rw [hr] at r0 r1
  rw [hm]
  have m0 : 0 ≤ m := by rw [← hm]; exact Int.ediv_nonneg (by omega) (by omega)
  have m1 : m < 9007199254740992 := by
    rw [← hm, Int.ediv_lt_iff_lt_mul hp]
    have g := Nm.two_mono hk
    rw [Nm.two_add, e53] at g
    rw [Int.mul_comm]
    omega
  have m2 : 0 < U → 4503599627370496 ≤ m := by
    intro h
    rw [← hm, Int.le_ediv_iff_mul_le hp]
    rw [show L - 1 = 52 + k by have := hU h; omega, Nm.two_add, e52] at h1
    exact h1
  have hw := Int.mul_pos (Nm.two_pos U) hb
  have ka : (2 : Int) ^ k * 2 ^ a = 2 * (2 ^ U * 2 ^ b) := by
    rw [← Nm.two_add, ← Nm.two_add, ← Nm.two_succ]; congr 1; omega
  have fl : n * 2 ^ a = m * (2 * (2 ^ U * 2 ^ b)) + r * 2 ^ a := by
    rw [← ka, ← dm, Int.add_mul, Int.mul_comm (2 ^ k) m, Int.mul_assoc]
  have rr : 0 ≤ r * 2 ^ a := Int.mul_nonneg r0 (by omega)
  have rl : r * 2 ^ a < 2 * (2 ^ U * 2 ^ b) := by rw [← ka]; exact Int.mul_lt_mul_of_pos_right r1 ha
  have x1 : ∀ c : Int, (2 * m + c) * 2 ^ U * (1 * 2 ^ b) = m * (2 * (2 ^ U * 2 ^ b)) + c * (2 ^ U * 2 ^ b) := by
    intro c
    rw [Int.one_mul, Int.mul_assoc, Int.add_mul, Int.mul_comm 2 m, Int.mul_assoc]
  have half : (1 ≤ k ∧ ∃ s t : Int, n / 2 ^ (k - 1) % 2 = s ∧ n % 2 ^ (k - 1) = t ∧ (s = 0 ∨ s = 1) ∧ 0 ≤ t ∧ r * 2 ^ a = s * (2 ^ U * 2 ^ b) + t * 2 ^ a ∧ t * 2 ^ a < 2 ^ U * 2 ^ b) ∨ (k = 0 ∧ r = 0) := by
    rcases Nat.eq_zero_or_pos k with h | h
    · right
      refine ⟨h, ?_⟩
      subst h
      have : (2 : Int) ^ 0 = 1 := rfl
      omega
    · left
      have hq := Nm.two_pos (k - 1)
      have dq := Int.mul_ediv_add_emod n (2 ^ (k - 1))
      have ds : n / 2 ^ (k - 1) / 2 = m := by
        rw [Int.ediv_ediv_of_nonneg (by omega), ← hm]
        congr 1
        rw [Int.mul_comm, ← Nm.two_succ]; congr 1; omega
      have kk : (2 : Int) ^ (k - 1) * 2 ^ a = 2 ^ U * 2 ^ b := by
        rw [← Nm.two_add, ← Nm.two_add]; congr 1; omega
      have t0 := Int.emod_nonneg n (show (2 : Int) ^ (k - 1) ≠ 0 by omega)
      have t1 := Int.emod_lt_of_pos n hq
      refine ⟨h, _, _, rfl, rfl, by omega, t0, ?_, ?_⟩
      · generalize n % 2 ^ (k - 1) = t at *
        obtain ⟨y, hy⟩ : ∃ y, n / 2 ^ (k - 1) = y := ⟨_, rfl⟩
        rw [hy] at dq ds ⊢
        have hy2 : y = 2 * m + y % 2 := by omega
        have : n * 2 ^ a = (2 * m + y % 2) * (2 ^ U * 2 ^ b) + t * 2 ^ a := by
          rw [← hy2, ← kk, ← dq, Int.add_mul, Int.mul_comm (2 ^ (k - 1)) y, Int.mul_assoc]
        rw [fl, Int.add_mul, Int.mul_comm 2 m, Int.mul_assoc] at this
        omega
      · rw [← kk]; exact Int.mul_lt_mul_of_pos_right t1 ha
  have hx0 := x1 0
  rw [Int.add_zero, Int.zero_mul, Int.add_zero] at hx0
  refine near_of (n * 2 ^ a) (1 * 2 ^ b) more m U (by omega) m0 m1 m2 hU2 (by rw [hx0, fl]; omega) (by rw [x1, fl]; omega) up ?_ ?_
  · intro h
    obtain ⟨g0, g1, g2⟩ := hup.1 h
    rcases half with ⟨_, s, t, hs, ht, _, t0, ht2, _⟩ | ⟨h, _⟩
    · rw [hs] at g1
      rw [ht, hm] at g2
      rw [x1, fl, ht2, g1]
      rcases (show t = 0 ∨ 0 < t by omega) with h0 | h0
      · refine .inr ⟨by rw [h0]; omega, ?_⟩
        rcases g2 with g | g | g
        · exact .inr g
        · exact .inl g
        · exact absurd h0 g
      · have := Int.mul_pos h0 ha
        left; omega
    · omega
  · intro h
    have hn' : ¬ _ := fun g => by rw [hup.2 g] at h; cases h
    rcases half with ⟨hk1, s, t, hs, ht, hs2, t0, ht2, ht3⟩ | ⟨h, h'⟩
    · rw [hs, ht, hm] at hn'
      rw [x1, fl, ht2]
      rcases hs2 with rfl | rfl
      · left; omega
      · right
        have : ¬ (more = true ∨ m % 2 = 1 ∨ t ≠ 0) := fun g => hn' ⟨hk1, rfl, g⟩
        have f1 : t = 0 := by
          rcases (show t = 0 ∨ t ≠ 0 by omega) with h | h
          · exact h
          · exact absurd (.inr (.inr h)) this
        have f2 : m % 2 = 0 := by
          rcases (show m % 2 = 0 ∨ m % 2 = 1 by omega) with h | h
          · exact h
          · exact absurd (.inr (.inl h)) this
        refine ⟨by rw [f1]; omega, f2, ?_⟩
        cases more
        · rfl
        · exact absurd (.inl rfl) this
    · left
      rw [x1, fl, h']
      omega

theorem md_form (x : Int) (h : 0 ≤ x) : ∃ (M : Int) (E : Nat), md x = M * 2 ^ E ∧ 0 < M ∧ M < 18014398509481984 := by
  have := man_nn x h
  exact ⟨_, _, rfl, by omega, by omega⟩

/-- What is known of a fraction by its whole part, which has 55 bits at least, and whether there is a rest. -/
theorem rnd_floor (N D e x : Int) (hD : 0 < D) (hq : 18014398509481984 ≤ N / D) (h : Rnd (N / D) 1 e (decide (N % D ≠ 0)) x) : Rnd N D e false x := by
  obtain ⟨a, b, hab, hN⟩ := h.at
  refine Rnd.of hab ?_
  have dm := Int.mul_ediv_add_emod N D
  have r0 := Int.emod_nonneg N (show D ≠ 0 by omega)
  have r1 := Int.emod_lt_of_pos N hD
  generalize N / D = q at *
  generalize N % D = r at *
  have ha := Nm.two_pos a
  have hb := Nm.two_pos b
  rw [Int.one_mul] at hN
  have fl : N * 2 ^ a = q * 2 ^ a * D + r * 2 ^ a := by rw [← dm, Int.add_mul, Int.mul_comm D q, Int.mul_right_comm]
  have rr := Int.mul_nonneg r0 (show (0 : Int) ≤ 2 ^ a by omega)
  have cm : ∀ y : Int, y * (D * 2 ^ b) = y * 2 ^ b * D := by intro y; rw [Int.mul_comm D, Int.mul_assoc]
  refine ⟨hN.1, fun hx => ?_, fun hx => ?_⟩
  · rw [cm, fl]
    rcases hN.2.1 hx with g | ⟨g, g'⟩
    · have := Int.mul_lt_mul_of_pos_right g hD
      left; omega
    · rw [g]
      rcases (show r = 0 ∨ 0 < r by omega) with h0 | h0
      · refine .inr ⟨by rw [h0]; omega, .inl ?_⟩
        rcases g' with g' | g'
        · exact g'
        · simp [h0] at g'
      · have := Int.mul_pos h0 ha
        left; omega
  · rw [cm, fl]
    rcases hN.2.2 hx with g | ⟨g, g', g''⟩
    · left
      obtain ⟨M, E, hM, M0, M1⟩ := md_form x hN.1.1
      have e54 : (2 : Int) ^ 54 = 18014398509481984 := by decide
      have hEb := Nm.two_pos (E + b)
      rw [hM, Int.mul_assoc, ← Nm.two_add] at g
      have lt : a < E + b := by
        rcases Nat.lt_or_ge a (E + b) with h | h
        · exact h
        · exfalso
          have g1 := Nm.two_mono h
          have g2 : M * 2 ^ (E + b) ≤ 18014398509481984 * 2 ^ (E + b) := Int.mul_le_mul_of_nonneg_right (by omega) (by omega)
          have g3 : 18014398509481984 * 2 ^ a ≤ q * 2 ^ a := Int.mul_le_mul_of_nonneg_right hq (by omega)
          omega
      rw [show E + b = (E + b - a) + a by omega, Nm.two_add, ← Int.mul_assoc] at g
      have g1 := Int.lt_of_mul_lt_mul_right g (by omega)
      have g2 : q * 2 ^ a * D + r * 2 ^ a < (q + 1) * (2 ^ a * D) := by
        have := Int.mul_lt_mul_of_pos_right r1 ha
        rw [Int.add_mul, Int.one_mul, Int.mul_assoc, Int.mul_comm (2 ^ a) D]
        omega
      have g3 : (q + 1) * (2 ^ a * D) ≤ M * 2 ^ (E + b - a) * (2 ^ a * D) := Int.mul_le_mul_of_nonneg_right (by omega) (by have := Int.mul_pos ha hD; omega)
      have g4 : M * 2 ^ (E + b - a) * (2 ^ a * D) = md x * 2 ^ b * D := by
        rw [hM, ← Int.mul_assoc, Int.mul_assoc M, ← Nm.two_add, show E + b - a + a = E + b by omega, Nm.two_add]
        ac_rfl
      omega
    · have h0 : r = 0 := by
        rcases (show r = 0 ∨ r ≠ 0 by omega) with h | h
        · exact h
        · simp [h] at g''
      refine .inr ⟨by rw [h0, g]; omega, g', rfl⟩

theorem Rnd.num {n d e x : Int} {more : Bool} (s : Nat) (h : Rnd (n * 2 ^ s) d (e - s) more x) : Rnd n d e more x := by
  obtain ⟨a, b, hab, hN⟩ := h.at
  rw [Int.mul_assoc, ← Nm.two_add] at hN
  exact Rnd.of (a := s + a) (b := b) (by omega) hN

theorem Rnd.den {n d e x : Int} {more : Bool} (s : Nat) (h : Rnd n (d * 2 ^ s) (e + s) more x) : Rnd n d e more x := by
  obtain ⟨a, b, hab, hN⟩ := h.at
  rw [Int.mul_assoc, ← Nm.two_add] at hN
  exact Rnd.of (a := a) (b := s + b) (by omega) hN

/-- A double is rounded to itself. -/
theorem rnd_self (x e : Int) (more : Bool) (h0 : 0 ≤ x) (h1 : x < 9218868437227405312) (he : e = (ex x : Int) - 1074) : Rnd (man x) 1 e more x := by
  have hQ := Nm.two_pos 0
  refine Rnd.of (a := ex x + 1) (b := 0) (by omega) ?_
  have e1 : man x * 2 ^ (ex x + 1) = vl x := by rw [Nm.two_succ, vl]; ac_rfl
  rw [e1, show (1 : Int) * 2 ^ 0 = 1 by rfl]
  refine ⟨⟨h0, by omega⟩, fun hx => .inl ?_, fun _ => .inl ?_⟩
  · have := md_lt_vl (x - 1) (by omega)
    rw [show x - 1 + 1 = x by omega] at this
    omega
  · have := vl_lt_md x
    omega
end Ie
end Go.Proofs.YtbmlkfkhmaahnaaGreatDoor

/-
  Doubles as numbers: what the laws need.
-/
namespace Go.Proofs.YtbmlkfkhmaahnaaGreatDoor
namespace Ie

/-- A trifle above is a digit far below. -/
theorem rnd_far (n e v : Int) (hn : 0 < n) (h : Rnd (n * 2 ^ 64 + 1) 1 (e - 64) false v) : Rnd n 1 e true v := by
  obtain ⟨a', b, hab, hN⟩ := h.at
  refine Rnd.of (a := 64 + a') (b := b) (by omega) ?_
  rw [Int.one_mul] at hN ⊢
  have ha := Nm.two_pos a'
  have hb := Nm.two_pos b
  have fl : (n * 2 ^ 64 + 1) * 2 ^ a' = n * 2 ^ (64 + a') + 2 ^ a' := by rw [Int.add_mul, Int.one_mul, Int.mul_assoc, ← Nm.two_add]
  rw [fl] at hN
  refine ⟨hN.1, fun hx => ?_, fun hx => .inl ?_⟩
  · have g : md (v - 1) * 2 ^ b ≤ n * 2 ^ (64 + a') + 2 ^ a' := by rcases hN.2.1 hx with g | g <;> omega
    rcases (show md (v - 1) * 2 ^ b < n * 2 ^ (64 + a') ∨ md (v - 1) * 2 ^ b = n * 2 ^ (64 + a') ∨ n * 2 ^ (64 + a') < md (v - 1) * 2 ^ b by omega) with h | h | h
    · exact .inl h
    · exact .inr ⟨h, .inr rfl⟩
    · exfalso
      obtain ⟨M, E, hM, M0, M1⟩ := md_form (v - 1) (by omega)
      rw [hM, Int.mul_assoc, ← Nm.two_add] at g h
      have e54 : (2 : Int) ^ 54 = 18014398509481984 := by decide
      have lt : a' + 10 < E + b := by
        rcases Nat.lt_or_ge (a' + 10) (E + b) with h' | h'
        · exact h'
        · exfalso
          have hEb := Nm.two_pos (E + b)
          have g1 : M * 2 ^ (E + b) < 2 ^ 54 * 2 ^ (E + b) := Int.mul_lt_mul_of_pos_right (by omega) hEb
          rw [← Nm.two_add] at g1
          have g2 := Nm.two_mono (show 54 + (E + b) ≤ 64 + a' by omega)
          have g3 : 1 * 2 ^ (64 + a') ≤ n * 2 ^ (64 + a') := Int.mul_le_mul_of_nonneg_right (by omega) (by have := Nm.two_pos (64 + a'); omega)
          omega
      rw [show E + b = (E + b - (a' + 10)) + (a' + 10) by omega, Nm.two_add (E + b - (a' + 10)), ← Int.mul_assoc] at g h
      rw [show 64 + a' = 54 + (a' + 10) by omega, Nm.two_add 54, ← Int.mul_assoc] at g h
      have g1 := Int.lt_of_mul_lt_mul_right h (by have := Nm.two_pos (a' + 10); omega)
      have g2 : (n * 2 ^ 54 + 1) * 2 ^ (a' + 10) ≤ M * 2 ^ (E + b - (a' + 10)) * 2 ^ (a' + 10) := Int.mul_le_mul_of_nonneg_right (by omega) (by have := Nm.two_pos (a' + 10); omega)
      rw [Int.add_mul, Int.one_mul] at g2
      have g3 : (2 : Int) ^ (a' + 10) = 2 ^ a' * 1024 := by rw [Nm.two_add]; rfl
      omega
  · rcases hN.2.2 hx with g | g <;> omega

theorem Rnd.next {n d e x u : Int} (hd : 0 < d) (h : Rnd n d e false x) (h' : Rnd n d e true u) : u = x ∨ u = x + 1 := by
  have h1 : x ≤ u := h.mono hd hd h' (a := 0) (a' := 0) (by omega) (.inr ⟨rfl, fun h => by cases h⟩)
  rcases (show u ≤ x + 1 ∨ x + 1 < u by omega) with h2 | h2
  · omega
  · exfalso
    obtain ⟨a, b, hab, hN⟩ := h.at
    have hN' := h' a b hab
    have g1 := hN.2.2 (by have := hN'.1.2; omega)
    have g2 := hN'.2.1 (by have := hN.1.1; omega)
    have g3 := Int.mul_lt_mul_of_pos_right (md_lt hN.1.1 (show x < u - 1 by omega)) (Int.mul_pos hd (Nm.two_pos b))
    rcases g1 with g | g <;> rcases g2 with g' | g' <;> omega

/-- A number that is a double is rounded to it. -/
theorem rnd_vl (n e x : Int) (more : Bool) (a b : Nat) (hab : (a : Int) - b = e + 1075) (h0 : 0 ≤ x) (h1 : x < 9218868437227405312) (h : n * 2 ^ a = vl x * 2 ^ b) : Rnd n 1 e more x := by
  refine Rnd.of hab ?_
  have hb := Nm.two_pos b
  rw [h, Int.one_mul]
  refine ⟨⟨h0, by omega⟩, fun hx => .inl ?_, fun _ => .inl ?_⟩
  · have := md_lt_vl (x - 1) (by omega)
    rw [show x - 1 + 1 = x by omega] at this
    exact Int.mul_lt_mul_of_pos_right this hb
  · exact Int.mul_lt_mul_of_pos_right (vl_lt_md x) hb

theorem vl_lt_iff {x y : Int} (hx : 0 ≤ x) (hy : 0 ≤ y) : vl x < vl y ↔ x < y := by
  constructor
  · intro h
    rcases (show x < y ∨ y ≤ x by omega) with g | g
    · exact g
    · have := vl_le hy g; omega
  · intro h
    have h1 := vl_succ x hx
    have h2 := vl_le (x := x + 1) (y := y) (by omega) (by omega)
    have := Nm.two_pos (ex x)
    omega

theorem vl_inj {x y : Int} (hx : 0 ≤ x) (hy : 0 ≤ y) (h : vl x = vl y) : x = y := by
  rcases (show x < y ∨ x = y ∨ y < x by omega) with g | g | g
  · have := (vl_lt_iff hx hy).2 g; omega
  · exact g
  · have := (vl_lt_iff hy hx).2 g; omega

theorem vl_nn {x : Int} (hx : 0 ≤ x) : 0 ≤ vl x := by
  have := vl_le (x := 0) (y := x) (by omega) hx
  rw [vl_zero] at this
  exact this

/-- Whole numbers up to 2^53 are doubles. -/
theorem whole_ex (W : Int) (L : Nat) (h0 : 0 ≤ W) (hL : (0 < W → 1 ≤ L ∧ 2 ^ (L - 1) ≤ W) ∧ W < 2 ^ L) (h1 : W ≤ 9007199254740992) : ∃ x, 0 ≤ x ∧ x < 9218868437227405312 ∧ vl x = W * 2 ^ 1075 := by
  rcases (show W = 0 ∨ 0 < W by omega) with h | h
  · exact ⟨0, by omega, by omega, by rw [h, vl_zero, Int.zero_mul]⟩
  · rcases (show W = 9007199254740992 ∨ W < 9007199254740992 by omega) with hw | hw
    · refine ⟨4845873199050653696, by omega, by omega, ?_⟩
      have e1 : man 4845873199050653696 = 4503599627370496 := by decide
      have e2 : ex 4845873199050653696 = 1075 := by decide
      rw [vl, e1, e2, hw]
      rfl
    · have g := hL.1 h
      have e53 : (2 : Int) ^ 53 = 9007199254740992 := by decide
      have hl : L ≤ 53 := by
        rcases Nat.lt_or_ge 53 L with h' | h'
        · have := Nm.two_mono (show 53 ≤ L - 1 by omega)
          omega
        · exact h'
      obtain ⟨m, hm⟩ : ∃ m, W * 2 ^ (53 - L) = m := ⟨_, rfl⟩
      have hp := Nm.two_pos (53 - L)
      have m1 : m < 9007199254740992 := by
        have : W * 2 ^ (53 - L) < 2 ^ L * 2 ^ (53 - L) := Int.mul_lt_mul_of_pos_right hL.2 hp
        rw [← Nm.two_add, show L + (53 - L) = 53 by omega] at this
        omega
      have m2 : 4503599627370496 ≤ m := by
        have : 2 ^ (L - 1) * 2 ^ (53 - L) ≤ W * 2 ^ (53 - L) := Int.mul_le_mul_of_nonneg_right g.2 (by omega)
        rw [← Nm.two_add, show L - 1 + (53 - L) = 52 by omega] at this
        have : (2 : Int) ^ 52 = 4503599627370496 := by decide
        omega
      obtain ⟨x, hx⟩ : ∃ x : Int, x = ((1021 + L : Nat) : Int) * 4503599627370496 + m := ⟨_, rfl⟩
      have e1 : man x = m := by simp only [man]; split <;> omega
      have e2 : ex x = 1021 + L := by simp only [ex]; omega
      refine ⟨x, by omega, by omega, ?_⟩
      rw [vl, e1, e2, ← hm, Int.mul_comm 2, Int.mul_assoc, Int.mul_assoc, ← Nm.two_succ, ← Nm.two_add]
      congr 2
      omega

/-- Below the middle above it. -/
theorem Rnd.hi {n d e x : Int} (h : Rnd n d e false x) (hx : x < 9218868437227405312) {M : Int} {E s t : Nat} (hM : md x = M * 2 ^ E) (hst : (s : Int) - t = E - 1075 - e) :
    n * 2 ^ t < M * d * 2 ^ s ∨ (n * 2 ^ t = M * d * 2 ^ s ∧ x % 2 = 0) := by
  have hN := h (t + E) s (by omega)
  have hE := Nm.two_pos E
  have e1 : n * 2 ^ (t + E) = n * 2 ^ t * 2 ^ E := by rw [Nm.two_add, Int.mul_assoc]
  have e2 : md x * (d * 2 ^ s) = M * d * 2 ^ s * 2 ^ E := by rw [hM]; ac_rfl
  rcases hN.2.2 hx with g | ⟨g, g', _⟩
  · rw [e1, e2] at g
    exact .inl (Int.lt_of_mul_lt_mul_right g (by omega))
  · rw [e1, e2] at g
    exact .inr ⟨Int.eq_of_mul_eq_mul_right (by omega) g, g'⟩

/-- Above the middle below it. -/
theorem Rnd.lo {n d e x : Int} (h : Rnd n d e false x) (hx : 0 < x) {M : Int} {E s t : Nat} (hM : md (x - 1) = M * 2 ^ E) (hst : (s : Int) - t = E - 1075 - e) :
    M * d * 2 ^ s < n * 2 ^ t ∨ (M * d * 2 ^ s = n * 2 ^ t ∧ x % 2 = 0) := by
  have hN := h (t + E) s (by omega)
  have hE := Nm.two_pos E
  have e1 : n * 2 ^ (t + E) = n * 2 ^ t * 2 ^ E := by rw [Nm.two_add, Int.mul_assoc]
  have e2 : md (x - 1) * (d * 2 ^ s) = M * d * 2 ^ s * 2 ^ E := by rw [hM]; ac_rfl
  rcases hN.2.1 hx with g | ⟨g, g'⟩
  · rw [e1, e2] at g
    exact .inl (Int.lt_of_mul_lt_mul_right g (by omega))
  · rw [e1, e2] at g
    refine .inr ⟨Int.eq_of_mul_eq_mul_right (by omega) g, ?_⟩
    rcases g' with g' | g'
    · exact g'
    · cases g'

/-- The middle below, as the gap below a power of two is half as wide. -/
theorem md_pred (x : Int) (hx : 0 < x) (h : ¬ (man x = 4503599627370496 ∧ 0 < ex x)) : md (x - 1) = (2 * man x - 1) * 2 ^ ex x := by
  have h1 := vl_succ (x - 1) (by omega)
  rw [show x - 1 + 1 = x by omega] at h1
  have h2 := md_eq (x - 1)
  have e : ex (x - 1) = ex x := by
    simp only [ex, man] at h ⊢
    split at h <;> omega
  rw [e] at h1 h2
  rw [Int.sub_mul, Int.one_mul]
  have : vl x = 2 * man x * 2 ^ ex x := rfl
  omega

theorem md_pred' (x : Int) (hx : 0 < x) (h : man x = 4503599627370496 ∧ 0 < ex x) : md (x - 1) = 18014398509481983 * 2 ^ (ex x - 1) := by
  have e : ex (x - 1) = ex x - 1 := by
    simp only [ex, man] at h ⊢
    split at h <;> omega
  have m : man (x - 1) = 9007199254740991 := by
    simp only [ex, man] at h ⊢
    split at h <;> split <;> omega
  rw [md, m, e]
  rfl
end Ie
end Go.Proofs.YtbmlkfkhmaahnaaGreatDoor

namespace Go.Proofs.YtbmlkfkhmaahnaaGreatDoor
open Go.RowKit Go.Deep
namespace Sh

/-- A decimal's number. -/
def uv (d : Sc.D) : Int := dv d.ds * 10 ^ (d.e + 1075).toNat
/-- A normal decimal, not below nothing. -/
structure Ok (d : Sc.D) : Prop where
  neg : d.neg = false
  lo : -1075 ≤ d.e
  form : (d.ds = [48] ∧ d.e = 0) ∨ Fx.Nml d.ds

theorem nml_ne {xs : List Int} (h : Fx.Nml xs) : xs ≠ [48] := fun c => h.head (by rw [c]; rfl)
theorem nml_pos {xs : List Int} (h : Fx.Nml xs) : 0 < dv xs := by
  obtain ⟨n, hn⟩ := h.len
  have := Fx.head_low h.digs hn h.head
  have := Fx.p_pos n
  omega
theorem dv48 : dv [48] = 0 := rfl
theorem uv_zero {d : Sc.D} (h : d.ds = [48]) : uv d = 0 := by rw [uv, h, dv48, Int.zero_mul]
theorem uv_pos {d : Sc.D} (h : Fx.Nml d.ds) : 0 < uv d := Int.mul_pos (nml_pos h) (Fx.p_pos _)
theorem Ok.nn {d : Sc.D} (h : Ok d) : 0 ≤ uv d := by
  rcases h.form with c | c
  · rw [uv_zero c.1]; exact Int.le_refl _
  · exact Int.le_of_lt (uv_pos c)
theorem Ok.nml {d : Sc.D} (h : Ok d) (hp : 0 < uv d) : Fx.Nml d.ds := by
  rcases h.form with c | c
  · rw [uv_zero c.1] at hp; omega
  · exact c
theorem Ok.zero {d : Sc.D} (h : Ok d) (hp : uv d = 0) : d = ⟨false, [48], 0⟩ := by
  rcases h.form with c | c
  · obtain ⟨n, ds, e⟩ := d
    have := h.neg
    simp at this c
    rw [this, c.1, c.2]
  · have := uv_pos c; omega
theorem Ok.inj {a b : Sc.D} (ha : Ok a) (hb : Ok b) (h : uv a = uv b) : a = b := by
  rcases (show uv a = 0 ∨ 0 < uv a by have := ha.nn; omega) with c | c
  · rw [ha.zero c, hb.zero (by omega)]
  · obtain ⟨e1, e2⟩ := Fx.nml_one (ha.nml c) (hb.nml (by omega)) h
    have l1 := ha.lo
    have l2 := hb.lo
    have n1 := ha.neg
    have n2 := hb.neg
    obtain ⟨n, ds, e⟩ := a
    obtain ⟨n', ds', e'⟩ := b
    simp at *
    exact ⟨by rw [n1, n2], e1, by omega⟩
theorem ok_ex (U : Int) (h : 0 ≤ U) : ∃ d, Ok d ∧ uv d = U := by
  rcases (show U = 0 ∨ 0 < U by omega) with c | c
  · exact ⟨⟨false, [48], 0⟩, ⟨rfl, by decide, .inl ⟨rfl, rfl⟩⟩, by rw [uv_zero rfl, c]⟩
  · obtain ⟨xs, a, h1, h2⟩ := Fx.nml_ex U.toNat (by omega)
    refine ⟨⟨false, xs, (a : Int) - 1075⟩, ⟨rfl, by simp; omega, .inr h1⟩, ?_⟩
    simp only [uv]
    rw [show ((a : Int) - 1075 + 1075).toNat = a by omega, h2]
    omega
/-- The normal decimal of U. -/
noncomputable def dd (U : Int) : Sc.D := open Classical in if h : ∃ d, Ok d ∧ uv d = U then Classical.choose h else ⟨false, [48], 0⟩
theorem dd_is {U : Int} (h : 0 ≤ U) : Ok (dd U) ∧ uv (dd U) = U := by
  have k := ok_ex U h
  unfold dd
  rw [dif_pos k]
  exact Classical.choose_spec k
theorem Ok.is {d : Sc.D} (h : Ok d) : d = dd (uv d) := h.inj (dd_is h.nn).1 (dd_is h.nn).2.symm
theorem dd_zero : dd 0 = ⟨false, [48], 0⟩ := (dd_is (Int.le_refl 0)).1.zero (dd_is (Int.le_refl 0)).2

/-- The order of digits. -/
theorem lex_le : ∀ (xs ys : List Int) (M : Nat), Digs xs → Digs ys → xs.length ≤ M → ys.length ≤ M → Sc.lex xs ys ≤ 0 → dv xs * 10 ^ (M - xs.length) ≤ dv ys * 10 ^ (M - ys.length)
  | [], ys, M, _, hy, _, _, _ => by
    have h := Int.mul_nonneg (dv_bd hy).1 (Int.le_of_lt (Fx.p_pos (M - ys.length)))
    rw [show dv [] = 0 from rfl, Int.zero_mul]
    exact h
  | x :: a, [], M, _, _, _, _, h => by simp [Sc.lex] at h
  | x :: a, y :: b, 0, _, _, h, _, _ => by simp at h
  | x :: a, y :: b, M + 1, hx, hy, lx, ly, h => by
    have hxa : Digs a := fun z hz => hx z (by simp [hz])
    have hyb : Digs b := fun z hz => hy z (by simp [hz])
    rw [List.length_cons] at lx ly
    have ea : ∀ (z : Int) (l : List Int), l.length ≤ M → dv (z :: l) * 10 ^ (M + 1 - (z :: l).length) = (z - 48) * 10 ^ M + dv l * 10 ^ (M - l.length) := by
      intro z l hl
      rw [dv_cons, List.length_cons, show M + 1 - (l.length + 1) = M - l.length by omega, Int.add_mul, Int.mul_assoc, ← Int.pow_add, show l.length + (M - l.length) = M by omega]
    rw [ea x a (by omega), ea y b (by omega)]
    simp only [Sc.lex] at h
    rcases Int.lt_trichotomy x y with c | c | c
    · have b1 : dv a * 10 ^ (M - a.length) < 10 ^ a.length * 10 ^ (M - a.length) := Int.mul_lt_mul_of_pos_right (dv_bd hxa).2 (Fx.p_pos _)
      rw [← Int.pow_add, show a.length + (M - a.length) = M by omega] at b1
      have b2 : 0 ≤ dv b * 10 ^ (M - b.length) := Int.mul_nonneg (dv_bd hyb).1 (Int.le_of_lt (Fx.p_pos _))
      have b3 : (x - 48 + 1) * 10 ^ M ≤ (y - 48) * 10 ^ M := Int.mul_le_mul_of_nonneg_right (by omega) (Int.le_of_lt (Fx.p_pos _))
      rw [Int.add_mul, Int.one_mul] at b3
      omega
    · subst c
      rw [if_neg (by omega), if_neg (by omega)] at h
      have := lex_le a b M hxa hyb (by omega) (by omega) h
      omega
    · rw [if_neg (by omega), if_pos c] at h
      omega

/-- U lies between two powers of ten. -/
theorem uv_place {d : Sc.D} (h : Fx.Nml d.ds) (hl : -1075 ≤ d.e) : 10 ^ (Sc.pl d + 1074).toNat ≤ uv d ∧ uv d < 10 ^ (Sc.pl d + 1075).toNat := by
  obtain ⟨n, hn⟩ := h.len
  have b1 := Fx.head_low h.digs hn h.head
  have b2 := (dv_bd h.digs).2
  have p := Fx.p_pos (d.e + 1075).toNat
  unfold Sc.pl uv
  rw [hn] at b2 ⊢
  constructor
  · rw [show (d.e + ((n + 1 : Nat) : Int) + 1074).toNat = n + (d.e + 1075).toNat by omega, Int.pow_add]
    exact Int.mul_le_mul_of_nonneg_right b1 (Int.le_of_lt p)
  · rw [show (d.e + ((n + 1 : Nat) : Int) + 1075).toNat = (n + 1) + (d.e + 1075).toNat by omega, Int.pow_add]
    exact Int.mul_lt_mul_of_pos_right b2 p

theorem mc_le {a b : Sc.D} (ha : Fx.Nml a.ds) (hb : Fx.Nml b.ds) (la : -1075 ≤ a.e) (lb : -1075 ≤ b.e) (h : Sc.mc a b ≤ 0) : uv a ≤ uv b := by
  unfold Sc.mc at h
  split at h
  · rename_i hp
    have hl : Sc.pl a < Sc.pl b := by rcases Sc.cmpI_c (Sc.pl a) (Sc.pl b) with k | k | k <;> omega
    have h1 := (uv_place ha la).2
    have h2 := (uv_place hb lb).1
    have h3 := Fx.p_le (show (Sc.pl a + 1075).toNat ≤ (Sc.pl b + 1074).toNat by omega)
    omega
  · rename_i hp
    have hl : Sc.pl a = Sc.pl b := by omega
    unfold Sc.pl at hl
    obtain ⟨M, hM⟩ : ∃ M, M = max a.ds.length b.ds.length := ⟨_, rfl⟩
    have := lex_le a.ds b.ds M ha.digs hb.digs (by omega) (by omega) h
    unfold uv
    obtain ⟨s, hs⟩ : ∃ s, (a.e + 1075).toNat = M - a.ds.length + s := ⟨(a.e + 1075).toNat - (M - a.ds.length), by omega⟩
    have hs2 : (b.e + 1075).toNat = M - b.ds.length + s := by omega
    rw [hs, hs2, Int.pow_add, Int.pow_add, ← Int.mul_assoc, ← Int.mul_assoc]
    exact Int.mul_le_mul_of_nonneg_right this (Int.le_of_lt (Fx.p_pos _))

theorem mc_uv {a b : Sc.D} (ha : Ok a) (hb : Ok b) (na : Fx.Nml a.ds) (nb : Fx.Nml b.ds) : Sc.mc a b = Sc.cmpI (uv a) (uv b) := by
  have l1 := mc_le na nb ha.lo hb.lo
  have l2 := mc_le nb na hb.lo ha.lo
  have an := Sc.mc_anti a b
  have eq : uv a = uv b → Sc.mc a b = 0 := fun c => by rw [ha.inj hb c]; exact (Sc.mc_zero b b).2 ⟨rfl, rfl⟩
  have eq2 : Sc.mc a b = 0 → uv a = uv b := fun c => by have := l1 (by omega); have := l2 (by omega); omega
  rcases Sc.mc_b a b with c | c | c <;> rcases Sc.cmpI_c (uv a) (uv b) with k | k | k <;> omega

theorem cmp_uv {a b : Sc.D} (ha : Ok a) (hb : Ok b) : Sc.cmpD a b = Sc.cmpI (uv a) (uv b) := by
  have sg : ∀ d : Sc.D, Ok d → (uv d = 0 ∧ Sc.sgn d = 0) ∨ (0 < uv d ∧ Sc.sgn d = 1 ∧ Fx.Nml d.ds) := by
    intro d h
    rcases h.form with c | c
    · exact .inl ⟨uv_zero c.1, by rw [Sc.sgn, if_pos c.1]⟩
    · exact .inr ⟨uv_pos c, by rw [Sc.sgn, if_neg (nml_ne c), h.neg]; rfl, c⟩
  unfold Sc.cmpD
  rcases sg a ha with ⟨a1, a2⟩ | ⟨a1, a2, a3⟩ <;> rcases sg b hb with ⟨b1, b2⟩ | ⟨b1, b2, b3⟩
  · rw [a2, b2, if_neg (by omega), ha.neg, if_neg Bool.false_ne_true, a1, b1]
    have e : a = b := ha.inj hb (by omega)
    rw [e]
    rw [(Sc.mc_zero b b).2 ⟨rfl, rfl⟩]
    rfl
  · rw [a2, b2, if_pos (by omega)]
    rcases Sc.cmpI_c (uv a) (uv b) with k | k | k
    · rw [k.2]; rfl
    · omega
    · omega
  · rw [a2, b2, if_pos (by omega)]
    rcases Sc.cmpI_c (uv a) (uv b) with k | k | k
    · omega
    · omega
    · rw [k.2]; rfl
  · rw [a2, b2, if_neg (by omega), ha.neg, if_neg Bool.false_ne_true]
    exact mc_uv ha hb a3 b3

/-- Five to the 1075. -/
def T5 : Int := 5 ^ 1075
theorem T5_pos : 0 < T5 := by unfold T5; exact Int.pow_pos (by omega)

/-- A double, its bounds. -/
def V (a : Int) : Int := Ie.vl a * T5
def B (a : Int) : Int := Ie.md a * T5
def A (a : Int) : Int := if a = 0 then 0 else B (a - 1)
/-- U reads back. -/
def inB (a U : Int) : Bool := decide ((A a < U ∧ U < B a) ∨ (a % 2 = 0 ∧ A a ≤ U ∧ U ≤ B a))
theorem V_zero : V 0 = 0 := by rw [V, Ie.vl_zero, Int.zero_mul]
theorem V_pos {a : Int} (h : 0 < a) : 0 < V a := by
  have := (Ie.vl_lt_iff (x := 0) (y := a) (by omega) (by omega)).2 h
  rw [Ie.vl_zero] at this
  exact Int.mul_pos this T5_pos
theorem V_nn {a : Int} (h : 0 ≤ a) : 0 ≤ V a := by
  rcases (show a = 0 ∨ 0 < a by omega) with c | c
  · rw [c, V_zero]; exact Int.le_refl _
  · exact Int.le_of_lt (V_pos c)
theorem V_B {a : Int} : V a < B a := Int.mul_lt_mul_of_pos_right (Ie.vl_lt_md a) T5_pos
theorem A_V {a : Int} (h : 0 < a) : A a < V a := by
  have := Ie.md_lt_vl (a - 1) (by omega)
  rw [show a - 1 + 1 = a by omega] at this
  rw [A, if_neg (by omega)]
  exact Int.mul_lt_mul_of_pos_right this T5_pos
theorem A_pos {a : Int} (h : 0 < a) : 0 < A a := by
  rw [A, if_neg (by omega)]
  exact Int.mul_pos (Ie.md_nn (a - 1) (by omega)) T5_pos
theorem inB_V {a : Int} (h : 0 ≤ a) : inB a (V a) = true := by
  unfold inB
  rcases (show a = 0 ∨ 0 < a by omega) with c | c
  · subst c
    have h1 := @V_B 0
    rw [V_zero] at h1 ⊢
    rw [A, if_pos rfl]
    exact decide_eq_true (.inr ⟨rfl, Int.le_refl _, Int.le_of_lt h1⟩)
  · exact decide_eq_true (.inl ⟨A_V c, V_B⟩)
theorem inB_up {a U W : Int} (h : inB a U = true) (h1 : V a ≤ W) (h2 : W ≤ U) (ha : 0 < a) : inB a W = true := by
  have h3 := A_V ha
  have := of_decide_eq_true h
  exact decide_eq_true (by omega)
theorem inB_dn {a U W : Int} (h : inB a U = true) (h1 : W ≤ V a) (h2 : U ≤ W) : inB a W = true := by
  have h3 := @V_B a
  have := of_decide_eq_true h
  exact decide_eq_true (by omega)

/-- How many digits; the last one's place. -/
noncomputable def ln (U : Int) : Nat := (dd U).ds.length
/-- The step of n figures. -/
noncomputable def st (U : Int) (n : Nat) : Int := 10 ^ ((dd U).e + ((ln U : Int) - n) + 1075).toNat
/-- The upper one is nearer (or it is the even one of two). -/
def upB (U S : Int) : Bool := decide (S < 2 * (U % S) ∨ (S = 2 * (U % S) ∧ (U / S) % 2 = 1))
/-- The nearer one, the other one. -/
def k1 (U S : Int) : Int := if upB U S = true then U / S + 1 else U / S
def k2 (U S : Int) : Int := if upB U S = true then U / S else U / S + 1
/-- What within answers. -/
noncomputable def wn (a : Int) (n : Nat) : Option Int :=
  if ln (V a) ≤ n then some (V a)
  else if inB a (k1 (V a) (st (V a) n) * st (V a) n) = true then some (k1 (V a) (st (V a) n) * st (V a) n)
  else if inB a (k2 (V a) (st (V a) n) * st (V a) n) = true then some (k2 (V a) (st (V a) n) * st (V a) n)
  else none

theorem st_pos (U : Int) (n : Nat) : 0 < st U n := Fx.p_pos _
theorem ln_pos {U : Int} (h : 0 ≤ U) : 1 ≤ ln U := by
  have o := (dd_is h).1
  unfold ln
  rcases o.form with c | c
  · rw [c.1]; simp
  · obtain ⟨n, hn⟩ := c.len; omega
theorem st_succ {U : Int} {n : Nat} (h : 0 ≤ U) (hn : n < ln U) : st U n = 10 * st U (n + 1) := by
  have o := (dd_is h).1.lo
  unfold st
  rw [show ((dd U).e + ((ln U : Int) - (n : Nat)) + 1075).toNat = ((dd U).e + ((ln U : Int) - ((n + 1 : Nat) : Int)) + 1075).toNat + 1 by omega, Int.pow_succ, Int.mul_comm]
theorem divS {U S : Int} (h : 0 < S) : U = U / S * S + U % S ∧ 0 ≤ U % S ∧ U % S < S := by
  have h1 := Int.mul_ediv_add_emod U S
  have h2 := Int.emod_nonneg U (show S ≠ 0 by omega)
  have h3 := Int.emod_lt_of_pos U h
  rw [Int.mul_comm] at h1
  omega

theorem wn_in {a : Int} {n : Nat} {U : Int} (ha : 0 ≤ a) (h : wn a n = some U) : inB a U = true := by
  unfold wn at h
  split at h
  · rw [← Option.some.inj h]; exact inB_V ha
  · split at h
    · rw [← Option.some.inj h]; assumption
    · split at h
      · rw [← Option.some.inj h]; assumption
      · exact absurd h (by simp)

/-- Where a multiple of the step reads back, one is found. -/
theorem wn_of {a k : Int} {n : Nat} (ha : 0 < a) (h : inB a (k * st (V a) n) = true) : (wn a n).isSome = true := by
  unfold wn
  split
  · rfl
  · split
    · rfl
    · split
      · rfl
      · exfalso
        rename_i h0 h1 h2
        obtain ⟨d1, d2, d3⟩ := divS (U := V a) (st_pos (V a) n)
        have key : inB a (V a / st (V a) n * st (V a) n) = true ∨ inB a ((V a / st (V a) n + 1) * st (V a) n) = true := by
          rcases (show k * st (V a) n ≤ V a ∨ V a < k * st (V a) n by omega) with c | c
          · left
            refine inB_dn h (by omega) ?_
            have : k ≤ V a / st (V a) n := (Int.le_ediv_iff_mul_le (st_pos _ _)).2 c
            exact Int.mul_le_mul_of_nonneg_right this (Int.le_of_lt (st_pos _ _))
          · right
            refine inB_up h (by rw [Int.add_mul, Int.one_mul]; omega) ?_ ha
            have : V a / st (V a) n < k := (Int.ediv_lt_iff_lt_mul (st_pos _ _)).2 c
            exact Int.mul_le_mul_of_nonneg_right (by omega) (Int.le_of_lt (st_pos _ _))
        unfold k1 at h1
        unfold k2 at h2
        split at h1
        · rw [if_pos (by assumption)] at h2; rcases key with c | c; exact h2 c; exact h1 c
        · rw [if_neg (by assumption)] at h2; rcases key with c | c; exact h1 c; exact h2 c
theorem wn_form {a : Int} {n : Nat} {U : Int} (h : wn a n = some U) : U = V a ∨ (n < ln (V a) ∧ (U = k1 (V a) (st (V a) n) * st (V a) n ∨ (inB a (k1 (V a) (st (V a) n) * st (V a) n) = false ∧ U = k2 (V a) (st (V a) n) * st (V a) n))) := by
  unfold wn at h
  split at h
  · exact .inl (Option.some.inj h).symm
  · refine .inr ⟨by omega, ?_⟩
    split at h
    · exact .inl (Option.some.inj h).symm
    · rename_i hk
      split at h
      · exact .inr ⟨by simpa using hk, (Option.some.inj h).symm⟩
      · exact absurd h (by simp)
theorem k_form (U S : Int) : (k1 U S = U / S ∧ k2 U S = U / S + 1) ∨ (k1 U S = U / S + 1 ∧ k2 U S = U / S) := by
  unfold k1 k2
  split
  · exact .inr ⟨rfl, rfl⟩
  · exact .inl ⟨rfl, rfl⟩

theorem wn_mono {a : Int} {n : Nat} (ha : 0 ≤ a) (h : (wn a n).isSome = true) : (wn a (n + 1)).isSome = true := by
  obtain ⟨U, hU⟩ := Option.isSome_iff_exists.1 h
  rcases (show a = 0 ∨ 0 < a by omega) with c | c
  · subst c
    have : ln (V 0) = 1 := by rw [V_zero, ln, dd_zero]; rfl
    unfold wn
    rw [if_pos (by omega)]
    rfl
  · rcases Nat.lt_or_ge (n + 1) (ln (V a)) with g | g
    · have s := st_succ (V_nn ha) (show n < ln (V a) by omega)
      have i := wn_in ha hU
      rcases wn_form hU with k | ⟨_, k⟩
      · have : wn a n = some (V a) := by rw [hU, k]
        refine wn_of (k := V a / st (V a) (n + 1)) c ?_
        rcases (show inB a (V a / st (V a) (n + 1) * st (V a) (n + 1)) = true ∨ inB a (V a / st (V a) (n + 1) * st (V a) (n + 1)) = false by cases inB a (V a / st (V a) (n + 1) * st (V a) (n + 1)) <;> simp) with q | q
        · exact q
        · exfalso
          unfold wn at this
          rw [if_neg (by omega)] at this
          obtain ⟨d1, d2, d3⟩ := divS (U := V a) (st_pos (V a) (n + 1))
          have mul : ∃ z : Int, V a = z * st (V a) n := by
            split at this
            · exact ⟨_, (Option.some.inj this).symm⟩
            · split at this
              · exact ⟨_, (Option.some.inj this).symm⟩
              · exact absurd this (by simp)
          obtain ⟨z, hz⟩ := mul
          have e : V a / st (V a) (n + 1) = 10 * z := by
            refine Int.ediv_eq_of_eq_mul_left (by have := st_pos (V a) (n + 1); omega) ?_
            have hz2 := hz
            rw [s] at hz2
            rw [show 10 * z * st (V a) (n + 1) = z * (10 * st (V a) (n + 1)) by ac_rfl]
            exact hz2
          rw [e, show 10 * z * st (V a) (n + 1) = z * (10 * st (V a) (n + 1)) by ac_rfl, ← s, ← hz, inB_V ha] at q
          exact absurd q (by decide)
      · obtain ⟨z, hz⟩ : ∃ z : Int, U = z * st (V a) n := by
          rcases k with k | ⟨_, k⟩ <;> exact ⟨_, k⟩
        rw [hz, s, show z * (10 * st (V a) (n + 1)) = z * 10 * st (V a) (n + 1) by ac_rfl] at i
        exact wn_of c i
    · unfold wn
      rw [if_pos g]
      rfl
end Sh
end Go.Proofs.YtbmlkfkhmaahnaaGreatDoor

namespace Go.Proofs.YtbmlkfkhmaahnaaGreatDoor
open Go.RowKit Go.Deep
namespace Sh

/-- The place of a number's head. -/
noncomputable def pl (U : Int) : Int := (dd U).e + ln U
theorem place {U : Int} (h : 0 < U) : 10 ^ (pl U + 1074).toNat ≤ U ∧ U < 10 ^ (pl U + 1075).toNat ∧ -1074 ≤ pl U := by
  have o := dd_is (Int.le_of_lt h)
  have n := o.1.nml (by rw [o.2]; exact h)
  have p := uv_place n o.1.lo
  rw [o.2] at p
  have := ln_pos (Int.le_of_lt h)
  have := o.1.lo
  exact ⟨p.1, p.2, by unfold pl; omega⟩
theorem st_pl (U : Int) (n : Nat) : st U n = 10 ^ (pl U - n + 1075).toNat := by
  unfold st pl
  rw [show (dd U).e + ((ln U : Int) - (n : Int)) + 1075 = (dd U).e + (ln U : Int) - (n : Int) + 1075 by omega]

theorem room_lo : (10 : Int) ^ 751 ≤ 2 * 5 ^ 1075 := by decide +kernel
theorem room_hi : (2 : Int) ^ 2099 * 5 ^ 1075 ≤ 10 ^ 1384 := by decide +kernel
theorem V_place {a : Int} (h0 : 0 < a) (h1 : a < 9218868437227405312) : -323 ≤ pl (V a) ∧ pl (V a) ≤ 309 := by
  obtain ⟨p1, p2, p3⟩ := place (V_pos h0)
  have l1 : (10 : Int) ^ 751 ≤ V a := by
    have h2 := Ie.vl_le (x := 1) (y := a) (by omega) (by omega)
    have h3 : Ie.vl 1 = 2 := by decide
    rw [h3] at h2
    have h4 := Int.mul_le_mul_of_nonneg_right h2 (Int.le_of_lt T5_pos)
    have h5 : (10 : Int) ^ 751 ≤ 2 * T5 := room_lo
    exact Int.le_trans h5 h4
  have l2 : V a < 10 ^ 1384 := by
    have h2 := (Ie.vl_lt_iff (x := a) (y := 9218868437227405312) (by omega) (by omega)).2 h1
    have h3 : Ie.vl 9218868437227405312 = 2 ^ 2099 := by decide +kernel
    rw [h3] at h2
    have h4 := Int.mul_lt_mul_of_pos_right h2 T5_pos
    have h5 : (2 : Int) ^ 2099 * T5 ≤ 10 ^ 1384 := room_hi
    exact Int.lt_of_lt_of_le h4 h5
  have q1 := Fx.p_lt (Int.lt_of_le_of_lt l1 p2)
  have q2 := Fx.p_lt (Int.lt_of_le_of_lt p1 l2)
  omega

theorem wn17 {a : Int} (ha : 0 < a) : (wn a 17).isSome = true := by
  rcases Nat.lt_or_ge 17 (ln (V a)) with hl | hl
  · refine wn_of (k := k1 (V a) (st (V a) 17)) ha ?_
    obtain ⟨p1, p2, p3⟩ := place (V_pos ha)
    have hpl : pl (V a) = (dd (V a)).e + ln (V a) := rfl
    have lo := (dd_is (V_nn (Int.le_of_lt ha))).1.lo
    have hS : 10000000000000000 * st (V a) 17 ≤ V a := by
      rw [st_pl]
      refine Int.le_trans (Int.le_of_eq ?_) p1
      rw [show (10000000000000000 : Int) = 10 ^ 16 by decide, ← Int.pow_add]
      congr 1
      omega
    obtain ⟨d1, d2, d3⟩ := divS (U := V a) (st_pos (V a) 17)
    have sp := st_pos (V a) 17
    obtain ⟨g, hg⟩ : ∃ g, (2 : Int) ^ Ie.ex a * T5 = g := ⟨_, rfl⟩
    have gp : 0 < g := by rw [← hg]; exact Int.mul_pos (Nm.two_pos _) T5_pos
    have mb := Ie.man_nn a (Int.le_of_lt ha)
    have hB : B a = V a + g := by rw [B, V, Ie.md_eq, Int.add_mul, hg]
    have hV : V a = 2 * Ie.man a * g := by rw [V, Ie.vl, ← hg]; generalize T5 = t; generalize (2 : Int) ^ Ie.ex a = y; generalize Ie.man a = z; ac_rfl
    have key : ∀ c : Int, A a + c = V a → c ≤ g → st (V a) 17 < 2 * c → inB a (k1 (V a) (st (V a) 17) * st (V a) 17) = true := by
      intro c h1 h2 h3
      generalize st (V a) 17 = S at *
      have e1 : (V a / S + 1) * S = V a / S * S + S := by rw [Int.add_mul, Int.one_mul]
      have A0 := A_V ha
      unfold k1
      split
      · rename_i hu
        rw [e1]
        have := of_decide_eq_true hu
        exact decide_eq_true (.inl (by omega))
      · rename_i hu
        have : ¬ (S < 2 * (V a % S) ∨ (S = 2 * (V a % S) ∧ (V a / S) % 2 = 1)) := fun q => hu (decide_eq_true q)
        exact decide_eq_true (.inl (by omega))
    by_cases hp : Ie.man a = 4503599627370496 ∧ 0 < Ie.ex a
    · have hm := Ie.md_pred' a ha hp
      obtain ⟨f, hf⟩ : ∃ f, (2 : Int) ^ (Ie.ex a - 1) * T5 = f := ⟨_, rfl⟩
      have hgf : g = 2 * f := by
        obtain ⟨x, hx⟩ : ∃ x, Ie.ex a = x + 1 := ⟨Ie.ex a - 1, by omega⟩
        rw [← hg, ← hf, hx, Nat.add_sub_cancel, Int.pow_succ]
        generalize T5 = t
        generalize (2 : Int) ^ x = y
        ac_rfl
      have hA : A a = 18014398509481983 * f := by rw [A, if_neg (by omega), B, hm, ← hf, Int.mul_assoc]
      rw [hp.1] at hV
      exact key f (by omega) (by omega) (by omega)
    · have hm := Ie.md_pred a ha hp
      have hA : A a + g = V a := by
        rw [A, if_neg (by omega), B, hm, V, Ie.vl, ← hg, ← Int.add_mul]
        congr 1
        rw [Int.sub_mul, Int.one_mul]
        omega
      have hle : 2 * Ie.man a * g ≤ 18014398509481982 * g := Int.mul_le_mul_of_nonneg_right (by omega) (Int.le_of_lt gp)
      exact key g hA (Int.le_refl _) (by omega)
  · unfold wn
    rw [if_pos hl]
    rfl

/-- The decimal of k times a power of ten. -/
theorem dd_pow {k : Int} {s n : Nat} (hk : 0 < k) (hn : 1 ≤ n) (h : k ≤ 10 ^ n) : (dd (k * 10 ^ s)).ds.length ≤ n ∧ (s : Int) ≤ (dd (k * 10 ^ s)).e + 1075 ∧ ((dd (k * 10 ^ s)).e + 1075 = s → dv (dd (k * 10 ^ s)).ds = k) := by
  obtain ⟨xs, j, h1, h2⟩ := Fx.nml_ex k.toNat (by omega)
  have hk2 : ((k.toNat : Nat) : Int) = k := by omega
  rw [hk2] at h2
  have o : Ok ⟨false, xs, (j : Int) + s - 1075⟩ := ⟨rfl, by simp; omega, .inr h1⟩
  have hu : uv ⟨false, xs, (j : Int) + s - 1075⟩ = k * 10 ^ s := by
    simp only [uv]
    rw [show ((j : Int) + (s : Int) - 1075 + 1075).toNat = j + s by omega, Int.pow_add, ← Int.mul_assoc, h2]
  have e := o.is
  rw [hu] at e
  rw [← e]
  refine ⟨?_, by simp; omega, fun g => ?_⟩
  · show xs.length ≤ n
    obtain ⟨m, hm⟩ := h1.len
    have b := Fx.head_low h1.digs hm h1.head
    have j1 : (1 : Int) ≤ 10 ^ j := Fx.p_pos j
    have vp := nml_pos h1
    have b2 : dv xs * 1 ≤ dv xs * 10 ^ j := Int.mul_le_mul_of_nonneg_left j1 (Int.le_of_lt vp)
    rcases (show dv xs < 10 ^ n ∨ dv xs = 10 ^ n by omega) with c | c
    · have := Fx.p_lt (Int.lt_of_le_of_lt b c)
      omega
    · exfalso
      obtain ⟨q, rfl⟩ : ∃ q, n = q + 1 := ⟨n - 1, by omega⟩
      have := h1.mod
      rw [c, Int.pow_succ] at this
      omega
  · have hj : j = 0 := by
      have : (j : Int) + s - 1075 + 1075 = s := g
      omega
    subst hj
    rw [Int.pow_zero, Int.mul_one] at h2
    exact h2

theorem wn_pos {a : Int} {n : Nat} {U : Int} (ha : 0 < a) (h : wn a n = some U) : 0 < U := by
  have i := of_decide_eq_true (wn_in (Int.le_of_lt ha) h)
  have := A_pos ha
  omega
/-- The two about the number. -/
theorem k_room {a : Int} {n : Nat} (ha : 0 < a) (hn : 1 ≤ n) (hl : n < ln (V a)) : 1 ≤ V a / st (V a) n ∧ V a / st (V a) n + 1 ≤ 10 ^ n ∧ 0 < V a % st (V a) n ∧ st (V a) n = 10 ^ (pl (V a) - n + 1075).toNat ∧ 0 ≤ pl (V a) - n + 1075 := by
  obtain ⟨p1, p2, p3⟩ := place (V_pos ha)
  have o := dd_is (V_nn (Int.le_of_lt ha))
  have lo := o.1.lo
  have nm := o.1.nml (by rw [o.2]; exact V_pos ha)
  have hpl : pl (V a) = (dd (V a)).e + ln (V a) := rfl
  have sp := st_pos (V a) n
  have e0 := st_pl (V a) n
  have q0 : 0 ≤ pl (V a) - n + 1075 := by omega
  refine ⟨?_, ?_, ?_, e0, q0⟩
  · refine (Int.le_ediv_iff_mul_le sp).2 ?_
    rw [Int.one_mul, e0]
    exact Int.le_trans (Fx.p_le (by omega)) p1
  · have : V a / st (V a) n < 10 ^ n := by
      refine (Int.ediv_lt_iff_lt_mul sp).2 ?_
      rw [e0, ← Int.pow_add]
      refine Int.lt_of_lt_of_le p2 (Fx.p_le (by omega))
    omega
  · rcases (show V a % st (V a) n = 0 ∨ 0 < V a % st (V a) n by have := (divS (U := V a) sp).2.1; omega) with c | c
    · exfalso
      obtain ⟨d1, _, _⟩ := divS (U := V a) sp
      rw [c, Int.add_zero] at d1
      have hv : dv (dd (V a)).ds * 10 ^ ((dd (V a)).e + 1075).toNat = V a := o.2
      have e1 : st (V a) n = 10 ^ (ln (V a) - n) * 10 ^ ((dd (V a)).e + 1075).toNat := by rw [e0, ← Int.pow_add]; congr 1; omega
      generalize V a / st (V a) n = z at d1
      have hv := hv.trans (d1.trans (show z * st (V a) n = z * 10 ^ (ln (V a) - n) * 10 ^ ((dd (V a)).e + 1075).toNat by rw [e1, Int.mul_assoc]))
      have hz := Int.eq_of_mul_eq_mul_right (by have := Fx.p_pos ((dd (V a)).e + 1075).toNat; omega) hv
      obtain ⟨q, hq⟩ : ∃ q, ln (V a) - n = q + 1 := ⟨ln (V a) - n - 1, by omega⟩
      rw [hq, Int.pow_succ] at hz
      have := nm.mod
      rw [hz, ← Int.mul_assoc] at this
      omega
    · exact c

theorem k_one (U S : Int) (k : Int) (h : k = k1 U S ∨ k = k2 U S) : k = U / S ∨ k = U / S + 1 := by
  rcases k_form U S with c | c <;> rcases h with g | g <;> omega

/-- Where the digits that are told lie. -/
theorem wn_room {a : Int} {n : Nat} {U : Int} (ha : 0 < a) (hn : 1 ≤ n) (h : wn a n = some U) : Fx.Nml (dd U).ds ∧ (dd U).ds.length ≤ n ∧ pl (V a) - n ≤ (dd U).e ∧ (dd U).e ≤ pl (V a) := by
  have up := wn_pos ha h
  have o := dd_is (Int.le_of_lt up)
  have nm := o.1.nml (by rw [o.2]; exact up)
  refine ⟨nm, ?_⟩
  rcases wn_form h with c | ⟨hl, c⟩
  · subst c
    have hl : ln (V a) ≤ n ∨ n < ln (V a) := by omega
    rcases hl with hl | hl
    · have hpl : pl (V a) = (dd (V a)).e + ln (V a) := rfl
      have := ln_pos (V_nn (Int.le_of_lt ha))
      exact ⟨hl, by omega, by omega⟩
    · exfalso
      unfold wn at h
      rw [if_neg (by omega)] at h
      have kr := k_room ha hn hl
      obtain ⟨d1, d2, d3⟩ := divS (U := V a) (st_pos (V a) n)
      have e1 : (V a / st (V a) n + 1) * st (V a) n = V a / st (V a) n * st (V a) n + st (V a) n := by rw [Int.add_mul, Int.one_mul]
      have : ∃ k, (k = k1 (V a) (st (V a) n) ∨ k = k2 (V a) (st (V a) n)) ∧ k * st (V a) n = V a := by
        split at h
        · exact ⟨_, .inl rfl, Option.some.inj h⟩
        · split at h
          · exact ⟨_, .inr rfl, Option.some.inj h⟩
          · exact absurd h (by simp)
      obtain ⟨k, hk, hk2⟩ := this
      rcases k_one _ _ _ hk with g | g <;> rw [g] at hk2 <;> omega
  · obtain ⟨r1, r2, r3, r4, r5⟩ := k_room ha hn hl
    obtain ⟨k, hk, hU⟩ : ∃ k, (k = k1 (V a) (st (V a) n) ∨ k = k2 (V a) (st (V a) n)) ∧ U = k * st (V a) n := by
      rcases c with c | ⟨_, c⟩
      · exact ⟨_, .inl rfl, c⟩
      · exact ⟨_, .inr rfl, c⟩
    have kb := k_one _ _ _ hk
    have d := dd_pow (k := k) (s := (pl (V a) - n + 1075).toNat) (n := n) (by omega) hn (by omega)
    rw [← r4, ← hU] at d
    refine ⟨d.1, by omega, ?_⟩
    obtain ⟨q1, q2, q3⟩ := place up
    obtain ⟨p1, p2, p3⟩ := place (V_pos ha)
    have hb : U ≤ 10 ^ (pl (V a) + 1075).toNat := by
      rw [hU, r4]
      have := Int.mul_le_mul_of_nonneg_right (show k ≤ 10 ^ n by omega) (Int.le_of_lt (Fx.p_pos (pl (V a) - n + 1075).toNat))
      rw [← Int.pow_add] at this
      refine Int.le_trans this (Fx.p_le (by omega))
    have hpu : pl U ≤ pl (V a) + 1 := by
      rcases (show pl U ≤ pl (V a) + 1 ∨ pl (V a) + 1 < pl U by omega) with g | g
      · exact g
      · have g1 : (pl U + 1074).toNat = (pl (V a) + 1075).toNat + ((pl U + 1074).toNat - (pl (V a) + 1075).toNat - 1) + 1 := by omega
        rw [g1, Int.pow_succ, Int.pow_add] at q1
        have z1 := Fx.p_pos (pl (V a) + 1075).toNat
        have z2 : (1 : Int) ≤ 10 ^ ((pl U + 1074).toNat - (pl (V a) + 1075).toNat - 1) := Fx.p_pos _
        have z3 := Int.mul_le_mul_of_nonneg_left z2 (Int.le_of_lt z1)
        omega
    have hpl : pl U = (dd U).e + ln U := rfl
    have := ln_pos (Int.le_of_lt up)
    omega

/-- No neighbour in the last place that reads back lies nearer; if one is as near, the last digit is even. -/
theorem wn_near {a : Int} {n : Nat} {U W : Int} (ha : 0 < a) (hn : 1 ≤ n) (h : wn a n = some U) (hW : W = U + 10 ^ ((dd U).e + 1075).toNat ∨ W = U - 10 ^ ((dd U).e + 1075).toNat) (hi : inB a W = true) :
    (U - V a).natAbs ≤ (W - V a).natAbs ∧ ((U - V a).natAbs = (W - V a).natAbs → dv (dd U).ds % 2 = 0) := by
  have up := wn_pos ha h
  have pp := Fx.p_pos ((dd U).e + 1075).toNat
  rcases wn_form h with c | ⟨hl, c⟩
  · omega
  · obtain ⟨r1, r2, r3, r4, r5⟩ := k_room ha hn hl
    obtain ⟨k, hk, hU⟩ : ∃ k, (k = k1 (V a) (st (V a) n) ∨ (inB a (k1 (V a) (st (V a) n) * st (V a) n) = false ∧ k = k2 (V a) (st (V a) n))) ∧ U = k * st (V a) n := by
      rcases c with c | ⟨c', c⟩
      · exact ⟨_, .inl rfl, c⟩
      · exact ⟨_, .inr ⟨c', rfl⟩, c⟩
    have kb := k_one _ _ k (by rcases hk with g | g; exact .inl g; exact .inr g.2)
    have d := dd_pow (k := k) (s := (pl (V a) - n + 1075).toNat) (n := n) (by omega) hn (by omega)
    rw [← r4, ← hU] at d
    have d2 := d.2.1
    have d3 := d.2.2
    obtain ⟨t, ht⟩ : ∃ t : Nat, ((dd U).e + 1075).toNat = (pl (V a) - n + 1075).toNat + t := ⟨((dd U).e + 1075).toNat - (pl (V a) - n + 1075).toNat, by omega⟩
    have hP : (10 : Int) ^ ((dd U).e + 1075).toNat = 10 ^ t * st (V a) n := by rw [ht, r4, Int.pow_add, Int.mul_comm]
    have t1 : (1 : Int) ≤ 10 ^ t := Fx.p_pos t
    obtain ⟨m, hm, hmW⟩ : ∃ m, (m = k + 10 ^ t ∨ m = k - 10 ^ t) ∧ W = m * st (V a) n := by
      rcases hW with g | g
      · exact ⟨k + 10 ^ t, .inl rfl, by rw [g, hP, hU, Int.add_mul]⟩
      · exact ⟨k - 10 ^ t, .inr rfl, by rw [g, hP, hU, Int.sub_mul]⟩
    have hmk : m ≠ k := by omega
    have even : (m = k + 1 ∨ m = k - 1) → k % 2 = 0 → dv (dd U).ds % 2 = 0 := by
      intro g1 g2
      have t0 : t = 0 := by
        rcases Nat.eq_zero_or_pos t with q | q
        · exact q
        · have := Fx.p_le (show 1 ≤ t from q)
          rw [Int.pow_one] at this
          omega
      rw [d3 (by omega)]
      exact g2
    obtain ⟨v1, v2, v3⟩ := divS (U := V a) (st_pos (V a) n)
    have sp := st_pos (V a) n
    have i0 : ∀ z : Int, inB a (z * st (V a) n) = true → z ≤ V a / st (V a) n → inB a (V a / st (V a) n * st (V a) n) = true := fun z q1 q2 => inB_dn q1 (by omega) (Int.mul_le_mul_of_nonneg_right q2 (Int.le_of_lt sp))
    have i1 : ∀ z : Int, inB a (z * st (V a) n) = true → V a / st (V a) n + 1 ≤ z → inB a ((V a / st (V a) n + 1) * st (V a) n) = true := fun z q1 q2 => inB_up q1 (by rw [Int.add_mul, Int.one_mul]; omega) (Int.mul_le_mul_of_nonneg_right q2 (Int.le_of_lt sp)) ha
    rw [hmW] at hi
    have low : ∀ z : Int, z ≤ V a / st (V a) n - 1 → z * st (V a) n ≤ V a / st (V a) n * st (V a) n - st (V a) n := by
      intro z q
      have := Int.mul_le_mul_of_nonneg_right q (Int.le_of_lt sp)
      rw [Int.sub_mul, Int.one_mul] at this
      exact this
    have high : ∀ z : Int, V a / st (V a) n + 2 ≤ z → V a / st (V a) n * st (V a) n + 2 * st (V a) n ≤ z * st (V a) n := by
      intro z q
      have := Int.mul_le_mul_of_nonneg_right q (Int.le_of_lt sp)
      rw [Int.add_mul] at this
      exact this
    have e1 : (V a / st (V a) n + 1) * st (V a) n = V a / st (V a) n * st (V a) n + st (V a) n := by rw [Int.add_mul, Int.one_mul]
    have hup : (upB (V a) (st (V a) n) = true ∧ (st (V a) n < 2 * (V a % st (V a) n) ∨ (st (V a) n = 2 * (V a % st (V a) n) ∧ (V a / st (V a) n) % 2 = 1))) ∨ (upB (V a) (st (V a) n) = false ∧ ¬ (st (V a) n < 2 * (V a % st (V a) n) ∨ (st (V a) n = 2 * (V a % st (V a) n) ∧ (V a / st (V a) n) % 2 = 1))) := by
      unfold upB
      by_cases q : (st (V a) n < 2 * (V a % st (V a) n) ∨ (st (V a) n = 2 * (V a % st (V a) n) ∧ (V a / st (V a) n) % 2 = 1))
      · exact .inl ⟨decide_eq_true q, q⟩
      · exact .inr ⟨decide_eq_false q, q⟩
    have kk1 : (upB (V a) (st (V a) n) = true → k1 (V a) (st (V a) n) = V a / st (V a) n + 1 ∧ k2 (V a) (st (V a) n) = V a / st (V a) n) ∧ (upB (V a) (st (V a) n) = false → k1 (V a) (st (V a) n) = V a / st (V a) n ∧ k2 (V a) (st (V a) n) = V a / st (V a) n + 1) := by
      unfold k1 k2
      constructor
      · intro q; rw [if_pos q, if_pos q]; exact ⟨rfl, rfl⟩
      · intro q; rw [q, if_neg Bool.false_ne_true, if_neg Bool.false_ne_true]; exact ⟨rfl, rfl⟩
    have i0m := i0 m hi
    have i1m := i1 m hi
    have lm := low m
    have hm' := high m
    clear i0 i1 low high hi d d2 d3 ht hP t1 hm r1 r2 r4 r5 hl c h hn ha pp up hW
    generalize V a / st (V a) n = H at *
    generalize V a % st (V a) n = r at *
    generalize hSS : st (V a) n = S at *
    generalize V a = VV at *
    clear hSS
    have same : ∀ z : Int, m = z → m * S = z * S := fun z q => by rw [q]
    have sameK : ∀ z : Int, k = z → k * S = z * S := fun z q => by rw [q]
    have mk : m ≠ k := hmk
    clear hmk
    rcases hup with ⟨hu, hu2⟩ | ⟨hu, hu2⟩
    · obtain ⟨x1, x2⟩ := kk1.1 hu
      rw [x1] at hk
      rw [x2] at hk
      clear kk1 hu
      rcases hk with g | ⟨g, g'⟩
      · have uk := sameK _ g
        rcases (show m ≤ H - 1 ∨ m = H ∨ H + 2 ≤ m by omega) with q | q | q
        · have := lm q; clear even i0m i1m lm hm' same sameK; exact ⟨by omega, fun _ => by omega⟩
        · have := same _ q; exact ⟨by clear even i0m i1m lm hm' same sameK; omega, fun w => even (by omega) (by clear even i0m i1m lm hm' same sameK; omega)⟩
        · have := hm' q; clear even i0m i1m lm hm' same sameK; exact ⟨by omega, fun _ => by omega⟩
      · have uk := sameK _ g'
        rcases (show m ≤ H - 1 ∨ H + 1 ≤ m by omega) with q | q
        · have := lm q; clear even i0m i1m lm hm' same sameK; exact ⟨by omega, fun _ => by omega⟩
        · rw [i1m q] at g; exact absurd g (by decide)
    · obtain ⟨x1, x2⟩ := kk1.2 hu
      rw [x1] at hk
      rw [x2] at hk
      clear kk1 hu
      rcases hk with g | ⟨g, g'⟩
      · have uk := sameK _ g
        rcases (show m ≤ H - 1 ∨ m = H + 1 ∨ H + 2 ≤ m by omega) with q | q | q
        · have := lm q; clear even i0m i1m lm hm' same sameK; exact ⟨by omega, fun _ => by omega⟩
        · have := same _ q; exact ⟨by clear even i0m i1m lm hm' same sameK; omega, fun w => even (by omega) (by clear even i0m i1m lm hm' same sameK; omega)⟩
        · have := hm' q; clear even i0m i1m lm hm' same sameK; exact ⟨by omega, fun _ => by omega⟩
      · have uk := sameK _ g'
        rcases (show m ≤ H ∨ H + 2 ≤ m by omega) with q | q
        · rw [i0m q] at g; exact absurd g (by decide)
        · have := hm' q; clear even i0m i1m lm hm' same sameK; exact ⟨by omega, fun _ => by omega⟩
end Sh
end Go.Proofs.YtbmlkfkhmaahnaaGreatDoor

namespace Go.Proofs.YtbmlkfkhmaahnaaGreatDoor
open Go.RowKit Go.Deep
namespace Sh

theorem dg_of {xs : List Int} (h : Digs xs) : ∀ x ∈ xs, Sc.dg x = true := fun x hx => Sc.dg_iff.2 (h x hx)
theorem dv_head0 : ∀ (j : Nat) (xs : List Int), (∀ i, i < j → Sc.pk xs i = 48) → j ≤ xs.length → dv xs = dv (xs.drop j)
  | 0, xs, _, _ => by rw [List.drop_zero]
  | j + 1, [], _, h => by simp at h
  | j + 1, x :: xs, h, hl => by
    have hx : x = 48 := h 0 (by omega)
    rw [dv_cons, hx, Int.sub_self, Int.zero_mul, Int.zero_add, List.drop_succ_cons]
    exact dv_head0 j xs (fun i hi => h (i + 1) (by omega)) (by simpa using hl)

/-- The normal form's number. -/
theorem nrm_uv {xs : List Int} {q : Int} (hd : Digs xs) (hq : -1075 ≤ q) : Ok (Sc.nrm false xs q) ∧ uv (Sc.nrm false xs q) = dv xs * 10 ^ (q + 1075).toNat := by
  by_cases hz : Sc.lz xs = xs.length
  · rw [Sc.nrm_zero hz]
    refine ⟨⟨rfl, by show (-1075 : Int) ≤ 0; omega, .inl ⟨rfl, rfl⟩⟩, ?_⟩
    have e := dv_head0 (Sc.lz xs) xs (fun i hi => Sc.lz_at hi) (Sc.lz_le xs)
    rw [hz, List.drop_length] at e
    rw [uv_zero rfl, e, show dv [] = 0 from rfl, Int.zero_mul]
  · rw [Sc.nrm_pos hz]
    have lt := Sc.lz_tz hz
    have hdd : Digs (xs.drop (Sc.lz xs)) := fun d h => hd d (List.mem_of_mem_drop h)
    have hh : (xs.drop (Sc.lz xs)).getD 0 0 ≠ 48 := by
      have := Sc.lz_end xs
      have e := Sc.pk_drop xs (Sc.lz xs) 0
      rw [Nat.add_zero] at e
      unfold Sc.pk at e this
      rw [e]
      exact this
    have hlen : (xs.drop (Sc.lz xs)).length = xs.length - Sc.lz xs := List.length_drop
    have hv : 0 < dv (xs.drop (Sc.lz xs)) := by
      obtain ⟨n, hn⟩ : ∃ n, (xs.drop (Sc.lz xs)).length = n + 1 := ⟨xs.length - Sc.lz xs - 1, by omega⟩
      have := Fx.head_low hdd hn hh
      have := Fx.p_pos n
      omega
    obtain ⟨kp, nm, v⟩ := Fx.nml_take (ys := xs.drop (Sc.lz xs)) (k := xs.length - Sc.tz xs - Sc.lz xs) hdd hh (by omega) (fun i h1 h2 => by
      have e := Sc.pk_drop xs (Sc.lz xs) i
      unfold Sc.pk at e
      rw [e]
      exact Sc.tz_at (by omega) (by omega)) (fun h => by
      have e := Sc.pk_drop xs (Sc.lz xs) (xs.length - Sc.tz xs - Sc.lz xs - 1)
      have t := Sc.tz_end (ds := xs) (by omega)
      unfold Sc.pk at e t
      rw [e, show Sc.lz xs + (xs.length - Sc.tz xs - Sc.lz xs - 1) = xs.length - Sc.tz xs - 1 by omega]
      exact t) hv
    rw [hlen, show xs.length - Sc.lz xs - (xs.length - Sc.tz xs - Sc.lz xs) = Sc.tz xs by omega] at v
    refine ⟨⟨rfl, by show -1075 ≤ q + Sc.tz xs; omega, .inr nm⟩, ?_⟩
    show dv _ * 10 ^ (q + Sc.tz xs + 1075).toNat = _
    rw [dv_head0 (Sc.lz xs) xs (fun i hi => Sc.lz_at hi) (Sc.lz_le xs), ← v, show (q + (Sc.tz xs : Int) + 1075).toNat = Sc.tz xs + (q + 1075).toNat by omega, Int.pow_add, Int.mul_assoc]
theorem nrm_dd {xs : List Int} {q : Int} (hd : Digs xs) (hq : -1075 ≤ q) : Sc.nrm false xs q = dd (dv xs * 10 ^ (q + 1075).toNat) := by
  have h := nrm_uv hd hq
  rw [← h.2]
  exact h.1.is

theorem isdec {xs : List Int} {q : Int} (hd : Digs xs) (hn : xs ≠ []) (h0 : -1075 ≤ q) (h1 : q ≤ 100000) (hl : xs.length ≤ 100000) : Sc.IsDec xs q := ⟨hn, by omega, by omega, dg_of hd, fun _ => by have := Sc.tz_le xs; omega⟩

/-- A row's head and tail. -/
theorem dv_cut {xs : List Int} {n : Nat} : dv xs = dv (xs.take n) * 10 ^ (xs.length - n) + dv (xs.drop n) := by
  conv => lhs; rw [← List.take_append_drop n xs]
  rw [dv_append, List.length_drop]

/-- The tail against a half. -/
def gt5 (t : List Int) : Bool := decide (53 < t.getD 0 0 ∨ (t.getD 0 0 = 53 ∧ 1 < t.length))
theorem tail5 {t : List Int} (hd : Digs t) (hn : t ≠ []) (hl : t.getD (t.length - 1) 0 ≠ 48) : (gt5 t = true ↔ 10 ^ t.length < 2 * dv t) ∧ (t = [53] ↔ 10 ^ t.length = 2 * dv t) := by
  match t, hn with
  | x :: r, _ =>
    have hx := hd x (by simp)
    have hr : Digs r := fun d h => hd d (by simp [h])
    have b := dv_bd hr
    have e1 : (10 : Int) ^ (x :: r).length = 10 ^ r.length * 10 := by rw [List.length_cons, Int.pow_succ]
    have pp := Fx.p_pos r.length
    have g : (x :: r).getD 0 0 = x := rfl
    have rp : r ≠ [] → 0 < dv r := by
      intro c
      obtain ⟨n, hn⟩ : ∃ n, r.length = n + 1 := ⟨r.length - 1, by have := List.length_pos_iff.2 c; omega⟩
      have q := Fx.dv_mod hr hn
      rw [List.length_cons, hn] at hl
      have q2 := Fx.digs_getD hr (show n < r.length by omega)
      have q3 : (x :: r).getD (n + 1 + 1 - 1) 0 = r.getD n 0 := rfl
      rw [q3] at hl
      omega
    have rn : r = [] ∨ r ≠ [] := by by_cases c : r = []; exact .inl c; exact .inr c
    have rl : r ≠ [] → 1 < (x :: r).length := fun c => by have := List.length_pos_iff.2 c; simp; omega
    unfold gt5
    rw [e1, dv_cons, g, decide_eq_true_iff]
    obtain ⟨y, hy⟩ : ∃ y, x - 48 = y := ⟨_, rfl⟩
    rw [hy]
    have lo : y ≤ 4 → y * 10 ^ r.length ≤ 4 * 10 ^ r.length := fun c => Int.mul_le_mul_of_nonneg_right c (Int.le_of_lt pp)
    have hi : 6 ≤ y → 6 * 10 ^ r.length ≤ y * 10 ^ r.length := fun c => Int.mul_le_mul_of_nonneg_right c (Int.le_of_lt pp)
    have mi : y = 5 → y * 10 ^ r.length = 5 * 10 ^ r.length := fun c => by rw [c]
    rcases rn with c | c
    · subst c
      have z : dv [] = 0 := rfl
      simp only [List.length_cons, List.length_nil, z, Int.pow_zero] at *
      constructor
      · omega
      · constructor
        · intro q; simp at q; omega
        · intro q; rw [show x = 53 by omega]
    · have r1 := rp c
      have r2 := rl c
      generalize (10 : Int) ^ r.length = P at *
      generalize y * P = Y at *
      have ne : x :: r ≠ [53] := fun q => c (List.cons.inj q).2
      constructor
      · constructor
        · intro q
          rcases (show y = 5 ∨ 6 ≤ y by omega) with k | k
          · have := mi k; omega
          · have := hi k; omega
        · intro q
          rcases (show y ≤ 4 ∨ 5 ≤ y by omega) with k | k
          · have := lo k; omega
          · omega
      · constructor
        · intro q; exact absurd q ne
        · intro q
          exfalso
          rcases (show y ≤ 4 ∨ y = 5 ∨ 6 ≤ y by omega) with k | k | k
          · have := lo k; omega
          · have := mi k; omega
          · have := hi k; omega

/-- What within looks at: the head's number, the tail, the step. -/
theorem head_is {U : Int} {n : Nat} (h : 0 < U) (h1 : 1 ≤ n) (hn : n < ln U) : dv ((dd U).ds.take n) = U / st U n ∧ (decide (gt5 ((dd U).ds.drop n) = true ∨ ((dd U).ds.drop n = [53] ∧ dv ((dd U).ds.take n) % 2 = 1)) = upB U (st U n)) ∧ dv ((dd U).ds.take n) < 10 ^ n := by
  have o := dd_is (Int.le_of_lt h)
  have nm := o.1.nml (by rw [o.2]; exact h)
  have lo := o.1.lo
  have hv : dv (dd U).ds * 10 ^ ((dd U).e + 1075).toNat = U := o.2
  have hl : (dd U).ds.length = ln U := rfl
  have c := dv_cut (xs := (dd U).ds) (n := n)
  have td : Digs ((dd U).ds.drop n) := fun d q => nm.digs d (List.mem_of_mem_drop q)
  have tt : Digs ((dd U).ds.take n) := fun d q => nm.digs d (List.mem_of_mem_take q)
  have tn : (dd U).ds.drop n ≠ [] := by
    intro q
    have := congrArg List.length q
    rw [List.length_drop] at this
    simp at this
    omega
  have tl : ((dd U).ds.drop n).length = ln U - n := by rw [List.length_drop, hl]
  have tlast : ((dd U).ds.drop n).getD (((dd U).ds.drop n).length - 1) 0 ≠ 48 := by
    have e := Sc.pk_drop (dd U).ds n (((dd U).ds.drop n).length - 1)
    unfold Sc.pk at e
    rw [e, tl, show n + (ln U - n - 1) = (dd U).ds.length - 1 by omega]
    exact nm.last
  obtain ⟨t1, t2⟩ := tail5 td tn tlast
  have tb := dv_bd td
  rw [tl] at t1 t2 tb
  have es : st U n = 10 ^ (ln U - n) * 10 ^ ((dd U).e + 1075).toNat := by
    unfold st
    rw [← Int.pow_add]
    congr 1
    omega
  have p1 := Fx.p_pos (ln U - n)
  have p2 := Fx.p_pos ((dd U).e + 1075).toNat
  have eU : U = dv ((dd U).ds.take n) * st U n + dv ((dd U).ds.drop n) * 10 ^ ((dd U).e + 1075).toNat := by
    rw [hl] at c
    rw [es, ← Int.mul_assoc, ← Int.add_mul, ← c]
    exact hv.symm
  have hb := (dv_bd tt).2
  rw [List.length_take, hl, Nat.min_eq_left (by omega)] at hb
  generalize dv ((dd U).ds.take n) = H at *
  generalize dv ((dd U).ds.drop n) = R at *
  generalize (10 : Int) ^ ((dd U).e + 1075).toNat = Q at *
  generalize (10 : Int) ^ (ln U - n) = P at *
  have sp := st_pos U n
  have r0 : 0 ≤ R * Q := Int.mul_nonneg tb.1 (Int.le_of_lt p2)
  have r1 : R * Q < st U n := by rw [es]; exact Int.mul_lt_mul_of_pos_right tb.2 p2
  have hdv : U / st U n = H := by
    have g1 : H ≤ U / st U n := (Int.le_ediv_iff_mul_le sp).2 (by omega)
    have g2 : U / st U n < H + 1 := (Int.ediv_lt_iff_lt_mul sp).2 (by rw [Int.add_mul, Int.one_mul]; omega)
    omega
  have hmd : U % st U n = R * Q := by
    have := (divS (U := U) sp).1
    rw [hdv] at this
    omega
  refine ⟨hdv.symm, ?_, hb⟩
  unfold upB
  rw [hmd, hdv, es]
  congr 1
  have i1 : 10 ^ 0 * (P * Q) < 2 * (R * Q) ↔ P < 2 * R := by
    rw [show (2 : Int) * (R * Q) = 2 * R * Q by rw [Int.mul_assoc], Int.pow_zero, Int.one_mul]
    exact Int.mul_lt_mul_right p2
  have i2 : P * Q = 2 * (R * Q) ↔ P = 2 * R := by
    rw [show (2 : Int) * (R * Q) = 2 * R * Q by rw [Int.mul_assoc]]
    exact ⟨fun q => Int.eq_of_mul_eq_mul_right (by omega) q, fun q => by rw [q]⟩
  rw [Int.pow_zero, Int.one_mul] at i1
  rw [i1, i2, t1, t2]
end Sh
end Go.Proofs.YtbmlkfkhmaahnaaGreatDoor
