/-
  THE ARITHMETIC OF A LONG DIVISION BY GUESSED DIGITS: no Go in it.
-/
import Derived.Test.YthfechigdiefpaaDoorNum
namespace Go.Proofs.YthfechigdiefpaaDoor
namespace Qd
open Nm

/-- What limb i - 1 sends up into limb i when all is moved up: T * U is 2^64. -/
def up (zs : List Int) (U : Int) : Nat → Int
  | 0 => 0
  | i + 1 => zs.getD i 0 / U

/-- Limb i of the number moved up. -/
def limb (zs : List Int) (T U : Int) (i : Nat) : Int := zs.getD i 0 % U * T + up zs U i

/-- The first i limbs moved up, without what goes beyond them. -/
def low (zs : List Int) (T U : Int) (i : Nat) : Int := val (zs.take i) * T - up zs U i * pw i

theorem low_succ {zs : List Int} {T U : Int} (hTU : T * U = 18446744073709551616) (i : Nat) (hi : i < zs.length) : low zs T U (i + 1) = low zs T U i + pw i * limb zs T U i := by
  have h1 := val_take_succ zs i hi
  have h2 := Int.emod_add_mul_ediv (zs.getD i 0) U
  have e0 : up zs U (i + 1) = zs.getD i 0 / U := rfl
  simp only [low, limb, e0, h1, pw_succ]
  clear e0
  generalize up zs U i = u
  generalize zs.getD i 0 = z at *
  have e : z * T = z % U * T + z / U * 18446744073709551616 := by
    rw [← hTU]
    have : (z % U + U * (z / U)) * T = z * T := by rw [h2]
    rw [Int.add_mul] at this
    rw [← this, Int.mul_comm U, Int.mul_assoc, Int.mul_comm U T]
  rw [Int.add_mul, Int.mul_assoc, e, Int.mul_add, Int.mul_add]
  have e2 : z / U * (18446744073709551616 * pw i) = pw i * (z / U * 18446744073709551616) := by
    rw [Int.mul_left_comm, ← Int.mul_assoc, Int.mul_comm _ (pw i), Int.mul_comm (z / U)]
  have e3 : u * pw i = pw i * u := Int.mul_comm _ _
  omega

theorem up_bd {zs : List Int} (h : Limbs zs) {T U : Int} (hT : 0 < T) (hU : 0 < U) (hTU : T * U = 18446744073709551616) (i : Nat) : 0 ≤ up zs U i ∧ up zs U i < T := by
  cases i with
  | zero => exact ⟨Int.le_refl _, hT⟩
  | succ i =>
    have := h.at i
    refine ⟨Int.ediv_nonneg this.1 (by omega), ?_⟩
    show zs.getD i 0 / U < T
    rw [Int.ediv_lt_iff_lt_mul hU, hTU]
    exact this.2

theorem part_bd {z T U : Int} (hT : 0 < T) (hU : 0 < U) (hTU : T * U = 18446744073709551616) : 0 ≤ z % U * T ∧ z % U * T + T ≤ 18446744073709551616 := by
  have d2 := Int.emod_nonneg z (show U ≠ 0 by omega)
  have d3 := Int.emod_lt_of_pos z hU
  have a5 : (z % U + 1) * T ≤ U * T := Int.mul_le_mul_of_nonneg_right (by omega) (by omega)
  rw [Int.add_mul, Int.one_mul, Int.mul_comm U T, hTU] at a5
  exact ⟨Int.mul_nonneg d2 (by omega), a5⟩

theorem limb_bd {zs : List Int} (h : Limbs zs) {T U : Int} (hT : 0 < T) (hU : 0 < U) (hTU : T * U = 18446744073709551616) (i : Nat) : 0 ≤ limb zs T U i ∧ limb zs T U i < 18446744073709551616 := by
  have h1 := up_bd h hT hU hTU i
  have h2 := part_bd (z := zs.getD i 0) hT hU hTU
  simp only [limb]
  omega

theorem low_bd {zs : List Int} (h : Limbs zs) {T U : Int} (hT : 0 < T) (hU : 0 < U) (hTU : T * U = 18446744073709551616) : ∀ i, i ≤ zs.length → 0 ≤ low zs T U i ∧ low zs T U i < pw i
  | 0, _ => by simp [low, up, pw, val]
  | i + 1, hi => by
    have h1 := low_bd h hT hU hTU i (by omega)
    have h2 := limb_bd h hT hU hTU i
    rw [low_succ hTU i (by omega), pw_succ]
    have hp := pw_pos i
    have h3 : 0 ≤ pw i * limb zs T U i := Int.mul_nonneg (by omega) h2.1
    have h4 : pw i * (limb zs T U i + 1) ≤ pw i * 18446744073709551616 := Int.mul_le_mul_of_nonneg_left (by omega) (by omega)
    rw [Int.mul_add, Int.mul_one] at h4
    omega

/-- The whole, moved up: nothing goes beyond its limbs where it has room. -/
theorem whole {zs : List Int} (h : Limbs zs) {T U : Int} (hT : 0 < T) (hU : 0 < U) (hTU : T * U = 18446744073709551616) (hv : val zs * T < pw zs.length) : low zs T U zs.length = val zs * T := by
  have h1 := low_bd h hT hU hTU zs.length (Nat.le_refl _)
  have h2 := up_bd h hT hU hTU zs.length
  simp only [low, List.take_length] at h1 ⊢
  have hp := pw_pos zs.length
  have h3 : up zs U zs.length = 0 := by
    rcases (show up zs U zs.length = 0 ∨ 1 ≤ up zs U zs.length by omega) with h3 | h3
    · exact h3
    · have : 1 * pw zs.length ≤ up zs U zs.length * pw zs.length := Int.mul_le_mul_of_nonneg_right h3 (by omega)
      omega
  rw [h3]
  omega

/-- What a digit q keeps to, told from the three highest limbs of the part and the two of the divisor. -/
def Fits (q f s h m l : Int) : Prop := 0 ≤ q ∧ q < 18446744073709551616 ∧ q * (f * 18446744073709551616 + s) ≤ (h * 18446744073709551616 + m) * 18446744073709551616 + l

/-- The limbs that the guess is told from: the divisor bs has k + 2 limbs, the part ps one more, and it is below 2^64 times the divisor. -/
theorem fits {bs ps : List Int} (hb : Limbs bs) (hp : Limbs ps) {T U : Int} (hT : 0 < T) (hU : 0 < U) (hTU : T * U = 18446744073709551616) {k : Nat} (lb : bs.length = k + 2) (lp : ps.length = k + 3)
    (hv : val bs * T < pw (k + 2)) (hpb : val ps < val bs * 18446744073709551616) :
    limb ps T U (k + 2) ≤ limb bs T U (k + 1) ∧ ∀ q, 0 ≤ q → q * val bs ≤ val ps → Fits q (limb bs T U (k + 1)) (limb bs T U k) (limb ps T U (k + 2)) (limb ps T U (k + 1)) (limb ps T U k) := by
  have w1 := whole hb hT hU hTU (by rw [lb]; exact hv)
  rw [lb] at w1
  have e1 : low bs T U (k + 2) = low bs T U (k + 1) + pw (k + 1) * limb bs T U (k + 1) := low_succ (zs := bs) hTU (k + 1) (by omega)
  have e2 := low_succ (zs := bs) hTU k (by omega)
  have hpT : val ps * T < val bs * T * 18446744073709551616 := by
    have := Int.mul_lt_mul_of_pos_right hpb hT
    rw [Int.mul_right_comm] at this
    exact this
  have hb0 : 0 ≤ val bs * T := Int.mul_nonneg (val_bd bs hb).1 (by omega)
  have w2 := whole hp hT hU hTU (by rw [lp, pw_succ]; omega)
  rw [lp] at w2
  have e3 : low ps T U (k + 3) = low ps T U (k + 2) + pw (k + 2) * limb ps T U (k + 2) := low_succ (zs := ps) hTU (k + 2) (by omega)
  have e4 : low ps T U (k + 2) = low ps T U (k + 1) + pw (k + 1) * limb ps T U (k + 1) := low_succ (zs := ps) hTU (k + 1) (by omega)
  have e5 := low_succ (zs := ps) hTU k (by omega)
  have b1 := low_bd hb hT hU hTU k (by omega)
  have b2 := low_bd hb hT hU hTU (k + 1) (by omega)
  have b3 := low_bd hp hT hU hTU k (by omega)
  have b4 := low_bd hp hT hU hTU (k + 2) (by omega)
  have pk := pw_pos k
  generalize limb bs T U (k + 1) = f at *
  generalize limb bs T U k = s at *
  generalize limb ps T U (k + 2) = h at *
  generalize limb ps T U (k + 1) = m at *
  generalize limb ps T U k = l at *
  generalize low bs T U k = x0 at *
  generalize low ps T U k = y0 at *
  rw [pw_succ (k + 1), pw_succ k] at *
  constructor
  · rcases (show h ≤ f ∨ f + 1 ≤ h by omega) with c | c
    · exact c
    · exfalso
      have : 18446744073709551616 * (18446744073709551616 * pw k) * (f + 1) ≤ 18446744073709551616 * (18446744073709551616 * pw k) * h := Int.mul_le_mul_of_nonneg_left c (by omega)
      rw [Int.mul_add, Int.mul_one, Int.mul_assoc 18446744073709551616 (18446744073709551616 * pw k) f] at this
      omega
  · intro q q0 hq
    have hqT : q * (val bs * T) ≤ val ps * T := by
      rw [← Int.mul_assoc]
      exact Int.mul_le_mul_of_nonneg_right hq (by omega)
    have q1 : q < 18446744073709551616 := by
      rcases (show q < 18446744073709551616 ∨ 18446744073709551616 ≤ q by omega) with c | c
      · exact c
      · exfalso
        have : 18446744073709551616 * val bs ≤ q * val bs := Int.mul_le_mul_of_nonneg_right c (val_bd bs hb).1
        omega
    refine ⟨q0, q1, ?_⟩
    have g1 : val bs * T = x0 + pw k * (f * 18446744073709551616 + s) := by
      rw [Int.mul_add, ← Int.mul_assoc, Int.mul_right_comm (pw k) f, Int.mul_comm (pw k) 18446744073709551616]
      omega
    have g2 : val ps * T = y0 + pw k * ((h * 18446744073709551616 + m) * 18446744073709551616 + l) := by
      rw [Int.mul_add, Int.add_mul, Int.mul_add]
      have t1 : pw k * (h * 18446744073709551616 * 18446744073709551616) = 18446744073709551616 * (18446744073709551616 * pw k) * h := by
        rw [Int.mul_assoc h, Int.mul_left_comm, ← Int.mul_assoc 18446744073709551616 18446744073709551616, Int.mul_assoc (18446744073709551616 * 18446744073709551616), Int.mul_left_comm h, Int.mul_comm h, Int.mul_left_comm]
      have t2 : pw k * (m * 18446744073709551616) = 18446744073709551616 * pw k * m := by
        rw [← Int.mul_assoc, Int.mul_right_comm, Int.mul_comm (pw k)]
      rw [t1, t2]
      omega
    rw [g1, g2, Int.mul_add] at hqT
    have g3 : 0 ≤ q * x0 := Int.mul_nonneg q0 b1.1
    have g4 : q * (pw k * (f * 18446744073709551616 + s)) = pw k * (q * (f * 18446744073709551616 + s)) := Int.mul_left_comm _ _ _
    generalize q * (f * 18446744073709551616 + s) = X at *
    generalize (h * 18446744073709551616 + m) * 18446744073709551616 + l = Y at *
    rcases (show X ≤ Y ∨ Y + 1 ≤ X by omega) with c | c
    · exact c
    · exfalso
      have : pw k * (Y + 1) ≤ pw k * X := Int.mul_le_mul_of_nonneg_left c (by omega)
      rw [Int.mul_add, Int.mul_one] at this
      omega

/-- No digit is above d, which leaves 'left' of the two highest limbs. -/
def Over (Q : Int → Prop) (f hm d left : Int) : Prop := (0 ≤ d ∧ d < 18446744073709551616) ∧ (0 ≤ left ∧ left < 18446744073709551616) ∧ d * f + left = hm ∧ ∀ q, Q q → q ≤ d

/-- The second limb shows that d is too great. -/
theorem over_down {Q : Int → Prop} {f s h m l d left : Int} (hQ : ∀ q, Q q → Fits q f s h m l) (hl : 0 ≤ l) (_hf : 0 ≤ f) (H : Over Q f (h * 18446744073709551616 + m) d left) (hc : left * 18446744073709551616 + l < d * s) :
    1 ≤ d ∧ (d - 1) * f + (left + f) = h * 18446744073709551616 + m ∧ ∀ q, Q q → q ≤ d - 1 := by
  obtain ⟨⟨d0, d1⟩, ⟨l0, l1⟩, e, hq⟩ := H
  have hd : 1 ≤ d := by
    rcases (show d = 0 ∨ 1 ≤ d by omega) with c | c
    · subst c; rw [Int.zero_mul] at hc; omega
    · exact c
  refine ⟨hd, by rw [Int.sub_mul, Int.one_mul]; omega, fun q hQq => ?_⟩
  have h1 := hq q hQq
  obtain ⟨q0, q1, q2⟩ := hQ q hQq
  rcases (show q ≤ d - 1 ∨ q = d by omega) with c | c
  · exact c
  · subst c
    exfalso
    rw [Int.mul_add, ← Int.mul_assoc, ← e, Int.add_mul] at q2
    omega

theorem over_on {Q : Int → Prop} {f s h m l d left : Int} (hQ : ∀ q, Q q → Fits q f s h m l) (hl : 0 ≤ l) (hf : 0 ≤ f) (H : Over Q f (h * 18446744073709551616 + m) d left) (hc : left * 18446744073709551616 + l < d * s) (hr : left + f < 18446744073709551616) :
    Over Q f (h * 18446744073709551616 + m) (d - 1) (left + f) := by
  obtain ⟨h1, h2, h3⟩ := over_down hQ hl hf H hc
  exact ⟨by have := H.1; omega, by have := H.2.1; omega, h2, h3⟩

/-- The first guess. -/
theorem over_first {Q : Int → Prop} {f s h m l d left : Int} (hQ : ∀ q, Q q → Fits q f s h m l) (hs : 0 ≤ s) (hl : l < 18446744073709551616) (hd : 0 ≤ d ∧ d < 18446744073709551616) (h0 : 0 ≤ left) (h1 : left < f) (hf : f < 18446744073709551616) (e : d * f + left = h * 18446744073709551616 + m) :
    Over Q f (h * 18446744073709551616 + m) d left := by
  refine ⟨hd, by omega, e, fun q hQq => ?_⟩
  obtain ⟨q0, q1, q2⟩ := hQ q hQq
  rcases (show q ≤ d ∨ d + 1 ≤ q by omega) with c | c
  · exact c
  · exfalso
    have t1 : (d + 1) * f ≤ q * f := Int.mul_le_mul_of_nonneg_right c (by omega)
    rw [Int.add_mul, Int.one_mul] at t1
    have t2 : 0 ≤ q * s := Int.mul_nonneg q0 hs
    rw [Int.mul_add, ← Int.mul_assoc] at q2
    omega

/-- The highest limbs are alike: the guess is the greatest limb. -/
theorem over_even {Q : Int → Prop} {f s h m l : Int} (hQ : ∀ q, Q q → Fits q f s h m l) (e : h = f) (hm : 0 ≤ m + f) (hmf : m + f < 18446744073709551616) :
    Over Q f (h * 18446744073709551616 + m) 18446744073709551615 (m + f) := by
  refine ⟨by omega, by omega, by rw [e]; omega, fun q hQq => ?_⟩
  obtain ⟨q0, q1, q2⟩ := hQ q hQq
  omega

theorem over_most {Q : Int → Prop} {f s h m l : Int} (hQ : ∀ q, Q q → Fits q f s h m l) (q : Int) (hq : Q q) : q ≤ 18446744073709551615 := by
  obtain ⟨q0, q1, q2⟩ := hQ q hq
  omega
end Qd
end Go.Proofs.YthfechigdiefpaaDoor
