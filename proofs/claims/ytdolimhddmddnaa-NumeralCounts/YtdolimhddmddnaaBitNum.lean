/-
  BINARY DIGITS OF LISTS OF LIMBS: how many there are, each of them, the lowest 1. No Go in it.
-/
import Derived.Test.YtdolimhddmddnaaNum
namespace Go.Proofs.Ytdolimhddmddnaa
namespace Nm

theorem two_pos (n : Nat) : (0 : Int) < 2 ^ n := by
  have : 0 < 2 ^ n := Nat.pow_pos (by omega)
  have e : ((2 ^ n : Nat) : Int) = (2 : Int) ^ n := by simp
  omega

theorem two_add (a b : Nat) : (2 : Int) ^ (a + b) = 2 ^ a * 2 ^ b := Int.pow_add 2 a b

theorem two_succ (a : Nat) : (2 : Int) ^ (a + 1) = 2 * 2 ^ a := by rw [two_add, Int.mul_comm]; rfl

theorem two_64 : (2 : Int) ^ 64 = 18446744073709551616 := by decide

theorem pw_two : ∀ k, pw k = 2 ^ (64 * k)
  | 0 => by simp [pw]
  | k + 1 => by rw [pw, pw_two k, Nat.mul_add, Nat.mul_one, two_add, two_64, Int.mul_comm]

theorem two_mono {a b : Nat} (h : a ≤ b) : (2 : Int) ^ a ≤ 2 ^ b := by
  obtain ⟨c, rfl⟩ := Nat.exists_eq_add_of_le h
  rw [two_add]
  have h1 := two_pos a
  have h2 := two_pos c
  have : (2 : Int) ^ a * 1 ≤ 2 ^ a * 2 ^ c := Int.mul_le_mul_of_nonneg_left (by omega) (by omega)
  omega

/-- v has L binary digits. -/
def BLen (v : Int) (L : Nat) : Prop := v < 2 ^ L ∧ (v = 0 → L = 0) ∧ (0 < v → 1 ≤ L ∧ 2 ^ (L - 1) ≤ v)

theorem BLen.unique {v : Int} {a b : Nat} (hv : 0 ≤ v) (ha : BLen v a) (hb : BLen v b) : a = b := by
  rcases Nat.lt_trichotomy a b with h | h | h
  · exfalso
    by_cases h0 : v = 0
    · have := hb.2.1 h0; omega
    · have h1 := hb.2.2 (by omega)
      have h2 := ha.1
      have h3 := two_mono (show a ≤ b - 1 by omega)
      omega
  · exact h
  · exfalso
    by_cases h0 : v = 0
    · have := ha.2.1 h0; omega
    · have h1 := ha.2.2 (by omega)
      have h2 := hb.1
      have h3 := two_mono (show b ≤ a - 1 by omega)
      omega

/-- The lowest binary digit 1 of v stands at t. -/
def Trl (v : Int) (t : Nat) : Prop := (v = 0 ∧ t = 0) ∨ ∃ m, v = 2 ^ t * (2 * m + 1)

theorem odd_unique {a : Nat} {m n : Int} (h : 2 * m + 1 = 2 ^ (a + 1) * n) : False := by
  rw [two_succ, Int.mul_assoc] at h
  omega

theorem Trl.unique {v : Int} {a b : Nat} (ha : Trl v a) (hb : Trl v b) : a = b := by
  rcases ha with ⟨h0, h1⟩ | ⟨m, hm⟩
  · rcases hb with ⟨_, h2⟩ | ⟨k, hk⟩
    · omega
    · exfalso
      have := two_pos b
      rw [h0] at hk
      rcases Int.mul_eq_zero.1 hk.symm with h | h <;> omega
  · rcases hb with ⟨h0, h2⟩ | ⟨k, hk⟩
    · exfalso
      have := two_pos a
      rw [h0] at hm
      rcases Int.mul_eq_zero.1 hm.symm with h | h <;> omega
    · rcases Nat.lt_trichotomy a b with h | h | h
      · exfalso
        obtain ⟨c, rfl⟩ := Nat.exists_eq_add_of_lt h
        rw [hm, Nat.add_assoc, two_add, Int.mul_assoc] at hk
        exact odd_unique (Int.eq_of_mul_eq_mul_left (by have := two_pos a; omega) hk)
      · exact h
      · exfalso
        obtain ⟨c, rfl⟩ := Nat.exists_eq_add_of_lt h
        rw [hk, Nat.add_assoc, two_add, Int.mul_assoc] at hm
        exact odd_unique (Int.eq_of_mul_eq_mul_left (by have := two_pos b; omega) hm)

/-- The lowest limb that isn't 0 tells. -/
theorem trl_at (zs : List Int) (i t : Nat) (m : Int) (hi : i < zs.length) (h0 : ∀ j, j < i → zs.getD j 0 = 0) (hz : zs.getD i 0 = 2 ^ t * (2 * m + 1)) (ht : t ≤ 63) : Trl (val zs) (64 * i + t) := by
  right
  have hd := val_drop zs i (by omega)
  have e1 : val (zs.take i) = 0 := by
    have : ∀ k, k ≤ i → val (zs.take k) = 0 := by
      intro k
      induction k with
      | zero => intro _; simp [val]
      | succ k ih =>
        intro hk
        rw [val_take_succ zs k (by omega), ih (by omega), h0 k (by omega)]
        simp
    exact this i (Nat.le_refl _)
  have e2 : val (zs.drop i) = zs.getD i 0 + 18446744073709551616 * val (zs.drop (i + 1)) := by
    rw [List.drop_eq_getElem_cons hi, val]
    simp [List.getD, hi]
  refine ⟨m + 2 ^ (63 - t) * val (zs.drop (i + 1)), ?_⟩
  have e3 : (18446744073709551616 : Int) = 2 ^ t * (2 * 2 ^ (63 - t)) := by
    rw [← two_succ, ← two_add, show t + (63 - t + 1) = 64 by omega, two_64]
  rw [hd, e1, Int.zero_add, pw_two, e2, hz, e3, two_add]
  rw [Int.mul_assoc (2 ^ (64 * i))]
  congr 1
  rw [Int.mul_assoc, ← Int.mul_add]
  congr 1
  rw [Int.mul_add, Int.mul_assoc]
  omega

/-- How many binary digits there are: by the highest limb. -/
theorem blen_at (zs : List Int) (t l : Nat) (hz : Limbs zs) (ht : tsize zs = t + 1) (h1 : 1 ≤ l) (h2 : 2 ^ (l - 1) ≤ zs.getD t 0) (h3 : zs.getD t 0 < 2 ^ l) : BLen (val zs) (64 * t + l) := by
  have hle := tsize_le zs
  have hv := val_trim zs
  rw [trim, ht, val_take_succ zs t (by omega)] at hv
  have hb := val_bd _ (hz.take t)
  rw [List.length_take, Nat.min_eq_left (by omega)] at hb
  have hp := pw_pos t
  have a1 : pw t * 2 ^ (l - 1) ≤ pw t * zs.getD t 0 := Int.mul_le_mul_of_nonneg_left h2 (by omega)
  have a2 : pw t * (zs.getD t 0 + 1) ≤ pw t * 2 ^ l := Int.mul_le_mul_of_nonneg_left (by omega) (by omega)
  rw [Int.mul_add, Int.mul_one] at a2
  have p1 := two_pos (l - 1)
  have a3 : 0 < pw t * 2 ^ (l - 1) := Int.mul_pos hp p1
  refine ⟨?_, fun h => by omega, fun _ => ⟨by omega, ?_⟩⟩
  · rw [two_add, ← pw_two]; omega
  · rw [show 64 * t + l - 1 = 64 * t + (l - 1) by omega, two_add, ← pw_two]; omega

/-- One binary digit: by the limb that holds it. -/
theorem bit_at (zs : List Int) (i k r : Nat) (hi : i = 64 * k + r) (hr : r < 64) (hz : Limbs zs) (hk : k < zs.length) : val zs / 2 ^ i % 2 = zs.getD k 0 / 2 ^ r % 2 := by
  have hd := val_drop zs k (by omega)
  have hb := val_bd _ (hz.take k)
  rw [List.length_take, Nat.min_eq_left (by omega)] at hb
  have e2 : val (zs.drop k) = zs.getD k 0 + 18446744073709551616 * val (zs.drop (k + 1)) := by
    rw [List.drop_eq_getElem_cons hk, val]
    simp [List.getD, hk]
  have hp := pw_pos k
  have e1 : val zs / pw k = val (zs.drop k) := by
    rw [hd, Int.add_mul_ediv_left _ _ (by omega), Int.ediv_eq_zero_of_lt hb.1 hb.2, Int.zero_add]
  rw [hi, two_add, ← pw_two, ← Int.ediv_ediv_of_nonneg (by omega), e1, e2]
  have e3 : (18446744073709551616 : Int) = 2 ^ r * (2 * 2 ^ (63 - r)) := by
    rw [← two_succ, ← two_add, show r + (63 - r + 1) = 64 by omega, two_64]
  rw [e3, Int.mul_assoc, Int.add_mul_ediv_left _ _ (by have := two_pos r; omega), Int.mul_assoc]
  omega
end Nm
end Go.Proofs.Ytdolimhddmddnaa
