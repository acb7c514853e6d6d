/-
  LOGARITHMS: plain mathematics.
-/
import Derived.Test.YtdolimhddmddnaaQPowNum
namespace Go.Proofs.Ytdolimhddmddnaa
namespace Ln

/-- n is the greatest exponent with b^n at most A. -/
def IsLog (A b : Int) (n : Nat) : Prop := b ^ n ≤ A ∧ A < b ^ (n + 1)

theorem unique {A b : Int} (hb : 2 ≤ b) {m n : Nat} (h : IsLog A b m) (k : IsLog A b n) : m = n := by
  rcases Nat.lt_trichotomy m n with c | c | c
  · have := Pn.pow_mono (show 1 ≤ b by omega) (show m + 1 ≤ n by omega)
    have h2 := h.2
    have k1 := k.1
    omega
  · exact c
  · have := Pn.pow_mono (show 1 ≤ b by omega) (show n + 1 ≤ m by omega)
    have k2 := k.2
    have h1 := h.1
    omega

/-- On the way: 2^j is what n may still lack. -/
def Way (A b : Int) (n j : Nat) : Prop := b ^ n ≤ A ∧ A < b ^ (n + 2 ^ j)

theorem Way.last {A b : Int} {n : Nat} (h : Way A b n 0) : IsLog A b n := h

theorem Way.first {A b : Int} {m : Nat} (hA : 1 ≤ A) (h : A < b ^ (2 ^ m)) : Way A b 0 m := ⟨by rw [Int.pow_zero]; exact hA, by rw [Nat.zero_add]; exact h⟩

theorem Way.take {A b : Int} {n i : Nat} (h : Way A b n (i + 1)) (hle : b ^ n * b ^ (2 ^ i) ≤ A) : Way A b (n + 2 ^ i) i := by
  refine ⟨by rw [Int.pow_add]; exact hle, ?_⟩
  have := h.2
  rw [show n + 2 ^ i + 2 ^ i = n + 2 ^ (i + 1) by rw [Nat.pow_succ]; omega]
  exact this

theorem Way.skip {A b : Int} {n i : Nat} (h : Way A b n (i + 1)) (hlt : A < b ^ n * b ^ (2 ^ i)) : Way A b n i := ⟨h.1, by rw [Int.pow_add]; exact hlt⟩

/-- An exponent is small where the power is. -/
theorem small {A b : Int} {n L : Nat} (hb : 2 ≤ b) (h : b ^ n ≤ A) (hA : A < 2 ^ L) : n < L := by
  have h1 := Pn.pow_base (a := 2) (A := b) (by omega) hb n
  rcases Nat.lt_or_ge n L with c | c
  · exact c
  · have := Nm.two_mono c
    omega

theorem square (b : Int) (k : Nat) : b ^ (2 ^ k) * b ^ (2 ^ k) = b ^ (2 ^ (k + 1)) := by
  rw [← Int.pow_add]
  congr 1
  rw [Nat.pow_succ]
  omega

/-- So many squares at most. -/
theorem few {A b : Int} {k : Nat} (hb : 2 ≤ b) (h : b ^ (2 ^ k) ≤ A) (hA : A < 2 ^ 262144) : k < 18 := by
  have h1 := small hb h hA
  rcases Nat.lt_or_ge k 18 with c | c
  · exact c
  · have : 2 ^ 18 ≤ 2 ^ k := Nat.pow_le_pow_right (by omega) c
    omega
end Ln
end Go.Proofs.Ytdolimhddmddnaa
