import Derived.Test.YtjkefcikepnbpaaGreatDoorKNum
/-
  The rows as functions of q, and some roundings at fixed numbers.
-/
namespace Go.Proofs.YtjkefcikepnbpaaGreatDoor
namespace Ie

/-- The length of 5^n in bits. -/
def bl (n : Nat) : Nat := Nat.log2 (5 ^ n) + 1

theorem bl_is (n : Nat) : Nm.BLen (5 ^ n) (bl n) := by
  have e : ((5 ^ n : Nat) : Int) = 5 ^ n := by simp
  have e1 : ∀ k : Nat, ((2 ^ k : Nat) : Int) = 2 ^ k := by intro k; simp
  have h0 : (5 ^ n : Nat) ≠ 0 := by have := Nat.pow_pos (n := n) (show 0 < 5 by decide); omega
  have p := five_pos n
  refine ⟨?_, fun h => by omega, fun _ => ⟨by unfold bl; omega, ?_⟩⟩
  · have h := (Nat.log2_lt h0 (k := bl n)).1 (by unfold bl; omega)
    have := e1 (bl n)
    omega
  · have h := Nat.log2_self_le h0
    have := e1 (Nat.log2 (5 ^ n))
    rw [show bl n - 1 = Nat.log2 (5 ^ n) by unfold bl; omega]
    omega

/-- The row of q. -/
def rowE (q : Int) : Int := if 0 ≤ q then (bl q.toNat : Int) - 128 else -((bl (-q).toNat : Int) + 127)
def rowP (q : Int) : Int := if 0 ≤ q then (if bl q.toNat ≤ 128 then 5 ^ q.toNat * 2 ^ (128 - bl q.toNat) else 5 ^ q.toNat / 2 ^ (bl q.toNat - 128)) else 2 ^ (bl (-q).toNat + 127) / 5 ^ (-q).toNat

theorem row_is {q : Int} (h0 : -342 ≤ q) (h1 : q ≤ 308) : Row q (rowP q) (rowE q) := by
  rcases (show 0 ≤ q ∨ q < 0 by omega) with h | h
  · obtain ⟨n, rfl⟩ := Int.eq_ofNat_of_zero_le h
    rw [rowP, rowE, if_pos h, if_pos h, Int.toNat_natCast]
    split
    · exact row_up (by omega) (bl_is n) (by omega)
    · exact row_down (by omega) (bl_is n) (by omega) (by omega)
  · obtain ⟨n, hn⟩ := Int.eq_ofNat_of_zero_le (show 0 ≤ -q by omega)
    have hq : q = -(n : Int) := by omega
    rw [rowP, rowE, if_neg (by omega), if_neg (by omega), show (-q).toNat = n by omega, hq]
    exact row_neg (by omega) (by omega) (bl_is n)

theorem row1 : rowP 1 = 212676479325586539664609129644855132160 ∧ rowE 1 = -125 := by decide +kernel
theorem rowm1 : rowP (-1) = 272225893536750770770699685945414569164 ∧ rowE (-1) = -130 := by decide +kernel

theorem near_three : Near (3 * 2 ^ 1075) 10 false 4599075939470750515 := by unfold Near; decide +kernel
theorem rnd_three {x : Int} (h : Rnd 3 10 0 false x) : x = 4599075939470750515 :=
  Rnd.one (a := 0) (a' := 0) (by decide) (by decide) h (Rnd.of (e := 0) (a := 1075) (b := 0) (by decide) (by rw [Int.pow_zero, Int.mul_one]; exact near_three)) (by omega) rfl
theorem near_two : Near (25 * 2 ^ 1075) 10 false 4612811918334230528 := by unfold Near; decide +kernel
theorem rnd_two {x : Int} (h : Rnd 25 10 0 false x) : x = 4612811918334230528 :=
  Rnd.one (a := 0) (a' := 0) (by decide) (by decide) h (Rnd.of (e := 0) (a := 1075) (b := 0) (by decide) (by rw [Int.pow_zero, Int.mul_one]; exact near_two)) (by omega) rfl
theorem near_a : Near (816677680610252312312099057836243707492 * 2 ^ 944) 1 false 4599075939470750515 := by unfold Near; decide +kernel
theorem rnd_a {x : Int} (h : Rnd (3 * rowP (-1)) 1 (rowE (-1) + -1) false x) : x = 4599075939470750515 := by
  rw [rowm1.1, rowm1.2] at h
  exact Rnd.one (a := 0) (a' := 0) (by decide) (by decide) h (Rnd.of (e := -130 + -1) (a := 944) (b := 0) (by decide) (by rw [Int.pow_zero, Int.mul_one]; exact near_a)) (by omega) rfl
theorem near_b : Near (816677680610252312312099057836243707495 * 2 ^ 944) 1 false 4599075939470750515 := by unfold Near; decide +kernel
theorem rnd_b {x : Int} (h : Rnd (3 * (rowP (-1) + 1)) 1 (rowE (-1) + -1) false x) : x = 4599075939470750515 := by
  rw [rowm1.1, rowm1.2] at h
  exact Rnd.one (a := 0) (a' := 0) (by decide) (by decide) h (Rnd.of (e := -130 + -1) (a := 944) (b := 0) (by decide) (by rw [Int.pow_zero, Int.mul_one]; exact near_b)) (by omega) rfl

/-- What Step tells, at the row that there is. -/
def Stq (w q : Int) (x : Int) (sure : Bool) : Prop :=
  (w = 0 ∧ x = 0 ∧ sure = true) ∨ (0 < w ∧ (q < -342 ∨ 308 < q) ∧ x = 0 ∧ sure = false) ∨
    (0 < w ∧ -342 ≤ q ∧ q ≤ 308 ∧ ∃ A B, Rnd (w * rowP q) 1 (rowE q + q) false A ∧ ((0 ≤ q ∧ q ≤ 55 ∧ B = A) ∨ ((q < 0 ∨ 55 < q) ∧ Rnd (w * (rowP q + 1)) 1 (rowE q + q) false B)) ∧
      ((A = B ∧ x = A ∧ sure = true) ∨ (A ≠ B ∧ x = 0 ∧ sure = false)))

theorem Stq.stp {w q x : Int} {sure : Bool} (h : Stq w q x sure) : Stp w q x sure := by
  rcases h with h | h | ⟨h0, h1, h2, A, B, h⟩
  · exact .inl h
  · exact .inr (.inl h)
  · exact .inr (.inr ⟨h0, h1, h2, rowP q, rowE q, A, B, row_is h1 h2, h⟩)

theorem stq_three {x : Int} {sure : Bool} (h : Stq 3 (-1) x sure) : x = 4599075939470750515 ∧ sure = true := by
  rcases h with h | h | ⟨h0, h1, h2, A, B, a, b, h⟩
  · omega
  · omega
  · have ha := rnd_a a
    rcases b with b | ⟨_, b⟩
    · omega
    · have hb := rnd_b b
      rcases h with h | h
      · exact ⟨by omega, h.2.2⟩
      · omega

/-- What is told leaves one answer. -/
theorem Stq.one {w q x y : Int} {s t : Bool} (h : Stq w q x s) (k : Stq w q y t) : x = y ∧ s = t := by
  rcases h with h | h | ⟨h0, h1, h2, A, B, a, b, h⟩ <;> rcases k with k | k | ⟨k0, k1, k2, A', B', a', b', k⟩
  · exact ⟨by omega, by rw [h.2.2, k.2.2]⟩
  · omega
  · omega
  · omega
  · exact ⟨by omega, by rw [h.2.2.2, k.2.2.2]⟩
  · omega
  · omega
  · omega
  · have e1 := Rnd.one (a := 0) (a' := 0) (by decide) (by decide) a a' (by omega) rfl
    have e2 : B = B' := by
      rcases b with b | b <;> rcases b' with b' | b'
      · omega
      · omega
      · omega
      · exact Rnd.one (a := 0) (a' := 0) (by decide) (by decide) b.2 b'.2 (by omega) rfl
    rcases h with h | h <;> rcases k with k | k
    · exact ⟨by omega, by rw [h.2.2, k.2.2]⟩
    · omega
    · omega
    · exact ⟨by omega, by rw [h.2.2, k.2.2]⟩
end Ie
end Go.Proofs.YtjkefcikepnbpaaGreatDoor
