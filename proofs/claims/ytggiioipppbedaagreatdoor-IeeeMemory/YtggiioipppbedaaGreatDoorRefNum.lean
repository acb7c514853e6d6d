/-
  PLAIN MATHEMATICS OF DIGITS IN BASE 2^32. No Go in it.
-/
import Derived.Test.YtggiioipppbedaaGreatDoorNums
namespace Go.Proofs.YtggiioipppbedaaGreatDoor
namespace Nm

def v32 : List Int → Int
  | [] => 0
  | z :: zs => z + 4294967296 * v32 zs

def p32 : Nat → Int
  | 0 => 1
  | k + 1 => 4294967296 * p32 k

def Halves (zs : List Int) : Prop := ∀ z ∈ zs, 0 ≤ z ∧ z < 4294967296

theorem p32_pos : ∀ k, 0 < p32 k
  | 0 => by decide
  | k + 1 => by have := p32_pos k; simp only [p32]; omega

theorem p32_two : ∀ k, p32 (2 * k) = pw k
  | 0 => rfl
  | k + 1 => by
    rw [show 2 * (k + 1) = 2 * k + 1 + 1 by omega]
    simp only [p32, pw, p32_two k]
    omega

theorem v32_snoc : ∀ (zs : List Int) (x : Int), v32 (zs ++ [x]) = v32 zs + p32 zs.length * x
  | [], x => by simp [v32, p32]
  | z :: zs, x => by
    simp only [List.cons_append, v32, v32_snoc zs x, List.length_cons, p32, Int.mul_add, Int.mul_assoc]
    omega

theorem take_snoc (zs : List Int) (k : Nat) (h : k < zs.length) : zs.take (k + 1) = zs.take k ++ [zs.getD k 0] := by
  rw [List.take_add_one]
  simp [List.getD, h]

theorem v32_take_succ (zs : List Int) (k : Nat) (h : k < zs.length) : v32 (zs.take (k + 1)) = v32 (zs.take k) + p32 k * zs.getD k 0 := by
  rw [take_snoc zs k h, v32_snoc, List.length_take, Nat.min_eq_left (by omega)]

theorem v32_take_of_zero : ∀ (zs : List Int) (k : Nat), (∀ j, k ≤ j → zs.getD j 0 = 0) → v32 (zs.take k) = v32 zs
  | [], k, _ => by simp
  | z :: zs, 0, h => by
    have h0 : z = 0 := by simpa using h 0 (Nat.le_refl _)
    have := v32_take_of_zero zs 0 (fun j _ => by simpa using h (j + 1) (by omega))
    simp only [List.take_zero, v32] at this ⊢
    omega
  | z :: zs, k + 1, h => by
    have := v32_take_of_zero zs k (fun j hj => by simpa using h (j + 1) (by omega))
    simp only [List.take_succ_cons, v32, this]

theorem Halves.nil : Halves [] := by intro z h; simp at h
theorem Halves.snoc {zs : List Int} (h : Halves zs) {x : Int} (h0 : 0 ≤ x) (h1 : x < 4294967296) : Halves (zs ++ [x]) := by
  intro z hz
  rcases List.mem_append.1 hz with a | a
  · exact h z a
  · obtain rfl : z = x := by simpa using a
    exact ⟨h0, h1⟩
theorem Halves.take {zs : List Int} (h : Halves zs) (k : Nat) : Halves (zs.take k) := fun z hz => h z (List.mem_of_mem_take hz)
theorem Halves.limbs {zs : List Int} (h : Halves zs) : Limbs zs := fun z hz => by have := h z hz; omega
theorem Halves.at {zs : List Int} (h : Halves zs) (i : Nat) : 0 ≤ zs.getD i 0 ∧ zs.getD i 0 < 4294967296 := by
  by_cases hi : i < zs.length
  · simp only [List.getD, List.getElem?_eq_getElem hi, Option.getD_some]
    exact h _ (List.getElem_mem hi)
  · simp [List.getD, List.getElem?_eq_none (Nat.le_of_not_lt hi)]

theorem Limbs.snoc {zs : List Int} (h : Limbs zs) {x : Int} (h0 : 0 ≤ x) (h1 : x < 18446744073709551616) : Limbs (zs ++ [x]) := h.append (Limbs.mk h0 h1 Limbs.nil)

theorem val_snoc (zs : List Int) (x : Int) : val (zs ++ [x]) = val zs + pw zs.length * x := by rw [val_append]; simp [val]

theorem p32_mono {a b : Nat} (h : a ≤ b) : p32 a ≤ p32 b := by
  obtain ⟨c, rfl⟩ := Nat.exists_eq_add_of_le h
  induction c with
  | zero => exact Int.le_refl _
  | succ c ih =>
    have := ih (by omega)
    have := p32_pos (a + c)
    rw [← Nat.add_assoc]
    simp only [p32]
    omega

theorem v32_nonneg : ∀ zs : List Int, Halves zs → 0 ≤ v32 zs
  | [], _ => by simp [v32]
  | z :: zs, h => by
    have h1 := v32_nonneg zs (fun x hx => h x (List.mem_cons_of_mem _ hx))
    have h2 := h z List.mem_cons_self
    simp only [v32]
    omega

/-- Digits up to one that is not 0 are no more than the limbs hold. -/
theorem halves_len {hs zs : List Int} {t : Nat} (hh : Halves hs) (hz : Limbs zs) (ht : t < hs.length) (h0 : hs.getD t 0 ≠ 0) (hv : v32 (hs.take (t + 1)) = val zs) : t + 1 ≤ 2 * tsize zs := by
  rcases Nat.lt_or_ge t (2 * tsize zs) with h | h
  · exact h
  · exfalso
    have h1 := val_lt_tsize hz
    rw [← hv, v32_take_succ hs t ht, ← p32_two] at h1
    have h2 := v32_nonneg _ (hh.take t)
    have h3 := p32_mono h
    have h4 := hh.at t
    have h5 := p32_pos t
    have h6 : p32 t * 1 ≤ p32 t * hs.getD t 0 := Int.mul_le_mul_of_nonneg_left (by omega) (by omega)
    omega

/-- A limb's two halves. -/
theorem halves_step {hs zs : List Int} {j : Nat} {x : Int} (hl : hs.length = 2 * j) (hj : j < zs.length) (hx : x = zs.getD j 0) (h : v32 hs = val (zs.take j)) : v32 (hs ++ [x % 4294967296] ++ [x / 4294967296]) = val (zs.take (j + 1)) := by
  rw [v32_snoc, v32_snoc, List.length_append, hl, h, val_take_succ zs j hj, ← hx, show 2 * j + [x % 4294967296].length = 2 * j + 1 from rfl]
  simp only [p32, p32_two]
  have e := Int.emod_add_mul_ediv x 4294967296
  have : pw j * x = pw j * (x % 4294967296) + 4294967296 * pw j * (x / 4294967296) := by
    conv => lhs; rw [← e]
    rw [Int.mul_add, Int.mul_left_comm, Int.mul_assoc]
  omega
end Nm
end Go.Proofs.YtggiioipppbedaaGreatDoor
