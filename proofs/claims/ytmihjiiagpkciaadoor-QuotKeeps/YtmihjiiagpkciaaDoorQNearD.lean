/-
  DIVISION AND THE NEAREST QUOTIENT: what the walks share.
-/
import Derived.Test.YtmihjiiagpkciaaDoorQDivOk
namespace Go.Proofs.YtmihjiiagpkciaaDoor
open Go Go.RowKit Go.Deep

/-- The whole number nearest to A / B, of two the even one. -/
def nearI (A B : Int) : Int := if 2 * (A % B) < B ∨ (2 * (A % B) = B ∧ A / B % 2 = 0) then A / B else A / B + 1

/-- What DivMod's numbers keep to. -/
theorem split_facts {A B P : Int} (hA : 0 ≤ A) (hAP : A < P) (hB : 0 < B) : A / B * B + A % B = A ∧ A / B < P ∧ A % B < P ∧ A / B * B < P ∧ 0 ≤ A % B ∧ A % B < B ∧ 0 ≤ A / B ∧ (0 < A % B → A / B + 1 < P) := by
  have ed := Int.emod_add_mul_ediv A B
  have e0 := Int.emod_nonneg A (show B ≠ 0 by omega)
  have e1 := Int.emod_lt_of_pos A hB
  have e2 : 0 ≤ A / B := Int.ediv_nonneg hA (by omega)
  have e3 : A / B * 1 ≤ A / B * B := Int.mul_le_mul_of_nonneg_left (by omega) e2
  rw [Int.mul_comm] at ed
  refine ⟨by omega, by omega, by omega, by omega, e0, e1, e2, fun h => by omega⟩

/-- An answer that stays below 2^(64 * 4096), as an argument. -/
theorem Ans.argS {B : Nat} {w : World} {p : Option Addr} {ys : List Int} {n : Int} (h : Ans B w p ys n) (hn : n < Nm.pw 4096) : Arg w p ys.length ys.length ys :=
  h.arg (by have := h.small hn; omega)

theorem Ans.ts {B : Nat} {w : World} {p : Option Addr} {ys : List Int} {n : Int} (h : Ans B w p ys n) (hn : n < Nm.pw 4096) : Nm.tsize ys ≤ 4096 := by
  rw [h.2.2.1]
  exact h.small hn
end Go.Proofs.YtmihjiiagpkciaaDoor
