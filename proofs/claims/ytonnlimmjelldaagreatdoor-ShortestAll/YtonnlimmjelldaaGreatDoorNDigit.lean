/-
  numeral's worth and wrong.
-/
import Derived.Test.YtonnlimmjelldaaGreatDoorNStr
namespace Go.Proofs.YtonnlimmjelldaaGreatDoor
open Go.RowKit Go.Deep

/-- What a byte counts as a digit; 36 if it is none. -/
def wv (x : Int) : Int := if 48 ≤ x ∧ x ≤ 57 then x - 48 else if 97 ≤ x ∧ x ≤ 122 then x - 97 + 10 else if 65 ≤ x ∧ x ≤ 90 then x - 65 + 10 else 36

theorem wv_bd (x : Int) : 0 ≤ wv x ∧ wv x ≤ 36 := by
  unfold wv
  split
  · omega
  · split
    · omega
    · split <;> omega

theorem dret_u64 {a b : Int} (h : a = b) : Ending.returned (.int .u64 a) = .returned (.int .u64 b) := by rw [h]

/-- What wrong tells. -/
inductive WrongIs (xs : List Int) (B : Int) : Int → Prop
  | none : (∀ i, i < xs.length → wv (xs.getD i 0) < B) → WrongIs xs B (-1)
  | here (t : Nat) : t < xs.length → (∀ i, i < t → wv (xs.getD i 0) < B) → B ≤ wv (xs.getD t 0) → WrongIs xs B (t : Int)

end Go.Proofs.YtonnlimmjelldaaGreatDoor
