/-
  scan: a digit.
-/
import Derived.Test.YtjkefcikepnbpaaGreatDoorVStr
namespace Go.Proofs.YtjkefcikepnbpaaGreatDoor
open Go Go.RowKit Go.Deep

theorem vret_bool {a b : Bool} (h : a = b) : Ending.returned (.bool a) = .returned (.bool b) := by rw [h]

theorem digit_any (x : Int) (w : World) (h0 : 0 ≤ x) (h1 : x < 256) : Calls Tryz.prog 73 #[.int .u8 x] w fun e w' => e = .returned (.bool (Sc.dg x)) ∧ w' = w := by
  go_enter Tryz.func73, Tryz.ntmps73
  go_wp2
  all_goals (go_ret; refine ⟨vret_bool ?_, rfl⟩)
  all_goals (rw [Bool.eq_iff_iff]; simp [Sc.dg]; omega)

theorem Str.pk {s : ByteArray} {xs : List Int} (h : Str s xs) (t : Nat) : ∀ ht : t < s.size, ((s[t]'ht).toNat : Int) = Sc.pk xs t := fun ht => h.at t ht
end Go.Proofs.YtjkefcikepnbpaaGreatDoor
