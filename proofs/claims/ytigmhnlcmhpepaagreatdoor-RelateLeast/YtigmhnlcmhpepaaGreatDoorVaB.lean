/-
  value: Integer; strconv.FormatInt by the shelf's contract.
-/
import Derived.Test.YtigmhnlcmhpepaaGreatDoorVaA
import Derived.Test.YtigmhnlcmhpepaaGreatDoorVItoa
import Derived.Test.YtigmhnlcmhpepaaGreatDoorDLay
import Derived.Test.YtigmhnlcmhpepaaGreatDoorGN
namespace Go.Proofs.YtigmhnlcmhpepaaGreatDoor
open Go Go.RowKit Go.Deep Go.Shelf

theorem vformat_any (n : Int) (w : World) (h0 : -9223372036854775808 ≤ n) (h1 : n ≤ 9223372036854775807) (ht : Tab10 w) :
    Calls Tryz.prog 87 #[.int .i64 n, .int .i64 10] w fun e w' => e = .returned (.string (strOfNums (itl n))) ∧ Below w.heap.size w w' := by
  refine (Any.strconv_FormatInt_10 fiLays n h0 h1 w ht).mono ?_
  rintro e w' ⟨rfl, k, os, rfl⟩
  exact ⟨by rw [str_of (itl_str n)], below_grown k os⟩

namespace Va
theorem whp_bd {d : Int} (h : ok d = true) : 0 ≤ Ie.whp (d % 9223372036854775808) ∧ Ie.whp (d % 9223372036854775808) < 9223372036854775808 := by
  have a0 : 0 ≤ d % 9223372036854775808 := by omega
  rcases (show d % 9223372036854775808 = 0 ∨ 0 < d % 9223372036854775808 by omega) with z | z
  · rw [z, zero_intg.2]; omega
  · by_cases lo : d % 9223372036854775808 / 4503599627370496 < 1023
    · rw [ok_low z lo] at h; exact absurd h (by decide)
    · by_cases hi : 1086 ≤ d % 9223372036854775808 / 4503599627370496
      · rw [ok_high hi] at h; exact absurd h (by decide)
      · obtain ⟨p, hp⟩ : ∃ p : Nat, d % 9223372036854775808 / 4503599627370496 = p + 1023 := ⟨(d % 9223372036854775808 / 4503599627370496 - 1023).toNat, by omega⟩
        rw [top_whp (p := p) (by omega) hp]
        exact mid_bd (by omega) (by omega) (by omega)
theorem num_bd' {d : Int} (h : ok d = true) : -9223372036854775808 ≤ num d ∧ num d ≤ 9223372036854775807 := by
  have b := whp_bd h
  unfold num
  split <;> omega
/-- The digits that Integer tells. -/
def tx (d : Int) : List Int := if ok d = true then itl (num d) else []
end Va

set_option maxRecDepth 100000 in
theorem vinteger_any (d : Int) (w : World) (h0 : 0 ≤ d) (h1 : d < 18446744073709551616) (ht : Tab10 w) :
    Calls Tryz.prog 70 #[.int .u64 d] w fun e w' => e = .returned (.tuple #[.string (strOfNums (Va.tx d)), .bool (Va.ok d)]) ∧ Below w.heap.size w w' := by
  have TI := hid (fun W => vint_any d W h0 h1)
  by_cases hk : Va.ok d = true
  · have e1 : Va.vi d = Va.num d := if_pos hk
    have e2 : Va.tx d = itl (Va.num d) := if_pos hk
    have B := Va.num_bd' hk
    have FI := hid (vformat_any (Va.num d) w B.1 B.2 ht)
    rw [e1, hk] at TI
    rw [e2, hk]
    clear e1 e2 B hk h0 h1 ht
    generalize Va.num d = n at *
    generalize strOfNums (itl n) = S at *
    go_enter Tryz.func70, Tryz.ntmps70
    go_wp2_with (go_at_call 86; refine (TI.out _).mono ?_; rintro e w2 ⟨rfl, hw2⟩; rw [hw2]; clear hw2 w2)
    refine FI.out.mono ?_
    rintro e w1 ⟨rfl, b1⟩
    have F := hid b1
    clear b1 FI TI
    go_wp2_with fail
    go_ret2
    exact ⟨rfl, F.out⟩
  · have hf : Va.ok d = false := by simpa using hk
    have e2 : Va.tx d = [] := if_neg hk
    have e1 : Va.vi d = 0 := if_neg hk
    rw [e1, hf] at TI
    rw [e2, hf]
    clear e1 e2 hk hf h0 h1 ht
    go_enter Tryz.func70, Tryz.ntmps70
    go_wp2_with (go_at_call 86; refine (TI.out _).mono ?_; rintro e w2 ⟨rfl, hw2⟩; rw [hw2]; clear hw2 w2)
    go_ret2
    exact ⟨rfl, Below.refl _ _⟩
end Go.Proofs.YtigmhnlcmhpepaaGreatDoor
