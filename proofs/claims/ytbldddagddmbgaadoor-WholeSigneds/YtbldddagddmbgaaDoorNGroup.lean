/-
  numeral's group.
-/
import Derived.Test.YtbldddagddmbgaaDoorWalk1
import Derived.Test.YtbldddagddmbgaaDoorNums
namespace Go.Proofs.YtbldddagddmbgaaDoor
open Go.RowKit Go.Deep

structure ShutG (p : Prop) : Prop where
  out : p

/-- So many digits a limb holds. -/
theorem few64 {B : Int} {W : Nat} (hB : 2 ≤ B) (h : B ^ W < 18446744073709551616) : W ≤ 63 := by
  have := Ln.small (A := B ^ W) (L := 64) hB (Int.le_refl _) (by rw [show (2 : Int) ^ 64 = 18446744073709551616 by decide]; exact h)
  omega

set_option maxRecDepth 100000 in
set_option maxHeartbeats 1000000 in
theorem group_any (B : Int) (w : World) (h2 : 2 ≤ B) (h36 : B ≤ 36) :
    Calls Tryd.prog 74 #[.int .u64 B] w fun e w' => (∃ (W : Nat) (P : Int), e = .returned (.tuple #[.int .u64 P, .int .i64 (W : Int)]) ∧ P = B ^ W ∧ 1 ≤ W ∧ W ≤ 63 ∧ P < 18446744073709551616) ∧ w' = w := by
  have hB0 : (B == 0) = false := by rw [beq_eq_false_iff_ne]; omega
  go_enter Tryd.func74, Tryd.ntmps74
  go_wp2_with fail
  go_loop [4, 5] (fun p c => ∃ (P : Int) (W : Nat), p = .int .u64 P ∧ c = .int .i64 (W : Int) ∧ 1 ≤ P ∧ P ≤ 18446744073709551615 ∧ Hid (P = B ^ W ∧ 1 ≤ W ∧ W ≤ 63)) (fun _ c => 64 - (intOf c).toNat)
  case atStart => exact ⟨B, 1, rfl, rfl, by omega, by omega, by rw [Int.pow_succ, Int.pow_zero, Int.one_mul], by omega, by omega⟩
  case round =>
    obtain ⟨P, W, rfl, rfl, hP1, hP2, F⟩ := hrel
    have hW : (W : Int) ≤ 63 := by have := F.out.2.2; omega
    by_cases hle : P ≤ 18446744073709551615 / B
    · have hm : P * B ≤ 18446744073709551615 := (Int.le_ediv_iff_mul_le (by omega)).1 hle
      have hm0 : 0 ≤ P * B := Int.mul_nonneg (by omega) (by omega)
      have hm1 : 1 ≤ P * B := by have := Int.mul_le_mul (a := 1) (b := 1) hP1 (show 1 ≤ B by omega) (by omega) (by omega); omega
      have q1 : IntKind.u64.wrap (P * B) = P * B := by rw [IntKind.wrap_u64]; omega
      have W2 : Hid (W + 1 ≤ 63) := few64 h2 (by rw [Int.pow_succ, ← F.out.1]; omega)
      have HM := hid hm
      have HM1 := hid hm1
      clear hm hm0 hm1
      go_wp2_with fail
      go_round
      case rel => exact ⟨P * B, W + 1, rfl, by go_num, HM1.out, HM.out, by rw [Int.pow_succ, ← F.out.1], by omega, W2.out⟩
      case measure => simp [intOf]; have := F.out.2; omega
    · go_wp2_with fail
      go_ret2
      exact ⟨⟨W, P, rfl, F.out.1, F.out.2.1, F.out.2.2, by omega⟩, rfl⟩
end Go.Proofs.YtbldddagddmbgaaDoor
