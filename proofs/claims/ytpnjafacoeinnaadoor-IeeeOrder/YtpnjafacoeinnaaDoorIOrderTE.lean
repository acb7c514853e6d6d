import Derived.Test.YtpnjafacoeinnaaDoorIAwake
import Derived.Test.YtpnjafacoeinnaaDoorIOrd3
/-
  IeeeOrder (made by mkorder.py).
-/
namespace Go.Proofs.YtpnjafacoeinnaaDoor
open Go Go.RowKit Go.Deep

set_option maxRecDepth 100000 in
set_option maxHeartbeats 8000000 in
theorem orderTE (a b c x y s t ab ba bc ac : Int) (w : World) (hT : Tab w) (a0 : 0 ≤ a) (a1 : a < 18446744073709551616) (b0 : 0 ≤ b) (b1 : b < 18446744073709551616)
    (RA : ∀ wx : World, Calls Tryd.prog 14 #[.int .u64 a] wx fun e w' => e = .returned (.tuple #[.int .i64 x, .bool true]) ∧ w' = wx)
    (RB : ∀ wx : World, Calls Tryd.prog 14 #[.int .u64 b] wx fun e w' => e = .returned (.tuple #[.int .i64 y, .bool true]) ∧ w' = wx)
    (CA : ∀ wx : World, Calls Tryd.prog 15 #[.int .u64 a, .int .u64 b] wx fun e w' => e = .returned (.tuple #[.int .i64 s, .bool true]) ∧ w' = wx)
    (CB : ∀ wx : World, Calls Tryd.prog 15 #[.int .u64 b, .int .u64 a] wx fun e w' => e = .returned (.tuple #[.int .i64 t, .bool true]) ∧ w' = wx)
    (TA : ∀ wx : World, Calls Tryd.prog 16 #[.int .u64 a, .int .u64 b] wx fun e w' => e = .returned (.int .i64 ab) ∧ w' = wx)
    (TB : ∀ wx : World, Calls Tryd.prog 16 #[.int .u64 b, .int .u64 c] wx fun e w' => e = .returned (.int .i64 bc) ∧ w' = wx)
    (TC : ∀ wx : World, Calls Tryd.prog 16 #[.int .u64 a, .int .u64 c] wx fun e w' => e = .returned (.int .i64 ac) ∧ w' = wx)
    (TD : ∀ wx : World, Calls Tryd.prog 16 #[.int .u64 b, .int .u64 a] wx fun e w' => e = .returned (.int .i64 ba) ∧ w' = wx)
    (ha :  a % 9223372036854775808 ≤ 9218868437227405312) (hb :  b % 9223372036854775808 ≤ 9218868437227405312)
    (K : (s = 0 ∧ t = 0 ∧ ¬ x < y ∧ ¬ y < x ∧ ab = -1 ∧ ba = 1 ∧ a ≠ b) ∨ (s = 0 ∧ t = 0 ∧ ¬ x < y ∧ ¬ y < x ∧ ab = 0 ∧ ba = 0 ∧ a = b) ∨ (s = 0 ∧ t = 0 ∧ ¬ x < y ∧ ¬ y < x ∧ ab = 1 ∧ ba = -1 ∧ a ≠ b))
    (L : (ab = -1 ∧ bc ≤ 0 ∧ ac ≤ 0) ∨ (ab = -1 ∧ 0 < bc) ∨ (ab = 1 ∧ 0 ≤ bc ∧ 0 ≤ ac) ∨ (ab = 1 ∧ bc < 0) ∨ (ab = 0 ∧ bc < 0 ∧ ac ≤ 0) ∨ (ab = 0 ∧ bc = 0 ∧ ac = 0) ∨ (ab = 0 ∧ 0 < bc ∧ 0 ≤ ac)) :
    Calls Tryd.prog 4 #[.int .u64 a, .int .u64 b, .int .u64 c] w fun r w' => r = .returned (.bool true) ∧ Below w.heap.size w w'  := by
  have AW := hid (awake_any w hT)
  have HRA := hid RA
  have HRB := hid RB
  have HCA := hid CA
  have HCB := hid CB
  have HTA := hid TA
  have HTB := hid TB
  have HTC := hid TC
  have HTD := hid TD
  have HTS : Hid (∀ wx : World, Calls Tryd.prog 16 #[.int .u64 9223372036854775808, .int .u64 0] wx fun e w' => e = .returned (.int .i64 (-1)) ∧ w' = wx) := fun wx => total_any 9223372036854775808 0 wx (by omega) (by omega) (by omega) (by omega)
  clear hT RA RB CA CB TA TB TC TD
  rcases K with ⟨rfl, rfl, g2, g3, rfl, rfl, g6⟩ | ⟨rfl, rfl, g2, g3, rfl, rfl, g6⟩ | ⟨rfl, rfl, g2, g3, rfl, rfl, g6⟩
  · rcases L with ⟨-, l1, l2⟩ | ⟨-, l1⟩ | ⟨l0, -⟩ | ⟨l0, -⟩ | ⟨l0, -⟩ | ⟨l0, -⟩ | ⟨l0, -⟩
    · have ne : (a == b) = false := by rw [beq_eq_false_iff_ne]; exact g6
      clear g6
      go_enter Tryd.func4, Tryd.ntmps4
      go_wp2_with fail
      refine AW.out.mono ?_
      rintro e' w1 ⟨rfl, hB⟩
      have HB := hid hB
      clear hB AW
      go_wp2_with fail
      refine (HRA.out _).mono ?_
      rintro e' w' ⟨rfl, rfl⟩
      go_wp2_with fail
      refine (HRB.out _).mono ?_
      rintro e' w' ⟨rfl, rfl⟩
      go_wp2_with fail
      refine (HCA.out _).mono ?_
      rintro e' w' ⟨rfl, rfl⟩
      go_wp2_with fail
      refine (HCB.out _).mono ?_
      rintro e' w' ⟨rfl, rfl⟩
      go_wp2_with fail
      refine (HTA.out _).mono ?_
      rintro e' w' ⟨rfl, rfl⟩
      go_wp2_with fail
      refine (HTB.out _).mono ?_
      rintro e' w' ⟨rfl, rfl⟩
      go_wp2_with fail
      refine (HTC.out _).mono ?_
      rintro e' w' ⟨rfl, rfl⟩
      go_wp2_with fail
      refine (HTD.out _).mono ?_
      rintro e' w' ⟨rfl, rfl⟩
      go_wp2_with fail
      refine (HTS.out _).mono ?_
      rintro e' w' ⟨rfl, rfl⟩
      go_wp2_with fail
      go_ret
      exact ⟨by simp, HB.out⟩
    · have ne : (a == b) = false := by rw [beq_eq_false_iff_ne]; exact g6
      clear g6
      go_enter Tryd.func4, Tryd.ntmps4
      go_wp2_with fail
      refine AW.out.mono ?_
      rintro e' w1 ⟨rfl, hB⟩
      have HB := hid hB
      clear hB AW
      go_wp2_with fail
      refine (HRA.out _).mono ?_
      rintro e' w' ⟨rfl, rfl⟩
      go_wp2_with fail
      refine (HRB.out _).mono ?_
      rintro e' w' ⟨rfl, rfl⟩
      go_wp2_with fail
      refine (HCA.out _).mono ?_
      rintro e' w' ⟨rfl, rfl⟩
      go_wp2_with fail
      refine (HCB.out _).mono ?_
      rintro e' w' ⟨rfl, rfl⟩
      go_wp2_with fail
      refine (HTA.out _).mono ?_
      rintro e' w' ⟨rfl, rfl⟩
      go_wp2_with fail
      refine (HTB.out _).mono ?_
      rintro e' w' ⟨rfl, rfl⟩
      go_wp2_with fail
      refine (HTC.out _).mono ?_
      rintro e' w' ⟨rfl, rfl⟩
      go_wp2_with fail
      refine (HTD.out _).mono ?_
      rintro e' w' ⟨rfl, rfl⟩
      go_wp2_with fail
      refine (HTS.out _).mono ?_
      rintro e' w' ⟨rfl, rfl⟩
      go_wp2_with fail
      go_ret
      exact ⟨by simp, HB.out⟩
    · omega
    · omega
    · omega
    · omega
    · omega
  · rcases L with ⟨l0, -⟩ | ⟨l0, -⟩ | ⟨l0, -⟩ | ⟨l0, -⟩ | ⟨-, l1, l2⟩ | ⟨-, l1, l2⟩ | ⟨-, l1, l2⟩
    · omega
    · omega
    · omega
    · omega
    · subst g6
      go_enter Tryd.func4, Tryd.ntmps4
      go_wp2_with fail
      refine AW.out.mono ?_
      rintro e' w1 ⟨rfl, hB⟩
      have HB := hid hB
      clear hB AW
      go_wp2_with fail
      refine (HRA.out _).mono ?_
      rintro e' w' ⟨rfl, rfl⟩
      go_wp2_with fail
      refine (HRB.out _).mono ?_
      rintro e' w' ⟨rfl, rfl⟩
      go_wp2_with fail
      refine (HCA.out _).mono ?_
      rintro e' w' ⟨rfl, rfl⟩
      go_wp2_with fail
      refine (HCB.out _).mono ?_
      rintro e' w' ⟨rfl, rfl⟩
      go_wp2_with fail
      refine (HTA.out _).mono ?_
      rintro e' w' ⟨rfl, rfl⟩
      go_wp2_with fail
      refine (HTB.out _).mono ?_
      rintro e' w' ⟨rfl, rfl⟩
      go_wp2_with fail
      refine (HTC.out _).mono ?_
      rintro e' w' ⟨rfl, rfl⟩
      go_wp2_with fail
      refine (HTD.out _).mono ?_
      rintro e' w' ⟨rfl, rfl⟩
      go_wp2_with fail
      refine (HTS.out _).mono ?_
      rintro e' w' ⟨rfl, rfl⟩
      go_wp2_with fail
      go_ret
      exact ⟨by simp, HB.out⟩
    · subst g6
      subst l1
      subst l2
      go_enter Tryd.func4, Tryd.ntmps4
      go_wp2_with fail
      refine AW.out.mono ?_
      rintro e' w1 ⟨rfl, hB⟩
      have HB := hid hB
      clear hB AW
      go_wp2_with fail
      refine (HRA.out _).mono ?_
      rintro e' w' ⟨rfl, rfl⟩
      go_wp2_with fail
      refine (HRB.out _).mono ?_
      rintro e' w' ⟨rfl, rfl⟩
      go_wp2_with fail
      refine (HCA.out _).mono ?_
      rintro e' w' ⟨rfl, rfl⟩
      go_wp2_with fail
      refine (HCB.out _).mono ?_
      rintro e' w' ⟨rfl, rfl⟩
      go_wp2_with fail
      refine (HTA.out _).mono ?_
      rintro e' w' ⟨rfl, rfl⟩
      go_wp2_with fail
      refine (HTB.out _).mono ?_
      rintro e' w' ⟨rfl, rfl⟩
      go_wp2_with fail
      refine (HTC.out _).mono ?_
      rintro e' w' ⟨rfl, rfl⟩
      go_wp2_with fail
      refine (HTD.out _).mono ?_
      rintro e' w' ⟨rfl, rfl⟩
      go_wp2_with fail
      refine (HTS.out _).mono ?_
      rintro e' w' ⟨rfl, rfl⟩
      go_wp2_with fail
      go_ret
      exact ⟨by simp, HB.out⟩
    · subst g6
      go_enter Tryd.func4, Tryd.ntmps4
      go_wp2_with fail
      refine AW.out.mono ?_
      rintro e' w1 ⟨rfl, hB⟩
      have HB := hid hB
      clear hB AW
      go_wp2_with fail
      refine (HRA.out _).mono ?_
      rintro e' w' ⟨rfl, rfl⟩
      go_wp2_with fail
      refine (HRB.out _).mono ?_
      rintro e' w' ⟨rfl, rfl⟩
      go_wp2_with fail
      refine (HCA.out _).mono ?_
      rintro e' w' ⟨rfl, rfl⟩
      go_wp2_with fail
      refine (HCB.out _).mono ?_
      rintro e' w' ⟨rfl, rfl⟩
      go_wp2_with fail
      refine (HTA.out _).mono ?_
      rintro e' w' ⟨rfl, rfl⟩
      go_wp2_with fail
      refine (HTB.out _).mono ?_
      rintro e' w' ⟨rfl, rfl⟩
      go_wp2_with fail
      refine (HTC.out _).mono ?_
      rintro e' w' ⟨rfl, rfl⟩
      go_wp2_with fail
      refine (HTD.out _).mono ?_
      rintro e' w' ⟨rfl, rfl⟩
      go_wp2_with fail
      refine (HTS.out _).mono ?_
      rintro e' w' ⟨rfl, rfl⟩
      go_wp2_with fail
      go_ret
      exact ⟨by simp, HB.out⟩
  · rcases L with ⟨l0, -⟩ | ⟨l0, -⟩ | ⟨-, l1, l2⟩ | ⟨-, l1⟩ | ⟨l0, -⟩ | ⟨l0, -⟩ | ⟨l0, -⟩
    · omega
    · omega
    · have ne : (a == b) = false := by rw [beq_eq_false_iff_ne]; exact g6
      clear g6
      go_enter Tryd.func4, Tryd.ntmps4
      go_wp2_with fail
      refine AW.out.mono ?_
      rintro e' w1 ⟨rfl, hB⟩
      have HB := hid hB
      clear hB AW
      go_wp2_with fail
      refine (HRA.out _).mono ?_
      rintro e' w' ⟨rfl, rfl⟩
      go_wp2_with fail
      refine (HRB.out _).mono ?_
      rintro e' w' ⟨rfl, rfl⟩
      go_wp2_with fail
      refine (HCA.out _).mono ?_
      rintro e' w' ⟨rfl, rfl⟩
      go_wp2_with fail
      refine (HCB.out _).mono ?_
      rintro e' w' ⟨rfl, rfl⟩
      go_wp2_with fail
      refine (HTA.out _).mono ?_
      rintro e' w' ⟨rfl, rfl⟩
      go_wp2_with fail
      refine (HTB.out _).mono ?_
      rintro e' w' ⟨rfl, rfl⟩
      go_wp2_with fail
      refine (HTC.out _).mono ?_
      rintro e' w' ⟨rfl, rfl⟩
      go_wp2_with fail
      refine (HTD.out _).mono ?_
      rintro e' w' ⟨rfl, rfl⟩
      go_wp2_with fail
      refine (HTS.out _).mono ?_
      rintro e' w' ⟨rfl, rfl⟩
      go_wp2_with fail
      go_ret
      exact ⟨by simp, HB.out⟩
    · have ne : (a == b) = false := by rw [beq_eq_false_iff_ne]; exact g6
      clear g6
      go_enter Tryd.func4, Tryd.ntmps4
      go_wp2_with fail
      refine AW.out.mono ?_
      rintro e' w1 ⟨rfl, hB⟩
      have HB := hid hB
      clear hB AW
      go_wp2_with fail
      refine (HRA.out _).mono ?_
      rintro e' w' ⟨rfl, rfl⟩
      go_wp2_with fail
      refine (HRB.out _).mono ?_
      rintro e' w' ⟨rfl, rfl⟩
      go_wp2_with fail
      refine (HCA.out _).mono ?_
      rintro e' w' ⟨rfl, rfl⟩
      go_wp2_with fail
      refine (HCB.out _).mono ?_
      rintro e' w' ⟨rfl, rfl⟩
      go_wp2_with fail
      refine (HTA.out _).mono ?_
      rintro e' w' ⟨rfl, rfl⟩
      go_wp2_with fail
      refine (HTB.out _).mono ?_
      rintro e' w' ⟨rfl, rfl⟩
      go_wp2_with fail
      refine (HTC.out _).mono ?_
      rintro e' w' ⟨rfl, rfl⟩
      go_wp2_with fail
      refine (HTD.out _).mono ?_
      rintro e' w' ⟨rfl, rfl⟩
      go_wp2_with fail
      refine (HTS.out _).mono ?_
      rintro e' w' ⟨rfl, rfl⟩
      go_wp2_with fail
      go_ret
      exact ⟨by simp, HB.out⟩
    · omega
    · omega
    · omega
end Go.Proofs.YtpnjafacoeinnaaDoor
