/-
  value: isZero, toInt.
-/
import Derived.Test.YtigmhnlcmhpepaaGreatDoorGD
import Derived.Test.YtigmhnlcmhpepaaGreatDoorIBit
import Derived.Deep.LoopGhost
import Derived.Deep.RegionHeld3
import Derived.Deep.CutBlock
import Derived.Deep.CutRange
import Derived.Deep.DeepCutAuto
namespace Go.Proofs.YtigmhnlcmhpepaaGreatDoor
open Go Go.RowKit Go.Deep

theorem vzero_any (d : Int) (w : World) (h0 : 0 ≤ d) (h1 : d < 18446744073709551616) :
    Calls Tryz.prog 104 #[.int .u64 d] w fun e w' => e = .returned (.bool (d % 9223372036854775808 == 0)) ∧ w' = w := by
  have AN := Ib.sign_andNot d h0 h1
  go_enter Tryz.func104, Tryz.ntmps104
  go_wp2_with fail
  go_ret
  exact ⟨rfl, rfl⟩

set_option maxRecDepth 100000 in
theorem vint_any (d : Int) (w : World) (h0 : 0 ≤ d) (h1 : d < 18446744073709551616) :
    Calls Tryz.prog 86 #[.int .u64 d] w fun e w' => e = .returned (.tuple #[.int .i64 (Va.vi d), .bool (Va.ok d)]) ∧ w' = w := by
  have ZE := hid (fun W => vzero_any d W h0 h1)
  have AN := Ib.sign_andNot d h0 h1
  obtain ⟨a, ha⟩ : ∃ a, d % 9223372036854775808 = a := ⟨_, rfl⟩
  have a0 : 0 ≤ a := by omega
  have a1 : a < 9223372036854775808 := by omega
  by_cases hz : a = 0
  · obtain ⟨k1, k2⟩ := Va.ok_zero (ha.trans hz)
    have F : Hid (Va.vi d = 0 ∧ Va.ok d = true) := ⟨by rw [Va.vi, if_pos k1, k2], k1⟩
    rw [ha, hz] at ZE
    clear k1 k2 AN
    go_enter Tryz.func86, Tryz.ntmps86
    go_wp2_with (go_at_call 104; refine (ZE.out _).mono ?_; rintro e w2 ⟨rfl, hw2⟩; rw [hw2]; clear hw2 w2)
    go_ret2
    exact ⟨by rw [F.out.1, F.out.2]; rfl, rfl⟩
  have zf : (a == 0) = false := by simpa using hz
  rw [ha, zf] at ZE
  rw [ha] at AN
  have NO : Hid (Va.ok d = false → Ending.returned (.tuple #[.int .i64 0, .bool false]) = Ending.returned (.tuple #[.int .i64 (Va.vi d), .bool (Va.ok d)])) := fun h => by rw [Va.vi, h]; rfl
  have p0 : 0 ≤ a / 4503599627370496 := by omega
  have p1 : a / 4503599627370496 ≤ 2047 := by omega
  by_cases lo : a / 4503599627370496 < 1023
  · have F := hid (NO.out (Va.ok_low (by rw [ha]; omega) (by rw [ha]; exact lo)))
    have lo2 : a / 4503599627370496 - 1023 < 0 := by omega
    clear NO ha
    go_enter Tryz.func86, Tryz.ntmps86
    go_wp2_with (go_at_call 104; refine (ZE.out _).mono ?_; rintro e w2 ⟨rfl, hw2⟩; rw [hw2]; clear hw2 w2)
    go_ret2
    exact ⟨F.out, rfl⟩
  by_cases hi : 1086 ≤ a / 4503599627370496
  · have F := hid (NO.out (Va.ok_high (by rw [ha]; exact hi)))
    clear NO ha
    go_enter Tryz.func86, Tryz.ntmps86
    go_wp2_with (go_at_call 104; refine (ZE.out _).mono ?_; rintro e w2 ⟨rfl, hw2⟩; rw [hw2]; clear hw2 w2)
    go_ret2
    exact ⟨F.out, rfl⟩
  obtain ⟨p, hp⟩ : ∃ p : Nat, a / 4503599627370496 = p + 1023 := ⟨(a / 4503599627370496 - 1023).toNat, by omega⟩
  have p62 : p ≤ 62 := by omega
  have OM := Va.ok_mid (d := d) p62 (by rw [ha]; exact hp)
  have NM := Va.num_mid (d := d) p62 (by rw [ha]; exact hp)
  have MB := Va.mid_bd (m := a % 4503599627370496) p62 (by omega) (by omega)
  rw [ha] at OM NM
  have FR := Ib.frac_and a a0 (by omega)
  have m0 : 0 ≤ a % 4503599627370496 := by omega
  have m1 : a % 4503599627370496 < 4503599627370496 := by omega
  have OR : bits .or .u64 (a % 4503599627370496) 4503599627370496 = a % 4503599627370496 + 4503599627370496 := by
    have q := Ib.field_or (a % 4503599627370496) 1 m0 m1 (by omega) (by omega)
    rw [Int.one_mul] at q; exact q
  obtain ⟨M, hM⟩ : ∃ M, (a % 4503599627370496 + 4503599627370496) * 2048 = M := ⟨_, rfl⟩
  have WM : IntKind.u64.wrap ((a % 4503599627370496 + 4503599627370496) * 2048) = M := by rw [hM, IntKind.wrap_u64]; omega
  have M0 : 0 ≤ M := by omega
  have M1 : M < 18446744073709551616 := by omega
  rw [hM] at OM NM MB
  have B0 := Va.two_pos (63 - p)
  obtain ⟨n, hn⟩ : ∃ n, M / 2 ^ (63 - p) = n := ⟨_, rfl⟩
  have nb : n * 2 ^ (63 - p) ≤ M := by rw [← hn]; exact Int.ediv_mul_le M (by omega)
  have np : 0 ≤ n * 2 ^ (63 - p) := by rw [hn] at MB; exact Int.mul_nonneg MB.1 (Int.le_of_lt B0)
  rw [hn] at OM NM MB
  have WN : IntKind.u64.wrap (n * 2 ^ (63 - p)) = n * 2 ^ (63 - p) := by rw [IntKind.wrap_u64]; omega
  obtain ⟨n0, n1⟩ := MB
  have W1 : wrap64 n = n := by unfold wrap64; omega
  have W2 : wrap64 (-n) = -n := by unfold wrap64; omega
  have p63 : (p : Int) ≤ 62 := by omega
  have NMh := hid NM
  have OMh := hid OM
  have ki : ¬ (63 : Int) ≤ (p : Int) := by omega
  have kj : ¬ (p : Int) < 0 := by omega
  clear NM OM hM lo hi hz p0 p1 m0 m1 M0 M1
  by_cases hq : n * 2 ^ (63 - p) = M
  · have q1 : (n * 2 ^ (63 - p) == M) = true := by simpa using hq
    have q2 : (n * 2 ^ (63 - p) != M) = false := by simpa using hq
    have ok1 : Hid (Va.ok d = true) := by rw [OMh.out]; exact decide_eq_true hq
    by_cases hs : 9223372036854775808 ≤ d
    · have s1 : (d == a) = false := by simp; omega
      have s2 : (d != a) = true := by simp; omega
      have F : Hid (Ending.returned (.tuple #[.int .i64 (-n), .bool true]) = Ending.returned (.tuple #[.int .i64 (Va.vi d), .bool (Va.ok d)])) := by
        show _ = _
        rw [Va.vi, if_pos ok1.out, NMh.out, if_pos hs, ok1.out]
      clear NMh OMh ok1 hq NO ha nb np B0 hs p62
      go_enter Tryz.func86, Tryz.ntmps86
      go_wp2_with (go_at_call 104; refine (ZE.out _).mono ?_; rintro e w2 ⟨rfl, hw2⟩; rw [hw2]; clear hw2 w2)
      go_ret2
      exact ⟨F.out, rfl⟩
    · have s1 : (d == a) = true := by simp; omega
      have s2 : (d != a) = false := by simp; omega
      have F : Hid (Ending.returned (.tuple #[.int .i64 n, .bool true]) = Ending.returned (.tuple #[.int .i64 (Va.vi d), .bool (Va.ok d)])) := by
        show _ = _
        rw [Va.vi, if_pos ok1.out, NMh.out, if_neg hs, ok1.out]
      clear NMh OMh ok1 hq NO ha nb np B0 hs p62
      go_enter Tryz.func86, Tryz.ntmps86
      go_wp2_with (go_at_call 104; refine (ZE.out _).mono ?_; rintro e w2 ⟨rfl, hw2⟩; rw [hw2]; clear hw2 w2)
      go_ret2
      exact ⟨F.out, rfl⟩
  · have q1 : (n * 2 ^ (63 - p) == M) = false := by simpa using hq
    have q2 : (n * 2 ^ (63 - p) != M) = true := by simpa using hq
    have F := hid (NO.out (by rw [OMh.out]; exact decide_eq_false hq))
    clear NMh OMh hq NO ha nb np B0 p62
    go_enter Tryz.func86, Tryz.ntmps86
    go_wp2_with (go_at_call 104; refine (ZE.out _).mono ?_; rintro e w2 ⟨rfl, hw2⟩; rw [hw2]; clear hw2 w2)
    go_ret2
    exact ⟨F.out, rfl⟩
end Go.Proofs.YtigmhnlcmhpepaaGreatDoor
