import Derived.Test.YtpmmbaahoegmlaaGreatDoorIOrd1
import Derived.Test.YtpmmbaahoegmlaaGreatDoorIOrdD
/-
  ieee: Rank, Compare, Total, AtRank, Up, Down.
-/
namespace Go.Proofs.YtpmmbaahoegmlaaGreatDoor
open Go Go.RowKit Go.Deep


set_option maxRecDepth 100000 in
set_option maxHeartbeats 1000000 in
theorem rank_any (d : Int) (w : World) (h0 : 0 ≤ d) (h1 : d < 18446744073709551616) :
    Calls Tryz.prog 30 #[.int .u64 d] w fun e w' => e = .returned (.tuple #[.int .i64 (Ie.rkv d), .bool (Ie.okd d)]) ∧ w' = w := by
  have B := Ib.sign_and d h0 h1
  have CL := hid (class_any d w h0 h1)
  have AB := hid (abs_any d w h0 h1)
  have c4 := Ie.cls4 d
  obtain ⟨c, hc⟩ : ∃ c, Ie.cls d = c := ⟨_, rfl⟩
  rw [hc] at CL c4
  obtain ⟨sv, hsv⟩ : ∃ sv, d / 9223372036854775808 * 9223372036854775808 = sv := ⟨_, rfl⟩
  rw [hsv] at B
  obtain ⟨r, hr⟩ : ∃ r, d % 9223372036854775808 = r := ⟨_, rfl⟩
  rw [hr] at AB
  have r0 : 0 ≤ r := by omega
  have r1 : r < 9223372036854775808 := by omega
  by_cases hn : c = 4
  · have E : Hid (0 = Ie.rkv d ∧ false = Ie.okd d) := by
      have := c4.1 hn
      exact ⟨by rw [Ie.rkv, this]; rfl, this.symm⟩
    subst hn
    clear hc hsv hr c4
    go_enter Tryz.func30, Tryz.ntmps30
    go_wp2_with fail
    refine CL.out.mono ?_
    rintro e w' ⟨rfl, rfl⟩
    go_wp2_with fail
    go_ret2
    exact ⟨ret_i64b E.out.1 E.out.2, rfl⟩
  · have ok : Ie.okd d = true := by
      cases h : Ie.okd d
      · exact absurd (c4.2 h) hn
      · rfl
    have hn' : (c == 4) = false := by rw [beq_eq_false_iff_ne]; exact hn
    rcases (show d < 9223372036854775808 ∨ 9223372036854775808 ≤ d by omega) with hs | hs
    · have E : Hid (r = Ie.rkv d ∧ true = Ie.okd d) := ⟨by rw [Ie.rkv, ok, if_pos rfl, Ie.rk, if_pos hs]; omega, ok.symm⟩
      have hz : sv = 0 := by omega
      subst hz
      clear hc hsv hr c4 ok hs hn
      go_enter Tryz.func30, Tryz.ntmps30
      go_wp2_with fail
      refine CL.out.mono ?_
      rintro e w' ⟨rfl, rfl⟩
      go_wp2_with fail
      refine AB.out.mono ?_
      rintro e w' ⟨rfl, rfl⟩
      go_wp2_with fail
      go_ret2
      exact ⟨ret_i64b E.out.1 E.out.2, rfl⟩
    · have E : Hid (-r = Ie.rkv d ∧ true = Ie.okd d) := ⟨by rw [Ie.rkv, ok, if_pos rfl, Ie.rk, if_neg (by omega)]; omega, ok.symm⟩
      have hz : sv = 9223372036854775808 := by omega
      subst hz
      clear hc hsv hr c4 ok hs hn
      go_enter Tryz.func30, Tryz.ntmps30
      go_wp2_with fail
      refine CL.out.mono ?_
      rintro e w' ⟨rfl, rfl⟩
      go_wp2_with fail
      refine AB.out.mono ?_
      rintro e w' ⟨rfl, rfl⟩
      go_wp2_with fail
      go_ret2
      exact ⟨ret_i64b E.out.1 E.out.2, rfl⟩

set_option maxRecDepth 100000 in
set_option maxHeartbeats 1000000 in
theorem compare_any (a b : Int) (w : World) (a0 : 0 ≤ a) (a1 : a < 18446744073709551616) (b0 : 0 ≤ b) (b1 : b < 18446744073709551616) :
    Calls Tryz.prog 36 #[.int .u64 a, .int .u64 b] w fun e w' => e = .returned (.tuple #[.int .i64 (Ie.cmv a b), .bool (Ie.okd a && Ie.okd b)]) ∧ w' = w := by
  have P1 := hid (rank_any a w a0 a1)
  have P2 := hid (rank_any b w b0 b1)
  have X1 : Hid (Ie.okd a = true → Ie.rkv a = Ie.rk a) := by intro h; rw [Ie.rkv, if_pos h]
  have X2 : Hid (Ie.okd b = true → Ie.rkv b = Ie.rk b) := by intro h; rw [Ie.rkv, if_pos h]
  have V : Hid (Ie.cmv a b = if Ie.okd a = true ∧ Ie.okd b = true then Ie.cm (Ie.rk a) (Ie.rk b) else 0) := rfl
  generalize Ie.cmv a b = cv at *
  generalize Ie.rkv a = x at *
  generalize Ie.rkv b = y at *
  generalize Ie.okd a = oa at *
  generalize Ie.okd b = ob at *
  clear a0 a1 b0 b1
  cases oa
  · go_enter Tryz.func36, Tryz.ntmps36
    go_wp2_with fail
    refine P1.out.mono ?_
    rintro e w' ⟨rfl, rfl⟩
    go_wp2_with fail
    refine P2.out.mono ?_
    rintro e w' ⟨rfl, rfl⟩
    go_wp2_with fail
    go_ret2
    exact ⟨ret_i64b (by rw [V.out]; rfl) rfl, rfl⟩
  · cases ob
    · go_enter Tryz.func36, Tryz.ntmps36
      go_wp2_with fail
      refine P1.out.mono ?_
      rintro e w' ⟨rfl, rfl⟩
      go_wp2_with fail
      refine P2.out.mono ?_
      rintro e w' ⟨rfl, rfl⟩
      go_wp2_with fail
      go_ret2
      exact ⟨ret_i64b (by rw [V.out]; rfl) rfl, rfl⟩
    · go_enter Tryz.func36, Tryz.ntmps36
      go_wp2_with fail
      refine P1.out.mono ?_
      rintro e w' ⟨rfl, rfl⟩
      go_wp2_with fail
      refine P2.out.mono ?_
      rintro e w' ⟨rfl, rfl⟩
      go_wp2_with fail
      refine (ccmp_any _ _ _).mono ?_
      rintro e w' ⟨rfl, rfl⟩
      go_wp2_with fail
      go_ret2
      exact ⟨ret_i64b (by rw [V.out, if_pos ⟨trivial, trivial⟩, X1.out trivial, X2.out trivial]) rfl, rfl⟩

end Go.Proofs.YtpmmbaahoegmlaaGreatDoor
