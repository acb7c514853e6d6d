/-
  Texts put together: ZOrd, ZRef15, ZRef16, ZWhole, ZInt, ZInt2, ZRatioA, IRatioZ, NSub.
-/
import Derived.Test.YtggiioipppbedaaGreatDoorRC
import Derived.Test.YtggiioipppbedaaGreatDoorRF
import Derived.Test.YtggiioipppbedaaGreatDoorRE
import Derived.Test.YtggiioipppbedaaGreatDoorNToU
import Derived.Test.YtggiioipppbedaaGreatDoorRB
import Derived.Test.YtggiioipppbedaaGreatDoorRA
import Derived.Test.YtggiioipppbedaaGreatDoorWalk2a
import Derived.Test.YtggiioipppbedaaGreatDoorSmall
/-
  The document's Class, Compare, Total, Rank, AtRank, Up, Down (made by mkzord.py).
-/
namespace Go.Proofs.YtggiioipppbedaaGreatDoor
open Go Go.RowKit Go.Deep

set_option maxRecDepth 100000 in
set_option maxHeartbeats 2000000 in
theorem zclass_any (d : Int) (w : World) (h0 : 0 ≤ d) (h1 : d < 18446744073709551616) :
    Calls Tryz.prog 16 #[.int .u64 d] w fun e w' => e = .returned (.int .i64 (Ie.cls d)) ∧ Below w.heap.size w w' := by
  have D := hid (zdecode_any d w h0 h1)
  generalize decide (9223372036854775808 ≤ d) = neg at D
  generalize Ie.cls d = c at *
  generalize Ie.dm d = m at D
  generalize Ie.de d = x at D
  simp only [partsOf] at D
  go_enter Tryz.func16, Tryz.ntmps16
  go_wp2_with fail
  refine D.out.mono ?_
  rintro e w1 ⟨rfl, hB⟩
  have HB := hid hB
  clear hB D
  go_wp2_with fail
  go_ret
  exact ⟨rfl, Below.alloc HB.out HB.out.size _⟩

set_option maxRecDepth 100000 in
set_option maxHeartbeats 2000000 in
theorem zcompare_any (a b : Int) (w : World) (a0 : 0 ≤ a) (a1 : a < 18446744073709551616) (b0 : 0 ≤ b) (b1 : b < 18446744073709551616) :
    Calls Tryz.prog 19 #[.int .u64 a, .int .u64 b] w fun e w' => e = .returned (.tuple #[.int .i64 (Ie.cmv a b), .bool (Ie.okd a && Ie.okd b)]) ∧ w' = w := by
  have N1 := hid (znan_any a w a0 a1)
  have N2 := hid (znan_any b w b0 b1)
  have R1 := hid (zrank_any a w a0 a1)
  have R2 := hid (zrank_any b w b0 b1)
  have V : Hid (Ie.cmv a b = if Ie.okd a = true ∧ Ie.okd b = true then Ie.cm (Ie.rk a) (Ie.rk b) else 0) := rfl
  generalize Ie.cmv a b = cv at *
  generalize Ie.rk a = x at *
  generalize Ie.rk b = y at *
  generalize Ie.okd a = oa at *
  generalize Ie.okd b = ob at *
  clear a0 a1 b0 b1
  cases oa
  · have V0 : Hid (0 = cv) := by rw [Hid, V.out, if_neg (by simp)]
    clear V
    simp only [Bool.not_false] at N1
    go_enter Tryz.func19, Tryz.ntmps19
    go_wp2_with fail
    refine N1.out.mono ?_
    rintro e w' ⟨rfl, rfl⟩
    go_wp2_with fail
    go_ret2
    exact ⟨ret_i64b V0.out rfl, rfl⟩
  · simp only [Bool.not_true] at N1
    cases ob
    · have V0 : Hid (0 = cv) := by rw [Hid, V.out, if_neg (by simp)]
      clear V
      simp only [Bool.not_false] at N2
      go_enter Tryz.func19, Tryz.ntmps19
      go_wp2_with fail
      refine N1.out.mono ?_
      rintro e w' ⟨rfl, rfl⟩
      go_wp2_with fail
      refine N2.out.mono ?_
      rintro e w' ⟨rfl, rfl⟩
      go_wp2_with fail
      go_ret2
      exact ⟨ret_i64b V0.out rfl, rfl⟩
    · simp only [Bool.not_true] at N2
      have V1 : Hid (Ie.cm x y = cv) := by rw [Hid, V.out, if_pos ⟨rfl, rfl⟩]
      clear V
      by_cases h1 : x < y
      · have V0 : Hid (-1 = cv) := by rw [Hid, ← V1.out, Ie.cm, if_pos h1]
        go_enter Tryz.func19, Tryz.ntmps19
        go_wp2_with fail
        refine N1.out.mono ?_
        rintro e w' ⟨rfl, rfl⟩
        go_wp2_with fail
        refine N2.out.mono ?_
        rintro e w' ⟨rfl, rfl⟩
        go_wp2_with fail
        refine R1.out.mono ?_
        rintro e w' ⟨rfl, rfl⟩
        go_wp2_with fail
        refine R2.out.mono ?_
        rintro e w' ⟨rfl, rfl⟩
        go_wp2_with fail
        go_ret2
        exact ⟨ret_i64b V0.out rfl, rfl⟩
      · by_cases h2 : y < x
        · have V0 : Hid (1 = cv) := by rw [Hid, ← V1.out, Ie.cm, if_neg h1, if_pos h2]
          go_enter Tryz.func19, Tryz.ntmps19
          go_wp2_with fail
          refine N1.out.mono ?_
          rintro e w' ⟨rfl, rfl⟩
          go_wp2_with fail
          refine N2.out.mono ?_
          rintro e w' ⟨rfl, rfl⟩
          go_wp2_with fail
          refine R1.out.mono ?_
          rintro e w' ⟨rfl, rfl⟩
          go_wp2_with fail
          refine R2.out.mono ?_
          rintro e w' ⟨rfl, rfl⟩
          go_wp2_with fail
          go_ret2
          exact ⟨ret_i64b V0.out rfl, rfl⟩
        · have V0 : Hid (0 = cv) := by rw [Hid, ← V1.out, Ie.cm, if_neg h1, if_neg h2]
          go_enter Tryz.func19, Tryz.ntmps19
          go_wp2_with fail
          refine N1.out.mono ?_
          rintro e w' ⟨rfl, rfl⟩
          go_wp2_with fail
          refine N2.out.mono ?_
          rintro e w' ⟨rfl, rfl⟩
          go_wp2_with fail
          refine R1.out.mono ?_
          rintro e w' ⟨rfl, rfl⟩
          go_wp2_with fail
          refine R2.out.mono ?_
          rintro e w' ⟨rfl, rfl⟩
          go_wp2_with fail
          go_ret2
          exact ⟨ret_i64b V0.out rfl, rfl⟩

set_option maxRecDepth 100000 in
set_option maxHeartbeats 2000000 in
theorem zrankk_any (d : Int) (w : World) (h0 : 0 ≤ d) (h1 : d < 18446744073709551616) :
    Calls Tryz.prog 21 #[.int .u64 d] w fun e w' => e = .returned (.tuple #[.int .i64 (Ie.rkv d), .bool (Ie.okd d)]) ∧ w' = w := by
  have N1 := hid (znan_any d w h0 h1)
  have R1 := hid (zrank_any d w h0 h1)
  have V : Hid (Ie.rkv d = if Ie.okd d = true then Ie.rk d else 0) := rfl
  generalize Ie.rkv d = cv at *
  generalize Ie.rk d = x at *
  generalize Ie.okd d = oa at *
  cases oa
  · have V0 : Hid (0 = cv) := by rw [Hid, V.out, if_neg (by simp)]
    clear V
    simp only [Bool.not_false] at N1
    go_enter Tryz.func21, Tryz.ntmps21
    go_wp2_with fail
    refine N1.out.mono ?_
    rintro e w' ⟨rfl, rfl⟩
    go_wp2_with fail
    go_ret2
    exact ⟨ret_i64b V0.out rfl, rfl⟩
  · have V0 : Hid (x = cv) := by rw [Hid, V.out, if_pos rfl]
    clear V
    simp only [Bool.not_true] at N1
    go_enter Tryz.func21, Tryz.ntmps21
    go_wp2_with fail
    refine N1.out.mono ?_
    rintro e w' ⟨rfl, rfl⟩
    go_wp2_with fail
    refine R1.out.mono ?_
    rintro e w' ⟨rfl, rfl⟩
    go_wp2_with fail
    go_ret2
    exact ⟨ret_i64b V0.out rfl, rfl⟩

set_option maxRecDepth 100000 in
set_option maxHeartbeats 2000000 in
theorem zatrank_in (i : Int) (w : World) (h0 : -9218868437227405312 ≤ i) (h1 : i ≤ 9218868437227405312) :
    Calls Tryz.prog 22 #[.int .i64 i] w fun e w' => e = .returned (.tuple #[.int .u64 (Ie.atr i), .bool true]) ∧ w' = w := by
  rcases (show i < 0 ∨ 0 ≤ i by omega) with h | h
  · have E : Hid (9223372036854775808 + -i = Ie.atr i) := by rw [Hid, Ie.atr, if_pos h]; omega
    go_enter Tryz.func22, Tryz.ntmps22
    go_wp2
    go_ret2
    exact ⟨ret_u64b E.out rfl, rfl⟩
  · have E : Hid (i = Ie.atr i) := by rw [Hid, Ie.atr, if_neg (by omega)]
    go_enter Tryz.func22, Tryz.ntmps22
    go_wp2
    go_ret2
    exact ⟨ret_u64b E.out rfl, rfl⟩

set_option maxRecDepth 100000 in
set_option maxHeartbeats 2000000 in
theorem zatrank_out (i : Int) (w : World) (h : i < -9218868437227405312 ∨ 9218868437227405312 < i) :
    Calls Tryz.prog 22 #[.int .i64 i] w fun e w' => e = .returned (.tuple #[.int .u64 0, .bool false]) ∧ w' = w := by
  rcases h with h | h
  · go_enter Tryz.func22, Tryz.ntmps22
    go_wp2
    go_ret2
    exact ⟨rfl, rfl⟩
  · go_enter Tryz.func22, Tryz.ntmps22
    go_wp2
    go_ret2
    exact ⟨rfl, rfl⟩

set_option maxRecDepth 100000 in
set_option maxHeartbeats 2000000 in
theorem zup_any (d : Int) (w : World) (h0 : 0 ≤ d) (h1 : d < 18446744073709551616) :
    Calls Tryz.prog 23 #[.int .u64 d] w fun e w' => e = .returned (.int .u64 (Ie.upd d)) ∧ w' = w := by
  have N1 := hid (znan_any d w h0 h1)
  have R1 := hid (zrank_any d w h0 h1)
  cases ho : Ie.okd d
  · have E : Hid (9221120237041090560 = Ie.upd d) := by rw [Hid, Ie.upd, if_pos ho]
    rw [ho] at N1
    simp only [Bool.not_false] at N1
    go_enter Tryz.func23, Tryz.ntmps23
    go_wp2_with fail
    refine N1.out.mono ?_
    rintro e w' ⟨rfl, rfl⟩
    go_wp2_with fail
    go_ret
    exact ⟨i_retU E.out, rfl⟩
  · have hb : d % 9223372036854775808 ≤ 9218868437227405312 := by have := ho; rw [Ie.okd, decide_eq_true_iff] at this; exact this
    have E0 : Ie.upd d = if d = 9218868437227405312 then d else if d = 9223372036854775808 then 1 else if 9223372036854775808 < d then d - 1 else d + 1 := by rw [Ie.upd, ho, if_neg (by decide)]
    rw [ho] at N1
    simp only [Bool.not_true] at N1
    rcases (show d < 9223372036854775808 ∨ 9223372036854775808 ≤ d by omega) with hs | hs
    · have hr : Ie.rk d = d := by rw [Ie.rk, if_pos hs]
      rw [hr] at R1
      by_cases e1 : d = 9218868437227405312
      · have E : Hid (d = Ie.upd d) := by rw [Hid, E0, if_pos e1]
        subst e1
        clear E0 hr ho hb
        go_enter Tryz.func23, Tryz.ntmps23
        go_wp2_with fail
        refine N1.out.mono ?_
        rintro e w' ⟨rfl, rfl⟩
        go_wp2_with fail
        refine R1.out.mono ?_
        rintro e w' ⟨rfl, rfl⟩
        go_wp2_with fail
        go_ret
        exact ⟨i_retU E.out, rfl⟩
      · have E : Hid (d + 1 = Ie.upd d) := by rw [Hid, E0, if_neg e1, if_neg (by omega), if_neg (by omega)]
        have db : d ≤ 9218868437227405311 := by omega
        have e1' : (d == 9218868437227405312) = false := by rw [beq_eq_false_iff_ne]; exact e1
        clear E0 hr ho hb
        go_enter Tryz.func23, Tryz.ntmps23
        go_wp2_with fail
        refine N1.out.mono ?_
        rintro e w' ⟨rfl, rfl⟩
        go_wp2_with fail
        refine R1.out.mono ?_
        rintro e w' ⟨rfl, rfl⟩
        go_wp2_with fail
        go_ret
        exact ⟨i_retU E.out, rfl⟩
    · have hr : Ie.rk d = 9223372036854775808 - d := by rw [Ie.rk, if_neg (by omega)]
      rw [hr] at R1
      obtain ⟨y, hy⟩ : ∃ y, 9223372036854775808 - d = y := ⟨_, rfl⟩
      rw [hy] at R1
      have y0 : y ≤ 0 := by omega
      have y1 : -9218868437227405312 ≤ y := by omega
      have e1' : (y == 9218868437227405312) = false := by rw [beq_eq_false_iff_ne]; omega
      rcases (show y = 0 ∨ y < 0 by omega) with hz | hz
      · have E : Hid (1 = Ie.upd d) := by rw [Hid, E0, if_neg (by omega), if_pos (by omega)]
        subst hz
        clear E0 hr ho hb hy
        go_enter Tryz.func23, Tryz.ntmps23
        go_wp2_with fail
        refine N1.out.mono ?_
        rintro e w' ⟨rfl, rfl⟩
        go_wp2_with fail
        refine R1.out.mono ?_
        rintro e w' ⟨rfl, rfl⟩
        go_wp2_with fail
        go_ret
        exact ⟨i_retU E.out, rfl⟩
      · have E : Hid (9223372036854775808 + (-y - 1) = Ie.upd d) := by rw [Hid, E0, if_neg (by omega), if_neg (by omega), if_pos (by omega)]; omega
        have zn : ¬ 0 ≤ y := by omega
        clear E0 hr ho hb hy
        go_enter Tryz.func23, Tryz.ntmps23
        go_wp2_with fail
        refine N1.out.mono ?_
        rintro e w' ⟨rfl, rfl⟩
        go_wp2_with fail
        refine R1.out.mono ?_
        rintro e w' ⟨rfl, rfl⟩
        go_wp2_with fail
        go_ret
        exact ⟨i_retU (by rw [← E.out]), rfl⟩

set_option maxRecDepth 100000 in
set_option maxHeartbeats 2000000 in
theorem zdown_any (d : Int) (w : World) (h0 : 0 ≤ d) (h1 : d < 18446744073709551616) :
    Calls Tryz.prog 24 #[.int .u64 d] w fun e w' => e = .returned (.int .u64 (Ie.dnd d)) ∧ w' = w := by
  have N1 := hid (znan_any d w h0 h1)
  cases ho : Ie.okd d
  · have E : Hid (9221120237041090560 = Ie.dnd d) := by rw [Hid, Ie.dnd, if_pos ho]
    rw [ho] at N1
    simp only [Bool.not_false] at N1
    go_enter Tryz.func24, Tryz.ntmps24
    go_wp2_with fail
    refine N1.out.mono ?_
    rintro e w' ⟨rfl, rfl⟩
    go_wp2_with fail
    go_ret
    exact ⟨i_retU E.out, rfl⟩
  · have E : Hid (Ie.dnd d = Ie.ng (Ie.upd (Ie.ng d))) := by rw [Hid, Ie.dnd, ho, if_neg (by decide)]
    rw [ho] at N1
    simp only [Bool.not_true] at N1
    have b1 := Ie.ng_bd d h0 h1
    have b2 := Ie.upd_bd _ b1.1 b1.2
    have M1 := hid (zneg_any d w h0 h1)
    have U1 := hid (zup_any _ w b1.1 b1.2)
    have M2 := hid (zneg_any _ w b2.1 b2.2)
    clear ho b1 b2
    go_enter Tryz.func24, Tryz.ntmps24
    go_wp2_with fail
    refine N1.out.mono ?_
    rintro e w' ⟨rfl, rfl⟩
    go_wp2_with fail
    refine M1.out.mono ?_
    rintro e w' ⟨rfl, rfl⟩
    go_wp2_with fail
    refine U1.out.mono ?_
    rintro e w' ⟨rfl, rfl⟩
    go_wp2_with fail
    refine M2.out.mono ?_
    rintro e w' ⟨rfl, rfl⟩
    go_wp2_with fail
    go_ret
    exact ⟨i_retU E.out.symm, rfl⟩

set_option maxRecDepth 100000 in
set_option maxHeartbeats 4000000 in
theorem ztotal_any (a b : Int) (w : World) (a0 : 0 ≤ a) (a1 : a < 18446744073709551616) (b0 : 0 ≤ b) (b1 : b < 18446744073709551616) :
    Calls Tryz.prog 20 #[.int .u64 a, .int .u64 b] w fun e w' => e = .returned (.int .i64 (Ie.cm (Ie.plc a) (Ie.plc b))) ∧ w' = w := by
  have A1 := hid (zabs_any a w a0 a1)
  have A2 := hid (zabs_any b w b0 b1)
  have WA : 9223372036854775808 ≤ a → IntKind.u64.wrap (a + 9223372036854775808) = a - 9223372036854775808 := fun h => by rw [IntKind.wrap_u64]; omega
  have WB : 9223372036854775808 ≤ b → IntKind.u64.wrap (b + 9223372036854775808) = b - 9223372036854775808 := fun h => by rw [IntKind.wrap_u64]; omega
  obtain ⟨ra, hra⟩ : ∃ r, a % 9223372036854775808 = r := ⟨_, rfl⟩
  obtain ⟨rb, hrb⟩ : ∃ r, b % 9223372036854775808 = r := ⟨_, rfl⟩
  rw [hra] at A1
  rw [hrb] at A2
  have ra0 : 0 ≤ ra ∧ ra < 9223372036854775808 := by omega
  have rb0 : 0 ≤ rb ∧ rb < 9223372036854775808 := by omega
  obtain ⟨ra1, ra2⟩ := ra0
  obtain ⟨rb1, rb2⟩ := rb0
  by_cases ha : 9223372036854775808 ≤ a <;> by_cases hb : 9223372036854775808 ≤ b
  · have pa : Ie.plc a + 9223372036854775808 = (9223372036854775807 - ra) := by rw [Ie.plc]; split <;> omega
    have pb : Ie.plc b + 9223372036854775808 = (9223372036854775807 - rb) := by rw [Ie.plc]; split <;> omega
    have wa := WA ha
    have wb := WB hb
    clear WA WB
    rcases (show (9223372036854775807 - ra) < (9223372036854775807 - rb) ∨ (9223372036854775807 - rb) < (9223372036854775807 - ra) ∨ (9223372036854775807 - ra) = (9223372036854775807 - rb) by omega) with h | h | h
    · have E : Hid (-1 = Ie.cm (Ie.plc a) (Ie.plc b)) := by rw [Hid, Ie.cm]; rw [if_pos (by omega)]
      have g1 : (9223372036854775807 - ra) < (9223372036854775807 - rb) := h
      clear pa pb hra hrb
      go_enter Tryz.func20, Tryz.ntmps20
      go_wp2_with fail
      refine A1.out.mono ?_
      rintro e w' ⟨rfl, rfl⟩
      go_wp2_with fail
      refine A2.out.mono ?_
      rintro e w' ⟨rfl, rfl⟩
      go_wp2_with fail
      go_ret
      exact ⟨i_retI E.out, rfl⟩
    · have E : Hid (1 = Ie.cm (Ie.plc a) (Ie.plc b)) := by rw [Hid, Ie.cm]; rw [if_neg (by omega), if_pos (by omega)]
      have g1 : ¬ (9223372036854775807 - ra) < (9223372036854775807 - rb) := by omega
      clear pa pb hra hrb
      go_enter Tryz.func20, Tryz.ntmps20
      go_wp2_with fail
      refine A1.out.mono ?_
      rintro e w' ⟨rfl, rfl⟩
      go_wp2_with fail
      refine A2.out.mono ?_
      rintro e w' ⟨rfl, rfl⟩
      go_wp2_with fail
      go_ret
      exact ⟨i_retI E.out, rfl⟩
    · have E : Hid (0 = Ie.cm (Ie.plc a) (Ie.plc b)) := by rw [Hid, Ie.cm]; rw [if_neg (by omega), if_neg (by omega)]
      have g1 : ¬ (9223372036854775807 - ra) < (9223372036854775807 - rb) := by omega
      have g2 : ¬ (9223372036854775807 - rb) < (9223372036854775807 - ra) := by omega
      clear h
      clear pa pb hra hrb
      go_enter Tryz.func20, Tryz.ntmps20
      go_wp2_with fail
      refine A1.out.mono ?_
      rintro e w' ⟨rfl, rfl⟩
      go_wp2_with fail
      refine A2.out.mono ?_
      rintro e w' ⟨rfl, rfl⟩
      go_wp2_with fail
      go_ret
      exact ⟨i_retI E.out, rfl⟩
  · have pa : Ie.plc a + 9223372036854775808 = (9223372036854775807 - ra) := by rw [Ie.plc]; split <;> omega
    have pb : Ie.plc b + 9223372036854775808 = (b + 9223372036854775808) := by rw [Ie.plc]; split <;> omega
    have wa := WA ha
    clear WA WB
    rcases (show (9223372036854775807 - ra) < (b + 9223372036854775808) ∨ (b + 9223372036854775808) < (9223372036854775807 - ra) ∨ (9223372036854775807 - ra) = (b + 9223372036854775808) by omega) with h | h | h
    · have E : Hid (-1 = Ie.cm (Ie.plc a) (Ie.plc b)) := by rw [Hid, Ie.cm]; rw [if_pos (by omega)]
      have g1 : (9223372036854775807 - ra) < (b + 9223372036854775808) := h
      clear pa pb hra hrb
      go_enter Tryz.func20, Tryz.ntmps20
      go_wp2_with fail
      refine A1.out.mono ?_
      rintro e w' ⟨rfl, rfl⟩
      go_wp2_with fail
      go_ret
      exact ⟨i_retI E.out, rfl⟩
    · exfalso; omega
    · exfalso; omega
  · have pa : Ie.plc a + 9223372036854775808 = (a + 9223372036854775808) := by rw [Ie.plc]; split <;> omega
    have pb : Ie.plc b + 9223372036854775808 = (9223372036854775807 - rb) := by rw [Ie.plc]; split <;> omega
    have wb := WB hb
    clear WA WB
    rcases (show (a + 9223372036854775808) < (9223372036854775807 - rb) ∨ (9223372036854775807 - rb) < (a + 9223372036854775808) ∨ (a + 9223372036854775808) = (9223372036854775807 - rb) by omega) with h | h | h
    · exfalso; omega
    · have E : Hid (1 = Ie.cm (Ie.plc a) (Ie.plc b)) := by rw [Hid, Ie.cm]; rw [if_neg (by omega), if_pos (by omega)]
      have g1 : ¬ (a + 9223372036854775808) < (9223372036854775807 - rb) := by omega
      clear pa pb hra hrb
      go_enter Tryz.func20, Tryz.ntmps20
      go_wp2_with fail
      refine A2.out.mono ?_
      rintro e w' ⟨rfl, rfl⟩
      go_wp2_with fail
      go_ret
      exact ⟨i_retI E.out, rfl⟩
    · exfalso; omega
  · have pa : Ie.plc a + 9223372036854775808 = (a + 9223372036854775808) := by rw [Ie.plc]; split <;> omega
    have pb : Ie.plc b + 9223372036854775808 = (b + 9223372036854775808) := by rw [Ie.plc]; split <;> omega
    clear WA WB
    rcases (show (a + 9223372036854775808) < (b + 9223372036854775808) ∨ (b + 9223372036854775808) < (a + 9223372036854775808) ∨ (a + 9223372036854775808) = (b + 9223372036854775808) by omega) with h | h | h
    · have E : Hid (-1 = Ie.cm (Ie.plc a) (Ie.plc b)) := by rw [Hid, Ie.cm]; rw [if_pos (by omega)]
      have g1 : (a + 9223372036854775808) < (b + 9223372036854775808) := h
      clear pa pb hra hrb
      go_enter Tryz.func20, Tryz.ntmps20
      go_wp2_with fail
      go_ret
      exact ⟨i_retI E.out, rfl⟩
    · have E : Hid (1 = Ie.cm (Ie.plc a) (Ie.plc b)) := by rw [Hid, Ie.cm]; rw [if_neg (by omega), if_pos (by omega)]
      have g1 : ¬ (a + 9223372036854775808) < (b + 9223372036854775808) := by omega
      clear pa pb hra hrb
      go_enter Tryz.func20, Tryz.ntmps20
      go_wp2_with fail
      go_ret
      exact ⟨i_retI E.out, rfl⟩
    · have E : Hid (0 = Ie.cm (Ie.plc a) (Ie.plc b)) := by rw [Hid, Ie.cm]; rw [if_neg (by omega), if_neg (by omega)]
      have g1 : ¬ (a + 9223372036854775808) < (b + 9223372036854775808) := by omega
      have g2 : ¬ (b + 9223372036854775808) < (a + 9223372036854775808) := by omega
      clear h
      clear pa pb hra hrb
      go_enter Tryz.func20, Tryz.ntmps20
      go_wp2_with fail
      go_ret
      exact ⟨i_retI E.out, rfl⟩
end Go.Proofs.YtggiioipppbedaaGreatDoor

namespace Go.Proofs.YtggiioipppbedaaGreatDoor
open Go.RowKit Go.Deep

namespace Nm
theorem zv32_lt : ∀ zs : List Int, Halves zs → v32 zs < p32 zs.length
  | [], _ => by simp [v32, p32]
  | z :: zs, h => by
    have h1 := zv32_lt zs (fun x hx => h x (List.mem_cons_of_mem _ hx))
    have h2 := h z List.mem_cons_self
    simp only [v32, List.length_cons, p32]
    omega

theorem zv32_split : ∀ (zs : List Int) (k : Nat), v32 zs = v32 (zs.take k) + p32 k * v32 (zs.drop k)
  | zs, 0 => by simp [v32, p32]
  | [], k + 1 => by simp [v32]
  | z :: zs, k + 1 => by
    have := zv32_split zs k
    simp only [List.take_succ_cons, List.drop_succ_cons, v32, p32]
    rw [Int.mul_assoc]
    omega
end Nm

namespace Nm
theorem v32_drop_at : ∀ (zs : List Int) (k : Nat), k < zs.length → v32 (zs.drop k) = zs.getD k 0 + 4294967296 * v32 (zs.drop (k + 1))
  | [], _, h => by simp at h
  | z :: zs, 0, _ => by simp [v32]
  | z :: zs, k + 1, h => by
    have := v32_drop_at zs k (by simpa using h)
    simpa using this

theorem v32_div (zs : List Int) (h : Halves zs) (k : Nat) (hk : k ≤ zs.length) : v32 zs / p32 k = v32 (zs.drop k) := by
  have h1 := zv32_split zs k
  have h2 := zv32_lt _ (h.take k)
  rw [List.length_take, Nat.min_eq_left hk] at h2
  have h3 := v32_nonneg _ (h.take k)
  have hp := p32_pos k
  rw [h1, Int.add_mul_ediv_left _ _ (by omega), Int.ediv_eq_zero_of_lt h3 h2, Int.zero_add]

theorem drop_div {D F x q r : Int} (hF : 0 < F) (hq : q = (D % F * 4294967296 + x) / F) (hr : r = (D % F * 4294967296 + x) % F) : q + 4294967296 * (D / F) = (x + 4294967296 * D) / F ∧ r = (x + 4294967296 * D) % F := by
  have e : x + 4294967296 * D = (D % F * 4294967296 + x) + F * (4294967296 * (D / F)) := by
    have h := Int.emod_add_mul_ediv D F
    have h2 : 4294967296 * D = 4294967296 * (D % F) + 4294967296 * (F * (D / F)) := by rw [← Int.mul_add, h]
    rw [h2, Int.mul_left_comm F]
    omega
  rw [e, Int.add_mul_ediv_left _ _ (by omega), Int.add_mul_emod_self_left, hq, hr]
  exact ⟨rfl, rfl⟩
end Nm

/-- Behind the digits from j on. -/
def DropInv (g M : Nat) (w : World) (ys : List Int) (F : Int) (j : Nat) (rest : Int) (ss : List Int) (wr : World) : Prop :=
  Own wr g ss ∧ ss.length = M ∧ Nm.Halves ss ∧ Nm.v32 (ss.drop j) = Nm.v32 (ys.drop j) / F ∧ rest = Nm.v32 (ys.drop j) % F ∧ Below g w wr

theorem DropInv.step {g M : Nat} {w : World} {ys : List Int} {F : Int} {u : Nat} {rest : Int} {ss : List Int} {wr : World} (h : DropInv g M w ys F (u + 1) rest ss wr) (hy : ys.length = M) (hu : u < M) (hF : 0 < F) {x q r : Int} (hx : x = ys.getD u 0)
    (hq : q = (rest * 4294967296 + x) / F) (hr : r = (rest * 4294967296 + x) % F) (hq0 : 0 ≤ q) (hq1 : q < 4294967296) :
    DropInv g M w ys F u r (ss.set u q) (wr.setCell ⟨g, u, none⟩ (.int .u64 q)) := by
  obtain ⟨h1, h2, h3, h4, h5, h6⟩ := h
  have d := Nm.drop_div (D := Nm.v32 (ys.drop (u + 1))) (x := x) (q := q) (r := r) hF (by rw [← h5]; exact hq) (by rw [← h5]; exact hr)
  have e := Nm.v32_drop_at ys u (by omega)
  rw [← hx] at e
  refine ⟨h1.set _ _, by rw [List.length_set]; exact h2, h3.set _ hq0 hq1, ?_, ?_, h6.setCell (Nat.le_refl _) _⟩
  · rw [Nm.v32_drop_at (ss.set u q) u (by rw [List.length_set]; omega), Nm.getD_set ss u u q (by omega), if_pos rfl, List.drop_set_of_lt (by omega), h4, e]
    exact d.1
  · rw [e]
    exact d.2

set_option maxRecDepth 20000 in
set_option maxRecDepth 100000 in
set_option maxHeartbeats 4000000 in
theorem drop_any (p : Option Addr) (n cap : Nat) (za : List Int) (kk : Int) (k : Nat) (w : World) (ha : Arg w p n cap za) (hn : Nm.tsize za ≤ 1099511627776) (hkk : kk = (k : Int)) (hk : k ≤ 262144) :
    Calls Tryz.prog 60 #[.slice p n cap, .int .i64 kk] w fun e w' => ∃ r os, e = .returned (.slice r (List.length os) (List.length os)) ∧ Ans w.heap.size w' r os (Nm.val za / 2 ^ k) ∧ Below w.heap.size w w' := by
  have HA := hid ha
  have hk0 : 0 ≤ kk := by omega
  have hk1 : kk ≤ 262144 := by omega
  obtain ⟨z, HZ⟩ : ∃ z : Nat, Hid (kk / 32 = (z : Int) ∧ z = k / 32) := ⟨k / 32, by show _ ∧ _; omega⟩
  obtain ⟨r, HR⟩ : ∃ r : Nat, Hid (kk % 32 = (r : Int) ∧ r = k % 32) := ⟨k % 32, by show _ ∧ _; omega⟩
  have KZ : Hid (k = 32 * z + r) := by have := HZ.out; have := HR.out; show _ = _; omega
  have hz8 : z ≤ 8192 := by have := HZ.out; omega
  have hr31 : r ≤ 31 := by have := HR.out; omega
  clear ha hkk hk
  go_enter Tryz.func60, Tryz.ntmps60
  go_wp2_with fail
  refine (halves_any p n cap za _ HA.out (by have := HA.out.2.1; have := HA.out.2.2.1; omega)).mono ?_
  rintro e w1 ⟨xs, rfl, lx, hx, vx, kx, bx⟩
  have D1 := hid bx
  obtain ⟨l1, LX⟩ : ∃ l1, Hid (xs.length = l1) := ⟨_, rfl⟩
  have HX := hid hx
  have VX := hid vx
  have kx1 : l1 ≤ 2 * Nm.tsize za := by have := LX.out; omega
  obtain ⟨g1, G1⟩ : ∃ g1, w.heap.size = g1 := ⟨_, rfl⟩
  have lx2 := lx
  rw [G1] at lx2
  have CX : Hid (∀ i, i < l1 → w1.cell? ⟨g1, i, none⟩ = some (.int .u64 (xs.getD i 0))) := fun i hi => by have := lx2.cells i (by have := LX.out; omega); rwa [Nat.zero_add] at this
  obtain ⟨g, Gg⟩ : ∃ g, Hid (w1.heap.size = g) := ⟨_, rfl⟩
  have BX : Hid (∀ {j : Nat}, j < l1 → g1 < g) := fun {j} hj => by rw [← Gg.out]; exact cell_lt (CX.out j hj)
  rw [LX.out, G1]
  clear lx lx2 hx vx kx bx
  have DV : Hid (Nm.val za / 2 ^ k = Nm.val za / Nm.p32 z / 2 ^ r) := by
    rw [Hid, KZ.out, Nm.two_add, ← Nm.p32_pow, Int.ediv_ediv_of_nonneg (by have := Nm.p32_pos z; omega)]
  by_cases hz : l1 ≤ z
  · have hz' : (l1 : Int) ≤ kk / 32 := by have := HZ.out; omega
    have V0 : Hid (Nm.val za / 2 ^ k = 0) := by
      have h1 := Nm.zv32_lt _ HX.out
      have h2 := Nm.v32_nonneg _ HX.out
      have h3 := Nm.p32_mono hz
      rw [LX.out, VX.out] at h1
      rw [VX.out] at h2
      rw [Hid, DV.out, Int.ediv_eq_zero_of_lt h2 (by omega), Int.zero_ediv]
    have D3 := hid (chain D1.out ((Below.refl w1.heap.size w1).alloc (Nat.le_refl _) (.cells #[] 25)) (Nat.le_refl _))
    have GS : Hid (w.heap.size ≤ g) := by rw [← Gg.out]; exact D1.out.size
    have FIN : Hid (∀ x : World, Below w.heap.size w x → ∃ r os, Ending.returned (.slice (some ⟨g, 0, none⟩) 0 0) = .returned (.slice r (List.length os) (List.length os)) ∧ Ans w.heap.size x r os (Nm.val za / 2 ^ k) ∧ Below w.heap.size w x) := fun x hx => ⟨some ⟨g, 0, none⟩, [], rfl, ⟨Lies.nil _ _, Nm.Limbs.nil, rfl, V0.out.symm, fun a h => by cases h; exact ⟨GS.out, fun h0 => absurd h0 (by simp)⟩⟩, hx⟩
    go_wp2
    go_ret
    rw [Gg.out]
    exact FIN.out _ D3.out
  · have hz' : ¬ (l1 : Int) ≤ kk / 32 := by have := HZ.out; omega
    go_wp2
    go_loop [7, 8] (fun f i => ∃ (t : Nat) (F : Int), t ≤ r ∧ i = .int .i64 t ∧ f = .int .u64 F ∧ 1 ≤ F ∧ F ≤ 2147483648 ∧ Hid (F = 2 ^ t)) (fun _ i => r - (intOf i).toNat)
    case atStart => exact ⟨0, 1, Nat.zero_le _, rfl, rfl, by omega, by omega, rfl⟩
    case round =>
      obtain ⟨t, F, ht, rfl, rfl, hF0, hF1, HF⟩ := hrel
      by_cases htl : t < r
      · have htl' : (t : Int) < kk % 32 := by have := HR.out; omega
        obtain ⟨F2, hF2, FF⟩ : ∃ F2, IntKind.u64.wrap (F * 2) = F2 ∧ Hid (F2 = F * 2) := ⟨_, by rw [IntKind.wrap_u64, Int.emod_eq_of_lt (by omega) (by omega)], rfl⟩
        have E2 : Hid (F2 = 2 ^ (t + 1)) := by rw [Hid, FF.out, HF.out, Nm.two_succ, Int.mul_comm]
        have hF20 : 1 ≤ F2 := by have := FF.out; omega
        have hF21 : F2 ≤ 2147483648 := by
          rw [E2.out]
          have := Nm.two_mono (show t + 1 ≤ 31 by omega)
          have e : (2 : Int) ^ 31 = 2147483648 := by decide
          omega
        go_wp2
        go_round
        case rel => exact ⟨t + 1, F2, by omega, by go_num, by first | rfl | rw [hF2], hF20, hF21, E2.out⟩
        case measure => simp [intOf]; omega
      · have htl' : ¬ (t : Int) < kk % 32 := by have := HR.out; omega
        obtain rfl : t = r := by omega
        obtain ⟨M, HM⟩ : ∃ M, Hid (l1 - z = M) := ⟨_, rfl⟩
        have hmk := make64 M (by have := HM.out; omega) w1
        rw [show ((M : Nat) : Int) = (l1 : Int) - kk / 32 by have := HZ.out; have := HM.out; omega, Gg.out] at hmk
        have bm := hid ((Below.refl w1.heap.size w1).alloc (Nat.le_refl _) (.cells (madeCells #[.int .u64 0] M) 25))
        have gm : Own (w1.alloc (.cells (madeCells #[.int .u64 0] M) 25)) w1.heap.size (List.replicate M 0) := by rw [made_zero]; exact Own.alloc w1 _
        rw [Gg.out] at bm gm
        generalize w1.alloc (.cells (madeCells #[.int .u64 0] M) 25) = wm at hmk bm gm
        have LD : Hid ((xs.drop z).length = M) := by rw [Hid, List.length_drop, LX.out]; exact HM.out
        have I0 : Hid (DropInv g M w1 (xs.drop z) F M 0 (List.replicate M 0) wm) := by
          refine ⟨gm, by simp, Nm.Halves.zeros _, ?_, ?_, bm.out⟩
          · rw [List.drop_eq_nil_of_le (by simp), List.drop_eq_nil_of_le (by have := LD.out; omega)]; simp [Nm.v32]
          · rw [List.drop_eq_nil_of_le (by have := LD.out; omega)]; simp [Nm.v32]
        clear gm bm
        go_wp2
        clear hmk
        have FP : Hid (Nm.v32 (xs.drop z) / F = Nm.val za / 2 ^ k) := by
          rw [Hid, DV.out, ← VX.out, Nm.v32_div xs HX.out z (by have := LX.out; omega), HF.out]
        have hFz : ¬ F = 0 := by omega
        have hFz' : (F == 0) = false := by rw [beq_eq_false_iff_ne]; exact hFz
        go_loopw [10, 11] (fun a i wr => ∃ (I j : Nat) (rest : Int) (ss : List Int), Hid (I = z + j) ∧ I ≤ l1 ∧ i = .int .i64 ((I : Int) - 1) ∧ a = .int .u64 rest ∧ 0 ≤ rest ∧ rest < F ∧ Hid (DropInv g M w1 (xs.drop z) F j rest ss wr)) (fun _ i _ => (intOf i + 1).toNat)
        case atStart => exact ⟨l1, M, 0, _, by have := HM.out; show _ = _; omega, Nat.le_refl _, rfl, rfl, by omega, by omega, I0.out⟩
        case round =>
          obtain ⟨I, j, rest, ss, HI, hI, rfl, rfl, hr0, hr1, DI⟩ := hrel
          by_cases hj : j = 0
          · have hge : ¬ kk / 32 ≤ (I : Int) - 1 := by have := HZ.out; have := HI.out; omega
            subst hj
            obtain ⟨o1, o2, o3, o4, o5, o6⟩ := DI.out
            simp only [List.drop_zero] at o4
            rw [FP.out] at o4
            have D3 := hid (chain D1.out (by rw [Gg.out]; exact o6) (Nat.le_refl _))
            have AG : Hid (Arg wr (some ⟨g, 0, none⟩) M M ss) := ⟨o2, Nat.le_refl _, by have := HM.out; omega, o1.lies, o3.limbs⟩
            have hw3 : Hid (w.heap.size ≤ wr.heap.size) := D3.out.size
            have HV := hid o4
            have HS := hid o3
            clear o1 o2 o3 o4 o5 o6 DI
            go_wp2_with fail
            refine (rlimbs_any _ M M ss _ AG.out HS.out).mono ?_
            rintro e w4 ⟨r4, os, rfl, hA, hb⟩
            rw [HV.out] at hA
            have A4 := hid (hA.mono hw3.out)
            have D4 := hid (chain D3.out hb (Nat.le_refl _))
            clear hA hb
            go_wp2
            go_ret
            exact ⟨r4, os, rfl, A4.out, D4.out⟩
          · obtain ⟨u, rfl⟩ : ∃ u, j = u + 1 := ⟨j - 1, by omega⟩
            obtain ⟨T, rfl⟩ : ∃ T, I = T + 1 := ⟨I - 1, by have := HI.out; omega⟩
            have HT : Hid (T = z + u) := by have := HI.out; show _ = _; omega
            have hge : kk / 32 ≤ (T : Int) := by have := HZ.out; have := HT.out; omega
            have hTl : T < l1 := by omega
            have hTl' : (T : Int) < (l1 : Int) := by omega
            have huM : u < M := by have := HM.out; have := HT.out; omega
            have hidx : (T : Int) - kk / 32 = (u : Int) := by have := HZ.out; have := HT.out; omega
            obtain ⟨x, hx, X⟩ : ∃ x, wr.cell? ⟨g1, T, none⟩ = some (.int .u64 x) ∧ Hid (x = xs.getD T 0) := ⟨_, (DI.out.2.2.2.2.2.cell (p := ⟨g1, T, none⟩) (BX.out hTl)).trans (CX.out T hTl), rfl⟩
            have X2 : Hid (x = (xs.drop z).getD u 0) := by rw [Hid, X.out, HT.out]; simp [List.getD, List.getElem?_drop]
            have hx0 : 0 ≤ x := by have := HX.out.at T; have := X.out; omega
            have hx1 : x < 4294967296 := by have := HX.out.at T; have := X.out; omega
            obtain ⟨pv, hpv⟩ : ∃ pv, wr.cell? ⟨g, u, none⟩ = some (.int .u64 pv) := ⟨_, DI.out.1.cell u (by have := DI.out.2.1; omega)⟩
            have hfr := DI.out.1.free u
            obtain ⟨m0, hm0, M0⟩ : ∃ m0, IntKind.u64.wrap (rest * 4294967296) = m0 ∧ Hid (m0 = rest * 4294967296) := ⟨_, by rw [IntKind.wrap_u64, Int.emod_eq_of_lt (by omega) (by omega)], rfl⟩
            have hm00 : 0 ≤ m0 := by have := M0.out; omega
            have hm01 : m0 ≤ 9223372032559808512 := by have := M0.out; omega
            obtain ⟨tt, htt, TT⟩ : ∃ tt, IntKind.u64.wrap (m0 + x) = tt ∧ Hid (tt = m0 + x) := ⟨_, by rw [IntKind.wrap_u64, Int.emod_eq_of_lt (by omega) (by omega)], rfl⟩
            have htt0 : 0 ≤ tt := by have := TT.out; omega
            have htt1 : tt ≤ 9223372036854775807 := by have := TT.out; omega
            obtain ⟨q, hq, Q⟩ : ∃ q, tt / F = q ∧ Hid (q = tt / F) := ⟨_, rfl, rfl⟩
            obtain ⟨rr, hrr, RR⟩ : ∃ rr, tt % F = rr ∧ Hid (rr = tt % F) := ⟨_, rfl, rfl⟩
            have ET : Hid (tt = rest * 4294967296 + x) := by rw [Hid, TT.out, M0.out]
            have hq0 : 0 ≤ q := by rw [Q.out]; exact Int.ediv_nonneg htt0 (by omega)
            have hq1 : q < 4294967296 := by
              rw [Q.out, Int.ediv_lt_iff_lt_mul (by omega)]
              have := ET.out
              omega
            have hrr0 : 0 ≤ rr := by rw [RR.out]; exact Int.emod_nonneg _ hFz
            have hrr1 : rr < F := by rw [RR.out]; exact Int.emod_lt_of_pos _ (by omega)
            have NX := hid (DI.out.step (x := x) (q := q) (r := rr) LD.out huM (by omega) X2.out (by rw [← ET.out]; exact Q.out) (by rw [← ET.out]; exact RR.out) hq0 hq1)
            have huM' : (u : Int) < (M : Int) := by omega
            clear DI
            go_wp2
            go_roundw
            case rel => exact ⟨T, u, rr, _, HT.out, by omega, by go_num, by first | rfl | rw [hrr], hrr0, hrr1, NX.out⟩
            case measure => simp [intOf]
end Go.Proofs.YtggiioipppbedaaGreatDoor

namespace Go.Proofs.YtggiioipppbedaaGreatDoor
open Go.RowKit Go.Deep

theorem refToUint_any (p : Option Addr) (n cap : Nat) (zs : List Int) (w : World) (ha : Arg w p n cap zs) :
    Calls Tryz.prog 58 #[.slice p n cap] w fun e w' => e = .returned (.tuple #[.int .u64 (toU zs), .bool (decide (Nm.tsize zs ≤ 1))]) ∧ w' = w := by
  obtain ⟨a1, a2, a3, a4, a5⟩ := ha
  have tl := Nm.tsize_le zs
  have S1 := refSize_any p n cap zs w a1 (by omega) a4
  rcases (show Nm.tsize zs = 0 ∨ Nm.tsize zs = 1 ∨ 1 < Nm.tsize zs by omega) with h | h | h
  · have E : Hid (0 = toU zs ∧ true = decide (Nm.tsize zs ≤ 1)) := by simp [Hid, toU, h]
    rw [h] at S1
    have HS := hid S1
    clear S1 h
    go_enter Tryz.func58, Tryz.ntmps58
    go_wp2_with fail
    refine HS.out.mono ?_
    rintro e w' ⟨rfl, rfl⟩
    go_wp2
    go_ret2
    exact ⟨ret_to E.out.1 E.out.2, rfl⟩
  · have E : Hid (zs.getD 0 0 = toU zs ∧ true = decide (Nm.tsize zs ≤ 1)) := by simp [Hid, toU, h]
    obtain ⟨b, off, rfl, hbw, HC⟩ := a4.at (by omega)
    have hc := HC.out 0 (by omega)
    rw [Nat.add_zero] at hc
    have hn : (0 : Int) < (n : Int) := by omega
    rw [h] at S1
    have HS := hid S1
    clear S1 h
    go_enter Tryz.func58, Tryz.ntmps58
    go_wp2_with fail
    refine HS.out.mono ?_
    rintro e w' ⟨rfl, rfl⟩
    go_wp2
    go_ret2
    exact ⟨ret_to E.out.1 E.out.2, rfl⟩
  · have E : Hid (0 = toU zs ∧ false = decide (Nm.tsize zs ≤ 1)) := by
      refine ⟨?_, ?_⟩
      · rw [toU, if_neg (by omega)]
      · simp; omega
    have h1 : ((Nm.tsize zs : Int) == 0) = false := by rw [beq_eq_false_iff_ne]; omega
    have h2 : (1 : Int) < (Nm.tsize zs : Int) := by omega
    have HS := hid S1
    clear S1 h
    go_enter Tryz.func58, Tryz.ntmps58
    go_wp2_with fail
    refine HS.out.mono ?_
    rintro e w' ⟨rfl, rfl⟩
    go_wp2
    go_ret2
    exact ⟨ret_to E.out.1 E.out.2, rfl⟩
end Go.Proofs.YtggiioipppbedaaGreatDoor

/-
  The document's FromUint, FromInt, Whole, ToInt (made by mkzwhole.py).
-/
namespace Go.Proofs.YtggiioipppbedaaGreatDoor
open Go Go.RowKit Go.Deep

set_option maxRecDepth 100000 in
set_option maxHeartbeats 2000000 in
theorem zfromI_nn (i : Int) (w : World) (h0 : 0 ≤ i) (h1 : i ≤ 9223372036854775807) :
    Calls Tryz.prog 26 #[.int .i64 i] w fun e w' => ∃ x, e = .returned (.int .u64 x) ∧ Ie.Rnd i 1 0 false x ∧ Below w.heap.size w w' := by
  have F := hid (zfromU_any i w h0 (by omega))
  go_enter Tryz.func26, Tryz.ntmps26
  go_wp2_with fail
  refine F.out.mono ?_
  rintro e w1 ⟨x, rfl, R, hB⟩
  have K := hid (And.intro R hB)
  clear R hB
  go_wp2_with fail
  go_ret
  exact ⟨x, rfl, K.out⟩

set_option maxRecDepth 100000 in
set_option maxHeartbeats 2000000 in
theorem zfromI_ng (i : Int) (w : World) (h0 : i < 0) (h1 : -9223372036854775808 ≤ i) :
    Calls Tryz.prog 26 #[.int .i64 i] w fun e w' => ∃ x, e = .returned (.int .u64 (x + 9223372036854775808)) ∧ Ie.Rnd (-i) 1 0 false x ∧ Below w.heap.size w w' := by
  have F : Hid (∀ u : Int, u = -i → Calls Tryz.prog 27 #[.int .u64 u] w fun e w' => ∃ x, e = .returned (.int .u64 x) ∧ Ie.Rnd (-i) 1 0 false x ∧ Below w.heap.size w w') := by
    intro u hu
    have := zfromU_any u w (by omega) (by omega)
    rw [hu] at this
    rw [hu]
    exact this
  have g0 : ¬ 0 ≤ i := by omega
  go_enter Tryz.func26, Tryz.ntmps26
  go_wp2_with fail
  refine (F.out _ (by omega)).mono ?_
  rintro e w1 ⟨x, rfl, R, hB⟩
  have b := R.bd
  have N : Hid (Calls Tryz.prog 17 #[.int .u64 x] w1 fun e w' => e = .returned (.int .u64 (x + 9223372036854775808)) ∧ w' = w1) := by
    have := zneg_any x w1 b.1 (by omega)
    rw [Ie.ng, if_pos (by omega)] at this
    exact this
  have K := hid (And.intro R hB)
  clear R hB b F
  go_wp2_with fail
  refine N.out.mono ?_
  rintro e w2 ⟨rfl, rfl⟩
  go_wp2_with fail
  go_ret
  exact ⟨x, rfl, K.out⟩

set_option maxRecDepth 100000 in
theorem zwhole_inf (d : Int) (w : World) (h0 : 0 ≤ d) (h1 : d < 18446744073709551616) (hr : 9218868437227405312 ≤ d % 9223372036854775808) :
    Calls Tryz.prog 29 #[.int .u64 d] w fun e w' => e = .returned (.tuple #[.bool false, .slice none 0 0, .int .i64 5]) ∧ w' = w := by
  have F := zfinite_any d w h0 h1
  rw [decide_eq_false (by omega)] at F
  have F := hid F
  clear hr
  go_enter Tryz.func29, Tryz.ntmps29
  go_wp2_with fail
  refine F.out.mono ?_
  rintro e w' ⟨rfl, rfl⟩
  go_wp2_with fail
  go_ret3
  exact ⟨rfl, rfl⟩

set_option maxRecDepth 100000 in
set_option maxHeartbeats 4000000 in
theorem zwhole_low (d : Int) (w : World) (h0 : 0 ≤ d) (h1 : d < 18446744073709551616) (r m : Int) (c : Int) (k : Nat) (hr : d % 9223372036854775808 = r) (hf : r < 9218868437227405312) (hc : Ie.cls d = c) (hm : Ie.dm d = m) (he : Ie.de d = (-(k : Int))) (hk : 0 < k) (hk2 : k ≤ 1074) (mb : 0 ≤ m ∧ m < 9007199254740992) (hw : Ie.whp r = m / 2 ^ k) :
    Calls Tryz.prog 29 #[.int .u64 d] w fun e w' => WholeTold d w e w' := by
  have F := zfinite_any d w h0 h1
  rw [decide_eq_true (by omega)] at F
  have F := hid F
  have D := hid (zdecode_any d w h0 h1)
  rw [hc, hm, he] at D
  simp only [partsOf] at D
  obtain ⟨neg, hneg⟩ : ∃ neg, decide (9223372036854775808 ≤ d) = neg := ⟨_, rfl⟩
  rw [hneg] at D
  have FU : Hid (∀ (wx : World) (b : Nat) (u : Int), u = (k : Int) → Arg wx (some ⟨b, 0, none⟩) 1 1 [m] → Calls Tryz.prog 60 #[.slice (some ⟨b, 0, none⟩) 1 1, .int .i64 u] wx fun e w' => ∃ r os, e = .returned (.slice r (List.length os) (List.length os)) ∧ Ans wx.heap.size w' r os (m / 2 ^ k) ∧ Below wx.heap.size wx w') := by
    intro wx b u hu A
    have := drop_any (some ⟨b, 0, none⟩) 1 1 [m] u k wx A (by have := Nm.tsize_le [m]; simp at this; omega) hu (by omega)
    rw [show Nm.val [m] = m by simp [Nm.val]] at this
    exact this
  have WT : Hid (∀ (w2 : World) (p : Option Addr) (os : List Int) (B : Nat), w.heap.size ≤ B → Ans B w2 p os (m / 2 ^ k) → Below w.heap.size w w2 → WholeTold d w (.returned (.tuple #[.bool neg, .slice p (List.length os) (List.length os), .int .i64 0])) w2) := by
    intro w2 p os B hB A hb
    refine ⟨p, os, by rw [hneg], ?_, hb⟩
    rw [hr, hw]
    exact ⟨A.1, A.2.1, A.2.2.1, A.2.2.2.1, fun a h => ⟨by have := (A.2.2.2.2 a h).1; omega, (A.2.2.2.2 a h).2⟩⟩
  have WK : IntKind.i64.wrap (k : Int) = (k : Int) := by rw [IntKind.wrap_i64]; omega
  have k1 : ¬ 0 ≤ -(k : Int) := by omega
  have k2 : (k : Int) ≤ 1074 := by omega
  have MB := hid mb
  clear hneg hr hf hc hm he hw mb
  go_enter Tryz.func29, Tryz.ntmps29
  go_wp2_with fail
  refine F.out.mono ?_
  rintro e w ⟨rfl, rfl⟩
  go_wp2_with fail
  refine D.out.mono ?_
  rintro e w1 ⟨rfl, hB⟩
  have HB := hid hB
  clear hB F D
  go_wp2_with fail
  have hb1 := Below.alloc HB.out HB.out.size (.cells #[.bool neg, .int .i64 c, .int .u64 m, .int .i64 (-(k : Int))] 27)
  have HB1 := hid (Below.alloc hb1 hb1.size (.cells #[.int .u64 m] 25))
  have hs1 : (w1.alloc (.cells #[.bool neg, .int .i64 c, .int .u64 m, .int .i64 (-(k : Int))] 27)).heap.size = w1.heap.size + 1 := by simp
  have hg2 := heap_alloc2_old w1 (.cells #[.bool neg, .int .i64 c, .int .u64 m, .int .i64 (-(k : Int))] 27) (.cells #[.int .u64 m] 25)
  have hg3 := heap_alloc2_new w1 (.cells #[.bool neg, .int .i64 c, .int .u64 m, .int .i64 (-(k : Int))] 27) (.cells #[.int .u64 m] 25)
  have p0 : ((w1.alloc (.cells #[.bool neg, .int .i64 c, .int .u64 m, .int .i64 (-(k : Int))] 27)).alloc (.cells #[.int .u64 m] 25)).cell? ⟨w1.heap.size, 0, none⟩ = some (.bool neg) := by simp only [World.cell?, hg2]; rfl
  have p3 : ((w1.alloc (.cells #[.bool neg, .int .i64 c, .int .u64 m, .int .i64 (-(k : Int))] 27)).alloc (.cells #[.int .u64 m] 25)).cell? ⟨w1.heap.size, 3, none⟩ = some (.int .i64 (-(k : Int))) := by simp only [World.cell?, hg2]; rfl
  have AR := hid (arg_lit hg3 MB.out.1 (by have := MB.out; omega))
  clear hg2 hg3 hb1 hs1
  generalize (w1.alloc (.cells #[.bool neg, .int .i64 c, .int .u64 m, .int .i64 (-(k : Int))] 27)).alloc (.cells #[.int .u64 m] 25) = wA at *
  have CA : Hid (∀ wx w2 : World, wx.heap = wA.heap → Below w.heap.size w wx → Below wx.heap.size wx w2 → Below w.heap.size w w2 ∧ w2.cell? ⟨w1.heap.size, 0, none⟩ = some (.bool neg)) := by
    intro wx w2 hh hw hB2
    have lt : w1.heap.size < wx.heap.size := by rw [hh]; exact cell_lt p0
    have eq : wx.cell? ⟨w1.heap.size, 0, none⟩ = wA.cell? ⟨w1.heap.size, 0, none⟩ := World.cell?_of_block (by rw [hh])
    exact ⟨hw.trans (hB2.mono hw.size), by rw [hB2.cell (p := ⟨w1.heap.size, 0, none⟩) lt, eq]; exact p0⟩
  have HS := hid (show w.heap.size ≤ wA.heap.size from HB1.out.size)
  have FU2 := hid (fun (u : Int) (hu : u = (k : Int)) => FU.out wA.drew (w1.heap.size + 1) u hu (AR.out.below (below_drew1 (Below.refl _ _)) (Nat.le_refl _)))
  clear FU AR MB
  go_region_with (go_at_call 60; refine (FU2.out _ ?_).mono ?_; (first | rfl | omega); rintro e w2 ⟨p, os, rfl, A, hB2⟩; obtain ⟨hB3, k0⟩ := CA.out wA.drew w2 rfl (below_drew1 HB1.out) hB2; have KK := hid (WT.out w2 p os _ HS.out A hB3); clear A hB2 hB3)
  all_goals (go_wp2_with fail; go_ret3; exact KK.out)

set_option maxRecDepth 100000 in
set_option maxHeartbeats 4000000 in
theorem zwhole_high (d : Int) (w : World) (h0 : 0 ≤ d) (h1 : d < 18446744073709551616) (r m : Int) (c : Int) (k : Nat) (hr : d % 9223372036854775808 = r) (hf : r < 9218868437227405312) (hc : Ie.cls d = c) (hm : Ie.dm d = m) (he : Ie.de d = (k : Int))  (hk2 : k ≤ 1074) (mb : 0 ≤ m ∧ m < 9007199254740992) (hw : Ie.whp r = m * 2 ^ k) :
    Calls Tryz.prog 29 #[.int .u64 d] w fun e w' => WholeTold d w e w' := by
  have F := zfinite_any d w h0 h1
  rw [decide_eq_true (by omega)] at F
  have F := hid F
  have D := hid (zdecode_any d w h0 h1)
  rw [hc, hm, he] at D
  simp only [partsOf] at D
  obtain ⟨neg, hneg⟩ : ∃ neg, decide (9223372036854775808 ≤ d) = neg := ⟨_, rfl⟩
  rw [hneg] at D
  have FU : Hid (∀ (wx : World) (b : Nat) (u : Int), u = (k : Int) → Arg wx (some ⟨b, 0, none⟩) 1 1 [m] → Calls Tryz.prog 59 #[.slice (some ⟨b, 0, none⟩) 1 1, .int .i64 u] wx fun e w' => ∃ r os, e = .returned (.slice r (List.length os) (List.length os)) ∧ Ans wx.heap.size w' r os (m * 2 ^ k) ∧ Below wx.heap.size wx w') := by
    intro wx b u hu A
    have := lift_any (some ⟨b, 0, none⟩) 1 1 [m] u k wx A (by have := Nm.tsize_le [m]; simp at this; omega) hu (by omega)
    rw [show Nm.val [m] = m by simp [Nm.val]] at this
    exact this
  have WT : Hid (∀ (w2 : World) (p : Option Addr) (os : List Int) (B : Nat), w.heap.size ≤ B → Ans B w2 p os (m * 2 ^ k) → Below w.heap.size w w2 → WholeTold d w (.returned (.tuple #[.bool neg, .slice p (List.length os) (List.length os), .int .i64 0])) w2) := by
    intro w2 p os B hB A hb
    refine ⟨p, os, by rw [hneg], ?_, hb⟩
    rw [hr, hw]
    exact ⟨A.1, A.2.1, A.2.2.1, A.2.2.2.1, fun a h => ⟨by have := (A.2.2.2.2 a h).1; omega, (A.2.2.2.2 a h).2⟩⟩
  have WK : IntKind.i64.wrap (k : Int) = (k : Int) := by rw [IntKind.wrap_i64]; omega
  have k1 : 0 ≤ (k : Int) := by omega
  have k2 : (k : Int) ≤ 1074 := by omega
  have MB := hid mb
  clear hneg hr hf hc hm he hw mb
  go_enter Tryz.func29, Tryz.ntmps29
  go_wp2_with fail
  refine F.out.mono ?_
  rintro e w ⟨rfl, rfl⟩
  go_wp2_with fail
  refine D.out.mono ?_
  rintro e w1 ⟨rfl, hB⟩
  have HB := hid hB
  clear hB F D
  go_wp2_with fail
  have hb1 := Below.alloc HB.out HB.out.size (.cells #[.bool neg, .int .i64 c, .int .u64 m, .int .i64 (k : Int)] 27)
  have HB1 := hid (Below.alloc hb1 hb1.size (.cells #[.int .u64 m] 25))
  have hs1 : (w1.alloc (.cells #[.bool neg, .int .i64 c, .int .u64 m, .int .i64 (k : Int)] 27)).heap.size = w1.heap.size + 1 := by simp
  have hg2 := heap_alloc2_old w1 (.cells #[.bool neg, .int .i64 c, .int .u64 m, .int .i64 (k : Int)] 27) (.cells #[.int .u64 m] 25)
  have hg3 := heap_alloc2_new w1 (.cells #[.bool neg, .int .i64 c, .int .u64 m, .int .i64 (k : Int)] 27) (.cells #[.int .u64 m] 25)
  have p0 : ((w1.alloc (.cells #[.bool neg, .int .i64 c, .int .u64 m, .int .i64 (k : Int)] 27)).alloc (.cells #[.int .u64 m] 25)).cell? ⟨w1.heap.size, 0, none⟩ = some (.bool neg) := by simp only [World.cell?, hg2]; rfl
  have p3 : ((w1.alloc (.cells #[.bool neg, .int .i64 c, .int .u64 m, .int .i64 (k : Int)] 27)).alloc (.cells #[.int .u64 m] 25)).cell? ⟨w1.heap.size, 3, none⟩ = some (.int .i64 (k : Int)) := by simp only [World.cell?, hg2]; rfl
  have AR := hid (arg_lit hg3 MB.out.1 (by have := MB.out; omega))
  clear hg2 hg3 hb1 hs1
  generalize (w1.alloc (.cells #[.bool neg, .int .i64 c, .int .u64 m, .int .i64 (k : Int)] 27)).alloc (.cells #[.int .u64 m] 25) = wA at *
  have CA : Hid (∀ wx w2 : World, wx.heap = wA.heap → Below w.heap.size w wx → Below wx.heap.size wx w2 → Below w.heap.size w w2 ∧ w2.cell? ⟨w1.heap.size, 0, none⟩ = some (.bool neg)) := by
    intro wx w2 hh hw hB2
    have lt : w1.heap.size < wx.heap.size := by rw [hh]; exact cell_lt p0
    have eq : wx.cell? ⟨w1.heap.size, 0, none⟩ = wA.cell? ⟨w1.heap.size, 0, none⟩ := World.cell?_of_block (by rw [hh])
    exact ⟨hw.trans (hB2.mono hw.size), by rw [hB2.cell (p := ⟨w1.heap.size, 0, none⟩) lt, eq]; exact p0⟩
  have HS := hid (show w.heap.size ≤ wA.heap.size from HB1.out.size)
  have FU2 := hid (fun (u : Int) (hu : u = (k : Int)) => FU.out wA.drew (w1.heap.size + 1) u hu (AR.out.below (below_drew1 (Below.refl _ _)) (Nat.le_refl _)))
  clear FU AR MB
  go_region_with (go_at_call 59; refine (FU2.out _ ?_).mono ?_; (first | rfl | omega); rintro e w2 ⟨p, os, rfl, A, hB2⟩; obtain ⟨hB3, k0⟩ := CA.out wA.drew w2 rfl (below_drew1 HB1.out) hB2; have KK := hid (WT.out w2 p os _ HS.out A hB3); clear A hB2 hB3)
  all_goals (go_wp2_with fail; go_ret3; exact KK.out)

theorem zwhole_fin (d : Int) (w : World) (h0 : 0 ≤ d) (h1 : d < 18446744073709551616) (hf : d % 9223372036854775808 < 9218868437227405312) :
    Calls Tryz.prog 29 #[.int .u64 d] w fun e w' => WholeTold d w e w' := by
  rcases Ie.dec_kinds d _ rfl with ⟨c, m, x, k1⟩ | ⟨c, m, x, k1, k2⟩ | ⟨c, m, x, k1, k2⟩ | ⟨c, m, x, k1⟩ | ⟨c, m, x, k1, k2⟩
  · exact zwhole_high d w h0 h1 _ 0 _ 0 rfl hf c m x (by omega) (by omega) (by rw [k1, Ie.whp_zero]; rfl)
  · have e0 : Ie.ex (d % 9223372036854775808) = 0 := by rw [Ie.ex]; omega
    have m0 : Ie.man (d % 9223372036854775808) = d % 9223372036854775808 := by rw [Ie.man, if_pos k2]
    exact zwhole_low d w h0 h1 _ _ _ 1074 rfl hf c m x (by omega) (by omega) (by omega) (by rw [Ie.whp_low _ 1074 (by omega), m0])
  · have mb := Ie.man_nn (d % 9223372036854775808) (by omega)
    have eb : (Ie.ex (d % 9223372036854775808) : Int) ≤ 2045 := by simp only [Ie.ex]; omega
    rcases (show (Ie.ex (d % 9223372036854775808) : Int) < 1074 ∨ 1074 ≤ (Ie.ex (d % 9223372036854775808) : Int) by omega) with h | h
    · obtain ⟨k, hk⟩ : ∃ k : Nat, (Ie.ex (d % 9223372036854775808) : Int) + k = 1074 := ⟨(1074 - (Ie.ex (d % 9223372036854775808) : Int)).toNat, by omega⟩
      exact zwhole_low d w h0 h1 _ _ _ k rfl hf c m (by rw [x]; omega) (by omega) (by omega) mb (Ie.whp_low _ k hk)
    · obtain ⟨k, hk⟩ : ∃ k : Nat, (Ie.ex (d % 9223372036854775808) : Int) = 1074 + k := ⟨((Ie.ex (d % 9223372036854775808) : Int) - 1074).toNat, by omega⟩
      exact zwhole_high d w h0 h1 _ _ _ k rfl hf c m (by rw [x]; omega) (by omega) mb (Ie.whp_high _ k hk).1
  · omega
  · omega
end Go.Proofs.YtggiioipppbedaaGreatDoor

/-
  The document's ToInt, Integral (made by mkzint.py).
-/
namespace Go.Proofs.YtggiioipppbedaaGreatDoor
open Go Go.RowKit Go.Deep

set_option maxRecDepth 100000 in
theorem ztoInt_inf (d : Int) (w : World) (h0 : 0 ≤ d) (h1 : d < 18446744073709551616) (hr : 9218868437227405312 ≤ d % 9223372036854775808) :
    Calls Tryz.prog 28 #[.int .u64 d] w fun e w' => e = .returned (.tuple #[.int .i64 0, .int .i64 5]) ∧ w' = w := by
  have F := hid (zwhole_inf d w h0 h1 hr)
  clear hr
  go_enter Tryz.func28, Tryz.ntmps28
  go_wp2_with fail
  refine F.out.mono ?_
  rintro e w' ⟨rfl, rfl⟩
  go_wp2_with fail
  go_ret2
  exact ⟨rfl, rfl⟩

set_option maxRecDepth 100000 in
set_option maxHeartbeats 4000000 in
theorem ztoInt_fin (d : Int) (w : World) (h0 : 0 ≤ d) (h1 : d < 18446744073709551616) (hr : d % 9223372036854775808 < 9218868437227405312) (neg : Bool) (hneg : decide (9223372036854775808 ≤ d) = neg) (V : Int) (hV : Ie.whp (d % 9223372036854775808) = V) (V0 : 0 ≤ V) (Vb : V < Nm.pw 4096) :
    Calls Tryz.prog 28 #[.int .u64 d] w fun e w' => ∃ j f, e = .returned (.tuple #[.int .i64 j, .int .i64 f]) ∧ ToIntIs neg V j f ∧ Below w.heap.size w w' := by
  have F : Hid (Calls Tryz.prog 29 #[.int .u64 d] w fun e w' => ∃ r os, e = .returned (.tuple #[.bool neg, .slice r (List.length os) (List.length os), .int .i64 0]) ∧ Ans w.heap.size w' r os V ∧ Below w.heap.size w w') := by
    have := zwhole_fin d w h0 h1 hr
    simp only [WholeTold] at this
    rw [hneg, hV] at this
    exact this
  have VB := hid Vb
  clear hneg hV hr Vb
  rcases (show 18446744073709551616 ≤ V ∨ V < 18446744073709551616 by omega) with hb | hb
  · have TU : Hid (∀ (wx : World) (r : Option Addr) (os : List Int) (B : Nat), Ans B wx r os V → ∃ u, Calls Tryz.prog 58 #[.slice r os.length os.length] wx fun e w' => e = .returned (.tuple #[.int .u64 u, .bool false]) ∧ w' = wx) := by
      intro wx r os B A
      have l := ans_small A 4096 VB.out
      have := refToUint_any r _ _ os wx (A.arg (by omega))
      have h2 : decide (Nm.tsize os ≤ 1) = false := by
        rw [decide_eq_false_iff_not]
        intro hh
        have := (Nm.tsize_le_iff A.2.1 1).1 hh
        rw [A.2.2.2.1] at this
        have e : Nm.pw 1 = 18446744073709551616 := rfl
        omega
      rw [h2] at this
      exact ⟨_, this⟩
    cases neg
    · go_enter Tryz.func28, Tryz.ntmps28
      go_wp2_with fail
      refine F.out.mono ?_
      rintro e w1 ⟨r, os, rfl, A, hB⟩
      obtain ⟨u, hu⟩ := TU.out w1 r os _ A
      have HU := hid hu
      clear hu
      have HB := hid hB
      clear hB A F TU
      go_wp2_with fail
      refine HU.out.mono ?_
      rintro e w2 ⟨rfl, rfl⟩
      go_wp2_with fail
      go_ret2
      exact ⟨0, 41, rfl, .inr ⟨by simp; omega, rfl, rfl⟩, HB.out⟩
    · go_enter Tryz.func28, Tryz.ntmps28
      go_wp2_with fail
      refine F.out.mono ?_
      rintro e w1 ⟨r, os, rfl, A, hB⟩
      obtain ⟨u, hu⟩ := TU.out w1 r os _ A
      have HU := hid hu
      clear hu
      have HB := hid hB
      clear hB A F TU
      go_wp2_with fail
      refine HU.out.mono ?_
      rintro e w2 ⟨rfl, rfl⟩
      go_wp2_with fail
      go_ret2
      exact ⟨0, 41, rfl, .inr ⟨by simp; omega, rfl, rfl⟩, HB.out⟩
  · have TU : Hid (∀ (wx : World) (r : Option Addr) (os : List Int) (B : Nat), Ans B wx r os V → Calls Tryz.prog 58 #[.slice r os.length os.length] wx fun e w' => e = .returned (.tuple #[.int .u64 V, .bool true]) ∧ w' = wx) := by
      intro wx r os B A
      have l := ans_small A 4096 VB.out
      have h1 := refToUint_any r _ _ os wx (A.arg (by omega))
      rw [toU_val A.2.1 (by rw [A.2.2.2.1]; exact hb), A.2.2.2.1] at h1
      have h2 : Nm.tsize os ≤ 1 := (Nm.tsize_le_iff A.2.1 1).2 (by rw [A.2.2.2.1]; exact hb)
      simpa [h2] using h1
    rcases (show 9223372036854775808 < V ∨ V = 9223372036854775808 ∨ V < 9223372036854775808 by omega) with hm | hm | hm
    · cases neg
      · go_enter Tryz.func28, Tryz.ntmps28
        go_wp2_with fail
        refine F.out.mono ?_
        rintro e w1 ⟨r, os, rfl, A, hB⟩
        have HU := hid (TU.out w1 r os _ A)
        have HB := hid hB
        clear hB A F TU
        go_wp2_with fail
        refine HU.out.mono ?_
        rintro e w2 ⟨rfl, rfl⟩
        go_wp2_with fail
        go_ret2
        exact ⟨0, 41, rfl, .inr ⟨by simp; omega, rfl, rfl⟩, HB.out⟩
      · go_enter Tryz.func28, Tryz.ntmps28
        go_wp2_with fail
        refine F.out.mono ?_
        rintro e w1 ⟨r, os, rfl, A, hB⟩
        have HU := hid (TU.out w1 r os _ A)
        have HB := hid hB
        clear hB A F TU
        go_wp2_with fail
        refine HU.out.mono ?_
        rintro e w2 ⟨rfl, rfl⟩
        go_wp2_with fail
        go_ret2
        exact ⟨0, 41, rfl, .inr ⟨by simp; omega, rfl, rfl⟩, HB.out⟩
    · subst hm
      cases neg
      · go_enter Tryz.func28, Tryz.ntmps28
        go_wp2_with fail
        refine F.out.mono ?_
        rintro e w1 ⟨r, os, rfl, A, hB⟩
        have HU := hid (TU.out w1 r os _ A)
        have HB := hid hB
        clear hB A F TU
        go_wp2_with fail
        refine HU.out.mono ?_
        rintro e w2 ⟨rfl, rfl⟩
        go_wp2_with fail
        go_ret2
        exact ⟨0, 41, rfl, .inr ⟨by simp, rfl, rfl⟩, HB.out⟩
      · go_enter Tryz.func28, Tryz.ntmps28
        go_wp2_with fail
        refine F.out.mono ?_
        rintro e w1 ⟨r, os, rfl, A, hB⟩
        have HU := hid (TU.out w1 r os _ A)
        have HB := hid hB
        clear hB A F TU
        go_wp2_with fail
        refine HU.out.mono ?_
        rintro e w2 ⟨rfl, rfl⟩
        go_wp2_with fail
        go_ret2
        exact ⟨-9223372036854775808, 0, rfl, .inl ⟨by simp, rfl, rfl⟩, HB.out⟩
    · have ne : (V == 9223372036854775808) = false := by rw [beq_eq_false_iff_ne]; omega
      cases neg
      · go_enter Tryz.func28, Tryz.ntmps28
        go_wp2_with fail
        refine F.out.mono ?_
        rintro e w1 ⟨r, os, rfl, A, hB⟩
        have HU := hid (TU.out w1 r os _ A)
        have HB := hid hB
        clear hB A F TU
        go_wp2_with fail
        refine HU.out.mono ?_
        rintro e w2 ⟨rfl, rfl⟩
        go_wp2_with fail
        go_ret2
        exact ⟨V, 0, rfl, .inl ⟨by simp; omega, rfl, rfl⟩, HB.out⟩
      · go_enter Tryz.func28, Tryz.ntmps28
        go_wp2_with fail
        refine F.out.mono ?_
        rintro e w1 ⟨r, os, rfl, A, hB⟩
        have HU := hid (TU.out w1 r os _ A)
        have HB := hid hB
        clear hB A F TU
        go_wp2_with fail
        refine HU.out.mono ?_
        rintro e w2 ⟨rfl, rfl⟩
        go_wp2_with fail
        go_ret2
        exact ⟨-V, 0, rfl, .inl ⟨by simp; omega, rfl, rfl⟩, HB.out⟩

set_option maxRecDepth 100000 in
theorem zintegral_inf (d : Int) (w : World) (h0 : 0 ≤ d) (h1 : d < 18446744073709551616) (hr : 9218868437227405312 ≤ d % 9223372036854775808) :
    Calls Tryz.prog 25 #[.int .u64 d] w fun e w' => e = .returned (.bool false) ∧ w' = w := by
  have F := zfinite_any d w h0 h1
  rw [decide_eq_false (by omega)] at F
  have F := hid F
  clear hr
  go_enter Tryz.func25, Tryz.ntmps25
  go_wp2_with fail
  refine F.out.mono ?_
  rintro e w' ⟨rfl, rfl⟩
  go_wp2_with fail
  go_ret
  exact ⟨rfl, rfl⟩

set_option maxRecDepth 100000 in
set_option maxHeartbeats 4000000 in
theorem zintegral_yes (d : Int) (w : World) (h0 : 0 ≤ d) (h1 : d < 18446744073709551616) (hr : d % 9223372036854775808 < 9218868437227405312) (m x : Int) (hm : Ie.dm d = m) (hx : Ie.de d = x) (h : m = 0 ∨ 0 ≤ x) :
    Calls Tryz.prog 25 #[.int .u64 d] w fun e w' => e = .returned (.bool true) ∧ Below w.heap.size w w' := by
  have F := zfinite_any d w h0 h1
  rw [decide_eq_true hr] at F
  have F := hid F
  have D := hid (zdecode_any d w h0 h1)
  rw [hm, hx] at D
  generalize decide (9223372036854775808 ≤ d) = neg at D
  generalize Ie.cls d = c at D
  simp only [partsOf] at D
  clear hr hm hx
  by_cases mz : m = 0
  · subst mz
    clear h
    go_enter Tryz.func25, Tryz.ntmps25
    go_wp2_with fail
    refine F.out.mono ?_
    rintro e w ⟨rfl, rfl⟩
    go_wp2_with fail
    refine D.out.mono ?_
    rintro e w1 ⟨rfl, hB⟩
    have HB := hid hB
    clear hB F D
    go_wp2_with fail
    go_ret
    exact ⟨rfl, Below.alloc HB.out HB.out.size _⟩
  · have mz' : (m == 0) = false := by rw [beq_eq_false_iff_ne]; exact mz
    have xn : 0 ≤ x := by omega
    clear h mz
    go_enter Tryz.func25, Tryz.ntmps25
    go_wp2_with fail
    refine F.out.mono ?_
    rintro e w ⟨rfl, rfl⟩
    go_wp2_with fail
    refine D.out.mono ?_
    rintro e w1 ⟨rfl, hB⟩
    have HB := hid hB
    clear hB F D
    go_wp2_with fail
    go_ret
    exact ⟨by simp, Below.alloc HB.out HB.out.size _⟩

set_option maxRecDepth 100000 in
set_option maxHeartbeats 4000000 in
theorem zintegral_low (d : Int) (w : World) (h0 : 0 ≤ d) (h1 : d < 18446744073709551616) (hr : d % 9223372036854775808 < 9218868437227405312) (m x : Int) (hm : Ie.dm d = m) (hx : Ie.de d = x) (mp : 0 < m) (mb : m < 9007199254740992) (xn : x < 0) (xb : -1074 ≤ x) (T : Nat) (hT : Nm.Trl m T) (hTb : T ≤ 64) :
    Calls Tryz.prog 25 #[.int .u64 d] w fun e w' => e = .returned (.bool (decide (0 ≤ x + T))) ∧ Below w.heap.size w w' := by
  have F := zfinite_any d w h0 h1
  rw [decide_eq_true hr] at F
  have F := hid F
  have D := hid (zdecode_any d w h0 h1)
  rw [hm, hx] at D
  have ZT : Hid (∀ (wx : World) (b : Nat), Arg wx (some ⟨b, 0, none⟩) 1 1 [m] → Calls Tryz.prog 57 #[.slice (some ⟨b, 0, none⟩) 1 1] wx fun e w' => e = .returned (.int .i64 (T : Int)) ∧ w' = wx) := by
    intro wx b A
    refine (refTrail_any (some ⟨b, 0, none⟩) 1 1 [m] wx A).mono ?_
    rintro r w' ⟨⟨t, rfl, h⟩, rfl⟩
    rw [show Nm.val [m] = m by simp [Nm.val]] at h
    rw [Nm.Trl.unique h hT]
    exact ⟨rfl, rfl⟩
  generalize decide (9223372036854775808 ≤ d) = neg at D
  generalize Ie.cls d = c at D
  simp only [partsOf] at D
  have mz' : (m == 0) = false := by rw [beq_eq_false_iff_ne]; omega
  have xn' : ¬ 0 ≤ x := by omega
  have t1 : (T : Int) ≤ 64 := by omega
  have WX : IntKind.i64.wrap (-x) = -x := by rw [IntKind.wrap_i64]; omega
  have MB := hid (show 0 ≤ m ∧ m < 18446744073709551616 by omega)
  clear hr hm hx hT hTb mp mb
  go_enter Tryz.func25, Tryz.ntmps25
  go_wp2_with fail
  refine F.out.mono ?_
  rintro e w ⟨rfl, rfl⟩
  go_wp2_with fail
  refine D.out.mono ?_
  rintro e w1 ⟨rfl, hB⟩
  have HB := hid hB
  clear hB F D
  go_wp2_with fail
  have HB1 := hid (Below.alloc HB.out HB.out.size (.cells #[.bool neg, .int .i64 c, .int .u64 m, .int .i64 x] 27))
  have hg := heap_alloc_new w1 (.cells #[.bool neg, .int .i64 c, .int .u64 m, .int .i64 x] 27)
  have p2 : (w1.alloc (.cells #[.bool neg, .int .i64 c, .int .u64 m, .int .i64 x] 27)).cell? ⟨w1.heap.size, 2, none⟩ = some (.int .u64 m) := by simp only [World.cell?, hg]; rfl
  have p3 : (w1.alloc (.cells #[.bool neg, .int .i64 c, .int .u64 m, .int .i64 x] 27)).cell? ⟨w1.heap.size, 3, none⟩ = some (.int .i64 x) := by simp only [World.cell?, hg]; rfl
  clear hg
  generalize w1.alloc (.cells #[.bool neg, .int .i64 c, .int .u64 m, .int .i64 x] 27) = wA at *
  have hb2 : Below w.heap.size w (wA.drew.alloc (.cells #[.int .u64 m] 25)) := Below.alloc (below_drew1 HB1.out) (below_drew1 HB1.out).size _
  have p3a : (wA.drew.alloc (.cells #[.int .u64 m] 25)).cell? ⟨w1.heap.size, 3, none⟩ = some (.int .i64 x) := by
    rw [(alloc_below wA.drew _).cell (p := ⟨w1.heap.size, 3, none⟩) (cell_lt p3)]; exact p3
  have Z2 : Hid (∀ g : Obj, g = .cells #[.int .u64 m] 25 → Calls Tryz.prog 57 #[.slice (some ⟨wA.heap.size, 0, none⟩) 1 1] (wA.drew.alloc g) fun e w' => e = .returned (.int .i64 (T : Int)) ∧ w'.cell? ⟨w1.heap.size, 3, none⟩ = some (.int .i64 x) ∧ Below w.heap.size w w') := by
    intro g hg
    subst hg
    refine (ZT.out (wA.drew.alloc (.cells #[.int .u64 m] 25)) wA.heap.size (arg_lit (heap_alloc_new wA.drew _) MB.out.1 MB.out.2)).mono ?_
    rintro e w2 ⟨rfl, rfl⟩
    exact ⟨rfl, p3a, hb2⟩
  clear hb2 ZT MB
  have hlt : w1.heap.size < wA.heap.size := cell_lt p3
  have hne : ¬ w1.heap.size = wA.heap.size := by omega
  have hne2 : ¬ wA.heap.size = w1.heap.size := by omega
  go_region_with (go_at_call 57; refine (Z2.out _ rfl).mono ?_; rintro e w2 ⟨rfl, k3, hB3⟩; have HB3 := hid hB3; clear hB3)
  all_goals (go_wp2_with fail; go_ret; exact ⟨ret_bool (by first | (rw [WX, decide_eq_decide]; omega) | (rw [decide_eq_decide]; omega)), HB3.out⟩)
end Go.Proofs.YtggiioipppbedaaGreatDoor

/-
  The document's Integral, whole.
-/
namespace Go.Proofs.YtggiioipppbedaaGreatDoor
open Go Go.RowKit Go.Deep

theorem zintegral_any (d : Int) (w : World) (h0 : 0 ≤ d) (h1 : d < 18446744073709551616) :
    Calls Tryz.prog 25 #[.int .u64 d] w fun e w' => e = .returned (.bool (Ie.intg d)) ∧ Below w.heap.size w w' := by
  by_cases hf : d % 9223372036854775808 < 9218868437227405312
  · have key : ∀ b : Bool, (b = true ↔ Ie.vl (d % 9223372036854775808) = Ie.whp (d % 9223372036854775808) * 2 ^ 1075) → Ie.intg d = b := by
      intro b hb
      rw [Ie.intg]
      cases b
      · rw [decide_eq_false_iff_not]; intro hh; have := hb.2 hh.2; cases this
      · rw [decide_eq_true_iff]; exact ⟨hf, hb.1 rfl⟩
    rcases Ie.dec_kinds d _ rfl with ⟨c, m, x, k1⟩ | ⟨c, m, x, k1, k2⟩ | ⟨c, m, x, k1, k2⟩ | ⟨c, m, x, k1⟩ | ⟨c, m, x, k1, k2⟩
    · rw [key true ⟨fun _ => by rw [k1, Ie.vl_zero, Ie.whp_zero, Int.zero_mul], fun _ => rfl⟩]
      exact zintegral_yes d w h0 h1 hf 0 0 m x (.inl rfl)
    · have e0 : Ie.ex (d % 9223372036854775808) = 0 := by rw [Ie.ex]; omega
      have m0 : Ie.man (d % 9223372036854775808) = d % 9223372036854775808 := by rw [Ie.man, if_pos k2]
      obtain ⟨n, hn⟩ := Int.eq_ofNat_of_zero_le (show 0 ≤ d % 9223372036854775808 by omega)
      obtain ⟨q, hq, hlt⟩ := Lib.ctzFrom_spec 64 n (by omega) (by simpa using (show n < 18446744073709551616 by omega))
      have hi := Ie.intg_iff (d % 9223372036854775808) (d % 9223372036854775808) (q : Int) (Lib.ctzFrom 64 n) m0 (by rw [hn]; exact ctz_int n q _ hq)
      rw [key (decide (0 ≤ (-1074 : Int) + (Lib.ctzFrom 64 n : Int))) (by rw [hi, e0, decide_eq_true_iff]; omega)]
      exact zintegral_low d w h0 h1 hf _ _ m x k1 (by omega) (by omega) (by omega) _ (.inr ⟨q, by rw [hn]; exact ctz_int n q _ hq⟩) (by omega)
    · have mb := Ie.man_nn (d % 9223372036854775808) (by omega)
      have mp : 0 < Ie.man (d % 9223372036854775808) := by rw [Ie.man, if_neg (by omega)]; omega
      have eb : (Ie.ex (d % 9223372036854775808) : Int) ≤ 2045 := by simp only [Ie.ex]; omega
      obtain ⟨n, hn⟩ := Int.eq_ofNat_of_zero_le mb.1
      obtain ⟨q, hq, hlt⟩ := Lib.ctzFrom_spec 64 n (by omega) (by simpa using (show n < 18446744073709551616 by omega))
      have hi := Ie.intg_iff (d % 9223372036854775808) _ (q : Int) (Lib.ctzFrom 64 n) hn (ctz_int n q _ hq)
      by_cases hx : 0 ≤ (Ie.ex (d % 9223372036854775808) : Int) - 1074
      · rw [key true ⟨fun _ => hi.2 (by omega), fun _ => rfl⟩]
        exact zintegral_yes d w h0 h1 hf _ _ m x (.inr hx)
      · rw [key (decide (0 ≤ (Ie.ex (d % 9223372036854775808) : Int) - 1074 + (Lib.ctzFrom 64 n : Int))) (by rw [hi, decide_eq_true_iff])]
        exact zintegral_low d w h0 h1 hf _ _ m x mp (by omega) (by omega) (by omega) _ (.inr ⟨q, by rw [hn]; exact ctz_int n q _ hq⟩) (by omega)
    · omega
    · omega
  · have : Ie.intg d = false := by rw [Ie.intg, decide_eq_false_iff_not]; intro h; exact hf h.1
    rw [this]
    exact (zintegral_inf d w h0 h1 (by omega)).mono fun e w' k => ⟨k.1, by rw [k.2]; exact Below.refl _ _⟩
end Go.Proofs.YtggiioipppbedaaGreatDoor

/-
  The document's RoundRatio at any exponent.
-/
namespace Go.Proofs.YtggiioipppbedaaGreatDoor
open Go Go.RowKit Go.Deep

set_option maxRecDepth 100000 in
set_option maxHeartbeats 4000000 in
/-- The document's RoundRatio, at any exponent. -/
theorem zratio_all (neg : Bool) (p q : Option Addr) (n cap n' cap' : Nat) (zs ys : List Int) (w : World) (ha : Arg w p n cap zs) (hb : Arg w q n' cap' ys) (tz : Nm.tsize zs ≤ 4096) (ty : Nm.tsize ys ≤ 4096) (V D e : Int) (hV : Nm.val zs = V) (hD : Nm.val ys = D) (hd : 0 < D) :
    Calls Tryz.prog 31 #[.bool neg, .slice p n cap, .slice q n' cap', .int .i64 e] w fun r w' => ∃ x, r = .returned (.tuple #[.int .u64 (Ie.sg neg x), .int .i64 0]) ∧ Ie.Rnd V D e false x ∧ Below w.heap.size w w' := by
  have v0 : 0 ≤ V := by rw [← hV]; exact (Nm.val_bd zs ha.2.2.2.2).1
  by_cases hin : 0 < V ∧ -1048576 ≤ e ∧ e ≤ 1048576
  · exact zratio_any neg p q n cap n' cap' zs ys w ha hb tz ty V D e hV hD hd hin.1 hin.2.1 hin.2.2
  · obtain ⟨L, hL, BL, hl, _⟩ := blen_is zs ha.2.2.2.2
    obtain ⟨M, hM, BM, hm, _⟩ := blen_is ys hb.2.2.2.2
    rw [hV] at BL
    rw [hD] at BM
    have B1 := hid (refBig_is false p n cap zs w ha (by simp; omega))
    have B2 := hid (refBig_is false q n' cap' ys w hb (by simp; omega))
    obtain ⟨S1, hS1⟩ : ∃ S, Nm.tsize zs = S := ⟨_, rfl⟩
    obtain ⟨S2, hS2⟩ : ∃ S, Nm.tsize ys = S := ⟨_, rfl⟩
    have tq : 0 < Nm.tsize ys := by
      rcases Nat.eq_zero_or_pos (Nm.tsize ys) with h | h
      · have := (Nm.tsize_zero_iff hb.2.2.2.2).1 h; omega
      · exact h
    have Z1 := refSize_any p n cap zs w ha.1 (by have := ha.2.1; have := ha.2.2.1; omega) ha.2.2.2.1
    have Z2 := refSize_any q n' cap' ys w hb.1 (by have := hb.2.1; have := hb.2.2.1; omega) hb.2.2.2.1
    have tz0 := Nm.tsize_zero_iff ha.2.2.2.2
    rw [hS1, hV] at tz0
    rw [hS1] at Z1
    rw [hS2] at Z2 tq
    have Z1 := hid Z1
    have Z2 := hid Z2
    have s2 : ((S2 : Int) == 0) = false := by rw [beq_eq_false_iff_ne]; omega
    have PZ := hid (zput_any neg 0 0 w (by omega) (by omega) (by omega) (by omega) (by omega))
    have PI := hid (zput_any neg 2047 0 w (by omega) (by omega) (by omega) (by omega) (by omega))
    have R0 : V = 0 ∨ e < -1048576 → Ie.Rnd V D e false 0 := by
      rintro (h | h)
      · rw [h]; exact Ie.rnd_zero D e false hd
      · exact Ie.rnd_small V D e L 0 false BL.1 (by rw [Int.pow_zero]; omega) (by omega)
    have RI : 0 < V → 1048576 < e → Ie.Rnd V D e false 9218868437227405312 := fun h h' => Ie.rnd_inf V D e 0 M false (by rw [Int.pow_zero]; omega) (by have := BM.1; omega) (by omega)
    by_cases c0 : V = 0
    · have hs0 : S1 = 0 := tz0.2 c0
      have R := hid (R0 (.inl c0))
      subst hs0
      clear ha hb tz ty hV hD hd v0 hin hL hM BL BM hl hm hS1 hS2 tq tz0 R0 RI PI
      go_enter Tryz.func31, Tryz.ntmps31
      go_wp2_with fail
      refine B1.out.mono ?_
      rintro e' w' ⟨rfl, rfl⟩
      go_wp2_with fail
      refine B2.out.mono ?_
      rintro e' w' ⟨rfl, rfl⟩
      go_wp2_with fail
      refine Z2.out.mono ?_
      rintro e' w' ⟨rfl, rfl⟩
      go_wp2_with fail
      refine Z1.out.mono ?_
      rintro e' w' ⟨rfl, rfl⟩
      go_wp2_with fail
      refine PZ.out.mono ?_
      rintro e' w' ⟨rfl, rfl⟩
      go_wp2_with fail
      go_ret2
      exact ⟨0, ret_sg (by simp), R.out, Below.refl _ _⟩
    · have s1 : ((S1 : Int) == 0) = false := by
        rw [beq_eq_false_iff_ne]
        intro hh
        exact c0 (tz0.1 (by omega))
      by_cases c1 : e < -1048576
      · have R := hid (R0 (.inr c1))
        clear ha hb tz ty hV hD hd v0 hin hL hM BL BM hl hm hS1 hS2 tq tz0 R0 RI PI c0
        go_enter Tryz.func31, Tryz.ntmps31
        go_wp2_with fail
        refine B1.out.mono ?_
        rintro e' w' ⟨rfl, rfl⟩
        go_wp2_with fail
        refine B2.out.mono ?_
        rintro e' w' ⟨rfl, rfl⟩
        go_wp2_with fail
        refine Z2.out.mono ?_
        rintro e' w' ⟨rfl, rfl⟩
        go_wp2_with fail
        refine Z1.out.mono ?_
        rintro e' w' ⟨rfl, rfl⟩
        go_wp2_with fail
        refine PZ.out.mono ?_
        rintro e' w' ⟨rfl, rfl⟩
        go_wp2_with fail
        go_ret2
        exact ⟨0, ret_sg (by simp), R.out, Below.refl _ _⟩
      · have c2 : 1048576 < e := by omega
        have R := hid (RI (by omega) c2)
        clear ha hb tz ty hV hD hd v0 hin hL hM BL BM hl hm hS1 hS2 tq tz0 R0 RI PZ c0
        go_enter Tryz.func31, Tryz.ntmps31
        go_wp2_with fail
        refine B1.out.mono ?_
        rintro e' w' ⟨rfl, rfl⟩
        go_wp2_with fail
        refine B2.out.mono ?_
        rintro e' w' ⟨rfl, rfl⟩
        go_wp2_with fail
        refine Z2.out.mono ?_
        rintro e' w' ⟨rfl, rfl⟩
        go_wp2_with fail
        refine Z1.out.mono ?_
        rintro e' w' ⟨rfl, rfl⟩
        go_wp2_with fail
        refine PI.out.mono ?_
        rintro e' w' ⟨rfl, rfl⟩
        go_wp2_with fail
        go_ret2
        exact ⟨_, ret_sg (by simp), R.out, Below.refl _ _⟩

end Go.Proofs.YtggiioipppbedaaGreatDoor

/-
  ieee: RoundRatio by nothing (of IRatio2).
-/
namespace Go.Proofs.YtggiioipppbedaaGreatDoor
open Go Go.RowKit Go.Deep

set_option maxRecDepth 100000 in
set_option maxHeartbeats 2000000 in
theorem roundRatio_zero (neg : Bool) (p q : Option Addr) (n cap m cap' : Nat) (zs ys : List Int) (w : World) (ha : Arg w p n cap zs) (hb : Arg w q m cap' ys) (tz : Nm.tsize zs ≤ 4096) (hz : Nm.val ys = 0) (e : Int) :
    Calls Tryz.prog 11 #[.bool neg, .slice p n cap, .slice q m cap', .int .i64 e] w fun r w' => r = .returned (.tuple #[.int .u64 0, .int .i64 4]) ∧ w' = w := by
  obtain ⟨L, hL, BL, hl, hg⟩ := blen_is zs ha.2.2.2.2
  have hy : blen ys = ((0 : Nat) : Int) := by rw [blen, if_pos ((Nm.tsize_zero_iff hb.2.2.2.2).2 hz)]; rfl
  have B1 := hid (bitLen_n L p n cap zs w ha hL)
  have B2 := hid (bitLen_n 0 q m cap' ys w hb hy)
  have l1 : decide ((262144 : Int) < (L : Int)) = false := by simp; omega
  clear ha hb tz hz hL BL hl hg hy
  go_enter Tryz.func11, Tryz.ntmps11
  go_wp2_with fail
  refine B1.out.mono ?_
  rintro e' w' ⟨rfl, rfl⟩
  go_wp2_with fail
  refine B2.out.mono ?_
  rintro e' w' ⟨rfl, rfl⟩
  go_wp2_with fail
  refine B2.out.mono ?_
  rintro e' w' ⟨rfl, rfl⟩
  go_wp2_with fail
  go_ret2
  exact ⟨rfl, rfl⟩
end Go.Proofs.YtggiioipppbedaaGreatDoor

namespace Go.Proofs.YtggiioipppbedaaGreatDoor
open Go.RowKit Go.Deep

set_option maxHeartbeats 1000000 in
theorem subFrom_any (g k : Nat) (zs : List Int) (q : Option Addr) (m cap : Nat) (ys : List Int) (w : World) (hk : zs.length = k) (hkm : k ≤ 35184372088832) (ho : Own w g zs) (hl : Nm.Limbs zs)
    (hm : ys.length = m) (hmk : m ≤ k) (hy : Lies w q ys) (hly : Nm.Limbs ys) (hq : 0 < ys.length → ∀ a, q = some a → a.block < g) (hT : 0 ≤ Nm.val zs - Nm.val ys) :
    Calls Tryz.prog 103 #[.slice (some ⟨g, 0, none⟩) k k, .slice q m cap] w fun e w' => e = .returned (.tuple #[]) ∧ Wrote g k (Nm.val zs - Nm.val ys) w w' := by
  rcases hy with rfl | ⟨b, off, rfl, hcell⟩
  · have hm0 : m = 0 := by simpa using hm.symm
    subst hm0
    have E : Wrote g k (Nm.val zs - Nm.val []) w w := ⟨zs, ho, hk, hl, by simp [Nm.val], Below.refl _ _, rfl⟩
    clear ho hl hT hq hm hk
    go_enter Tryz.func103, Tryz.ntmps103
    go_wp2
    refine wp_loop_rounds 1 ?_
    rw [rounds_succ]
    go_wp2
    refine wp_loop_rounds 1 ?_
    rw [rounds_succ]
    go_wp2
    go_end0
    exact ⟨rfl, E⟩
  · have hbg : 0 < ys.length → b < g := fun h => hq h _ rfl
    have I0 : AddInv g k w (Nm.val zs - Nm.val (ys.take 0)) 0 (-0) zs w := ⟨ho, hk, hl, by simp [Nm.val], Below.refl _ _, rfl⟩
    have HC : Hid (∀ i, i < ys.length → w.cell? ⟨b, off + i, none⟩ = some (.int .u64 (ys.getD i 0))) := hcell
    have HM : Hid (ys.length = m) := hm
    have HT : Hid (0 ≤ Nm.val zs - Nm.val ys) := hT
    have HY : Hid (Nm.Limbs ys) := hly
    clear hcell hm hT hly hq ho hk hl
    go_enter Tryz.func103, Tryz.ntmps103
    go_wp2
    go_loopw [4, 10] (fun c i wr => ∃ (j : Nat) (cc : Int) (os : List Int), j ≤ m ∧ i = .int .i64 j ∧ c = .int .u64 cc ∧ 0 ≤ cc ∧ cc ≤ 1 ∧ AddInv g k w (Nm.val zs - Nm.val (ys.take j)) j (-cc) os wr) (fun _ i _ => m - (intOf i).toNat)
    case atStart => exact ⟨0, 0, zs, Nat.zero_le _, rfl, rfl, by omega, by omega, I0⟩
    case round =>
      clear I0
      obtain ⟨j, cc, os, hj, rfl, rfl, hc0, hc1, I⟩ := hrel
      by_cases hlt : j < m
      · obtain ⟨x, hx, X⟩ : ∃ x, wr.cell? ⟨b, off + j, none⟩ = some (.int .u64 x) ∧ Hid (x = ys.getD j 0) :=
          ⟨_, (I.2.2.2.2.1.cell (p := ⟨b, off + j, none⟩) (hbg (by have := HM.out; omega))).trans (HC.out j (by have := HM.out; omega)), rfl⟩
        obtain ⟨y, hyc, Y⟩ : ∃ y, wr.cell? ⟨g, j, none⟩ = some (.int .u64 y) ∧ Hid (y = os.getD j 0) := ⟨_, I.1.cell j (by have := I.2.1; omega), rfl⟩
        have hfr := I.1.free j
        have hx0 := HY.out.at j
        rw [← X.out] at hx0
        obtain ⟨hx0, hx1⟩ := hx0
        have hy0 := I.2.2.1.at j
        rw [← Y.out] at hy0
        obtain ⟨hy0, hy1⟩ := hy0
        obtain ⟨s, c', hs, hc', E⟩ := sub_names y x cc hy0 hy1 hx0 hx1 hc0 hc1
        have hjk : (j : Int) < (k : Int) := by omega
        go_wp2_with (simp only [sub64' y x cc s c' hy0 hy1 hx0 hx1 hc0 hc1 hs hc' E.out])
        go_roundw
        case rel =>
          have hst := I.down (by omega) (x := -x) (s := s) (c' := -c') hs (by rw [← Y.out]; exact E.out)
          refine ⟨j + 1, c', os.set j s, by omega, by go_num, rfl, hc'.1, hc'.2, ?_⟩
          have e : Nm.val zs - Nm.val (ys.take (j + 1)) = Nm.val zs - Nm.val (ys.take j) + Nm.pw j * (-x) := by
            rw [Nm.val_take_succ ys j (by have := HM.out; omega), ← X.out, Int.mul_neg]
            omega
          rw [e]
          exact hst
        case measure => simp [intOf]; omega
      · have hjm : j = m := by omega
        subst hjm
        rw [List.take_of_length_le (by have := HM.out; omega)] at I
        go_wp2
        go_loopw [4, 7] (fun c i wr => ∃ (t : Nat) (cc : Int) (os : List Int), t ≤ k ∧ i = .int .i64 t ∧ c = .int .u64 cc ∧ 0 ≤ cc ∧ cc ≤ 1 ∧ AddInv g k w (Nm.val zs - Nm.val ys) t (-cc) os wr) (fun _ i _ => k - (intOf i).toNat)
        case atStart => exact ⟨j, cc, os, hmk, rfl, rfl, hc0, hc1, I⟩
        case round =>
          clear I hc0 hc1
          obtain ⟨t, cc, os, ht, rfl, rfl, hc0, hc1, I⟩ := hrel
          by_cases hz : cc = 0
          · subst hz
            have E : Wrote g k (Nm.val zs - Nm.val ys) w wr := ⟨os, I.1, I.2.1, I.2.2.1, by have := I.2.2.2.1; simp at this; omega, I.2.2.2.2.1, I.2.2.2.2.2⟩
            clear I
            go_wp2
            go_end0
            exact ⟨rfl, E⟩
          · have htk := I.stop HT.out (by omega)
            have htk' : (t : Int) < (k : Int) := by omega
            obtain ⟨y, hyc, Y⟩ : ∃ y, wr.cell? ⟨g, t, none⟩ = some (.int .u64 y) ∧ Hid (y = os.getD t 0) := ⟨_, I.1.cell t (by have := I.2.1; omega), rfl⟩
            have hfr := I.1.free t
            have hy0 := I.2.2.1.at t
            rw [← Y.out] at hy0
            obtain ⟨hy0, hy1⟩ := hy0
            obtain ⟨s, c', hs, hc', E⟩ := sub_names y 0 cc hy0 hy1 (by omega) (by omega) hc0 hc1
            go_wp2_with (simp only [sub64' y 0 cc s c' hy0 hy1 (Int.le_refl 0) (by decide) hc0 hc1 hs hc' E.out])
            go_roundw
            case rel =>
              have hst := I.down (by omega) (x := -0) (s := s) (c' := -c') hs (by rw [← Y.out]; exact E.out)
              rw [Int.neg_zero, Int.mul_zero, Int.add_zero] at hst
              exact ⟨t + 1, c', os.set t s, by omega, by go_num, rfl, hc'.1, hc'.2, hst⟩
            case measure => simp [intOf]; omega

theorem Arg.trim {w : World} {p : Option Addr} {n cap : Nat} {zs : List Int} (h : Arg w p n cap zs) : Arg w p (Nm.tsize zs) (Nm.tsize zs) (Nm.trim zs) :=
  ⟨Nm.trim_length zs, Nat.le_refl _, by have := h.tl; have := h.2.1; have := h.2.2.1; omega, h.2.2.2.1.trim, h.2.2.2.2.trim⟩

set_option maxHeartbeats 1000000 in
theorem sub_ok (p q : Option Addr) (n cap m cap' : Nat) (zs ys : List Int) (w : World) (ha : Arg w p n cap zs) (hb : Arg w q m cap' ys) (tz : Nm.tsize zs ≤ 4096) (hle : Nm.val ys ≤ Nm.val zs) :
    Calls Tryz.prog 90 #[.slice p n cap, .slice q m cap'] w fun e w' => ∃ r os, e = .returned (.tuple #[.slice r (List.length os) (List.length os), .int .i64 0]) ∧ Ans w.heap.size w' r os (Nm.val zs - Nm.val ys) ∧ Below w.heap.size w w' := by
  have hs : Nm.val zs < Nm.pw 4096 := (Nm.tsize_le_iff ha.2.2.2.2 4096).1 tz
  have y0 := (Nm.val_bd ys hb.2.2.2.2).1
  have ty : Nm.tsize ys ≤ 4096 := (Nm.tsize_le_iff hb.2.2.2.2 4096).2 (by omega)
  have tyz : Nm.tsize ys ≤ Nm.tsize zs := by
    have h1 := Nm.val_lt_tsize ha.2.2.2.2
    exact (Nm.tsize_le_iff hb.2.2.2.2 _).2 (by omega)
  have AT := hid ha.trim
  have BT := hid hb.trim
  obtain ⟨a1, a2, a3, a4, a5⟩ := ha
  obtain ⟨b1, b2, b3, b4, b5⟩ := hb
  obtain ⟨c, C⟩ : ∃ c, Hid (cmpI (Nm.val (Nm.trim zs)) (Nm.val (Nm.trim ys)) = c) := ⟨_, rfl⟩
  have hc : ¬ c < 0 := by
    rw [← C.out, Nm.val_trim, Nm.val_trim]
    unfold cmpI
    rw [if_neg (by omega)]
    split <;> omega
  have V : Hid (Nm.val (Nm.trim zs) - Nm.val (Nm.trim ys) = Nm.val zs - Nm.val ys) := by rw [Hid, Nm.val_trim, Nm.val_trim]
  have HS : Hid (0 ≤ Nm.val (Nm.trim zs) - Nm.val (Nm.trim ys) ∧ Nm.val (Nm.trim zs) - Nm.val (Nm.trim ys) < Nm.pw 4096) := by rw [Hid, Nm.val_trim, Nm.val_trim]; omega
  clear hs y0 hle
  go_enter Tryz.func90, Tryz.ntmps90
  go_wp2_with fail
  refine (pair_ok p q n cap m cap' zs ys _ a1 a2 (by omega) a4 tz b1 b2 (by omega) b4 ty).mono ?_
  rintro e w' ⟨rfl, rfl⟩
  go_wp2_with fail
  refine (cmp_is c p q _ _ _ _ (Nm.trim zs) (Nm.trim ys) _ AT.out BT.out C.out).mono ?_
  rintro e w1 ⟨rfl, hb1⟩
  have D1 := hid hb1
  clear hb1
  go_wp2_with fail
  refine (widened_any p (Nm.tsize zs) (Nm.tsize zs) 0 0 (Nm.trim zs) _ rfl (Nm.trim_length zs) (by omega) (AT.out.below D1.out (Nat.le_refl _)).2.2.2.1).mono ?_
  rintro e w2 ⟨rfl, ho, hb1, hz1⟩
  rw [List.replicate_zero, List.append_nil] at ho
  have HO := hid ho
  have D2 := hid hb1
  have S1 := hid D1.out.size
  clear ho hb1 hz1
  go_wp2_with fail
  refine (subFrom_any w1.heap.size (Nm.tsize zs) (Nm.trim zs) q (Nm.tsize ys) (Nm.tsize ys) (Nm.trim ys) _ (Nm.trim_length zs) (by omega) HO.out a5.trim (Nm.trim_length ys) tyz ((BT.out.below D1.out (Nat.le_refl _)).2.2.2.1.below D2.out (Nat.le_refl _)) b5.trim (fun h0 => (BT.out.below D1.out (Nat.le_refl _)).2.2.2.1.lt h0) HS.out.1).mono ?_
  rintro e w3 ⟨rfl, hw⟩
  obtain ⟨os, o1, o2, o3, o4, o5, o6⟩ := hw
  have HO3 := hid o1
  have O4 := hid o4
  have HB2 := hid o5
  clear o1 o4 o5 o6
  go_wp2_with fail
  refine (limited_own w1.heap.size (Nm.tsize zs) os _ o2 (by omega) HO3.out o3 w'.heap.size S1.out (by rw [O4.out]; exact HS.out.2)).mono ?_
  rintro e w4 ⟨r, xs, rfl, hans, rfl⟩
  rw [O4.out, V.out] at hans
  have HA := hid hans
  clear hans
  go_wp2_with fail
  go_ret2
  exact ⟨r, xs, rfl, HA.out, D1.out.trans ((D2.out.trans HB2.out).mono S1.out)⟩

set_option maxHeartbeats 1000000 in
theorem sub_below (p q : Option Addr) (n cap m cap' : Nat) (zs ys : List Int) (w : World) (ha : Arg w p n cap zs) (hb : Arg w q m cap' ys) (tz : Nm.tsize zs ≤ 4096) (ty : Nm.tsize ys ≤ 4096) (hlt : Nm.val zs < Nm.val ys) :
    Calls Tryz.prog 90 #[.slice p n cap, .slice q m cap'] w fun e w' => e = .returned (.tuple #[.slice none 0 0, .int .i64 10]) ∧ Below w.heap.size w w' := by
  have AT := hid ha.trim
  have BT := hid hb.trim
  obtain ⟨a1, a2, a3, a4, a5⟩ := ha
  obtain ⟨b1, b2, b3, b4, b5⟩ := hb
  have C := hid (cmpI_lt hlt)
  rw [← Nm.val_trim zs, ← Nm.val_trim ys] at C
  clear hlt
  go_enter Tryz.func90, Tryz.ntmps90
  go_wp2_with fail
  refine (pair_ok p q n cap m cap' zs ys _ a1 a2 (by omega) a4 tz b1 b2 (by omega) b4 ty).mono ?_
  rintro e w' ⟨rfl, rfl⟩
  go_wp2_with fail
  refine (cmp_is _ p q _ _ _ _ (Nm.trim zs) (Nm.trim ys) _ AT.out BT.out C.out).mono ?_
  rintro e w1 ⟨rfl, hb1⟩
  have D1 := hid hb1
  clear hb1
  go_wp2_with fail
  go_ret2
  exact ⟨rfl, D1.out⟩
end Go.Proofs.YtggiioipppbedaaGreatDoor
