/-
  Texts put together: QPow, QPowG, MPower, MPow, HAwake.
-/
import Derived.Test.YtnfomlkhkggjeaaGreatDoorNums
import Derived.Test.YtnfomlkhkggjeaaGreatDoorQAll
import Derived.Test.YtnfomlkhkggjeaaGreatDoorFromW
import Derived.Test.YtnfomlkhkggjeaaGreatDoorTrimW
import Derived.Test.YtnfomlkhkggjeaaGreatDoorMLft
import Derived.Test.YtnfomlkhkggjeaaGreatDoorBlenIs
import Derived.Test.YtnfomlkhkggjeaaGreatDoorMScale
import Derived.Test.YtnfomlkhkggjeaaGreatDoorIRatio
import Derived.Test.YtnfomlkhkggjeaaGreatDoorMRnd
namespace Go.Proofs.YtnfomlkhkggjeaaGreatDoor
open Go.RowKit Go.Deep

theorem len_any (x : Int) (l : Nat) (w : World) (h0 : 0 ≤ x) (h1 : x < 18446744073709551616) (hl : Lib.bitLen x.toNat = l) :
    Calls Tryz.prog 164 #[.int .u64 x] w fun e w' => e = .returned (.int .i64 (l : Int)) ∧ w' = w := by
  have L := len64 x w h0 h1
  rw [hl] at L
  have HL := hid L
  clear L hl
  go_enter Tryz.func164, Tryz.ntmps164
  go_wp2_with fail
  refine HL.out.mono ?_
  rintro e w' ⟨rfl, rfl⟩
  go_wp2_with fail
  go_ret
  exact ⟨rfl, rfl⟩

theorem one_bit_i64 (x : Nat) (h1 : x < 9223372036854775808) : bits .and .i64 (x : Int) 1 = ((x % 2 : Nat) : Int) := by
  have h : x &&& 1 = x % 2 := Nat.and_two_pow_sub_one_eq_mod x 1
  have e1 : (BitVec.ofInt 64 (x : Int)).toNat = x := by
    rw [BitVec.ofInt_natCast, BitVec.toNat_ofNat]; exact Nat.mod_eq_of_lt (by omega)
  have e2 : (BitVec.ofInt 64 (1 : Int)).toNat = 1 := by decide
  show IntKind.i64.wrap ((BitVec.ofInt 64 (x : Int) &&& BitVec.ofInt 64 (1 : Int)).toNat : Int) = _
  rw [BitVec.toNat_and, e1, e2, h]
  have : x % 2 < 2 := Nat.mod_lt _ (by omega)
  rw [IntKind.wrap_i64]
  omega

/-- The length of an exponent. -/
theorem exp_len (n : Nat) (h1 : 1 ≤ n) (h2 : n < 18446744073709551616) : ∃ j, Lib.bitLen n = j + 1 ∧ n / 2 ^ j = 1 ∧ j ≤ 63 := by
  have hb := Lib.bitLenAux_bounds 64 n (by simpa using h2) (by omega)
  rw [show Lib.bitLenAux 64 n = Lib.bitLen n from rfl] at hb
  have hs := bitLen_small n h2
  obtain ⟨j, hj⟩ : ∃ j, Lib.bitLen n = j + 1 := ⟨Lib.bitLen n - 1, by omega⟩
  rw [hj, Nat.add_sub_cancel] at hb
  refine ⟨j, hj, ?_, by omega⟩
  have p1 : 0 < 2 ^ j := Nat.pow_pos (by omega)
  rw [Nat.pow_succ] at hb
  exact Nat.div_eq_of_lt_le (by omega) (by omega)

set_option maxRecDepth 100000 in
set_option maxHeartbeats 2000000 in
theorem power_any (p : Option Addr) (m cap : Nat) (zs : List Int) (A : Int) (n : Nat) (w : World) (ha : Arg w p m cap zs) (tz : Nm.tsize zs ≤ 4096) (hA : Nm.val zs = A) (hA1 : 1 ≤ A) (h1 : 1 ≤ n) (h2 : n < 4611686018427387904) :
    Calls Tryz.prog 150 #[.slice p m cap, .int .i64 (n : Int)] w fun e w' => Gives (A ^ n) w e w' := by
  obtain ⟨j0, hj0, hj1, hj63⟩ := exp_len n h1 (by omega)
  have TR := hid (trim_any p m cap zs w ha)
  have HA := hid ha
  have HAs : Hid (A < Nm.pw 4096) := by show _ < _; rw [← hA]; exact (Nm.tsize_le_iff ha.2.2.2.2 4096).1 tz
  have HVA := hid hA
  have HT := hid tz
  have HA1 := hid hA1
  have HJ1 := hid hj1
  have hn0 : (0 : Int) ≤ (n : Int) := by omega
  have hn1 : (n : Int) < 4611686018427387904 := by omega
  have HL := hid hj0
  obtain ⟨l, hl⟩ : ∃ l, l = j0 + 1 := ⟨_, rfl⟩
  have rl : (l : Int) - 2 = (j0 : Int) - 1 := by omega
  have HLL := hid hl
  have hl64 : (l : Int) ≤ 64 := by omega
  have hl1 : (1 : Int) ≤ (l : Int) := by omega
  clear ha hA tz hA1 hj0 hj1 hl h1 h2
  go_enter Tryz.func150, Tryz.ntmps150
  go_wp2_with fail
  refine TR.out.mono ?_
  rintro e w1 ⟨r, os, rfl, -, A1, hb1⟩
  rw [HVA.out] at A1
  have HB1 := hid A1
  have D1 := hid hb1
  clear A1 hb1 TR
  go_wp2_with fail
  refine (len_any (n : Int) l _ hn0 (by omega) (by rw [Int.toNat_natCast, HL.out, HLL.out])).mono ?_
  rintro e w2 ⟨rfl, rfl⟩
  go_wp2_with fail
  go_loopw [6, 7] (fun o i wr => ∃ (j : Nat) (r : Option Addr) (os : List Int), j ≤ j0 ∧ i = .int .i64 ((j : Int) - 1) ∧ o = .slice r (List.length os) (List.length os) ∧ Hid (Ans w.heap.size wr r os (A ^ (n / 2 ^ j))) ∧ Hid (A ^ (n / 2 ^ j) < Nm.pw 4096) ∧ Hid (Below w.heap.size w wr)) (fun _ i _ => (intOf i + 1).toNat)
  case atStart => exact ⟨j0, r, os, Nat.le_refl _, by first | rfl | rw [rl], rfl, by rw [HJ1.out, Int.pow_succ, Int.pow_zero, Int.one_mul]; exact HB1.out, by rw [HJ1.out, Int.pow_succ, Int.pow_zero, Int.one_mul]; exact HAs.out, D1.out⟩
  case round =>
    clear HB1 D1 rl
    obtain ⟨j, r, os, hj, rfl, rfl, HO, HS, D⟩ := hrel
    by_cases hj0' : j = 0
    · subst hj0'
      have F : Hid (Gives (A ^ n) w (.returned (.tuple #[.slice r (List.length os) (List.length os), .int .i64 0])) wr) := by
        have h1 := HO.out
        have h2 := HS.out
        rw [Nat.pow_zero, Nat.div_one] at h1 h2
        exact ⟨.inl ⟨h2, r, os, rfl, h1⟩, D.out⟩
      go_wp2_with fail
      go_ret2
      exact F.out
    · obtain ⟨t, rfl⟩ : ∃ t, j = t + 1 := ⟨j - 1, by omega⟩
      have MU := hid (mul_gives r r _ _ _ _ os os (A ^ (n / 2 ^ (t + 1)) * A ^ (n / 2 ^ (t + 1))) wr (HO.out.argT HS.out) (HO.out.argT HS.out) (HO.out.tsT HS.out) (HO.out.tsT HS.out) (by rw [HO.out.2.2.2.1]))
      go_wp2_with fail
      refine MU.out.mono ?_
      rintro e w3 ⟨h | h, hb3⟩
      · obtain ⟨hs3, s, ss, rfl, A3⟩ := h
        have HB3 := hid (A3.upT (B' := w.heap.size) D.out.size)
        have HS3 := hid hs3
        have D3 := hid (chain D.out hb3 (Nat.le_refl _))
        obtain ⟨x, hx⟩ : ∃ x, n / 2 ^ t = x := ⟨_, rfl⟩
        have hx63 : x < 9223372036854775808 := by have : n / 2 ^ t ≤ n := Nat.div_le_self _ _; omega
        have r1 : (n : Int) / 2 ^ t = (x : Int) := by rw [← hx]; simp
        have r2 := one_bit_i64 x hx63
        have HX := hid hx
        clear hs3 A3 hb3 hx
        rcases (show x % 2 = 0 ∨ x % 2 = 1 by omega) with hb | hb
        · rw [hb] at r2
          have HE := hid (Pn.square A n t (by rw [HX.out]; exact hb))
          rw [HE.out] at HB3 HS3
          clear hb
          go_wp2_with fail
          go_roundw
          case rel => exact ⟨t, s, ss, by omega, by go_num, rfl, HB3, HS3, D3⟩
          case measure => simp [intOf]
        · rw [hb] at r2
          have HE := hid (Pn.square_odd A n t (by rw [HX.out]; exact hb))
          have HA3 := hid (HA.out.below D3.out (Nat.le_refl _))
          have MU2 := hid (mul_gives s p _ _ m cap ss zs (A ^ (n / 2 ^ t)) w3 (HB3.out.argT HS3.out) HA3.out (HB3.out.tsT HS3.out) HT.out (by rw [HB3.out.2.2.2.1, HVA.out]; exact HE.out))
          clear hb
          go_wp2_with fail
          refine MU2.out.mono ?_
          rintro e w4 ⟨h | h, hb4⟩
          · obtain ⟨hs4, s4, ss4, rfl, A4⟩ := h
            have HB4 := hid (A4.upT (B' := w.heap.size) D3.out.size)
            have HS4 := hid hs4
            have D4 := hid (chain D3.out hb4 (Nat.le_refl _))
            clear hs4 A4 hb4
            go_wp2_with fail
            go_roundw
            case rel => exact ⟨t, s4, ss4, by omega, by go_num, rfl, HB4, HS4, D4⟩
            case measure => simp [intOf]
          · obtain ⟨hs4, rfl⟩ := h
            have F : Hid (Gives (A ^ n) w (.returned (.tuple #[.slice none 0 0, .int .i64 2])) w4) :=
              ⟨.inr ⟨Int.le_trans hs4 (Pn.part_le HA1.out n t), rfl⟩, chain D3.out hb4 (Nat.le_refl _)⟩
            clear hs4 hb4
            go_wp2_with fail
            go_ret2
            exact F.out
      · obtain ⟨hs3, rfl⟩ := h
        have F : Hid (Gives (A ^ n) w (.returned (.tuple #[.slice none 0 0, .int .i64 2])) w3) :=
          ⟨.inr ⟨Int.le_trans hs3 (Pn.square_le HA1.out n t), rfl⟩, chain D.out hb3 (Nat.le_refl _)⟩
        clear hs3 hb3
        go_wp2_with fail
        go_ret2
        exact F.out
end Go.Proofs.YtnfomlkhkggjeaaGreatDoor

namespace Go.Proofs.YtnfomlkhkggjeaaGreatDoor
open Go.RowKit Go.Deep

theorem pow_big (p : Option Addr) (m cap : Nat) (zs : List Int) (k : Int) (w : World) (ha : Arg w p m cap zs) (tz : 4096 < Nm.tsize zs) :
    Calls Tryz.prog 114 #[.slice p m cap, .int .i64 k] w fun e w' => e = .returned (.tuple #[.slice none 0 0, .int .i64 2]) ∧ w' = w := by
  obtain ⟨L, l1, _, _, _⟩ := blen_is zs ha.2.2.2.2
  obtain ⟨N, HN⟩ : ∃ N, Hid (Nm.tsize zs = N) := ⟨_, rfl⟩
  have hN : (4096 : Int) < (N : Int) := by have := HN.out; omega
  have HB := hid (bitLen_isT L p m cap zs w ha l1)
  have HL := hid (limbs_isT p m cap zs N w ha HN.out)
  clear ha tz l1
  go_enter Tryz.func114, Tryz.ntmps114
  go_wp2_with fail
  refine HB.out.mono ?_
  rintro e w' ⟨rfl, rfl⟩
  go_wp2_with fail
  refine HL.out.mono ?_
  rintro e w' ⟨rfl, rfl⟩
  go_wp2_with fail
  go_ret2
  exact ⟨rfl, rfl⟩

theorem pow_neg (p : Option Addr) (m cap : Nat) (zs : List Int) (k : Int) (w : World) (ha : Arg w p m cap zs) (tz : Nm.tsize zs ≤ 4096) (hk : k < 0) :
    Calls Tryz.prog 114 #[.slice p m cap, .int .i64 k] w fun e w' => e = .returned (.tuple #[.slice none 0 0, .int .i64 1]) ∧ w' = w := by
  obtain ⟨L, l1, _, _, _⟩ := blen_is zs ha.2.2.2.2
  obtain ⟨N, HN⟩ : ∃ N, Hid (Nm.tsize zs = N) := ⟨_, rfl⟩
  have hN : (N : Int) ≤ 4096 := by have := HN.out; omega
  have HB := hid (bitLen_isT L p m cap zs w ha l1)
  have HL := hid (limbs_isT p m cap zs N w ha HN.out)
  clear ha tz l1
  go_enter Tryz.func114, Tryz.ntmps114
  go_wp2_with fail
  refine HB.out.mono ?_
  rintro e w' ⟨rfl, rfl⟩
  go_wp2_with fail
  refine HL.out.mono ?_
  rintro e w' ⟨rfl, rfl⟩
  go_wp2_with fail
  go_ret2
  exact ⟨rfl, rfl⟩

theorem one_lt_pw : (1 : Int) < Nm.pw 4096 := by
  have h := Nm.pw_mono (show 1 ≤ 4096 by omega)
  have e : Nm.pw 1 = 18446744073709551616 := by simp [Nm.pw]
  rw [e] at h
  generalize Nm.pw 4096 = x at *
  omega

set_option maxRecDepth 100000 in
set_option maxHeartbeats 1000000 in
theorem pow_gives (p : Option Addr) (m cap : Nat) (zs : List Int) (A k : Int) (n : Nat) (w : World) (ha : Arg w p m cap zs) (tz : Nm.tsize zs ≤ 4096) (hA : Nm.val zs = A) (hk : k = (n : Int)) (hk1 : k ≤ 9223372036854775807) :
    Calls Tryz.prog 114 #[.slice p m cap, .int .i64 k] w fun e w' => Gives (A ^ n) w e w' := by
  obtain ⟨L, l1, l2, l3, _⟩ := blen_is zs ha.2.2.2.2
  obtain ⟨N, HN⟩ : ∃ N, Hid (Nm.tsize zs = N) := ⟨_, rfl⟩
  have hN : (N : Int) ≤ 4096 := by have := HN.out; omega
  have HB := hid (bitLen_isT L p m cap zs w ha l1)
  have HL := hid (limbs_isT p m cap zs N w ha HN.out)
  have hL : (L : Int) ≤ 262144 := by omega
  have A0 := (Nm.val_bd zs ha.2.2.2.2).1
  rw [hA] at A0 l2
  have HAs : Hid (A < Nm.pw 4096) := by show _ < _; rw [← hA]; exact (Nm.tsize_le_iff ha.2.2.2.2 4096).1 tz
  have HA := hid ha
  have HT := hid tz
  have HVA := hid hA
  have HL2 := hid l2
  clear ha tz l1 l2 l3 hA
  subst hk
  by_cases h0 : n = 0
  · subst h0
    have F := hid (fromUint_any 1 w (by omega) (by omega))
    go_enter Tryz.func114, Tryz.ntmps114
    go_wp2_with fail
    refine HB.out.mono ?_
    rintro e w' ⟨rfl, rfl⟩
    go_wp2_with fail
    refine HL.out.mono ?_
    rintro e w' ⟨rfl, rfl⟩
    go_wp2_with fail
    refine F.out.mono ?_
    rintro e w1 ⟨r, os, rfl, A1, hb1⟩
    have G : Hid (Gives (A ^ 0) w' (.returned (.tuple #[.slice r (List.length os) (List.length os), .int .i64 0])) w1) :=
      ⟨.inl ⟨by rw [Int.pow_zero]; exact one_lt_pw, r, os, rfl, by rw [Int.pow_zero]; exact A1⟩, hb1⟩
    clear A1 hb1
    go_wp2_with fail
    go_ret2
    exact G.out
  have hn0 : ((n : Int) == 0) = false := by rw [beq_eq_false_iff_ne]; omega
  by_cases hL2 : L < 2
  · have hL2' : (L : Int) < 2 := by omega
    have E : Hid (A ^ n = A) := by
      have h := HL2.out.1
      have hA2 : A < 2 := by
        have := Nm.two_mono (show L ≤ 1 by omega)
        omega
      show _ = _
      obtain ⟨n', rfl⟩ : ∃ n', n = n' + 1 := ⟨n - 1, by omega⟩
      rcases (show A = 0 ∨ A = 1 by omega) with rfl | rfl
      · rw [Int.pow_succ, Int.mul_zero]
      · rw [Int.one_pow]
    have TR := hid (trim_any p m cap zs w HA.out)
    go_enter Tryz.func114, Tryz.ntmps114
    go_wp2_with fail
    refine HB.out.mono ?_
    rintro e w' ⟨rfl, rfl⟩
    go_wp2_with fail
    refine HL.out.mono ?_
    rintro e w' ⟨rfl, rfl⟩
    go_wp2_with fail
    refine TR.out.mono ?_
    rintro e w1 ⟨r, os, rfl, -, A1, hb1⟩
    rw [HVA.out] at A1
    have G : Hid (Gives (A ^ n) w' (.returned (.tuple #[.slice r (List.length os) (List.length os), .int .i64 0])) w1) := by
      rw [E.out]
      exact ⟨.inl ⟨HAs.out, r, os, rfl, A1⟩, hb1⟩
    clear A1 hb1
    go_wp2_with fail
    go_ret2
    exact G.out
  have hL2' : (2 : Int) ≤ (L : Int) := by omega
  have hA2 : Hid (2 ^ (L - 1) ≤ A) := by
    have h1 := HL2.out.2.2
    have h2 : 0 < A := by
      rcases (show A = 0 ∨ 0 < A by omega) with h | h
      · have := HL2.out.2.1 h; omega
      · exact h
    exact (h1 h2).2
  have hA1 : Hid (1 ≤ A) := by
    have := Nm.two_pos (L - 1)
    have := hA2.out
    show _ ≤ _
    omega
  obtain ⟨c, hc⟩ : ∃ c, 262143 / ((L : Int) - 1) = c := ⟨_, rfl⟩
  have d1 := Int.emod_add_mul_ediv 262143 ((L : Int) - 1)
  have d2 := Int.emod_nonneg 262143 (show (L : Int) - 1 ≠ 0 by omega)
  have d3 := Int.emod_lt_of_pos 262143 (show 0 < (L : Int) - 1 by omega)
  have d4 : 0 ≤ c := by rw [← hc]; exact Int.ediv_nonneg (by omega) (by omega)
  rw [hc] at d1
  have hc2 : (262143 : Int).tdiv ((L : Int) - 1) = c := by rw [Int.tdiv_eq_ediv_of_nonneg (by omega)]; exact hc
  have hz : (((L : Int) - 1) == 0) = false := by rw [beq_eq_false_iff_ne]; omega
  have hc3 : c ≤ 262143 := by
    have e1 : 1 * c ≤ ((L : Int) - 1) * c := Int.mul_le_mul_of_nonneg_right (by omega) d4
    omega
  by_cases hb : c < (n : Int)
  · have G : Hid (Gives (A ^ n) w (.returned (.tuple #[.slice none 0 0, .int .i64 2])) w) := by
      refine ⟨.inr ⟨Pn.early hA2.out ?_, rfl⟩, Below.refl _ _⟩
      have e1 : ((L : Int) - 1) * (c + 1) ≤ ((L : Int) - 1) * (n : Int) := Int.mul_le_mul_of_nonneg_left (by omega) (by omega)
      rw [Int.mul_add, Int.mul_one] at e1
      have e2 : (((L - 1) * n : Nat) : Int) = ((L : Int) - 1) * (n : Int) := by rw [Int.natCast_mul, show ((L - 1 : Nat) : Int) = (L : Int) - 1 by omega]
      omega
    clear d1 d2 d3
    go_enter Tryz.func114, Tryz.ntmps114
    go_wp2_with fail
    refine HB.out.mono ?_
    rintro e w' ⟨rfl, rfl⟩
    go_wp2_with fail
    refine HL.out.mono ?_
    rintro e w' ⟨rfl, rfl⟩
    go_wp2_with fail
    go_ret2
    exact G.out
  · have hb' : (n : Int) ≤ c := by omega
    have P := hid (power_any p m cap zs A n w HA.out HT.out HVA.out hA1.out (by omega) (by omega))
    clear d1 d2 d3 hb
    go_enter Tryz.func114, Tryz.ntmps114
    go_wp2_with fail
    refine HB.out.mono ?_
    rintro e w' ⟨rfl, rfl⟩
    go_wp2_with fail
    refine HL.out.mono ?_
    rintro e w' ⟨rfl, rfl⟩
    go_wp2_with fail
    refine P.out.mono ?_
    rintro e w1 ⟨h | h, hb1⟩
    · obtain ⟨h1, r, os, rfl, A1⟩ := h
      have G : Hid (Gives (A ^ n) w' (.returned (.tuple #[.slice r (List.length os) (List.length os), .int .i64 0])) w1) := ⟨.inl ⟨h1, r, os, rfl, A1⟩, hb1⟩
      clear h1 A1 hb1
      go_wp2_with fail
      go_ret2
      exact G.out
    · obtain ⟨h1, rfl⟩ := h
      have G : Hid (Gives (A ^ n) w' (.returned (.tuple #[.slice none 0 0, .int .i64 2])) w1) := ⟨.inr ⟨h1, rfl⟩, hb1⟩
      clear h1 hb1
      go_wp2_with fail
      go_ret2
      exact G.out
end Go.Proofs.YtnfomlkhkggjeaaGreatDoor

/-
  remain: size, Power (made by mkmpower.py).
-/
namespace Go.Proofs.YtnfomlkhkggjeaaGreatDoor
open Go Go.RowKit Go.Deep

theorem Ie.pw_54272 : (2 : Int) ^ 54272 < Nm.pw 4095 := by
  rw [Nm.pw_two 4095]
  have h1 := Nm.two_mono (show 54272 + 1 ≤ 64 * 4095 by omega)
  have h2 := Nm.two_succ 54272
  have h3 := Nm.two_pos 54272
  omega

theorem Ie.odd_part {m j : Int} {t : Nat} (h : m = 2 ^ t * (2 * j + 1)) (m0 : 0 < m) (m1 : m < 9007199254740992) : ∃ o, m = o * 2 ^ t ∧ 0 < o ∧ o < 9007199254740992 ∧ m / 2 ^ t = o := by
  have hp := Nm.two_pos t
  refine ⟨2 * j + 1, by rw [h, Int.mul_comm], ?_, ?_, ?_⟩
  · exact Int.pos_of_mul_pos_right (by omega) hp |> fun x => x
  · have : 1 * (2 * j + 1) ≤ 2 ^ t * (2 * j + 1) := by
      refine Int.mul_le_mul_of_nonneg_right (by omega) ?_
      rcases (show 0 ≤ 2 * j + 1 ∨ 2 * j + 1 < 0 by omega) with g | g
      · exact g
      · have := Int.mul_neg_of_pos_of_neg hp g; omega
    omega
  · rw [h, Int.mul_ediv_cancel_left _ (by omega)]

theorem Ie.exp_bd {x n : Int} {t : Nat} (e0 : -1074 ≤ x) (e1 : x ≤ 971) (ht : t ≤ 63) (n0 : -1024 ≤ n) (n1 : n ≤ 1024) : -2000000 ≤ (x + (t : Int)) * n ∧ (x + (t : Int)) * n ≤ 2000000 := by
  rcases (show 0 ≤ n ∨ n < 0 by omega) with h | h
  · have a1 : (x + (t : Int)) * n ≤ 1034 * n := Int.mul_le_mul_of_nonneg_right (by omega) h
    have a2 : -1074 * n ≤ (x + (t : Int)) * n := Int.mul_le_mul_of_nonneg_right (by omega) h
    omega
  · have a1 : (x + (t : Int)) * -n ≤ 1034 * -n := Int.mul_le_mul_of_nonneg_right (by omega) (by omega)
    have a2 : -1074 * -n ≤ (x + (t : Int)) * -n := Int.mul_le_mul_of_nonneg_right (by omega) (by omega)
    simp only [Int.mul_neg] at a1 a2
    omega

set_option maxRecDepth 100000 in
set_option maxHeartbeats 8000000 in
theorem size_pos (d n : Int) (k : Nat) (w : World) (hT : Tab w) (h0 : 0 ≤ d) (h1 : d < 18446744073709551616) (hf : Ie.fin d) (hz : Ie.ab d ≠ 0) (hn : 0 < n) (hk : n = (k : Int)) (k1 : k ≤ 1024) :
    Calls Tryz.prog 62 #[.int .u64 d, .int .i64 n] w fun e w' => ∃ x, e = .returned (.int .u64 x) ∧ Hid (Ie.PowIs (Ie.dm d) (Ie.de d) n x) ∧ Below w.heap.size w w' := by
  have NI := hid (fun (wx : World) => minfinite_any d wx h0 h1)
  have NZ := hid (fun (wx : World) => mzero_any d wx h0 h1)
  rw [(Ie.fin_kinds hf).2] at NI
  have z0 : Ie.isz d = false := by rw [Ie.isz, decide_eq_false_iff_not]; exact hz
  rw [z0] at NZ
  have D := hid (fun (wx : World) => decode_any d wx h0 h1)
  rw [← Ie.ngd] at D
  obtain ⟨⟨m0, m1⟩, ⟨e0, e1⟩, -, m2⟩ := Ie.dec_f d hf
  have mp : 0 < Ie.dm d := by have := fun g => hz (m2.1 g); omega
  have HT := hid hT
  have mx : max n (-n) = (k : Int) := by omega
  have nb : -1024 ≤ n ∧ n ≤ 1024 := by omega
  clear m0 m2 z0 hz hf hT
  simp only [partsOf] at D
  generalize Ie.dm d = m at *
  generalize Ie.de d = x at *
  generalize Ie.ngd d = neg at *
  generalize Ie.cls d = c at *
  have TZ := hid (fun (wx : World) (hx : Tab wx) => tz64 m wx mp (by omega) hx)
  have OD := hid (fun (t : Nat) (j : Int) (h : m = 2 ^ t * (2 * j + 1)) => Ie.odd_part h mp m1)
  have EB := hid (fun (t : Nat) (ht : t ≤ 63) => Ie.exp_bd (n := n) e0 e1 ht nb.1 nb.2)
  have FU : Hid (∀ (wx : World) (o : Int), 0 < o → o < 9007199254740992 → Calls Tryz.prog 45 #[.int .u64 o] wx fun e w' => ∃ r os, e = .returned (.slice r (List.length os) (List.length os)) ∧ Ans wx.heap.size w' r os o ∧ Below wx.heap.size wx w') := fun wx o o0 o1 => fromUint_any o wx (by omega) (by omega)
  have PO : Hid (∀ (wx : World) (o : Int) (p : Option Addr) (os : List Int) (B : Nat), 0 < o → o < 9007199254740992 → Ans B wx p os o → Calls Tryz.prog 114 #[.slice p os.length os.length, .int .i64 (k : Int)] wx fun e w' => ∃ r os, e = .returned (.tuple #[.slice r (List.length os) (List.length os), .int .i64 0]) ∧ Ans wx.heap.size w' r os (o ^ k) ∧ Below wx.heap.size wx w') := by
    intro wx o p os B o0 o1 A
    have l1 := A.lim1 (by omega)
    refine (pow_gives p _ _ os o (k : Int) k wx (A.arg (by omega)) (by rw [A.2.2.1]; omega) A.2.2.2.1 rfl (by omega)).mono ?_
    rintro e w' ⟨h | h, hB⟩
    · obtain ⟨_, r, os, rfl, A'⟩ := h
      exact ⟨r, os, rfl, A', hB⟩
    · exfalso
      have g := (Ie.pow_bd o0 o1 k1).2
      have g1 := Ie.pw_54272
      have g2 := Nm.pw_mono (show 4095 ≤ 4096 by omega)
      have := h.1
      omega
  have RO : Hid (∀ (wx : World) (t : Nat) (o E : Int) (p : Option Addr) (os : List Int) (B : Nat), 0 < o → o < 9007199254740992 → m = o * 2 ^ t → (x + (t : Int)) * n = E → Tab wx → Ans B wx p os (o ^ k) → Calls Tryz.prog 44 #[.bool false, .slice p os.length os.length, .int .i64 E, .bool false] wx fun r w' => ∃ y, r = .returned (.tuple #[.int .u64 y, .int .i64 0]) ∧ Hid (Ie.PowIs m x n y) ∧ Below wx.heap.size wx w') := by
    intro wx t o E p os B o0 o1 hm hE hx A
    have bd := Ie.pow_bd o0 o1 k1
    have g1 := Ie.pw_54272
    have g2 := Nm.pw_mono (show 4095 ≤ 4096 by omega)
    have l1 := A.tsT (by omega)
    have l2 := A.2.2.1
    refine (round_any false p _ _ os wx (A.arg (by omega)) hx l1 (o ^ k) E false A.2.2.2.1).mono ?_
    rintro e w' ⟨y, rfl, hR, hB⟩
    refine ⟨y, rfl, ?_, hB⟩
    refine Ie.PowIs.mk hm (by omega) (fun j hj => ?_) (fun j hj => ?_)
    · obtain rfl : j = k := by omega
      rw [hE]; exact hR
    · omega
  have xb : -1074 ≤ x ∧ x ≤ 971 := ⟨e0, e1⟩
  obtain ⟨xb1, xb2⟩ := xb
  obtain ⟨nb1, nb2⟩ := nb
  have kb : (k : Int) ≤ 1024 := by omega
  clear hk e0 e1 k1
  go_enter Tryz.func62, Tryz.ntmps62
  go_wp2_with fail
  refine (NZ.out _).mono ?_
  rintro e wz ⟨rfl, hz⟩
  replace hz := hz.symm
  subst hz
  go_wp2_with fail
  refine (NI.out _).mono ?_
  rintro e wz ⟨rfl, hz⟩
  replace hz := hz.symm
  subst hz
  go_wp2_with fail
  refine (NZ.out _).mono ?_
  rintro e wz ⟨rfl, hz⟩
  replace hz := hz.symm
  subst hz
  go_wp2_with fail
  refine (NI.out _).mono ?_
  rintro e wz ⟨rfl, hz⟩
  replace hz := hz.symm
  subst hz
  go_wp2_with fail
  refine (D.out _).mono ?_
  rintro e w1 ⟨rfl, hB1⟩
  have K := hid ((((Stays.cell ⟨w1.heap.size, 2, none⟩ (.int .u64 m)).and (Stays.cell ⟨w1.heap.size, 3, none⟩ (.int .i64 x))).and Stays.tab))
  have HB1 := hid hB1
  clear hB1 NZ NI D
  go_upto_region 6 with fail
  have hb := HB1.out.trans ((alloc_b w1 (.cells #[.bool neg, .int .i64 c, .int .u64 m, .int .i64 x] 47)).mono HB1.out.size)
  have P := Row4.new w1 47 (.bool neg) (.int .i64 c) (.int .u64 m) (.int .i64 x)
  have S0 := hid (St.mk (w := w) (S := fun w' => (w'.cell? ⟨w1.heap.size, 2, none⟩ = some (.int .u64 m) ∧ w'.cell? ⟨w1.heap.size, 3, none⟩ = some (.int .i64 x)) ∧ Tab w') ⟨⟨P.cells.1.2.2.1, P.cells.1.2.2.2⟩, HT.out.below hb⟩ hb)
  clear P hb HT HB1
  generalize w1.alloc (.cells #[.bool neg, .int .i64 c, .int .u64 m, .int .i64 x] 47) = wA at *
  generalize w1.heap.size = b at *
  have TZ1 := hid (TZ.out wA S0.out.cells.2)
  obtain ⟨p2, p3⟩ := S0.out.cells.1
  clear TZ
  go_wp2_with fail
  refine TZ1.out.mono ?_
  rintro e wz ⟨t, j, rfl, ht, hm, hz⟩
  replace hz := hz.symm
  subst hz
  obtain ⟨o, hm2, o0, o1, SM⟩ := OD.out t j hm.out
  have HM := hid hm2
  have TB : (t : Int) ≤ 63 := by omega
  clear TZ1 OD hm hm2
  have FU1 := hid (FU.out wA o o0 o1)
  go_wp2_with fail
  refine FU1.out.mono ?_
  rintro e w2 ⟨p4, o4, rfl, A, hB⟩
  have S2 := hid (S0.out.on K.out hB)
  have PO1 := hid (PO.out w2 o p4 o4 _ o0 o1 A)
  clear p2 p3 hB A S0 FU FU1 PO
  go_wp2_with fail
  refine PO1.out.mono ?_
  rintro e w3 ⟨p5, o5, rfl, A, hB⟩
  have S3 := hid (S2.out.on K.out hB)
  have HA := hid A
  obtain ⟨E, hE⟩ : ∃ E, (x + (t : Int)) * n = E := ⟨_, rfl⟩
  have eb := EB.out t ht
  rw [hE] at eb
  obtain ⟨eb1, eb2⟩ := eb
  obtain ⟨p2, p3⟩ := S3.out.cells.1
  have RO1 := hid (RO.out w3 t o E p5 o5 _ o0 o1 HM.out hE S3.out.cells.2 HA.out)
  clear hB A S2 PO1 HA RO SM mx
  go_wp2_with fail
  refine RO1.out.mono ?_
  rintro e w4 ⟨y, rfl, hR, hB⟩
  have S4 := hid (S3.out.on K.out hB)
  clear hB p2 p3
  go_wp2_with fail
  go_ret
  exact ⟨_, rfl, hR, S4.out.bel⟩

set_option maxRecDepth 100000 in
set_option maxHeartbeats 8000000 in
theorem size_neg (d n : Int) (k : Nat) (w : World) (hT : Tab w) (h0 : 0 ≤ d) (h1 : d < 18446744073709551616) (hf : Ie.fin d) (hz : Ie.ab d ≠ 0) (hn : n < 0) (hk : -n = (k : Int)) (k1 : k ≤ 1024) :
    Calls Tryz.prog 62 #[.int .u64 d, .int .i64 n] w fun e w' => ∃ x, e = .returned (.int .u64 x) ∧ Hid (Ie.PowIs (Ie.dm d) (Ie.de d) n x) ∧ Below w.heap.size w w' := by
  have NI := hid (fun (wx : World) => minfinite_any d wx h0 h1)
  have NZ := hid (fun (wx : World) => mzero_any d wx h0 h1)
  rw [(Ie.fin_kinds hf).2] at NI
  have z0 : Ie.isz d = false := by rw [Ie.isz, decide_eq_false_iff_not]; exact hz
  rw [z0] at NZ
  have D := hid (fun (wx : World) => decode_any d wx h0 h1)
  rw [← Ie.ngd] at D
  obtain ⟨⟨m0, m1⟩, ⟨e0, e1⟩, -, m2⟩ := Ie.dec_f d hf
  have mp : 0 < Ie.dm d := by have := fun g => hz (m2.1 g); omega
  have HT := hid hT
  have mx : max n (-n) = (k : Int) := by omega
  have nb : -1024 ≤ n ∧ n ≤ 1024 := by omega
  clear m0 m2 z0 hz hf hT
  simp only [partsOf] at D
  generalize Ie.dm d = m at *
  generalize Ie.de d = x at *
  generalize Ie.ngd d = neg at *
  generalize Ie.cls d = c at *
  have TZ := hid (fun (wx : World) (hx : Tab wx) => tz64 m wx mp (by omega) hx)
  have OD := hid (fun (t : Nat) (j : Int) (h : m = 2 ^ t * (2 * j + 1)) => Ie.odd_part h mp m1)
  have EB := hid (fun (t : Nat) (ht : t ≤ 63) => Ie.exp_bd (n := n) e0 e1 ht nb.1 nb.2)
  have FU : Hid (∀ (wx : World) (o : Int), 0 < o → o < 9007199254740992 → Calls Tryz.prog 45 #[.int .u64 o] wx fun e w' => ∃ r os, e = .returned (.slice r (List.length os) (List.length os)) ∧ Ans wx.heap.size w' r os o ∧ Below wx.heap.size wx w') := fun wx o o0 o1 => fromUint_any o wx (by omega) (by omega)
  have PO : Hid (∀ (wx : World) (o : Int) (p : Option Addr) (os : List Int) (B : Nat), 0 < o → o < 9007199254740992 → Ans B wx p os o → Calls Tryz.prog 114 #[.slice p os.length os.length, .int .i64 (k : Int)] wx fun e w' => ∃ r os, e = .returned (.tuple #[.slice r (List.length os) (List.length os), .int .i64 0]) ∧ Ans wx.heap.size w' r os (o ^ k) ∧ Below wx.heap.size wx w') := by
    intro wx o p os B o0 o1 A
    have l1 := A.lim1 (by omega)
    refine (pow_gives p _ _ os o (k : Int) k wx (A.arg (by omega)) (by rw [A.2.2.1]; omega) A.2.2.2.1 rfl (by omega)).mono ?_
    rintro e w' ⟨h | h, hB⟩
    · obtain ⟨_, r, os, rfl, A'⟩ := h
      exact ⟨r, os, rfl, A', hB⟩
    · exfalso
      have g := (Ie.pow_bd o0 o1 k1).2
      have g1 := Ie.pw_54272
      have g2 := Nm.pw_mono (show 4095 ≤ 4096 by omega)
      have := h.1
      omega
  have F1 := hid (fun (wx : World) => fromUint_any 1 wx (by omega) (by omega))
  have RO : Hid (∀ (wx : World) (t : Nat) (o E : Int) (p q : Option Addr) (os qs : List Int) (B B' : Nat), 0 < o → o < 9007199254740992 → m = o * 2 ^ t → (x + (t : Int)) * n = E → Tab wx → Ans B wx p os (o ^ k) → Ans B' wx q qs 1 → Calls Tryz.prog 115 #[.bool false, .slice q qs.length qs.length, .slice p os.length os.length, .int .i64 E] wx fun r w' => ∃ y, r = .returned (.tuple #[.int .u64 y, .int .i64 0]) ∧ Hid (Ie.PowIs m x n y) ∧ Below wx.heap.size wx w') := by
    intro wx t o E p q os qs B B' o0 o1 hm hE hx A A1
    have bd := Ie.pow_bd o0 o1 k1
    have g1 := Ie.pw_54272
    have g2 := Nm.pw_mono (show 4095 ≤ 4096 by omega)
    have l1 : os.length ≤ 4095 := ans_small A 4095 (by omega)
    have l2 := A.2.2.1
    have l3 := A1.lim1 (by omega)
    refine (roundRatio_any false q p _ _ _ _ qs os wx (A1.arg (by omega)) (A.arg (by omega)) hx (by rw [A1.2.2.1]; omega) (by omega) 1 (o ^ k) E A1.2.2.2.1 A.2.2.2.1 bd.1).mono ?_
    rintro e w' ⟨y, rfl, hR, hB⟩
    refine ⟨y, rfl, ?_, hB⟩
    refine Ie.PowIs.mk hm (by omega) (fun j hj => ?_) (fun j hj => ?_)
    · omega
    · obtain rfl : j = k := by omega
      rw [hE]; exact hR
  have xb : -1074 ≤ x ∧ x ≤ 971 := ⟨e0, e1⟩
  obtain ⟨xb1, xb2⟩ := xb
  obtain ⟨nb1, nb2⟩ := nb
  have kb : (k : Int) ≤ 1024 := by omega
  clear hk e0 e1 k1
  go_enter Tryz.func62, Tryz.ntmps62
  go_wp2_with fail
  refine (NZ.out _).mono ?_
  rintro e wz ⟨rfl, hz⟩
  replace hz := hz.symm
  subst hz
  go_wp2_with fail
  refine (NI.out _).mono ?_
  rintro e wz ⟨rfl, hz⟩
  replace hz := hz.symm
  subst hz
  go_wp2_with fail
  refine (NZ.out _).mono ?_
  rintro e wz ⟨rfl, hz⟩
  replace hz := hz.symm
  subst hz
  go_wp2_with fail
  refine (NI.out _).mono ?_
  rintro e wz ⟨rfl, hz⟩
  replace hz := hz.symm
  subst hz
  go_wp2_with fail
  refine (D.out _).mono ?_
  rintro e w1 ⟨rfl, hB1⟩
  have K := hid ((((Stays.cell ⟨w1.heap.size, 2, none⟩ (.int .u64 m)).and (Stays.cell ⟨w1.heap.size, 3, none⟩ (.int .i64 x))).and Stays.tab))
  have HB1 := hid hB1
  clear hB1 NZ NI D
  go_upto_region 6 with fail
  have hb := HB1.out.trans ((alloc_b w1 (.cells #[.bool neg, .int .i64 c, .int .u64 m, .int .i64 x] 47)).mono HB1.out.size)
  have P := Row4.new w1 47 (.bool neg) (.int .i64 c) (.int .u64 m) (.int .i64 x)
  have S0 := hid (St.mk (w := w) (S := fun w' => (w'.cell? ⟨w1.heap.size, 2, none⟩ = some (.int .u64 m) ∧ w'.cell? ⟨w1.heap.size, 3, none⟩ = some (.int .i64 x)) ∧ Tab w') ⟨⟨P.cells.1.2.2.1, P.cells.1.2.2.2⟩, HT.out.below hb⟩ hb)
  clear P hb HT HB1
  generalize w1.alloc (.cells #[.bool neg, .int .i64 c, .int .u64 m, .int .i64 x] 47) = wA at *
  generalize w1.heap.size = b at *
  have TZ1 := hid (TZ.out wA S0.out.cells.2)
  obtain ⟨p2, p3⟩ := S0.out.cells.1
  clear TZ
  go_wp2_with fail
  refine TZ1.out.mono ?_
  rintro e wz ⟨t, j, rfl, ht, hm, hz⟩
  replace hz := hz.symm
  subst hz
  obtain ⟨o, hm2, o0, o1, SM⟩ := OD.out t j hm.out
  have HM := hid hm2
  have TB : (t : Int) ≤ 63 := by omega
  clear TZ1 OD hm hm2
  have FU1 := hid (FU.out wA o o0 o1)
  go_wp2_with fail
  refine FU1.out.mono ?_
  rintro e w2 ⟨p4, o4, rfl, A, hB⟩
  have S2 := hid (S0.out.on K.out hB)
  have PO1 := hid (PO.out w2 o p4 o4 _ o0 o1 A)
  clear p2 p3 hB A S0 FU FU1 PO
  go_wp2_with fail
  refine PO1.out.mono ?_
  rintro e w3 ⟨p5, o5, rfl, A, hB⟩
  have S3 := hid (S2.out.on K.out hB)
  have HA := hid A
  obtain ⟨E, hE⟩ : ∃ E, (x + (t : Int)) * n = E := ⟨_, rfl⟩
  have eb := EB.out t ht
  rw [hE] at eb
  obtain ⟨eb1, eb2⟩ := eb
  obtain ⟨p2, p3⟩ := S3.out.cells.1
  have RO1 := hid (fun (wx : World) (q : Option Addr) (qs : List Int) (B' : Nat) (hx : Tab wx) (A : Ans w2.heap.size wx p5 o5 (o ^ k)) (A1 : Ans B' wx q qs 1) => RO.out wx t o E p5 q o5 qs _ _ o0 o1 HM.out hE hx A A1)
  clear hB A S2 PO1 RO SM mx
  go_wp2_with fail
  refine (F1.out _).mono ?_
  rintro e w4 ⟨q6, o6, rfl, A, hB⟩
  have S4 := hid (S3.out.on K.out hB)
  have RO2 := hid (RO1.out w4 q6 o6 _ S4.out.cells.2 (HA.out.below hB (Nat.le_refl _)) A)
  clear hB A p2 p3 HA RO1 F1
  go_wp2_with fail
  refine RO2.out.mono ?_
  rintro e w5 ⟨y, rfl, hR, hB⟩
  have S5 := hid (S4.out.on K.out hB)
  clear hB
  go_wp2_with fail
  go_ret
  exact ⟨_, rfl, hR, S5.out.bel⟩
end Go.Proofs.YtnfomlkhkggjeaaGreatDoor

/-
  remain: size, Power (made by mkmfmod.py).
-/
namespace Go.Proofs.YtnfomlkhkggjeaaGreatDoor
open Go Go.RowKit Go.Deep

namespace Ie
/-- What size answers, n not 0. -/
def SizeIs (x n y : Int) : Prop := (isz x = true → y = if 0 < n then 0 else 9218868437227405312) ∧ (isi x = true → y = if 0 < n then 9218868437227405312 else 0) ∧ (fin x → ab x ≠ 0 → PowIs (dm x) (de x) n y) ∧ 0 ≤ y ∧ y ≤ 9218868437227405312

theorem PowIs.bd {m e n r : Int} (h : PowIs m e n r) : 0 ≤ r ∧ r ≤ 9218868437227405312 := by
  rcases (show 0 ≤ n ∨ n < 0 by omega) with g | g
  · exact (h.1 n.toNat (by omega)).bd
  · exact (h.2 (-n).toNat (by omega)).bd

/-- What Power answers. -/
def PwrIs (x n r e : Int) : Prop :=
  (n < -1024 ∨ 1024 < n → r = 0 ∧ e = 60) ∧ (-1024 ≤ n → n ≤ 1024 → e = 0 ∧ (n = 0 → r = 4607182418800017408) ∧
    (n ≠ 0 → (isn x = true → r = 9221120237041090560) ∧ (isn x = false → ∃ y, r = sg (ngd x && !(n % 2 == 0)) y ∧ SizeIs x n y)))

theorem sz_not {x : Int} (h : isz x = true) : isi x = false ∧ isn x = false := by
  simp only [isz, isi, isn, decide_eq_true_iff, decide_eq_false_iff_not] at *; omega
theorem si_not {x : Int} (h : isi x = true) : isz x = false ∧ isn x = false := by
  simp only [isz, isi, isn, decide_eq_true_iff, decide_eq_false_iff_not] at *; omega
end Ie

set_option maxRecDepth 100000 in
theorem size_any (d n : Int) (w : World) (hT : Tab w) (h0 : 0 ≤ d) (h1 : d < 18446744073709551616) (hn : Ie.isn d = false) (n0 : n ≠ 0) (n1 : -1024 ≤ n) (n2 : n ≤ 1024) :
    Calls Tryz.prog 62 #[.int .u64 d, .int .i64 n] w fun e w' => ∃ y, e = .returned (.int .u64 y) ∧ Hid (Ie.SizeIs d n y) ∧ Below w.heap.size w w' := by
  have NI := hid (fun (wx : World) => minfinite_any d wx h0 h1)
  have NZ := hid (fun (wx : World) => mzero_any d wx h0 h1)
  cases z : Ie.isz d
  · cases i : Ie.isi d
    · have hf : Ie.fin d := by simp only [Ie.isn, Ie.isi, Ie.fin, decide_eq_false_iff_not] at *; omega
      have hz : Ie.ab d ≠ 0 := by rw [Ie.isz, decide_eq_false_iff_not] at z; exact z
      have fin : ∀ y, Ie.PowIs (Ie.dm d) (Ie.de d) n y → Ie.SizeIs d n y := fun y h => ⟨fun g => (by rw [z] at g; cases g), fun g => (by rw [i] at g; cases g), fun _ _ => h, h.bd.1, h.bd.2⟩
      rcases (show 0 < n ∨ n < 0 by omega) with g | g
      · refine (size_pos d n n.toNat w hT h0 h1 hf hz g (by omega) (by omega)).mono ?_
        rintro e w' ⟨y, rfl, hy, hB⟩
        exact ⟨y, rfl, fin y hy.out, hB⟩
      · refine (size_neg d n (-n).toNat w hT h0 h1 hf hz g (by omega) (by omega)).mono ?_
        rintro e w' ⟨y, rfl, hy, hB⟩
        exact ⟨y, rfl, fin y hy.out, hB⟩
    · rw [z] at NZ
      rw [i] at NI
      rcases (show 0 < n ∨ n < 0 by omega) with g | g
      · have E : Hid (Ie.SizeIs d n 9218868437227405312) := ⟨fun k => (by rw [z] at k; cases k), fun _ => (by rw [if_pos g]), fun k => (by rw [(Ie.fin_kinds k).2] at i; cases i), by omega, by omega⟩
        clear z i hn n0 h0 h1 hT
        go_enter Tryz.func62, Tryz.ntmps62
        go_wp2_with fail
        refine (NZ.out _).mono ?_
        rintro e wz ⟨rfl, hz⟩
        replace hz := hz.symm
        subst hz
        go_wp2_with fail
        refine (NI.out _).mono ?_
        rintro e wz ⟨rfl, hz⟩
        replace hz := hz.symm
        subst hz
        go_wp2_with fail
        refine (NZ.out _).mono ?_
        rintro e wz ⟨rfl, hz⟩
        replace hz := hz.symm
        subst hz
        go_wp2_with fail
        refine (NI.out _).mono ?_
        rintro e wz ⟨rfl, hz⟩
        replace hz := hz.symm
        subst hz
        go_wp2_with fail
        go_ret
        exact ⟨_, rfl, E.out, Below.refl _ _⟩
      · have E : Hid (Ie.SizeIs d n 0) := ⟨fun k => (by rw [z] at k; cases k), fun _ => (by rw [if_neg (by omega)]), fun k => (by rw [(Ie.fin_kinds k).2] at i; cases i), by omega, by omega⟩
        clear z i hn n0 h0 h1 hT
        go_enter Tryz.func62, Tryz.ntmps62
        go_wp2_with fail
        refine (NZ.out _).mono ?_
        rintro e wz ⟨rfl, hz⟩
        replace hz := hz.symm
        subst hz
        go_wp2_with fail
        refine (NI.out _).mono ?_
        rintro e wz ⟨rfl, hz⟩
        replace hz := hz.symm
        subst hz
        go_wp2_with fail
        go_ret
        exact ⟨_, rfl, E.out, Below.refl _ _⟩
  · have i := (Ie.sz_not z).1
    have hz : Ie.ab d = 0 := by rw [Ie.isz, decide_eq_true_iff] at z; exact z
    rw [z] at NZ
    rw [i] at NI
    rcases (show 0 < n ∨ n < 0 by omega) with g | g
    · have E : Hid (Ie.SizeIs d n 0) := ⟨fun _ => (by rw [if_pos g]), fun k => (by rw [i] at k; cases k), fun _ k => absurd hz k, by omega, by omega⟩
      clear z i hn n0 h0 h1 hT hz
      go_enter Tryz.func62, Tryz.ntmps62
      go_wp2_with fail
      refine (NZ.out _).mono ?_
      rintro e wz ⟨rfl, hz⟩
      replace hz := hz.symm
      subst hz
      go_wp2_with fail
      go_ret
      exact ⟨_, rfl, E.out, Below.refl _ _⟩
    · have E : Hid (Ie.SizeIs d n 9218868437227405312) := ⟨fun _ => (by rw [if_neg (by omega)]), fun k => (by rw [i] at k; cases k), fun _ k => absurd hz k, by omega, by omega⟩
      clear z i hn n0 h0 h1 hT hz
      go_enter Tryz.func62, Tryz.ntmps62
      go_wp2_with fail
      refine (NZ.out _).mono ?_
      rintro e wz ⟨rfl, hz⟩
      replace hz := hz.symm
      subst hz
      go_wp2_with fail
      refine (NI.out _).mono ?_
      rintro e wz ⟨rfl, hz⟩
      replace hz := hz.symm
      subst hz
      go_wp2_with fail
      refine (NZ.out _).mono ?_
      rintro e wz ⟨rfl, hz⟩
      replace hz := hz.symm
      subst hz
      go_wp2_with fail
      go_ret
      exact ⟨_, rfl, E.out, Below.refl _ _⟩

theorem tmod2 (n : Int) : (n % 2 = 0 → n.tmod 2 = 0) ∧ (n % 2 = 1 → n.tmod 2 ≠ 0) := by
  rcases (show 0 ≤ n ∨ n < 0 by omega) with h | h
  · rw [Int.tmod_eq_emod_of_nonneg h]; omega
  · have e : n.tmod 2 = -((-n).tmod 2) := by rw [Int.neg_tmod]; omega
    rw [e, Int.tmod_eq_emod_of_nonneg (show 0 ≤ -n by omega)]
    omega

theorem ret_ue {a b c d : Int} (h : a = b) (k : c = d) : Ending.returned (.tuple #[.int .u64 a, .int .i64 c]) = .returned (.tuple #[.int .u64 b, .int .i64 d]) := by rw [h, k]

set_option maxRecDepth 100000 in
theorem power6_any (d n : Int) (w : World) (hT : Tab w) (h0 : 0 ≤ d) (h1 : d < 18446744073709551616) :
    Calls Tryz.prog 29 #[.int .u64 d, .int .i64 n] w fun e w' => ∃ r f, e = .returned (.tuple #[.int .u64 r, .int .i64 f]) ∧ Ie.PwrIs d n r f ∧ Below w.heap.size w w' := by
  rcases (show n < -1024 ∨ 1024 < n ∨ (-1024 ≤ n ∧ n ≤ 1024) by omega) with g | g | ⟨g1, g2⟩
  · have E : Hid (Ie.PwrIs d n 0 60) := ⟨fun _ => ⟨rfl, rfl⟩, fun k => (by omega)⟩
    clear h0 h1 hT
    go_enter Tryz.func29, Tryz.ntmps29
    go_wp2_with fail
    go_ret2
    exact ⟨_, _, rfl, E.out, Below.refl _ _⟩
  · have E : Hid (Ie.PwrIs d n 0 60) := ⟨fun _ => ⟨rfl, rfl⟩, fun _ k => (by omega)⟩
    have g' : ¬ n < -1024 := by omega
    clear h0 h1 hT
    go_enter Tryz.func29, Tryz.ntmps29
    go_wp2_with fail
    go_ret2
    exact ⟨_, _, rfl, E.out, Below.refl _ _⟩
  · have g1' : ¬ n < -1024 := by omega
    have g2' : ¬ n > 1024 := by omega
    by_cases z : n = 0
    · subst z
      have E : Hid (Ie.PwrIs d 0 4607182418800017408 0) := ⟨fun k => (by omega), fun _ _ => ⟨rfl, fun _ => rfl, fun k => absurd rfl k⟩⟩
      clear h0 h1 hT g1 g2 g1' g2'
      go_enter Tryz.func29, Tryz.ntmps29
      go_wp2_with fail
      go_ret2
      exact ⟨_, _, rfl, E.out, Below.refl _ _⟩
    · have z' : (n == 0) = false := by rw [beq_eq_false_iff_ne]; exact z
      have NN := hid (fun (wx : World) => mnan_any d wx h0 h1)
      cases hn : Ie.isn d
      · rw [hn] at NN
        have SZ := hid (fun (wx : World) (hx : Tab wx) => size_any d n wx hx h0 h1 hn z g1 g2)
        have HT := hid hT
        have SA := Ib.sign_and d h0 h1
        have WT : Hid (∀ (wx : World) (y : Int), Ie.SizeIs d n y → Below w.heap.size w wx → ∃ r f, Ending.returned (.tuple #[.int .u64 (Ie.sg (Ie.ngd d && !(n % 2 == 0)) y), .int .i64 0]) = .returned (.tuple #[.int .u64 r, .int .i64 f]) ∧ Ie.PwrIs d n r f ∧ Below w.heap.size w wx) := by
          intro wx y hy hB
          exact ⟨_, _, rfl, ⟨fun k => (by omega), fun _ _ => ⟨rfl, fun k => absurd k z, fun _ => ⟨fun k => (by rw [hn] at k; cases k), fun _ => ⟨y, rfl, hy⟩⟩⟩⟩, hB⟩
        rcases (show n % 2 = 0 ∨ n % 2 = 1 by omega) with p | p
        · have p' : (Int.tmod n 2) = 0 := (tmod2 n).1 p
          have e : (Ie.ngd d && !(n % 2 == 0)) = false := by rw [p]; simp
          rw [e] at WT
          have OR : Hid (∀ y, Ie.SizeIs d n y → bits .or .u64 y 0 = y) := fun y hy => Ib.or_zero y hy.2.2.2.1 (by have := hy.2.2.2.2; omega)
          clear hT g1 g2 hn z h0 h1 p e SA
          go_enter Tryz.func29, Tryz.ntmps29
          go_wp2_with fail
          refine (NN.out _).mono ?_
          rintro e wz ⟨rfl, hz⟩
          replace hz := hz.symm
          subst hz
          go_wp2_with fail
          refine (SZ.out _ HT.out).mono ?_
          rintro e w1 ⟨y, rfl, hy, hB⟩
          have E := OR.out y hy.out
          have KK := hid (WT.out w1 y hy.out hB)
          clear hB OR WT SZ
          go_wp2_with fail
          go_ret2
          exact KK.out
        · have p' : ((Int.tmod n 2) == 0) = false := by rw [beq_eq_false_iff_ne]; exact (tmod2 n).2 p
          have e : (Ie.ngd d && !(n % 2 == 0)) = Ie.ngd d := by rw [p]; simp
          rw [e] at WT
          have OR : Hid (∀ y, Ie.SizeIs d n y → bits .or .u64 y (d / 9223372036854775808 * 9223372036854775808) = Ie.sg (Ie.ngd d) y) := by
            intro y hy
            have b0 := hy.2.2.2.1
            have b1 := hy.2.2.2.2
            rcases (show d < 9223372036854775808 ∨ 9223372036854775808 ≤ d by omega) with g | g
            · rw [show d / 9223372036854775808 * 9223372036854775808 = 0 by omega, Ib.or_zero y b0 (by omega), Ie.ngd, decide_eq_false (by omega)]; rfl
            · rw [show d / 9223372036854775808 * 9223372036854775808 = 9223372036854775808 by omega, Ib.sign_or y b0 (by omega), Ie.ngd, decide_eq_true (by omega)]; rfl
          clear hT g1 g2 hn z h0 h1 p e
          generalize d / 9223372036854775808 * 9223372036854775808 = sv at *
          go_enter Tryz.func29, Tryz.ntmps29
          go_wp2_with fail
          refine (NN.out _).mono ?_
          rintro e wz ⟨rfl, hz⟩
          replace hz := hz.symm
          subst hz
          go_wp2_with fail
          refine (SZ.out _ HT.out).mono ?_
          rintro e w1 ⟨y, rfl, hy, hB⟩
          have E := OR.out y hy.out
          have KK := hid (WT.out w1 y hy.out hB)
          clear hB OR WT SZ
          go_wp2_with fail
          go_ret2
          exact KK.out
      · have E : Hid (Ie.PwrIs d n 9221120237041090560 0) := ⟨fun k => (by omega), fun _ _ => ⟨rfl, fun k => absurd k z, fun _ => ⟨fun _ => rfl, fun k => (by rw [hn] at k; cases k)⟩⟩⟩
        rw [hn] at NN
        clear hT g1 g2 hn z h0 h1
        go_enter Tryz.func29, Tryz.ntmps29
        go_wp2_with fail
        refine (NN.out _).mono ?_
        rintro e wz ⟨rfl, hz⟩
        replace hz := hz.symm
        subst hz
        go_wp2_with fail
        go_ret2
        exact ⟨_, _, rfl, E.out, Below.refl _ _⟩
end Go.Proofs.YtnfomlkhkggjeaaGreatDoor

/-
  law06: awake.
-/
namespace Go.Proofs.YtnfomlkhkggjeaaGreatDoor
open Go Go.RowKit Go.Deep

namespace Ie
theorem un_is {x m : Int} {E : Nat} (h1 : man x = m) (h2 : ex x = E) : un x = m * 2 ^ E := by rw [un, h1, h2]

theorem q_add (a : Nat) {m c : Int} {e : Nat} (h : m = c * 2 ^ a) (he : e + a = 1073) : m * 2 ^ e = c * 2 ^ 1073 := by
  rw [h, Int.mul_assoc, ← Nm.two_add]; congr 2; omega

theorem un25 : un 4612811918334230528 = 5 * 2 ^ 1073 := (un_is (m := 5629499534213120) (E := 1023) (by decide) (by decide)).trans (q_add 50 (by decide) rfl)
theorem un20 : un 4611686018427387904 = 4 * 2 ^ 1073 := (un_is (m := 4503599627370496) (E := 1023) (by decide) (by decide)).trans (q_add 50 (by decide) rfl)
theorem un55 : un 4617878467915022336 = 11 * 2 ^ 1073 := (un_is (m := 6192449487634432) (E := 1024) (by decide) (by decide)).trans (q_add 49 (by decide) rfl)
theorem un15 : un 4609434218613702656 = 3 * 2 ^ 1073 := (un_is (m := 6755399441055744) (E := 1022) (by decide) (by decide)).trans (q_add 51 (by decide) rfl)

theorem p1074 : (2 : Int) ^ 1074 = 2 * 2 ^ 1073 := Nm.two_succ 1073

theorem trunc25 {r : Int} (h : WIs 4612811918334230528 false r) : r = 4611686018427387904 := by
  have hp := Nm.two_pos 1073
  have a1 : ab 4612811918334230528 = 4612811918334230528 := by decide
  have n1 : ngd 4612811918334230528 = false := by decide
  have hf : fin 4612811918334230528 := by rw [fin, a1]; decide
  have hi : intg 4612811918334230528 = false := by
    cases g : intg 4612811918334230528
    · rfl
    · exfalso
      have := (intg_iff_un hf).1 g
      rw [a1, un25, p1074, emod_scale _ _ _ hp] at this
      generalize (2 : Int) ^ 1073 = Q at *
      omega
  obtain ⟨y, hr, y0, y1, -, q⟩ := h.2.2 hf
  have q := q hi
  rw [a1, un25, p1074, show wup (5 * 2 ^ 1073 / (2 * 2 ^ 1073)) false = 2 by rw [wup, if_neg (by decide), ediv_scale _ _ _ hp]; rfl] at q
  have e : un y = un 4611686018427387904 := by
    rw [q, un20]
    generalize (2 : Int) ^ 1073 = Q at *
    omega
  rw [hr, n1, un_inj y0 (by omega) e]
  rfl

theorem fmod55 {r : Int} (h : LeftIs 13841250504769798144 4611686018427387904 false r) : r = 13832806255468478464 := by
  have hp := Nm.two_pos 1073
  have a1 : ab 13841250504769798144 = 4617878467915022336 := by decide
  have a2 : ab 4611686018427387904 = 4611686018427387904 := by decide
  have n1 : ngd 13841250504769798144 = true := by decide
  obtain ⟨y, hr, y0, y1, q⟩ := h.2.2 (by rw [fin, a1]; decide) (by rw [fin, a2]; decide) (by rw [a2]; decide)
  rw [a1, a2, un55, un20, lft, if_neg (by decide), emod_scale _ _ _ hp] at q
  rw [hr, n1, un_inj y0 (by omega) (q.trans un15.symm)]
  rfl

theorem scale3 {r : Int} (h : ScaleIs 4613937818241073152 (-1075) r) : r = 2 := by
  have a1 : ab 4613937818241073152 = 4613937818241073152 := by decide
  have n1 : ngd 4613937818241073152 = false := by decide
  have m1 : dm 4613937818241073152 = 6755399441055744 := by decide
  have e1 : de 4613937818241073152 = -51 := by decide
  obtain ⟨x, hr, hx⟩ := h.2.2 (by rw [fin, a1]; decide)
  rw [m1, e1] at hx
  have : Rnd 6755399441055744 1 (-51 + -1075) false 2 := by
    refine Rnd.of (a := 0) (b := 51) (by omega) ⟨⟨by omega, by omega⟩, fun _ => .inr ⟨by decide, .inl (by decide)⟩, fun _ => .inl (by decide)⟩
  rw [hr, n1, hx.one (by decide) (by decide) this (a := 0) (a' := 0) (by omega) rfl]
  rfl

theorem power210 {r f : Int} (h : PwrIs 4611686018427387904 10 r f) : r = 4652218415073722368 ∧ f = 0 := by
  have a1 : ab 4611686018427387904 = 4611686018427387904 := by decide
  have n1 : ngd 4611686018427387904 = false := by decide
  have m1 : dm 4611686018427387904 = 4503599627370496 := by decide
  have e1 : de 4611686018427387904 = -51 := by decide
  have i1 : isn 4611686018427387904 = false := by decide
  obtain ⟨h1, -, h2⟩ := h.2 (by omega) (by omega)
  obtain ⟨y, hr, hy⟩ := (h2 (by omega)).2 i1
  have hp := (hy.2.2.1 (by rw [fin, a1]; decide) (by rw [a1]; decide))
  rw [m1, e1] at hp
  have hq := (hp.odd (o := 1) (t := 52) (by decide)).1 10 rfl
  rw [show ((-51 : Int) + (52 : Nat)) * 10 = 10 by decide, Int.one_pow] at hq
  have : Rnd 1 1 10 false 4652218415073722368 := by
    refine rnd_vl 1 10 _ false 1085 0 (by omega) (by omega) (by omega) ?_
    rw [vl_un, un_is (m := 4503599627370496) (E := 1032) (by decide) (by decide), show (4503599627370496 : Int) = 2 ^ 52 by decide, ← Nm.two_add, ← Nm.two_succ, Int.pow_zero, Int.one_mul, Int.mul_one]
  rw [hr, n1, Bool.false_and, hq.one (by decide) (by decide) this (a := 0) (a' := 0) (by omega) rfl]
  exact ⟨rfl, h1⟩
end Ie

set_option maxRecDepth 100000 in
set_option maxHeartbeats 2000000 in
theorem hawake_any (w : World) (hT : Tab w) :
    Calls Tryz.prog 7 #[] w fun e w' => e = .returned (.bool true) ∧ Below w.heap.size w w' := by
  have T := hid (trunc_any 4612811918334230528 w hT (by omega) (by omega))
  have M := hid (fun (wx : World) (hx : Tab wx) => fmod_any 13841250504769798144 4611686018427387904 wx hx (by omega) (by omega) (by omega) (by omega))
  have S := hid (fun (wx : World) (hx : Tab wx) => scale_any 4613937818241073152 (-1075) wx hx (by omega) (by omega))
  have P := hid (fun (wx : World) (hx : Tab wx) => power6_any 4611686018427387904 10 wx hx (by omega) (by omega))
  have HT := hid hT
  clear hT
  go_enter Tryz.func7, Tryz.ntmps7
  go_wp2_with fail
  refine T.out.mono ?_
  rintro e w1 ⟨r, rfl, h, hB⟩
  obtain rfl := Ie.trunc25 h
  have HB1 := hid hB
  clear h hB T
  go_wp2_with fail
  refine (M.out _ (HT.out.below HB1.out)).mono ?_
  rintro e w2 ⟨r, rfl, h, hB⟩
  obtain rfl := Ie.fmod55 h
  have HB2 := hid (HB1.out.trans (hB.mono HB1.out.size))
  clear h hB M HB1
  go_wp2_with fail
  refine (S.out _ (HT.out.below HB2.out)).mono ?_
  rintro e w3 ⟨r, rfl, h, hB⟩
  obtain rfl := Ie.scale3 h
  have HB3 := hid (HB2.out.trans (hB.mono HB2.out.size))
  clear h hB S HB2
  go_wp2_with fail
  refine (P.out _ (HT.out.below HB3.out)).mono ?_
  rintro e w4 ⟨r, f, rfl, h, hB⟩
  obtain ⟨rfl, rfl⟩ := Ie.power210 h
  have HB4 := hid (HB3.out.trans (hB.mono HB3.out.size))
  clear h hB P HB3
  go_wp2_with fail
  go_ret
  exact ⟨rfl, HB4.out⟩
end Go.Proofs.YtnfomlkhkggjeaaGreatDoor
