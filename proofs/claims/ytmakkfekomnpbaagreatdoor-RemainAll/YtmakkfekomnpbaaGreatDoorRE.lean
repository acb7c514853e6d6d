/-
  Texts put together: QGives, QPow, QPowG, MPower, MPow, IWhole2, IWhole3, IWhole4, MPowG, IWalk1A, XBox, XPlusA, Walk2, Walk3, Sub.
-/
import Derived.Test.YtmakkfekomnpbaaGreatDoorNums
import Derived.Test.YtmakkfekomnpbaaGreatDoorQLimbs
import Derived.Test.YtmakkfekomnpbaaGreatDoorFromW
import Derived.Test.YtmakkfekomnpbaaGreatDoorTrimW
import Derived.Test.YtmakkfekomnpbaaGreatDoorMulOver
import Derived.Test.YtmakkfekomnpbaaGreatDoorBlenIs
import Derived.Test.YtmakkfekomnpbaaGreatDoorRA
import Derived.Test.YtmakkfekomnpbaaGreatDoorRD
import Derived.Test.YtmakkfekomnpbaaGreatDoorRB
import Derived.Test.YtmakkfekomnpbaaGreatDoorIWalk1B
import Derived.Test.YtmakkfekomnpbaaGreatDoorXMem
import Derived.Test.YtmakkfekomnpbaaGreatDoorXNum
import Derived.Test.YtmakkfekomnpbaaGreatDoorWalk2a
import Derived.Test.YtmakkfekomnpbaaGreatDoorSubA
import Derived.Test.YtmakkfekomnpbaaGreatDoorSmall
namespace Go.Proofs.YtmakkfekomnpbaaGreatDoor
open Go.RowKit Go.Deep

/-- A number, or that it is too big. -/
def Gives (T : Int) (w : World) (e : Ending) (w' : World) : Prop :=
  ((T < Nm.pw 4096 ∧ ∃ r os, e = .returned (.tuple #[.slice r (List.length os) (List.length os), .int .i64 0]) ∧ Ans w.heap.size w' r os T) ∨ (Nm.pw 4096 ≤ T ∧ e = .returned (.tuple #[.slice none 0 0, .int .i64 2]))) ∧ Below w.heap.size w w'

theorem Ans.argT {B : Nat} {w : World} {p : Option Addr} {ys : List Int} {n : Int} (h : Ans B w p ys n) (hn : n < Nm.pw 4096) : Arg w p ys.length ys.length ys :=
  h.arg (by have := h.small hn; omega)

theorem Ans.tsT {B : Nat} {w : World} {p : Option Addr} {ys : List Int} {n : Int} (h : Ans B w p ys n) (hn : n < Nm.pw 4096) : Nm.tsize ys ≤ 4096 := by
  rw [h.2.2.1]
  exact h.small hn

theorem Ans.upT {B B' : Nat} {w : World} {p : Option Addr} {ys : List Int} {n : Int} (h : Ans B w p ys n) (hB : B' ≤ B) : Ans B' w p ys n :=
  ⟨h.1, h.2.1, h.2.2.1, h.2.2.2.1, fun a ha => Nat.le_trans hB (h.2.2.2.2 a ha)⟩

theorem mul_gives (p q : Option Addr) (n cap m cap' : Nat) (zs ys : List Int) (T : Int) (w : World) (ha : Arg w p n cap zs) (hb : Arg w q m cap' ys) (tz : Nm.tsize zs ≤ 4096) (ty : Nm.tsize ys ≤ 4096) (hT : Nm.val zs * Nm.val ys = T) :
    Calls Tryz.prog 127 #[.slice p n cap, .slice q m cap'] w fun e w' => Gives T w e w' := by
  by_cases h : T < Nm.pw 4096
  · refine (mul_ok p q n cap m cap' zs ys w ha hb tz ty (by rw [hT]; exact h)).mono ?_
    rintro e w' ⟨r, os, rfl, A, hb⟩
    rw [hT] at A
    exact ⟨.inl ⟨h, r, os, rfl, A⟩, hb⟩
  · refine (mul_over p q n cap m cap' zs ys w ha hb tz ty (by rw [hT]; exact Int.not_lt.1 h)).mono ?_
    rintro e w' ⟨rfl, hb⟩
    exact ⟨.inr ⟨Int.not_lt.1 h, rfl⟩, hb⟩

theorem limbs_isT (p : Option Addr) (n cap : Nat) (zs : List Int) (N : Nat) (w : World) (ha : Arg w p n cap zs) (hN : Nm.tsize zs = N) :
    Calls Tryz.prog 103 #[.slice p n cap] w fun e w' => e = .returned (.int .i64 (N : Int)) ∧ w' = w := by
  rw [← hN]
  exact limbs_any p n cap zs w ha

theorem bitLen_isT (L : Nat) (p : Option Addr) (n cap : Nat) (zs : List Int) (w : World) (ha : Arg w p n cap zs) (hb : blen zs = (L : Int)) :
    Calls Tryz.prog 59 #[.slice p n cap] w fun e w' => e = .returned (.int .i64 (L : Int)) ∧ w' = w := by
  rw [← hb]
  exact bitLen_any p n cap zs w ha
end Go.Proofs.YtmakkfekomnpbaaGreatDoor

namespace Go.Proofs.YtmakkfekomnpbaaGreatDoor
open Go.RowKit Go.Deep

theorem len_any (x : Int) (l : Nat) (w : World) (h0 : 0 ≤ x) (h1 : x < 18446744073709551616) (hl : Lib.bitLen x.toNat = l) :
    Calls Tryz.prog 126 #[.int .u64 x] w fun e w' => e = .returned (.int .i64 (l : Int)) ∧ w' = w := by
  have L := len64 x w h0 h1
  rw [hl] at L
  have HL := hid L
  clear L hl
  go_enter Tryz.func126, Tryz.ntmps126
  go_wp2_with fail
  refine HL.out.mono ?_
  rintro e w' ⟨rfl, rfl⟩
  go_wp2_with fail
  go_ret
  exact ⟨rfl, rfl⟩

theorem one_bit_i64 (x : Nat) (h1 : x < 9223372036854775808) : bits .and .i64 (x : Int) 1 = ((x % 2 : Nat) : Int) := by
  have h : x &&& 1 = x % 2 := Nat.and_two_pow_sub_one_eq_mod x 1
  have e1 : (BitVec.ofInt 64 (x : Int)).toNat = x := by
    rw [BitVec.ofInt_natCast, BitVec.toNat_ofNat]; exact Nat.mod_eq_of_lt (by omega)
  have e2 : (BitVec.ofInt 64 (1 : Int)).toNat = 1 := by decide
  show IntKind.i64.wrap ((BitVec.ofInt 64 (x : Int) &&& BitVec.ofInt 64 (1 : Int)).toNat : Int) = _
  rw [BitVec.toNat_and, e1, e2, h]
  have : x % 2 < 2 := Nat.mod_lt _ (by omega)
  rw [IntKind.wrap_i64]
  omega

/-- The length of an exponent. -/
theorem exp_len (n : Nat) (h1 : 1 ≤ n) (h2 : n < 18446744073709551616) : ∃ j, Lib.bitLen n = j + 1 ∧ n / 2 ^ j = 1 ∧ j ≤ 63 := by
  have hb := Lib.bitLenAux_bounds 64 n (by simpa using h2) (by omega)
  rw [show Lib.bitLenAux 64 n = Lib.bitLen n from rfl] at hb
  have hs := bitLen_small n h2
  obtain ⟨j, hj⟩ : ∃ j, Lib.bitLen n = j + 1 := ⟨Lib.bitLen n - 1, by omega⟩
  rw [hj, Nat.add_sub_cancel] at hb
  refine ⟨j, hj, ?_, by omega⟩
  have p1 : 0 < 2 ^ j := Nat.pow_pos (by omega)
  rw [Nat.pow_succ] at hb
  exact Nat.div_eq_of_lt_le (by omega) (by omega)

set_option maxRecDepth 100000 in
set_option maxHeartbeats 2000000 in
theorem power_any (p : Option Addr) (m cap : Nat) (zs : List Int) (A : Int) (n : Nat) (w : World) (ha : Arg w p m cap zs) (tz : Nm.tsize zs ≤ 4096) (hA : Nm.val zs = A) (hA1 : 1 ≤ A) (h1 : 1 ≤ n) (h2 : n < 4611686018427387904) :
    Calls Tryz.prog 113 #[.slice p m cap, .int .i64 (n : Int)] w fun e w' => Gives (A ^ n) w e w' := by
  obtain ⟨j0, hj0, hj1, hj63⟩ := exp_len n h1 (by omega)
  have TR := hid (trim_any p m cap zs w ha)
  have HA := hid ha
  have HAs : Hid (A < Nm.pw 4096) := by show _ < _; rw [← hA]; exact (Nm.tsize_le_iff ha.2.2.2.2 4096).1 tz
  have HVA := hid hA
  have HT := hid tz
  have HA1 := hid hA1
  have HJ1 := hid hj1
  have hn0 : (0 : Int) ≤ (n : Int) := by omega
  have hn1 : (n : Int) < 4611686018427387904 := by omega
  have HL := hid hj0
  obtain ⟨l, hl⟩ : ∃ l, l = j0 + 1 := ⟨_, rfl⟩
  have rl : (l : Int) - 2 = (j0 : Int) - 1 := by omega
  have HLL := hid hl
  have hl64 : (l : Int) ≤ 64 := by omega
  have hl1 : (1 : Int) ≤ (l : Int) := by omega
  clear ha hA tz hA1 hj0 hj1 hl h1 h2
  go_enter Tryz.func113, Tryz.ntmps113
  go_wp2_with fail
  refine TR.out.mono ?_
  rintro e w1 ⟨r, os, rfl, -, A1, hb1⟩
  rw [HVA.out] at A1
  have HB1 := hid A1
  have D1 := hid hb1
  clear A1 hb1 TR
  go_wp2_with fail
  refine (len_any (n : Int) l _ hn0 (by omega) (by rw [Int.toNat_natCast, HL.out, HLL.out])).mono ?_
  rintro e w2 ⟨rfl, rfl⟩
  go_wp2_with fail
  go_loopw [6, 7] (fun o i wr => ∃ (j : Nat) (r : Option Addr) (os : List Int), j ≤ j0 ∧ i = .int .i64 ((j : Int) - 1) ∧ o = .slice r (List.length os) (List.length os) ∧ Hid (Ans w.heap.size wr r os (A ^ (n / 2 ^ j))) ∧ Hid (A ^ (n / 2 ^ j) < Nm.pw 4096) ∧ Hid (Below w.heap.size w wr)) (fun _ i _ => (intOf i + 1).toNat)
  case atStart => exact ⟨j0, r, os, Nat.le_refl _, by first | rfl | rw [rl], rfl, by rw [HJ1.out, Int.pow_succ, Int.pow_zero, Int.one_mul]; exact HB1.out, by rw [HJ1.out, Int.pow_succ, Int.pow_zero, Int.one_mul]; exact HAs.out, D1.out⟩
  case round =>
    clear HB1 D1 rl
    obtain ⟨j, r, os, hj, rfl, rfl, HO, HS, D⟩ := hrel
    by_cases hj0' : j = 0
    · subst hj0'
      have F : Hid (Gives (A ^ n) w (.returned (.tuple #[.slice r (List.length os) (List.length os), .int .i64 0])) wr) := by
        have h1 := HO.out
        have h2 := HS.out
        rw [Nat.pow_zero, Nat.div_one] at h1 h2
        exact ⟨.inl ⟨h2, r, os, rfl, h1⟩, D.out⟩
      go_wp2_with fail
      go_ret2
      exact F.out
    · obtain ⟨t, rfl⟩ : ∃ t, j = t + 1 := ⟨j - 1, by omega⟩
      have MU := hid (mul_gives r r _ _ _ _ os os (A ^ (n / 2 ^ (t + 1)) * A ^ (n / 2 ^ (t + 1))) wr (HO.out.argT HS.out) (HO.out.argT HS.out) (HO.out.tsT HS.out) (HO.out.tsT HS.out) (by rw [HO.out.2.2.2.1]))
      go_wp2_with fail
      refine MU.out.mono ?_
      rintro e w3 ⟨h | h, hb3⟩
      · obtain ⟨hs3, s, ss, rfl, A3⟩ := h
        have HB3 := hid (A3.upT (B' := w.heap.size) D.out.size)
        have HS3 := hid hs3
        have D3 := hid (chain D.out hb3 (Nat.le_refl _))
        obtain ⟨x, hx⟩ : ∃ x, n / 2 ^ t = x := ⟨_, rfl⟩
        have hx63 : x < 9223372036854775808 := by have : n / 2 ^ t ≤ n := Nat.div_le_self _ _; omega
        have r1 : (n : Int) / 2 ^ t = (x : Int) := by rw [← hx]; simp
        have r2 := one_bit_i64 x hx63
        have HX := hid hx
        clear hs3 A3 hb3 hx
        rcases (show x % 2 = 0 ∨ x % 2 = 1 by omega) with hb | hb
        · rw [hb] at r2
          have HE := hid (Pn.square A n t (by rw [HX.out]; exact hb))
          rw [HE.out] at HB3 HS3
          clear hb
          go_wp2_with fail
          go_roundw
          case rel => exact ⟨t, s, ss, by omega, by go_num, rfl, HB3, HS3, D3⟩
          case measure => simp [intOf]
        · rw [hb] at r2
          have HE := hid (Pn.square_odd A n t (by rw [HX.out]; exact hb))
          have HA3 := hid (HA.out.below D3.out (Nat.le_refl _))
          have MU2 := hid (mul_gives s p _ _ m cap ss zs (A ^ (n / 2 ^ t)) w3 (HB3.out.argT HS3.out) HA3.out (HB3.out.tsT HS3.out) HT.out (by rw [HB3.out.2.2.2.1, HVA.out]; exact HE.out))
          clear hb
          go_wp2_with fail
          refine MU2.out.mono ?_
          rintro e w4 ⟨h | h, hb4⟩
          · obtain ⟨hs4, s4, ss4, rfl, A4⟩ := h
            have HB4 := hid (A4.upT (B' := w.heap.size) D3.out.size)
            have HS4 := hid hs4
            have D4 := hid (chain D3.out hb4 (Nat.le_refl _))
            clear hs4 A4 hb4
            go_wp2_with fail
            go_roundw
            case rel => exact ⟨t, s4, ss4, by omega, by go_num, rfl, HB4, HS4, D4⟩
            case measure => simp [intOf]
          · obtain ⟨hs4, rfl⟩ := h
            have F : Hid (Gives (A ^ n) w (.returned (.tuple #[.slice none 0 0, .int .i64 2])) w4) :=
              ⟨.inr ⟨Int.le_trans hs4 (Pn.part_le HA1.out n t), rfl⟩, chain D3.out hb4 (Nat.le_refl _)⟩
            clear hs4 hb4
            go_wp2_with fail
            go_ret2
            exact F.out
      · obtain ⟨hs3, rfl⟩ := h
        have F : Hid (Gives (A ^ n) w (.returned (.tuple #[.slice none 0 0, .int .i64 2])) w3) :=
          ⟨.inr ⟨Int.le_trans hs3 (Pn.square_le HA1.out n t), rfl⟩, chain D.out hb3 (Nat.le_refl _)⟩
        clear hs3 hb3
        go_wp2_with fail
        go_ret2
        exact F.out
end Go.Proofs.YtmakkfekomnpbaaGreatDoor

namespace Go.Proofs.YtmakkfekomnpbaaGreatDoor
open Go.RowKit Go.Deep

theorem pow_big (p : Option Addr) (m cap : Nat) (zs : List Int) (k : Int) (w : World) (ha : Arg w p m cap zs) (tz : 4096 < Nm.tsize zs) :
    Calls Tryz.prog 82 #[.slice p m cap, .int .i64 k] w fun e w' => e = .returned (.tuple #[.slice none 0 0, .int .i64 2]) ∧ w' = w := by
  obtain ⟨L, l1, _, _, _⟩ := blen_is zs ha.2.2.2.2
  obtain ⟨N, HN⟩ : ∃ N, Hid (Nm.tsize zs = N) := ⟨_, rfl⟩
  have hN : (4096 : Int) < (N : Int) := by have := HN.out; omega
  have HB := hid (bitLen_isT L p m cap zs w ha l1)
  have HL := hid (limbs_isT p m cap zs N w ha HN.out)
  clear ha tz l1
  go_enter Tryz.func82, Tryz.ntmps82
  go_wp2_with fail
  refine HB.out.mono ?_
  rintro e w' ⟨rfl, rfl⟩
  go_wp2_with fail
  refine HL.out.mono ?_
  rintro e w' ⟨rfl, rfl⟩
  go_wp2_with fail
  go_ret2
  exact ⟨rfl, rfl⟩

theorem pow_neg (p : Option Addr) (m cap : Nat) (zs : List Int) (k : Int) (w : World) (ha : Arg w p m cap zs) (tz : Nm.tsize zs ≤ 4096) (hk : k < 0) :
    Calls Tryz.prog 82 #[.slice p m cap, .int .i64 k] w fun e w' => e = .returned (.tuple #[.slice none 0 0, .int .i64 1]) ∧ w' = w := by
  obtain ⟨L, l1, _, _, _⟩ := blen_is zs ha.2.2.2.2
  obtain ⟨N, HN⟩ : ∃ N, Hid (Nm.tsize zs = N) := ⟨_, rfl⟩
  have hN : (N : Int) ≤ 4096 := by have := HN.out; omega
  have HB := hid (bitLen_isT L p m cap zs w ha l1)
  have HL := hid (limbs_isT p m cap zs N w ha HN.out)
  clear ha tz l1
  go_enter Tryz.func82, Tryz.ntmps82
  go_wp2_with fail
  refine HB.out.mono ?_
  rintro e w' ⟨rfl, rfl⟩
  go_wp2_with fail
  refine HL.out.mono ?_
  rintro e w' ⟨rfl, rfl⟩
  go_wp2_with fail
  go_ret2
  exact ⟨rfl, rfl⟩

theorem one_lt_pw : (1 : Int) < Nm.pw 4096 := by
  have h := Nm.pw_mono (show 1 ≤ 4096 by omega)
  have e : Nm.pw 1 = 18446744073709551616 := by simp [Nm.pw]
  rw [e] at h
  generalize Nm.pw 4096 = x at *
  omega

set_option maxRecDepth 100000 in
set_option maxHeartbeats 1000000 in
theorem pow_gives (p : Option Addr) (m cap : Nat) (zs : List Int) (A k : Int) (n : Nat) (w : World) (ha : Arg w p m cap zs) (tz : Nm.tsize zs ≤ 4096) (hA : Nm.val zs = A) (hk : k = (n : Int)) (hk1 : k ≤ 9223372036854775807) :
    Calls Tryz.prog 82 #[.slice p m cap, .int .i64 k] w fun e w' => Gives (A ^ n) w e w' := by
  obtain ⟨L, l1, l2, l3, _⟩ := blen_is zs ha.2.2.2.2
  obtain ⟨N, HN⟩ : ∃ N, Hid (Nm.tsize zs = N) := ⟨_, rfl⟩
  have hN : (N : Int) ≤ 4096 := by have := HN.out; omega
  have HB := hid (bitLen_isT L p m cap zs w ha l1)
  have HL := hid (limbs_isT p m cap zs N w ha HN.out)
  have hL : (L : Int) ≤ 262144 := by omega
  have A0 := (Nm.val_bd zs ha.2.2.2.2).1
  rw [hA] at A0 l2
  have HAs : Hid (A < Nm.pw 4096) := by show _ < _; rw [← hA]; exact (Nm.tsize_le_iff ha.2.2.2.2 4096).1 tz
  have HA := hid ha
  have HT := hid tz
  have HVA := hid hA
  have HL2 := hid l2
  clear ha tz l1 l2 l3 hA
  subst hk
  by_cases h0 : n = 0
  · subst h0
    have F := hid (fromUint_any 1 w (by omega) (by omega))
    go_enter Tryz.func82, Tryz.ntmps82
    go_wp2_with fail
    refine HB.out.mono ?_
    rintro e w' ⟨rfl, rfl⟩
    go_wp2_with fail
    refine HL.out.mono ?_
    rintro e w' ⟨rfl, rfl⟩
    go_wp2_with fail
    refine F.out.mono ?_
    rintro e w1 ⟨r, os, rfl, A1, hb1⟩
    have G : Hid (Gives (A ^ 0) w' (.returned (.tuple #[.slice r (List.length os) (List.length os), .int .i64 0])) w1) :=
      ⟨.inl ⟨by rw [Int.pow_zero]; exact one_lt_pw, r, os, rfl, by rw [Int.pow_zero]; exact A1⟩, hb1⟩
    clear A1 hb1
    go_wp2_with fail
    go_ret2
    exact G.out
  have hn0 : ((n : Int) == 0) = false := by rw [beq_eq_false_iff_ne]; omega
  by_cases hL2 : L < 2
  · have hL2' : (L : Int) < 2 := by omega
    have E : Hid (A ^ n = A) := by
      have h := HL2.out.1
      have hA2 : A < 2 := by
        have := Nm.two_mono (show L ≤ 1 by omega)
        omega
      show _ = _
      obtain ⟨n', rfl⟩ : ∃ n', n = n' + 1 := ⟨n - 1, by omega⟩
      rcases (show A = 0 ∨ A = 1 by omega) with rfl | rfl
      · rw [Int.pow_succ, Int.mul_zero]
      · rw [Int.one_pow]
    have TR := hid (trim_any p m cap zs w HA.out)
    go_enter Tryz.func82, Tryz.ntmps82
    go_wp2_with fail
    refine HB.out.mono ?_
    rintro e w' ⟨rfl, rfl⟩
    go_wp2_with fail
    refine HL.out.mono ?_
    rintro e w' ⟨rfl, rfl⟩
    go_wp2_with fail
    refine TR.out.mono ?_
    rintro e w1 ⟨r, os, rfl, -, A1, hb1⟩
    rw [HVA.out] at A1
    have G : Hid (Gives (A ^ n) w' (.returned (.tuple #[.slice r (List.length os) (List.length os), .int .i64 0])) w1) := by
      rw [E.out]
      exact ⟨.inl ⟨HAs.out, r, os, rfl, A1⟩, hb1⟩
    clear A1 hb1
    go_wp2_with fail
    go_ret2
    exact G.out
  have hL2' : (2 : Int) ≤ (L : Int) := by omega
  have hA2 : Hid (2 ^ (L - 1) ≤ A) := by
    have h1 := HL2.out.2.2
    have h2 : 0 < A := by
      rcases (show A = 0 ∨ 0 < A by omega) with h | h
      · have := HL2.out.2.1 h; omega
      · exact h
    exact (h1 h2).2
  have hA1 : Hid (1 ≤ A) := by
    have := Nm.two_pos (L - 1)
    have := hA2.out
    show _ ≤ _
    omega
  obtain ⟨c, hc⟩ : ∃ c, 262143 / ((L : Int) - 1) = c := ⟨_, rfl⟩
  have d1 := Int.emod_add_mul_ediv 262143 ((L : Int) - 1)
  have d2 := Int.emod_nonneg 262143 (show (L : Int) - 1 ≠ 0 by omega)
  have d3 := Int.emod_lt_of_pos 262143 (show 0 < (L : Int) - 1 by omega)
  have d4 : 0 ≤ c := by rw [← hc]; exact Int.ediv_nonneg (by omega) (by omega)
  rw [hc] at d1
  have hc2 : (262143 : Int).tdiv ((L : Int) - 1) = c := by rw [Int.tdiv_eq_ediv_of_nonneg (by omega)]; exact hc
  have hz : (((L : Int) - 1) == 0) = false := by rw [beq_eq_false_iff_ne]; omega
  have hc3 : c ≤ 262143 := by
    have e1 : 1 * c ≤ ((L : Int) - 1) * c := Int.mul_le_mul_of_nonneg_right (by omega) d4
    omega
  by_cases hb : c < (n : Int)
  · have G : Hid (Gives (A ^ n) w (.returned (.tuple #[.slice none 0 0, .int .i64 2])) w) := by
      refine ⟨.inr ⟨Pn.early hA2.out ?_, rfl⟩, Below.refl _ _⟩
      have e1 : ((L : Int) - 1) * (c + 1) ≤ ((L : Int) - 1) * (n : Int) := Int.mul_le_mul_of_nonneg_left (by omega) (by omega)
      rw [Int.mul_add, Int.mul_one] at e1
      have e2 : (((L - 1) * n : Nat) : Int) = ((L : Int) - 1) * (n : Int) := by rw [Int.natCast_mul, show ((L - 1 : Nat) : Int) = (L : Int) - 1 by omega]
      omega
    clear d1 d2 d3
    go_enter Tryz.func82, Tryz.ntmps82
    go_wp2_with fail
    refine HB.out.mono ?_
    rintro e w' ⟨rfl, rfl⟩
    go_wp2_with fail
    refine HL.out.mono ?_
    rintro e w' ⟨rfl, rfl⟩
    go_wp2_with fail
    go_ret2
    exact G.out
  · have hb' : (n : Int) ≤ c := by omega
    have P := hid (power_any p m cap zs A n w HA.out HT.out HVA.out hA1.out (by omega) (by omega))
    clear d1 d2 d3 hb
    go_enter Tryz.func82, Tryz.ntmps82
    go_wp2_with fail
    refine HB.out.mono ?_
    rintro e w' ⟨rfl, rfl⟩
    go_wp2_with fail
    refine HL.out.mono ?_
    rintro e w' ⟨rfl, rfl⟩
    go_wp2_with fail
    refine P.out.mono ?_
    rintro e w1 ⟨h | h, hb1⟩
    · obtain ⟨h1, r, os, rfl, A1⟩ := h
      have G : Hid (Gives (A ^ n) w' (.returned (.tuple #[.slice r (List.length os) (List.length os), .int .i64 0])) w1) := ⟨.inl ⟨h1, r, os, rfl, A1⟩, hb1⟩
      clear h1 A1 hb1
      go_wp2_with fail
      go_ret2
      exact G.out
    · obtain ⟨h1, rfl⟩ := h
      have G : Hid (Gives (A ^ n) w' (.returned (.tuple #[.slice none 0 0, .int .i64 2])) w1) := ⟨.inr ⟨h1, rfl⟩, hb1⟩
      clear h1 hb1
      go_wp2_with fail
      go_ret2
      exact G.out
end Go.Proofs.YtmakkfekomnpbaaGreatDoor

/-
  remain: size, Power (made by mkmpower.py).
-/
namespace Go.Proofs.YtmakkfekomnpbaaGreatDoor
open Go Go.RowKit Go.Deep

theorem Ie.pw_54272 : (2 : Int) ^ 54272 < Nm.pw 4095 := by
  rw [Nm.pw_two 4095]
  have h1 := Nm.two_mono (show 54272 + 1 ≤ 64 * 4095 by omega)
  have h2 := Nm.two_succ 54272
  have h3 := Nm.two_pos 54272
  omega

theorem Ie.odd_part {m j : Int} {t : Nat} (h : m = 2 ^ t * (2 * j + 1)) (m0 : 0 < m) (m1 : m < 9007199254740992) : ∃ o, m = o * 2 ^ t ∧ 0 < o ∧ o < 9007199254740992 ∧ m / 2 ^ t = o := by
  have hp := Nm.two_pos t
  refine ⟨2 * j + 1, by rw [h, Int.mul_comm], ?_, ?_, ?_⟩
  · exact Int.pos_of_mul_pos_right (by omega) hp |> fun x => x
  · have : 1 * (2 * j + 1) ≤ 2 ^ t * (2 * j + 1) := by
      refine Int.mul_le_mul_of_nonneg_right (by omega) ?_
      rcases (show 0 ≤ 2 * j + 1 ∨ 2 * j + 1 < 0 by omega) with g | g
      · exact g
      · have := Int.mul_neg_of_pos_of_neg hp g; omega
    omega
  · rw [h, Int.mul_ediv_cancel_left _ (by omega)]

theorem Ie.exp_bd {x n : Int} {t : Nat} (e0 : -1074 ≤ x) (e1 : x ≤ 971) (ht : t ≤ 63) (n0 : -1024 ≤ n) (n1 : n ≤ 1024) : -2000000 ≤ (x + (t : Int)) * n ∧ (x + (t : Int)) * n ≤ 2000000 := by
  rcases (show 0 ≤ n ∨ n < 0 by omega) with h | h
  · have a1 : (x + (t : Int)) * n ≤ 1034 * n := Int.mul_le_mul_of_nonneg_right (by omega) h
    have a2 : -1074 * n ≤ (x + (t : Int)) * n := Int.mul_le_mul_of_nonneg_right (by omega) h
    omega
  · have a1 : (x + (t : Int)) * -n ≤ 1034 * -n := Int.mul_le_mul_of_nonneg_right (by omega) (by omega)
    have a2 : -1074 * -n ≤ (x + (t : Int)) * -n := Int.mul_le_mul_of_nonneg_right (by omega) (by omega)
    simp only [Int.mul_neg] at a1 a2
    omega

set_option maxRecDepth 100000 in
set_option maxHeartbeats 8000000 in
theorem size_pos (d n : Int) (k : Nat) (w : World) (hT : Tab w) (h0 : 0 ≤ d) (h1 : d < 18446744073709551616) (hf : Ie.fin d) (hz : Ie.ab d ≠ 0) (hn : 0 < n) (hk : n = (k : Int)) (k1 : k ≤ 1024) :
    Calls Tryz.prog 40 #[.int .u64 d, .int .i64 n] w fun e w' => ∃ x, e = .returned (.int .u64 x) ∧ Hid (Ie.PowIs (Ie.dm d) (Ie.de d) n x) ∧ Below w.heap.size w w' := by
  have NI := hid (fun (wx : World) => minfinite_any d wx h0 h1)
  have NZ := hid (fun (wx : World) => mzero_any d wx h0 h1)
  rw [(Ie.fin_kinds hf).2] at NI
  have z0 : Ie.isz d = false := by rw [Ie.isz, decide_eq_false_iff_not]; exact hz
  rw [z0] at NZ
  have D := hid (fun (wx : World) => decode_any d wx h0 h1)
  rw [← Ie.ngd] at D
  obtain ⟨⟨m0, m1⟩, ⟨e0, e1⟩, -, m2⟩ := Ie.dec_f d hf
  have mp : 0 < Ie.dm d := by have := fun g => hz (m2.1 g); omega
  have HT := hid hT
  have mx : max n (-n) = (k : Int) := by omega
  have nb : -1024 ≤ n ∧ n ≤ 1024 := by omega
  clear m0 m2 z0 hz hf hT
  simp only [partsOf] at D
  generalize Ie.dm d = m at *
  generalize Ie.de d = x at *
  generalize Ie.ngd d = neg at *
  generalize Ie.cls d = c at *
  have TZ := hid (fun (wx : World) (hx : Tab wx) => tz64 m wx mp (by omega) hx)
  have OD := hid (fun (t : Nat) (j : Int) (h : m = 2 ^ t * (2 * j + 1)) => Ie.odd_part h mp m1)
  have EB := hid (fun (t : Nat) (ht : t ≤ 63) => Ie.exp_bd (n := n) e0 e1 ht nb.1 nb.2)
  have FU : Hid (∀ (wx : World) (o : Int), 0 < o → o < 9007199254740992 → Calls Tryz.prog 30 #[.int .u64 o] wx fun e w' => ∃ r os, e = .returned (.slice r (List.length os) (List.length os)) ∧ Ans wx.heap.size w' r os o ∧ Below wx.heap.size wx w') := fun wx o o0 o1 => fromUint_any o wx (by omega) (by omega)
  have PO : Hid (∀ (wx : World) (o : Int) (p : Option Addr) (os : List Int) (B : Nat), 0 < o → o < 9007199254740992 → Ans B wx p os o → Calls Tryz.prog 82 #[.slice p os.length os.length, .int .i64 (k : Int)] wx fun e w' => ∃ r os, e = .returned (.tuple #[.slice r (List.length os) (List.length os), .int .i64 0]) ∧ Ans wx.heap.size w' r os (o ^ k) ∧ Below wx.heap.size wx w') := by
    intro wx o p os B o0 o1 A
    have l1 := A.lim1 (by omega)
    refine (pow_gives p _ _ os o (k : Int) k wx (A.arg (by omega)) (by rw [A.2.2.1]; omega) A.2.2.2.1 rfl (by omega)).mono ?_
    rintro e w' ⟨h | h, hB⟩
    · obtain ⟨_, r, os, rfl, A'⟩ := h
      exact ⟨r, os, rfl, A', hB⟩
    · exfalso
      have g := (Ie.pow_bd o0 o1 k1).2
      have g1 := Ie.pw_54272
      have g2 := Nm.pw_mono (show 4095 ≤ 4096 by omega)
      have := h.1
      omega
  have RO : Hid (∀ (wx : World) (t : Nat) (o E : Int) (p : Option Addr) (os : List Int) (B : Nat), 0 < o → o < 9007199254740992 → m = o * 2 ^ t → (x + (t : Int)) * n = E → Tab wx → Ans B wx p os (o ^ k) → Calls Tryz.prog 29 #[.bool false, .slice p os.length os.length, .int .i64 E, .bool false] wx fun r w' => ∃ y, r = .returned (.tuple #[.int .u64 y, .int .i64 0]) ∧ Hid (Ie.PowIs m x n y) ∧ Below wx.heap.size wx w') := by
    intro wx t o E p os B o0 o1 hm hE hx A
    have bd := Ie.pow_bd o0 o1 k1
    have g1 := Ie.pw_54272
    have g2 := Nm.pw_mono (show 4095 ≤ 4096 by omega)
    have l1 := A.tsT (by omega)
    have l2 := A.2.2.1
    refine (round_any false p _ _ os wx (A.arg (by omega)) hx l1 (o ^ k) E false A.2.2.2.1).mono ?_
    rintro e w' ⟨y, rfl, hR, hB⟩
    refine ⟨y, rfl, ?_, hB⟩
    refine Ie.PowIs.mk hm (by omega) (fun j hj => ?_) (fun j hj => ?_)
    · obtain rfl : j = k := by omega
      rw [hE]; exact hR
    · omega
  have xb : -1074 ≤ x ∧ x ≤ 971 := ⟨e0, e1⟩
  obtain ⟨xb1, xb2⟩ := xb
  obtain ⟨nb1, nb2⟩ := nb
  have kb : (k : Int) ≤ 1024 := by omega
  clear hk e0 e1 k1
  go_enter Tryz.func40, Tryz.ntmps40
  go_wp2_with fail
  refine (NZ.out _).mono ?_
  rintro e wz ⟨rfl, hz⟩
  replace hz := hz.symm
  subst hz
  go_wp2_with fail
  refine (NI.out _).mono ?_
  rintro e wz ⟨rfl, hz⟩
  replace hz := hz.symm
  subst hz
  go_wp2_with fail
  refine (NZ.out _).mono ?_
  rintro e wz ⟨rfl, hz⟩
  replace hz := hz.symm
  subst hz
  go_wp2_with fail
  refine (NI.out _).mono ?_
  rintro e wz ⟨rfl, hz⟩
  replace hz := hz.symm
  subst hz
  go_wp2_with fail
  refine (D.out _).mono ?_
  rintro e w1 ⟨rfl, hB1⟩
  have K := hid ((((Stays.cell ⟨w1.heap.size, 2, none⟩ (.int .u64 m)).and (Stays.cell ⟨w1.heap.size, 3, none⟩ (.int .i64 x))).and Stays.tab))
  have HB1 := hid hB1
  clear hB1 NZ NI D
  go_upto_region 6 with fail
  have hb := HB1.out.trans ((alloc_b w1 (.cells #[.bool neg, .int .i64 c, .int .u64 m, .int .i64 x] 40)).mono HB1.out.size)
  have P := Row4.new w1 40 (.bool neg) (.int .i64 c) (.int .u64 m) (.int .i64 x)
  have S0 := hid (St.mk (w := w) (S := fun w' => (w'.cell? ⟨w1.heap.size, 2, none⟩ = some (.int .u64 m) ∧ w'.cell? ⟨w1.heap.size, 3, none⟩ = some (.int .i64 x)) ∧ Tab w') ⟨⟨P.cells.1.2.2.1, P.cells.1.2.2.2⟩, HT.out.below hb⟩ hb)
  clear P hb HT HB1
  generalize w1.alloc (.cells #[.bool neg, .int .i64 c, .int .u64 m, .int .i64 x] 40) = wA at *
  generalize w1.heap.size = b at *
  have TZ1 := hid (TZ.out wA S0.out.cells.2)
  obtain ⟨p2, p3⟩ := S0.out.cells.1
  clear TZ
  go_wp2_with fail
  refine TZ1.out.mono ?_
  rintro e wz ⟨t, j, rfl, ht, hm, hz⟩
  replace hz := hz.symm
  subst hz
  obtain ⟨o, hm2, o0, o1, SM⟩ := OD.out t j hm.out
  have HM := hid hm2
  have TB : (t : Int) ≤ 63 := by omega
  clear TZ1 OD hm hm2
  have FU1 := hid (FU.out wA o o0 o1)
  go_wp2_with fail
  refine FU1.out.mono ?_
  rintro e w2 ⟨p4, o4, rfl, A, hB⟩
  have S2 := hid (S0.out.on K.out hB)
  have PO1 := hid (PO.out w2 o p4 o4 _ o0 o1 A)
  clear p2 p3 hB A S0 FU FU1 PO
  go_wp2_with fail
  refine PO1.out.mono ?_
  rintro e w3 ⟨p5, o5, rfl, A, hB⟩
  have S3 := hid (S2.out.on K.out hB)
  have HA := hid A
  obtain ⟨E, hE⟩ : ∃ E, (x + (t : Int)) * n = E := ⟨_, rfl⟩
  have eb := EB.out t ht
  rw [hE] at eb
  obtain ⟨eb1, eb2⟩ := eb
  obtain ⟨p2, p3⟩ := S3.out.cells.1
  have RO1 := hid (RO.out w3 t o E p5 o5 _ o0 o1 HM.out hE S3.out.cells.2 HA.out)
  clear hB A S2 PO1 HA RO SM mx
  go_wp2_with fail
  refine RO1.out.mono ?_
  rintro e w4 ⟨y, rfl, hR, hB⟩
  have S4 := hid (S3.out.on K.out hB)
  clear hB p2 p3
  go_wp2_with fail
  go_ret
  exact ⟨_, rfl, hR, S4.out.bel⟩

set_option maxRecDepth 100000 in
set_option maxHeartbeats 8000000 in
theorem size_neg (d n : Int) (k : Nat) (w : World) (hT : Tab w) (h0 : 0 ≤ d) (h1 : d < 18446744073709551616) (hf : Ie.fin d) (hz : Ie.ab d ≠ 0) (hn : n < 0) (hk : -n = (k : Int)) (k1 : k ≤ 1024) :
    Calls Tryz.prog 40 #[.int .u64 d, .int .i64 n] w fun e w' => ∃ x, e = .returned (.int .u64 x) ∧ Hid (Ie.PowIs (Ie.dm d) (Ie.de d) n x) ∧ Below w.heap.size w w' := by
  have NI := hid (fun (wx : World) => minfinite_any d wx h0 h1)
  have NZ := hid (fun (wx : World) => mzero_any d wx h0 h1)
  rw [(Ie.fin_kinds hf).2] at NI
  have z0 : Ie.isz d = false := by rw [Ie.isz, decide_eq_false_iff_not]; exact hz
  rw [z0] at NZ
  have D := hid (fun (wx : World) => decode_any d wx h0 h1)
  rw [← Ie.ngd] at D
  obtain ⟨⟨m0, m1⟩, ⟨e0, e1⟩, -, m2⟩ := Ie.dec_f d hf
  have mp : 0 < Ie.dm d := by have := fun g => hz (m2.1 g); omega
  have HT := hid hT
  have mx : max n (-n) = (k : Int) := by omega
  have nb : -1024 ≤ n ∧ n ≤ 1024 := by omega
  clear m0 m2 z0 hz hf hT
  simp only [partsOf] at D
  generalize Ie.dm d = m at *
  generalize Ie.de d = x at *
  generalize Ie.ngd d = neg at *
  generalize Ie.cls d = c at *
  have TZ := hid (fun (wx : World) (hx : Tab wx) => tz64 m wx mp (by omega) hx)
  have OD := hid (fun (t : Nat) (j : Int) (h : m = 2 ^ t * (2 * j + 1)) => Ie.odd_part h mp m1)
  have EB := hid (fun (t : Nat) (ht : t ≤ 63) => Ie.exp_bd (n := n) e0 e1 ht nb.1 nb.2)
  have FU : Hid (∀ (wx : World) (o : Int), 0 < o → o < 9007199254740992 → Calls Tryz.prog 30 #[.int .u64 o] wx fun e w' => ∃ r os, e = .returned (.slice r (List.length os) (List.length os)) ∧ Ans wx.heap.size w' r os o ∧ Below wx.heap.size wx w') := fun wx o o0 o1 => fromUint_any o wx (by omega) (by omega)
  have PO : Hid (∀ (wx : World) (o : Int) (p : Option Addr) (os : List Int) (B : Nat), 0 < o → o < 9007199254740992 → Ans B wx p os o → Calls Tryz.prog 82 #[.slice p os.length os.length, .int .i64 (k : Int)] wx fun e w' => ∃ r os, e = .returned (.tuple #[.slice r (List.length os) (List.length os), .int .i64 0]) ∧ Ans wx.heap.size w' r os (o ^ k) ∧ Below wx.heap.size wx w') := by
    intro wx o p os B o0 o1 A
    have l1 := A.lim1 (by omega)
    refine (pow_gives p _ _ os o (k : Int) k wx (A.arg (by omega)) (by rw [A.2.2.1]; omega) A.2.2.2.1 rfl (by omega)).mono ?_
    rintro e w' ⟨h | h, hB⟩
    · obtain ⟨_, r, os, rfl, A'⟩ := h
      exact ⟨r, os, rfl, A', hB⟩
    · exfalso
      have g := (Ie.pow_bd o0 o1 k1).2
      have g1 := Ie.pw_54272
      have g2 := Nm.pw_mono (show 4095 ≤ 4096 by omega)
      have := h.1
      omega
  have F1 := hid (fun (wx : World) => fromUint_any 1 wx (by omega) (by omega))
  have RO : Hid (∀ (wx : World) (t : Nat) (o E : Int) (p q : Option Addr) (os qs : List Int) (B B' : Nat), 0 < o → o < 9007199254740992 → m = o * 2 ^ t → (x + (t : Int)) * n = E → Tab wx → Ans B wx p os (o ^ k) → Ans B' wx q qs 1 → Calls Tryz.prog 83 #[.bool false, .slice q qs.length qs.length, .slice p os.length os.length, .int .i64 E] wx fun r w' => ∃ y, r = .returned (.tuple #[.int .u64 y, .int .i64 0]) ∧ Hid (Ie.PowIs m x n y) ∧ Below wx.heap.size wx w') := by
    intro wx t o E p q os qs B B' o0 o1 hm hE hx A A1
    have bd := Ie.pow_bd o0 o1 k1
    have g1 := Ie.pw_54272
    have g2 := Nm.pw_mono (show 4095 ≤ 4096 by omega)
    have l1 : os.length ≤ 4095 := ans_small A 4095 (by omega)
    have l2 := A.2.2.1
    have l3 := A1.lim1 (by omega)
    refine (roundRatio_any false q p _ _ _ _ qs os wx (A1.arg (by omega)) (A.arg (by omega)) hx (by rw [A1.2.2.1]; omega) (by omega) 1 (o ^ k) E A1.2.2.2.1 A.2.2.2.1 bd.1).mono ?_
    rintro e w' ⟨y, rfl, hR, hB⟩
    refine ⟨y, rfl, ?_, hB⟩
    refine Ie.PowIs.mk hm (by omega) (fun j hj => ?_) (fun j hj => ?_)
    · omega
    · obtain rfl : j = k := by omega
      rw [hE]; exact hR
  have xb : -1074 ≤ x ∧ x ≤ 971 := ⟨e0, e1⟩
  obtain ⟨xb1, xb2⟩ := xb
  obtain ⟨nb1, nb2⟩ := nb
  have kb : (k : Int) ≤ 1024 := by omega
  clear hk e0 e1 k1
  go_enter Tryz.func40, Tryz.ntmps40
  go_wp2_with fail
  refine (NZ.out _).mono ?_
  rintro e wz ⟨rfl, hz⟩
  replace hz := hz.symm
  subst hz
  go_wp2_with fail
  refine (NI.out _).mono ?_
  rintro e wz ⟨rfl, hz⟩
  replace hz := hz.symm
  subst hz
  go_wp2_with fail
  refine (NZ.out _).mono ?_
  rintro e wz ⟨rfl, hz⟩
  replace hz := hz.symm
  subst hz
  go_wp2_with fail
  refine (NI.out _).mono ?_
  rintro e wz ⟨rfl, hz⟩
  replace hz := hz.symm
  subst hz
  go_wp2_with fail
  refine (D.out _).mono ?_
  rintro e w1 ⟨rfl, hB1⟩
  have K := hid ((((Stays.cell ⟨w1.heap.size, 2, none⟩ (.int .u64 m)).and (Stays.cell ⟨w1.heap.size, 3, none⟩ (.int .i64 x))).and Stays.tab))
  have HB1 := hid hB1
  clear hB1 NZ NI D
  go_upto_region 6 with fail
  have hb := HB1.out.trans ((alloc_b w1 (.cells #[.bool neg, .int .i64 c, .int .u64 m, .int .i64 x] 40)).mono HB1.out.size)
  have P := Row4.new w1 40 (.bool neg) (.int .i64 c) (.int .u64 m) (.int .i64 x)
  have S0 := hid (St.mk (w := w) (S := fun w' => (w'.cell? ⟨w1.heap.size, 2, none⟩ = some (.int .u64 m) ∧ w'.cell? ⟨w1.heap.size, 3, none⟩ = some (.int .i64 x)) ∧ Tab w') ⟨⟨P.cells.1.2.2.1, P.cells.1.2.2.2⟩, HT.out.below hb⟩ hb)
  clear P hb HT HB1
  generalize w1.alloc (.cells #[.bool neg, .int .i64 c, .int .u64 m, .int .i64 x] 40) = wA at *
  generalize w1.heap.size = b at *
  have TZ1 := hid (TZ.out wA S0.out.cells.2)
  obtain ⟨p2, p3⟩ := S0.out.cells.1
  clear TZ
  go_wp2_with fail
  refine TZ1.out.mono ?_
  rintro e wz ⟨t, j, rfl, ht, hm, hz⟩
  replace hz := hz.symm
  subst hz
  obtain ⟨o, hm2, o0, o1, SM⟩ := OD.out t j hm.out
  have HM := hid hm2
  have TB : (t : Int) ≤ 63 := by omega
  clear TZ1 OD hm hm2
  have FU1 := hid (FU.out wA o o0 o1)
  go_wp2_with fail
  refine FU1.out.mono ?_
  rintro e w2 ⟨p4, o4, rfl, A, hB⟩
  have S2 := hid (S0.out.on K.out hB)
  have PO1 := hid (PO.out w2 o p4 o4 _ o0 o1 A)
  clear p2 p3 hB A S0 FU FU1 PO
  go_wp2_with fail
  refine PO1.out.mono ?_
  rintro e w3 ⟨p5, o5, rfl, A, hB⟩
  have S3 := hid (S2.out.on K.out hB)
  have HA := hid A
  obtain ⟨E, hE⟩ : ∃ E, (x + (t : Int)) * n = E := ⟨_, rfl⟩
  have eb := EB.out t ht
  rw [hE] at eb
  obtain ⟨eb1, eb2⟩ := eb
  obtain ⟨p2, p3⟩ := S3.out.cells.1
  have RO1 := hid (fun (wx : World) (q : Option Addr) (qs : List Int) (B' : Nat) (hx : Tab wx) (A : Ans w2.heap.size wx p5 o5 (o ^ k)) (A1 : Ans B' wx q qs 1) => RO.out wx t o E p5 q o5 qs _ _ o0 o1 HM.out hE hx A A1)
  clear hB A S2 PO1 RO SM mx
  go_wp2_with fail
  refine (F1.out _).mono ?_
  rintro e w4 ⟨q6, o6, rfl, A, hB⟩
  have S4 := hid (S3.out.on K.out hB)
  have RO2 := hid (RO1.out w4 q6 o6 _ S4.out.cells.2 (HA.out.below hB (Nat.le_refl _)) A)
  clear hB A p2 p3 HA RO1 F1
  go_wp2_with fail
  refine RO2.out.mono ?_
  rintro e w5 ⟨y, rfl, hR, hB⟩
  have S5 := hid (S4.out.on K.out hB)
  clear hB
  go_wp2_with fail
  go_ret
  exact ⟨_, rfl, hR, S5.out.bel⟩
end Go.Proofs.YtmakkfekomnpbaaGreatDoor

/-
  remain: size, Power (made by mkmfmod.py).
-/
namespace Go.Proofs.YtmakkfekomnpbaaGreatDoor
open Go Go.RowKit Go.Deep

namespace Ie
/-- What size answers, n not 0. -/
def SizeIs (x n y : Int) : Prop := (isz x = true → y = if 0 < n then 0 else 9218868437227405312) ∧ (isi x = true → y = if 0 < n then 9218868437227405312 else 0) ∧ (fin x → ab x ≠ 0 → PowIs (dm x) (de x) n y) ∧ 0 ≤ y ∧ y ≤ 9218868437227405312

theorem PowIs.bd {m e n r : Int} (h : PowIs m e n r) : 0 ≤ r ∧ r ≤ 9218868437227405312 := by
  rcases (show 0 ≤ n ∨ n < 0 by omega) with g | g
  · exact (h.1 n.toNat (by omega)).bd
  · exact (h.2 (-n).toNat (by omega)).bd

/-- What Power answers. -/
def PwrIs (x n r e : Int) : Prop :=
  (n < -1024 ∨ 1024 < n → r = 0 ∧ e = 60) ∧ (-1024 ≤ n → n ≤ 1024 → e = 0 ∧ (n = 0 → r = 4607182418800017408) ∧
    (n ≠ 0 → (isn x = true → r = 9221120237041090560) ∧ (isn x = false → ∃ y, r = sg (ngd x && !(n % 2 == 0)) y ∧ SizeIs x n y)))

theorem sz_not {x : Int} (h : isz x = true) : isi x = false ∧ isn x = false := by
  simp only [isz, isi, isn, decide_eq_true_iff, decide_eq_false_iff_not] at *; omega
theorem si_not {x : Int} (h : isi x = true) : isz x = false ∧ isn x = false := by
  simp only [isz, isi, isn, decide_eq_true_iff, decide_eq_false_iff_not] at *; omega
end Ie

set_option maxRecDepth 100000 in
theorem size_any (d n : Int) (w : World) (hT : Tab w) (h0 : 0 ≤ d) (h1 : d < 18446744073709551616) (hn : Ie.isn d = false) (n0 : n ≠ 0) (n1 : -1024 ≤ n) (n2 : n ≤ 1024) :
    Calls Tryz.prog 40 #[.int .u64 d, .int .i64 n] w fun e w' => ∃ y, e = .returned (.int .u64 y) ∧ Hid (Ie.SizeIs d n y) ∧ Below w.heap.size w w' := by
  have NI := hid (fun (wx : World) => minfinite_any d wx h0 h1)
  have NZ := hid (fun (wx : World) => mzero_any d wx h0 h1)
  cases z : Ie.isz d
  · cases i : Ie.isi d
    · have hf : Ie.fin d := by simp only [Ie.isn, Ie.isi, Ie.fin, decide_eq_false_iff_not] at *; omega
      have hz : Ie.ab d ≠ 0 := by rw [Ie.isz, decide_eq_false_iff_not] at z; exact z
      have fin : ∀ y, Ie.PowIs (Ie.dm d) (Ie.de d) n y → Ie.SizeIs d n y := fun y h => ⟨fun g => (by rw [z] at g; cases g), fun g => (by rw [i] at g; cases g), fun _ _ => h, h.bd.1, h.bd.2⟩
      rcases (show 0 < n ∨ n < 0 by omega) with g | g
      · refine (size_pos d n n.toNat w hT h0 h1 hf hz g (by omega) (by omega)).mono ?_
        rintro e w' ⟨y, rfl, hy, hB⟩
        exact ⟨y, rfl, fin y hy.out, hB⟩
      · refine (size_neg d n (-n).toNat w hT h0 h1 hf hz g (by omega) (by omega)).mono ?_
        rintro e w' ⟨y, rfl, hy, hB⟩
        exact ⟨y, rfl, fin y hy.out, hB⟩
    · rw [z] at NZ
      rw [i] at NI
      rcases (show 0 < n ∨ n < 0 by omega) with g | g
      · have E : Hid (Ie.SizeIs d n 9218868437227405312) := ⟨fun k => (by rw [z] at k; cases k), fun _ => (by rw [if_pos g]), fun k => (by rw [(Ie.fin_kinds k).2] at i; cases i), by omega, by omega⟩
        clear z i hn n0 h0 h1 hT
        go_enter Tryz.func40, Tryz.ntmps40
        go_wp2_with fail
        refine (NZ.out _).mono ?_
        rintro e wz ⟨rfl, hz⟩
        replace hz := hz.symm
        subst hz
        go_wp2_with fail
        refine (NI.out _).mono ?_
        rintro e wz ⟨rfl, hz⟩
        replace hz := hz.symm
        subst hz
        go_wp2_with fail
        refine (NZ.out _).mono ?_
        rintro e wz ⟨rfl, hz⟩
        replace hz := hz.symm
        subst hz
        go_wp2_with fail
        refine (NI.out _).mono ?_
        rintro e wz ⟨rfl, hz⟩
        replace hz := hz.symm
        subst hz
        go_wp2_with fail
        go_ret
        exact ⟨_, rfl, E.out, Below.refl _ _⟩
      · have E : Hid (Ie.SizeIs d n 0) := ⟨fun k => (by rw [z] at k; cases k), fun _ => (by rw [if_neg (by omega)]), fun k => (by rw [(Ie.fin_kinds k).2] at i; cases i), by omega, by omega⟩
        clear z i hn n0 h0 h1 hT
        go_enter Tryz.func40, Tryz.ntmps40
        go_wp2_with fail
        refine (NZ.out _).mono ?_
        rintro e wz ⟨rfl, hz⟩
        replace hz := hz.symm
        subst hz
        go_wp2_with fail
        refine (NI.out _).mono ?_
        rintro e wz ⟨rfl, hz⟩
        replace hz := hz.symm
        subst hz
        go_wp2_with fail
        go_ret
        exact ⟨_, rfl, E.out, Below.refl _ _⟩
  · have i := (Ie.sz_not z).1
    have hz : Ie.ab d = 0 := by rw [Ie.isz, decide_eq_true_iff] at z; exact z
    rw [z] at NZ
    rw [i] at NI
    rcases (show 0 < n ∨ n < 0 by omega) with g | g
    · have E : Hid (Ie.SizeIs d n 0) := ⟨fun _ => (by rw [if_pos g]), fun k => (by rw [i] at k; cases k), fun _ k => absurd hz k, by omega, by omega⟩
      clear z i hn n0 h0 h1 hT hz
      go_enter Tryz.func40, Tryz.ntmps40
      go_wp2_with fail
      refine (NZ.out _).mono ?_
      rintro e wz ⟨rfl, hz⟩
      replace hz := hz.symm
      subst hz
      go_wp2_with fail
      go_ret
      exact ⟨_, rfl, E.out, Below.refl _ _⟩
    · have E : Hid (Ie.SizeIs d n 9218868437227405312) := ⟨fun _ => (by rw [if_neg (by omega)]), fun k => (by rw [i] at k; cases k), fun _ k => absurd hz k, by omega, by omega⟩
      clear z i hn n0 h0 h1 hT hz
      go_enter Tryz.func40, Tryz.ntmps40
      go_wp2_with fail
      refine (NZ.out _).mono ?_
      rintro e wz ⟨rfl, hz⟩
      replace hz := hz.symm
      subst hz
      go_wp2_with fail
      refine (NI.out _).mono ?_
      rintro e wz ⟨rfl, hz⟩
      replace hz := hz.symm
      subst hz
      go_wp2_with fail
      refine (NZ.out _).mono ?_
      rintro e wz ⟨rfl, hz⟩
      replace hz := hz.symm
      subst hz
      go_wp2_with fail
      go_ret
      exact ⟨_, rfl, E.out, Below.refl _ _⟩

theorem tmod2 (n : Int) : (n % 2 = 0 → n.tmod 2 = 0) ∧ (n % 2 = 1 → n.tmod 2 ≠ 0) := by
  rcases (show 0 ≤ n ∨ n < 0 by omega) with h | h
  · rw [Int.tmod_eq_emod_of_nonneg h]; omega
  · have e : n.tmod 2 = -((-n).tmod 2) := by rw [Int.neg_tmod]; omega
    rw [e, Int.tmod_eq_emod_of_nonneg (show 0 ≤ -n by omega)]
    omega

theorem ret_ue {a b c d : Int} (h : a = b) (k : c = d) : Ending.returned (.tuple #[.int .u64 a, .int .i64 c]) = .returned (.tuple #[.int .u64 b, .int .i64 d]) := by rw [h, k]

set_option maxRecDepth 100000 in
theorem power6_any (d n : Int) (w : World) (hT : Tab w) (h0 : 0 ≤ d) (h1 : d < 18446744073709551616) :
    Calls Tryz.prog 13 #[.int .u64 d, .int .i64 n] w fun e w' => ∃ r f, e = .returned (.tuple #[.int .u64 r, .int .i64 f]) ∧ Ie.PwrIs d n r f ∧ Below w.heap.size w w' := by
  rcases (show n < -1024 ∨ 1024 < n ∨ (-1024 ≤ n ∧ n ≤ 1024) by omega) with g | g | ⟨g1, g2⟩
  · have E : Hid (Ie.PwrIs d n 0 60) := ⟨fun _ => ⟨rfl, rfl⟩, fun k => (by omega)⟩
    clear h0 h1 hT
    go_enter Tryz.func13, Tryz.ntmps13
    go_wp2_with fail
    go_ret2
    exact ⟨_, _, rfl, E.out, Below.refl _ _⟩
  · have E : Hid (Ie.PwrIs d n 0 60) := ⟨fun _ => ⟨rfl, rfl⟩, fun _ k => (by omega)⟩
    have g' : ¬ n < -1024 := by omega
    clear h0 h1 hT
    go_enter Tryz.func13, Tryz.ntmps13
    go_wp2_with fail
    go_ret2
    exact ⟨_, _, rfl, E.out, Below.refl _ _⟩
  · have g1' : ¬ n < -1024 := by omega
    have g2' : ¬ n > 1024 := by omega
    by_cases z : n = 0
    · subst z
      have E : Hid (Ie.PwrIs d 0 4607182418800017408 0) := ⟨fun k => (by omega), fun _ _ => ⟨rfl, fun _ => rfl, fun k => absurd rfl k⟩⟩
      clear h0 h1 hT g1 g2 g1' g2'
      go_enter Tryz.func13, Tryz.ntmps13
      go_wp2_with fail
      go_ret2
      exact ⟨_, _, rfl, E.out, Below.refl _ _⟩
    · have z' : (n == 0) = false := by rw [beq_eq_false_iff_ne]; exact z
      have NN := hid (fun (wx : World) => mnan_any d wx h0 h1)
      cases hn : Ie.isn d
      · rw [hn] at NN
        have SZ := hid (fun (wx : World) (hx : Tab wx) => size_any d n wx hx h0 h1 hn z g1 g2)
        have HT := hid hT
        have SA := Ib.sign_and d h0 h1
        have WT : Hid (∀ (wx : World) (y : Int), Ie.SizeIs d n y → Below w.heap.size w wx → ∃ r f, Ending.returned (.tuple #[.int .u64 (Ie.sg (Ie.ngd d && !(n % 2 == 0)) y), .int .i64 0]) = .returned (.tuple #[.int .u64 r, .int .i64 f]) ∧ Ie.PwrIs d n r f ∧ Below w.heap.size w wx) := by
          intro wx y hy hB
          exact ⟨_, _, rfl, ⟨fun k => (by omega), fun _ _ => ⟨rfl, fun k => absurd k z, fun _ => ⟨fun k => (by rw [hn] at k; cases k), fun _ => ⟨y, rfl, hy⟩⟩⟩⟩, hB⟩
        rcases (show n % 2 = 0 ∨ n % 2 = 1 by omega) with p | p
        · have p' : (Int.tmod n 2) = 0 := (tmod2 n).1 p
          have e : (Ie.ngd d && !(n % 2 == 0)) = false := by rw [p]; simp
          rw [e] at WT
          have OR : Hid (∀ y, Ie.SizeIs d n y → bits .or .u64 y 0 = y) := fun y hy => Ib.or_zero y hy.2.2.2.1 (by have := hy.2.2.2.2; omega)
          clear hT g1 g2 hn z h0 h1 p e SA
          go_enter Tryz.func13, Tryz.ntmps13
          go_wp2_with fail
          refine (NN.out _).mono ?_
          rintro e wz ⟨rfl, hz⟩
          replace hz := hz.symm
          subst hz
          go_wp2_with fail
          refine (SZ.out _ HT.out).mono ?_
          rintro e w1 ⟨y, rfl, hy, hB⟩
          have E := OR.out y hy.out
          have KK := hid (WT.out w1 y hy.out hB)
          clear hB OR WT SZ
          go_wp2_with fail
          go_ret2
          exact KK.out
        · have p' : ((Int.tmod n 2) == 0) = false := by rw [beq_eq_false_iff_ne]; exact (tmod2 n).2 p
          have e : (Ie.ngd d && !(n % 2 == 0)) = Ie.ngd d := by rw [p]; simp
          rw [e] at WT
          have OR : Hid (∀ y, Ie.SizeIs d n y → bits .or .u64 y (d / 9223372036854775808 * 9223372036854775808) = Ie.sg (Ie.ngd d) y) := by
            intro y hy
            have b0 := hy.2.2.2.1
            have b1 := hy.2.2.2.2
            rcases (show d < 9223372036854775808 ∨ 9223372036854775808 ≤ d by omega) with g | g
            · rw [show d / 9223372036854775808 * 9223372036854775808 = 0 by omega, Ib.or_zero y b0 (by omega), Ie.ngd, decide_eq_false (by omega)]; rfl
            · rw [show d / 9223372036854775808 * 9223372036854775808 = 9223372036854775808 by omega, Ib.sign_or y b0 (by omega), Ie.ngd, decide_eq_true (by omega)]; rfl
          clear hT g1 g2 hn z h0 h1 p e
          generalize d / 9223372036854775808 * 9223372036854775808 = sv at *
          go_enter Tryz.func13, Tryz.ntmps13
          go_wp2_with fail
          refine (NN.out _).mono ?_
          rintro e wz ⟨rfl, hz⟩
          replace hz := hz.symm
          subst hz
          go_wp2_with fail
          refine (SZ.out _ HT.out).mono ?_
          rintro e w1 ⟨y, rfl, hy, hB⟩
          have E := OR.out y hy.out
          have KK := hid (WT.out w1 y hy.out hB)
          clear hB OR WT SZ
          go_wp2_with fail
          go_ret2
          exact KK.out
      · have E : Hid (Ie.PwrIs d n 9221120237041090560 0) := ⟨fun k => (by omega), fun _ _ => ⟨rfl, fun k => absurd k z, fun _ => ⟨fun _ => rfl, fun k => (by rw [hn] at k; cases k)⟩⟩⟩
        rw [hn] at NN
        clear hT g1 g2 hn z h0 h1
        go_enter Tryz.func13, Tryz.ntmps13
        go_wp2_with fail
        refine (NN.out _).mono ?_
        rintro e wz ⟨rfl, hz⟩
        replace hz := hz.symm
        subst hz
        go_wp2_with fail
        go_ret2
        exact ⟨_, _, rfl, E.out, Below.refl _ _⟩
end Go.Proofs.YtmakkfekomnpbaaGreatDoor

/-
  ieee: Whole.
-/
namespace Go.Proofs.YtmakkfekomnpbaaGreatDoor
open Go Go.RowKit Go.Deep

/-- What Whole tells of a finite double. -/
def WholeTold (d : Int) (w : World) (e : Ending) (w' : World) : Prop :=
  ∃ r os, e = .returned (.tuple #[.bool (decide (9223372036854775808 ≤ d)), .slice r (List.length os) (List.length os), .int .i64 0]) ∧ Ans w.heap.size w' r os (Ie.whp (d % 9223372036854775808)) ∧ Below w.heap.size w w'

set_option maxRecDepth 100000 in
theorem whole_inf (d : Int) (w : World) (h0 : 0 ≤ d) (h1 : d < 18446744073709551616) (hr : 9218868437227405312 ≤ d % 9223372036854775808) :
    Calls Tryz.prog 99 #[.int .u64 d] w fun e w' => e = .returned (.tuple #[.bool false, .slice none 0 0, .int .i64 5]) ∧ w' = w := by
  have F := finite_any d w h0 h1
  rw [decide_eq_false (by omega)] at F
  have F := hid F
  go_enter Tryz.func99, Tryz.ntmps99
  go_wp2_with fail
  refine F.out.mono ?_
  rintro e w' ⟨rfl, rfl⟩
  go_wp2_with fail
  go_ret3
  exact ⟨rfl, rfl⟩

set_option maxRecDepth 100000 in
set_option maxHeartbeats 4000000 in
theorem whole_low (d : Int) (w : World) (h0 : 0 ≤ d) (h1 : d < 18446744073709551616) (r m : Int) (c : Int) (k : Nat) (hr : d % 9223372036854775808 = r) (hf : r < 9218868437227405312) (hc : Ie.cls d = c) (hm : Ie.dm d = m) (he : Ie.de d = -(k : Int)) (hk : 0 < k) (hk2 : k ≤ 1074) (mb : 0 ≤ m ∧ m < 9007199254740992) (hw : Ie.whp r = m / 2 ^ k) :
    Calls Tryz.prog 99 #[.int .u64 d] w fun e w' => WholeTold d w e w' := by
  have F := finite_any d w h0 h1
  rw [decide_eq_true (by omega)] at F
  have F := hid F
  have D := hid (decode_any d w h0 h1)
  rw [hc, hm, he] at D
  simp only [partsOf] at D
  obtain ⟨neg, hneg⟩ : ∃ neg, decide (9223372036854775808 ≤ d) = neg := ⟨_, rfl⟩
  rw [hneg] at D
  have q0 : 0 ≤ m / 2 ^ k := Int.ediv_nonneg mb.1 (by have := Nm.two_pos k; omega)
  have q1 : m / 2 ^ k ≤ m := Int.ediv_le_self _ mb.1
  have FU : Hid (∀ (wx : World) (u : Int), u = m / 2 ^ k → Calls Tryz.prog 30 #[.int .u64 u] wx fun e w' => ∃ r os, e = .returned (.slice r (List.length os) (List.length os)) ∧ Ans wx.heap.size w' r os (m / 2 ^ k) ∧ Below wx.heap.size wx w') := by
    intro wx u hu
    subst hu
    exact fromUint_any (m / 2 ^ k) wx q0 (by omega)
  have SM := Ie.shr_min m k mb.1 mb.2
  have WT : Hid (∀ (w2 : World) (p : Option Addr) (os : List Int) (B : Nat), w.heap.size ≤ B → Ans B w2 p os (m / 2 ^ k) → Below w.heap.size w w2 → WholeTold d w (.returned (.tuple #[.bool neg, .slice p (List.length os) (List.length os), .int .i64 0])) w2) := by
    intro w2 p os B hB A hb
    refine ⟨p, os, by rw [hneg], ?_, hb⟩
    rw [hr, hw]
    exact ⟨A.1, A.2.1, A.2.2.1, A.2.2.2.1, fun a h => by have := A.2.2.2.2 a h; omega⟩
  have WK : IntKind.i64.wrap (k : Int) = (k : Int) := by rw [IntKind.wrap_i64]; omega
  have k1 : -(k : Int) < 0 := by omega
  have k2 : (k : Int) ≤ 1074 := by omega
  obtain ⟨mb0, mb1⟩ := mb
  clear hneg hr hf hc hm he hw q0 q1
  go_enter Tryz.func99, Tryz.ntmps99
  go_wp2_with fail
  refine F.out.mono ?_
  rintro e w ⟨rfl, rfl⟩
  go_wp2_with fail
  refine D.out.mono ?_
  rintro e w1 ⟨rfl, hB⟩
  have HB := hid hB
  clear hB F D
  go_wp2_with fail
  have HB1 := hid (Below.alloc HB.out HB.out.size (.cells #[.bool neg, .int .i64 c, .int .u64 m, .int .i64 (-(k : Int))] 40))
  have hg := heap_alloc_new w1 (.cells #[.bool neg, .int .i64 c, .int .u64 m, .int .i64 (-(k : Int))] 40)
  have p0 : (w1.alloc (.cells #[.bool neg, .int .i64 c, .int .u64 m, .int .i64 (-(k : Int))] 40)).cell? ⟨w1.heap.size, 0, none⟩ = some (.bool neg) := by simp only [World.cell?, hg]; rfl
  have p2 : (w1.alloc (.cells #[.bool neg, .int .i64 c, .int .u64 m, .int .i64 (-(k : Int))] 40)).cell? ⟨w1.heap.size, 2, none⟩ = some (.int .u64 m) := by simp only [World.cell?, hg]; rfl
  have p3 : (w1.alloc (.cells #[.bool neg, .int .i64 c, .int .u64 m, .int .i64 (-(k : Int))] 40)).cell? ⟨w1.heap.size, 3, none⟩ = some (.int .i64 (-(k : Int))) := by simp only [World.cell?, hg]; rfl
  clear hg
  generalize w1.alloc (.cells #[.bool neg, .int .i64 c, .int .u64 m, .int .i64 (-(k : Int))] 40) = wA at *
  have CA : Hid (∀ wx w2 : World, wx.heap = wA.heap → Below w.heap.size w wx → Below wx.heap.size wx w2 → Below w.heap.size w w2 ∧ w2.cell? ⟨w1.heap.size, 0, none⟩ = some (.bool neg)) := by
    intro wx w2 hh hw hB2
    have lt : w1.heap.size < wx.heap.size := by rw [hh]; exact cell_lt p0
    have eq : wx.cell? ⟨w1.heap.size, 0, none⟩ = wA.cell? ⟨w1.heap.size, 0, none⟩ := World.cell?_of_block (by rw [hh])
    exact ⟨hw.trans (hB2.mono hw.size), by rw [hB2.cell (p := ⟨w1.heap.size, 0, none⟩) lt, eq]; exact p0⟩
  have HS := hid (show w.heap.size ≤ wA.heap.size from HB1.out.size)
  go_region_with (go_at_call 30; refine (FU.out _ _ ?_).mono ?_; (first | omega | (simp only [SM] <;> fail) | trace_state); rintro e w2 ⟨p, os, rfl, A, hB2⟩; obtain ⟨hB3, k0⟩ := CA.out wA.drew w2 rfl (below_drew1 HB1.out) hB2; have KK := hid (WT.out w2 p os _ HS.out A hB3); clear A hB2 hB3)
  all_goals (go_wp2_with fail; go_ret3; exact KK.out)
set_option maxRecDepth 100000 in
set_option maxHeartbeats 4000000 in
theorem whole_high (d : Int) (w : World) (h0 : 0 ≤ d) (h1 : d < 18446744073709551616) (r m : Int) (c : Int) (k : Nat) (hr : d % 9223372036854775808 = r) (hf : r < 9218868437227405312) (hc : Ie.cls d = c) (hm : Ie.dm d = m) (he : Ie.de d = (k : Int)) (hk2 : k ≤ 971) (mb : 0 ≤ m ∧ m < 9007199254740992) (hw : Ie.whp r = m * 2 ^ k) :
    Calls Tryz.prog 99 #[.int .u64 d] w fun e w' => WholeTold d w e w' := by
  have F := finite_any d w h0 h1
  rw [decide_eq_true (by omega)] at F
  have F := hid F
  have D := hid (decode_any d w h0 h1)
  rw [hc, hm, he] at D
  simp only [partsOf] at D
  obtain ⟨neg, hneg⟩ : ∃ neg, decide (9223372036854775808 ≤ d) = neg := ⟨_, rfl⟩
  rw [hneg] at D
  have FU : Hid (∀ wx : World, Calls Tryz.prog 30 #[.int .u64 m] wx fun e w' => ∃ r os, e = .returned (.slice r (List.length os) (List.length os)) ∧ Ans wx.heap.size w' r os m ∧ Below wx.heap.size wx w') := by
    intro wx
    exact fromUint_any m wx mb.1 (by omega)
  have mp : m < Nm.pw 1 := by have : Nm.pw 1 = 18446744073709551616 := rfl; omega
  have rm := shl_room (t := k) mp (by omega)
  have SL : Hid (∀ (wx : World) (p : Option Addr) (os : List Int) (B : Nat), Ans B wx p os m → Calls Tryz.prog 77 #[.slice p os.length os.length, .int .i64 (k : Int)] wx fun e w' => ∃ r os, e = .returned (.tuple #[.slice r (List.length os) (List.length os), .int .i64 0]) ∧ Ans wx.heap.size w' r os (m * 2 ^ k) ∧ Below wx.heap.size wx w') := by
    intro wx p os B A
    have l1 := ans_small A 1 mp
    have := shl_any p _ _ os (k : Int) k wx (A.arg (by omega)) (by rw [A.2.2.1]; omega) rfl (by rw [A.2.2.2.1]; exact rm)
    rw [A.2.2.2.1] at this
    exact this
  have WT : Hid (∀ (w2 : World) (p : Option Addr) (os : List Int) (B : Nat), w.heap.size ≤ B → Ans B w2 p os (m * 2 ^ k) → Below w.heap.size w w2 → WholeTold d w (.returned (.tuple #[.bool neg, .slice p (List.length os) (List.length os), .int .i64 0])) w2) := by
    intro w2 p os B hB A hb
    refine ⟨p, os, by rw [hneg], ?_, hb⟩
    rw [hr, hw]
    exact ⟨A.1, A.2.1, A.2.2.1, A.2.2.2.1, fun a h => by have := A.2.2.2.2 a h; omega⟩
  have k1 : ¬ (k : Int) < 0 := by omega
  have k2 : (k : Int) ≤ 971 := by omega
  obtain ⟨mb0, mb1⟩ := mb
  clear hneg hr hf hc hm he hw mp rm
  go_enter Tryz.func99, Tryz.ntmps99
  go_wp2_with fail
  refine F.out.mono ?_
  rintro e w ⟨rfl, rfl⟩
  go_wp2_with fail
  refine D.out.mono ?_
  rintro e w1 ⟨rfl, hB⟩
  have HB := hid hB
  clear hB F D
  go_wp2_with fail
  have HB1 := hid (Below.alloc HB.out HB.out.size (.cells #[.bool neg, .int .i64 c, .int .u64 m, .int .i64 (k : Int)] 40))
  have hg := heap_alloc_new w1 (.cells #[.bool neg, .int .i64 c, .int .u64 m, .int .i64 (k : Int)] 40)
  have p0 : (w1.alloc (.cells #[.bool neg, .int .i64 c, .int .u64 m, .int .i64 (k : Int)] 40)).cell? ⟨w1.heap.size, 0, none⟩ = some (.bool neg) := by simp only [World.cell?, hg]; rfl
  have p2 : (w1.alloc (.cells #[.bool neg, .int .i64 c, .int .u64 m, .int .i64 (k : Int)] 40)).cell? ⟨w1.heap.size, 2, none⟩ = some (.int .u64 m) := by simp only [World.cell?, hg]; rfl
  have p3 : (w1.alloc (.cells #[.bool neg, .int .i64 c, .int .u64 m, .int .i64 (k : Int)] 40)).cell? ⟨w1.heap.size, 3, none⟩ = some (.int .i64 (k : Int)) := by simp only [World.cell?, hg]; rfl
  clear hg
  generalize w1.alloc (.cells #[.bool neg, .int .i64 c, .int .u64 m, .int .i64 (k : Int)] 40) = wA at *
  have CA : Hid (∀ wx w2 : World, wx.heap = wA.heap → Below w.heap.size w wx → Below wx.heap.size wx w2 → Below w.heap.size w w2 ∧ w2.cell? ⟨w1.heap.size, 0, none⟩ = some (.bool neg) ∧ w2.cell? ⟨w1.heap.size, 3, none⟩ = some (.int .i64 (k : Int))) := by
    intro wx w2 hh hw hB2
    have lt : w1.heap.size < wx.heap.size := by rw [hh]; exact cell_lt p0
    have eq : ∀ o, wx.cell? ⟨w1.heap.size, o, none⟩ = wA.cell? ⟨w1.heap.size, o, none⟩ := fun o => World.cell?_of_block (by rw [hh])
    exact ⟨hw.trans (hB2.mono hw.size), by rw [hB2.cell (p := ⟨w1.heap.size, 0, none⟩) lt, eq]; exact p0, by rw [hB2.cell (p := ⟨w1.heap.size, 3, none⟩) lt, eq]; exact p3⟩
  have HS := hid (show w.heap.size ≤ wA.heap.size from HB1.out.size)
  go_region_with (first | (go_at_call 30; refine (FU.out _).mono ?_; rintro e w2 ⟨p, os, rfl, A, hB2⟩; obtain ⟨hB3, k0, k3⟩ := CA.out wA.drew w2 rfl (below_drew1 HB1.out) hB2; have SS := hid (SL.out w2 p os _ A); have HH := hid hB3; have HZ := hid (Nat.lt_of_lt_of_le (cell_lt k0) (Nat.le_refl _)); have K0 := hid k0; clear A hB2 hB3) | (go_at_call 77; refine SS.out.mono ?_; rintro e w3 ⟨p', os', rfl, A, hB4⟩; have z0 : w3.cell? ⟨w1.heap.size, 0, none⟩ = some (.bool neg) := (hB4.cell (p := ⟨w1.heap.size, 0, none⟩) (cell_lt K0.out)).trans K0.out; have KK := hid (WT.out w3 p' os' _ HH.out.size A (HH.out.trans (hB4.mono HH.out.size))); clear A hB4))
  all_goals (go_wp2_with fail; go_ret3; exact KK.out)

/-- Whole of a finite double. -/
theorem whole_fin (d : Int) (w : World) (h0 : 0 ≤ d) (h1 : d < 18446744073709551616) (hf : d % 9223372036854775808 < 9218868437227405312) :
    Calls Tryz.prog 99 #[.int .u64 d] w fun e w' => WholeTold d w e w' := by
  rcases Ie.dec_kinds d _ rfl with ⟨c, m, x, k1⟩ | ⟨c, m, x, k1, k2⟩ | ⟨c, m, x, k1, k2⟩ | ⟨c, m, x, k1⟩ | ⟨c, m, x, k1, k2⟩
  · exact whole_high d w h0 h1 _ 0 _ 0 rfl hf c m x (by omega) (by omega) (by rw [k1, Ie.whp_zero]; rfl)
  · have e0 : Ie.ex (d % 9223372036854775808) = 0 := by rw [Ie.ex]; omega
    have m0 : Ie.man (d % 9223372036854775808) = d % 9223372036854775808 := by rw [Ie.man, if_pos k2]
    exact whole_low d w h0 h1 _ _ _ 1074 rfl hf c m x (by omega) (by omega) (by omega) (by rw [Ie.whp_low _ 1074 (by omega), m0])
  · have mb := Ie.man_nn (d % 9223372036854775808) (by omega)
    have eb : (Ie.ex (d % 9223372036854775808) : Int) ≤ 2045 := by simp only [Ie.ex]; omega
    rcases (show (Ie.ex (d % 9223372036854775808) : Int) < 1074 ∨ 1074 ≤ (Ie.ex (d % 9223372036854775808) : Int) by omega) with h | h
    · obtain ⟨k, hk⟩ : ∃ k : Nat, (Ie.ex (d % 9223372036854775808) : Int) + k = 1074 := ⟨(1074 - (Ie.ex (d % 9223372036854775808) : Int)).toNat, by omega⟩
      exact whole_low d w h0 h1 _ _ _ k rfl hf c m (by rw [x]; omega) (by omega) (by omega) mb (Ie.whp_low _ k hk)
    · obtain ⟨k, hk⟩ : ∃ k : Nat, (Ie.ex (d % 9223372036854775808) : Int) = 1074 + k := ⟨((Ie.ex (d % 9223372036854775808) : Int) - 1074).toNat, by omega⟩
      exact whole_high d w h0 h1 _ _ _ k rfl hf c m (by rw [x]; omega) (by omega) mb (Ie.whp_high _ k hk).1
  · omega
  · omega
end Go.Proofs.YtmakkfekomnpbaaGreatDoor



/-
  ieee: ToInt.
-/
namespace Go.Proofs.YtmakkfekomnpbaaGreatDoor
open Go Go.RowKit Go.Deep

theorem ret_ie {a b c d : Int} (h : a = b) (k : c = d) : Ending.returned (.tuple #[.int .i64 a, .int .i64 c]) = .returned (.tuple #[.int .i64 b, .int .i64 d]) := by rw [h, k]

set_option maxRecDepth 100000 in
theorem toInt_inf (d : Int) (w : World) (h0 : 0 ≤ d) (h1 : d < 18446744073709551616) (hr : 9218868437227405312 ≤ d % 9223372036854775808) :
    Calls Tryz.prog 69 #[.int .u64 d] w fun e w' => e = .returned (.tuple #[.int .i64 0, .int .i64 5]) ∧ w' = w := by
  have F := hid (whole_inf d w h0 h1 hr)
  clear hr
  go_enter Tryz.func69, Tryz.ntmps69
  go_wp2_with fail
  refine F.out.mono ?_
  rintro e w' ⟨rfl, rfl⟩
  go_wp2_with fail
  go_ret2
  exact ⟨rfl, rfl⟩

/-- What ToInt tells of a finite double: the number, or 0 and ErrRange. -/
def ToIntIs (neg : Bool) (W : Int) (j f : Int) : Prop :=
  (W ≤ (if neg = true then 9223372036854775808 else 9223372036854775807) ∧ j = (if neg = true then -W else W) ∧ f = 0) ∨ ((if neg = true then 9223372036854775808 else 9223372036854775807) < W ∧ j = 0 ∧ f = 41)

set_option maxRecDepth 100000 in
set_option maxHeartbeats 4000000 in
theorem toInt_fin (d : Int) (w : World) (h0 : 0 ≤ d) (h1 : d < 18446744073709551616) (hr : d % 9223372036854775808 < 9218868437227405312) (neg : Bool) (hneg : decide (9223372036854775808 ≤ d) = neg) (V : Int) (hV : Ie.whp (d % 9223372036854775808) = V) (V0 : 0 ≤ V) (Vb : V < Nm.pw 4096) :
    Calls Tryz.prog 69 #[.int .u64 d] w fun e w' => ∃ j f, e = .returned (.tuple #[.int .i64 j, .int .i64 f]) ∧ ToIntIs neg V j f ∧ Below w.heap.size w w' := by
  have F : Hid (Calls Tryz.prog 99 #[.int .u64 d] w fun e w' => ∃ r os, e = .returned (.tuple #[.bool neg, .slice r (List.length os) (List.length os), .int .i64 0]) ∧ Ans w.heap.size w' r os V ∧ Below w.heap.size w w') := by
    have := whole_fin d w h0 h1 hr
    simp only [WholeTold] at this
    rw [hneg, hV] at this
    exact this
  have VB := hid Vb
  clear hneg hV hr Vb
  rcases (show 18446744073709551616 ≤ V ∨ V < 18446744073709551616 by omega) with hb | hb
  · have TU : Hid (∀ (wx : World) (r : Option Addr) (os : List Int) (B : Nat), Ans B wx r os V → ∃ u, Calls Tryz.prog 100 #[.slice r os.length os.length] wx fun e w' => e = .returned (.tuple #[.int .u64 u, .bool false]) ∧ w' = wx) := by
      intro wx r os B A
      have l := ans_small A 4096 VB.out
      have := toUint_any r _ _ os wx (A.arg (by omega))
      have h2 : decide (Nm.tsize os ≤ 1) = false := by
        rw [decide_eq_false_iff_not]
        intro hh
        have := (Nm.tsize_le_iff A.2.1 1).1 hh
        rw [A.2.2.2.1] at this
        have e : Nm.pw 1 = 18446744073709551616 := rfl
        omega
      rw [h2] at this
      exact ⟨_, this⟩
    cases neg
    · go_enter Tryz.func69, Tryz.ntmps69
      go_wp2_with fail
      refine F.out.mono ?_
      rintro e w1 ⟨r, os, rfl, A, hB⟩
      obtain ⟨u, hu⟩ := TU.out w1 r os _ A
      have HU := hid hu
      have HB := hid hB
      clear hu hB A F TU
      go_wp2_with fail
      refine HU.out.mono ?_
      rintro e w2 ⟨rfl, rfl⟩
      go_wp2_with fail
      go_ret2
      exact ⟨0, 41, rfl, .inr ⟨by simp; omega, rfl, rfl⟩, HB.out⟩
    · go_enter Tryz.func69, Tryz.ntmps69
      go_wp2_with fail
      refine F.out.mono ?_
      rintro e w1 ⟨r, os, rfl, A, hB⟩
      obtain ⟨u, hu⟩ := TU.out w1 r os _ A
      have HU := hid hu
      have HB := hid hB
      clear hu hB A F TU
      go_wp2_with fail
      refine HU.out.mono ?_
      rintro e w2 ⟨rfl, rfl⟩
      go_wp2_with fail
      go_ret2
      exact ⟨0, 41, rfl, .inr ⟨by simp; omega, rfl, rfl⟩, HB.out⟩
  · have TU : Hid (∀ (wx : World) (r : Option Addr) (os : List Int) (B : Nat), Ans B wx r os V → Calls Tryz.prog 100 #[.slice r os.length os.length] wx fun e w' => e = .returned (.tuple #[.int .u64 V, .bool true]) ∧ w' = wx) := by
      intro wx r os B A
      have l := ans_small A 4096 VB.out
      exact toU_is r _ _ os wx (A.arg (by omega)) V A.2.2.2.1 hb
    cases neg
    · rcases (show 9223372036854775807 < V ∨ V ≤ 9223372036854775807 by omega) with hm | hm
      · go_enter Tryz.func69, Tryz.ntmps69
        go_wp2_with fail
        refine F.out.mono ?_
        rintro e w1 ⟨r, os, rfl, A, hB⟩
        have HU := hid (TU.out w1 r os _ A)
        have HB := hid hB
        clear hB A F TU
        go_wp2_with fail
        refine HU.out.mono ?_
        rintro e w2 ⟨rfl, rfl⟩
        go_wp2_with fail
        go_ret2
        exact ⟨0, 41, rfl, .inr ⟨by simp; omega, rfl, rfl⟩, HB.out⟩
      · go_enter Tryz.func69, Tryz.ntmps69
        go_wp2_with fail
        refine F.out.mono ?_
        rintro e w1 ⟨r, os, rfl, A, hB⟩
        have HU := hid (TU.out w1 r os _ A)
        have HB := hid hB
        clear hB A F TU
        go_wp2_with fail
        refine HU.out.mono ?_
        rintro e w2 ⟨rfl, rfl⟩
        go_wp2_with fail
        go_ret2
        exact ⟨V, 0, rfl, .inl ⟨by simp; omega, rfl, rfl⟩, HB.out⟩
    · rcases (show 9223372036854775808 < V ∨ V = 9223372036854775808 ∨ V < 9223372036854775808 by omega) with hm | hm | hm
      · go_enter Tryz.func69, Tryz.ntmps69
        go_wp2_with fail
        refine F.out.mono ?_
        rintro e w1 ⟨r, os, rfl, A, hB⟩
        have HU := hid (TU.out w1 r os _ A)
        have HB := hid hB
        clear hB A F TU
        go_wp2_with fail
        refine HU.out.mono ?_
        rintro e w2 ⟨rfl, rfl⟩
        go_wp2_with fail
        go_ret2
        exact ⟨0, 41, rfl, .inr ⟨by simp; omega, rfl, rfl⟩, HB.out⟩
      · subst hm
        go_enter Tryz.func69, Tryz.ntmps69
        go_wp2_with fail
        refine F.out.mono ?_
        rintro e w1 ⟨r, os, rfl, A, hB⟩
        have HU := hid (TU.out w1 r os _ A)
        have HB := hid hB
        clear hB A F TU
        go_wp2_with fail
        refine HU.out.mono ?_
        rintro e w2 ⟨rfl, rfl⟩
        go_wp2_with fail
        go_ret2
        exact ⟨-9223372036854775808, 0, ret_ie (by first | decide | (simp [wrap64] <;> omega) | rfl) rfl, .inl ⟨by simp, rfl, rfl⟩, HB.out⟩
      · go_enter Tryz.func69, Tryz.ntmps69
        go_wp2_with fail
        refine F.out.mono ?_
        rintro e w1 ⟨r, os, rfl, A, hB⟩
        have HU := hid (TU.out w1 r os _ A)
        have HB := hid hB
        clear hB A F TU
        go_wp2_with fail
        refine HU.out.mono ?_
        rintro e w2 ⟨rfl, rfl⟩
        go_wp2_with fail
        go_ret2
        exact ⟨-V, 0, rfl, .inl ⟨by simp; omega, rfl, rfl⟩, HB.out⟩
end Go.Proofs.YtmakkfekomnpbaaGreatDoor

/-
  remain: Pow, of any y (made by mkupowy.py).
-/
namespace Go.Proofs.YtmakkfekomnpbaaGreatDoor
open Go Go.RowKit Go.Deep

namespace Ie
/-- What Pow answers. -/
def PowYIs (x y r f : Int) : Prop :=
  (∀ n : Int, -1024 ≤ n → n ≤ 1024 → fin y → sn (ngd y) (un (ab y)) = n * 2 ^ 1074 → PwrIs x n r f) ∧
  ((∀ n : Int, -1024 ≤ n → n ≤ 1024 → fin y → sn (ngd y) (un (ab y)) ≠ n * 2 ^ 1074) → r = 0 ∧ f = 60)

theorem powy_out {x y : Int} (h : ∀ n : Int, -1024 ≤ n → n ≤ 1024 → fin y → sn (ngd y) (un (ab y)) ≠ n * 2 ^ 1074) : PowYIs x y 0 60 :=
  ⟨fun n a b c d => absurd d (h n a b c), fun _ => ⟨rfl, rfl⟩⟩

theorem powy_in {x y r f n : Int} (hf : fin y) (h : sn (ngd y) (un (ab y)) = n * 2 ^ 1074) (n1 : -1024 ≤ n) (n2 : n ≤ 1024) (hp : PwrIs x n r f) : PowYIs x y r f := by
  have q := Nm.two_pos 1074
  refine ⟨fun k a b c d => ?_, fun g => absurd h (g n n1 n2 hf)⟩
  have : k = n := (eq_scale q).1 (d.symm.trans h)
  rw [this]; exact hp

theorem sn_scale (N : Bool) (W P : Int) : sn N (W * P) = sn N W * P := by
  cases N
  · rfl
  · rw [sn_true, sn_true, Int.neg_mul]
end Ie

theorem pwroom {W : Int} (h : W < 18446744073709551616) : W < Nm.pw 4096 := by
  have h1 := Nm.pw_mono (show 1 ≤ 4096 by omega)
  have h2 : Nm.pw 1 = 18446744073709551616 := rfl
  omega

theorem Ie.whp_bd {r : Int} (r0 : 0 ≤ r) (r1 : r < 9218868437227405312) : 0 ≤ Ie.whp r ∧ Ie.whp r < Nm.pw 4096 := by
  have hp := Nm.two_pos 1074
  have e : Ie.whp r = Ie.un r / 2 ^ 1074 := by rw [Ie.whp, Ie.ediv_un]
  rw [e]
  refine ⟨Int.ediv_nonneg (Ie.un_nn r0) (by omega), ?_⟩
  have m := Ie.man_nn r r0
  have eb : Ie.ex r ≤ 2045 := by simp only [Ie.ex]; omega
  have h1 : Ie.un r < 9007199254740992 * 2 ^ Ie.ex r := by rw [Ie.un]; exact Int.mul_lt_mul_of_pos_right m.2 (Nm.two_pos _)
  have h2 : (9007199254740992 : Int) * 2 ^ Ie.ex r = 2 ^ (53 + Ie.ex r) := by rw [Nm.two_add]; rfl
  have h3 := Nm.two_mono (show 53 + Ie.ex r ≤ 262144 by omega)
  have h4 : Ie.un r / 2 ^ 1074 ≤ Ie.un r := Int.ediv_le_self _ (Ie.un_nn r0)
  rw [Nm.pw_two 4096]
  exact Int.lt_of_le_of_lt h4 (Int.lt_of_lt_of_le (h2 ▸ h1) h3)

set_option maxRecDepth 100000 in
set_option maxHeartbeats 4000000 in
theorem powG_any (x y : Int) (w : World) (hT : Tab w) (x0 : 0 ≤ x) (x1 : x < 18446744073709551616) (y0 : 0 ≤ y) (y1 : y < 18446744073709551616) :
    Calls Tryz.prog 34 #[.int .u64 x, .int .u64 y] w fun e w' => ∃ r f, e = .returned (.tuple #[.int .u64 r, .int .i64 f]) ∧ Ie.PowYIs x y r f ∧ Below w.heap.size w w' := by
  have IG := hid (fun (wx : World) (hx : Tab wx) => integral_any y wx hx y0 y1)
  have PW := hid (fun (wx : World) (j : Int) (hx : Tab wx) => power6_any x j wx hx x0 x1)
  have HT := hid hT
  by_cases hf : Ie.fin y
  · have bd := Ie.whp_bd (Ie.ab_bd y).1 hf
    have TI := hid (toInt_fin y w y0 y1 hf (Ie.ngd y) rfl (Ie.whp (Ie.ab y)) rfl bd.1 bd.2)
    have ew : Ie.whp (Ie.ab y) = Ie.un (Ie.ab y) / 2 ^ 1074 := by rw [Ie.whp, Ie.ediv_un]
    have dm := Int.mul_ediv_add_emod (Ie.un (Ie.ab y)) (2 ^ 1074)
    have hp := Nm.two_pos 1074
    cases hi : Ie.intg y
    · have NO : Hid (Ie.PowYIs x y 0 60) := Ie.powy_out (fun n _ _ _ e => by
        have : Ie.un (Ie.ab y) % 2 ^ 1074 = 0 := by
          cases N : Ie.ngd y
          · rw [N, Ie.sn_false] at e; rw [e]; exact Int.mul_emod_left _ _
          · rw [N, Ie.sn_true] at e
            rw [show Ie.un (Ie.ab y) = -n * 2 ^ 1074 by rw [Int.neg_mul, ← e, Int.neg_neg]]
            exact Int.mul_emod_left _ _
        rw [(Ie.intg_iff_un hf).2 this] at hi
        cases hi)
      have fz : Hid (∀ j f, ToIntIs (Ie.ngd y) (Ie.whp (Ie.ab y)) j f → f = 0 ∨ f = 41) := by
        intro j f hj
        rcases hj with ⟨_, _, h⟩ | ⟨_, _, h⟩
        · exact .inl h
        · exact .inr h
      rw [hi] at IG
      clear hi hf bd ew dm hp hT PW
      go_enter Tryz.func34, Tryz.ntmps34
      go_wp2_with fail
      refine TI.out.mono ?_
      rintro e w1 ⟨j, f, rfl, hj, hB⟩
      have HB1 := hid hB
      rcases fz.out j f hj with rfl | rfl
      · clear hB hj TI fz
        go_wp2_with fail
        refine (IG.out _ (HT.out.below HB1.out)).mono ?_
        rintro e w2 ⟨rfl, hB⟩
        have HB2 := hid (HB1.out.trans (hB.mono HB1.out.size))
        clear hB IG
        go_wp2_with fail
        go_ret2
        exact ⟨_, _, rfl, NO.out, HB2.out⟩
      · clear hB hj TI fz
        go_wp2_with fail
        go_ret2
        exact ⟨_, _, rfl, NO.out, HB1.out⟩
    · have e0 := (Ie.intg_iff_un hf).1 hi
      have eu : Ie.un (Ie.ab y) = Ie.whp (Ie.ab y) * 2 ^ 1074 := by
        rw [ew]
        rw [e0, Int.add_zero, Int.mul_comm] at dm
        exact dm.symm
      have sc : Ie.sn (Ie.ngd y) (Ie.un (Ie.ab y)) = Ie.sn (Ie.ngd y) (Ie.whp (Ie.ab y)) * 2 ^ 1074 := by rw [eu, Ie.sn_scale]
      have FX : Hid (∀ j f, ToIntIs (Ie.ngd y) (Ie.whp (Ie.ab y)) j f → (f = 0 ∧ ∀ r e, Ie.PwrIs x j r e → Ie.PowYIs x y r e) ∨ (f = 41 ∧ Ie.PowYIs x y 0 60)) := by
        intro j f hj
        have uniq : ∀ n : Int, Ie.sn (Ie.ngd y) (Ie.un (Ie.ab y)) = n * 2 ^ 1074 → n = Ie.sn (Ie.ngd y) (Ie.whp (Ie.ab y)) := fun n h => (Ie.eq_scale hp).1 (h.symm.trans sc)
        rcases hj with ⟨h1, h2, h3⟩ | ⟨h1, _, h3⟩
        · refine .inl ⟨h3, fun r e hr => ?_⟩
          have ej : j = Ie.sn (Ie.ngd y) (Ie.whp (Ie.ab y)) := by rw [h2]; cases Ie.ngd y <;> rfl
          by_cases b : -1024 ≤ j ∧ j ≤ 1024
          · exact Ie.powy_in hf (by rw [sc, ej]) b.1 b.2 hr
          · obtain ⟨rfl, rfl⟩ := hr.1 (by omega)
            exact Ie.powy_out (fun n a b' _ h => b (by have := uniq n h; omega))
        · refine .inr ⟨h3, Ie.powy_out (fun n a b' _ h => ?_)⟩
          have := uniq n h
          cases N : Ie.ngd y <;> rw [N] at this h1 <;> simp only [Ie.sn_true, Ie.sn_false, Bool.false_eq_true, if_true, if_false] at this h1 <;> omega
      rw [hi] at IG
      clear hi hf bd ew dm hp hT e0 eu sc
      go_enter Tryz.func34, Tryz.ntmps34
      go_wp2_with fail
      refine TI.out.mono ?_
      rintro e w1 ⟨j, f, rfl, hj, hB⟩
      have HB1 := hid hB
      rcases FX.out j f hj with ⟨rfl, hk⟩ | ⟨rfl, hk⟩
      · have HK := hid hk
        clear hB hj TI FX hk
        go_wp2_with fail
        refine (IG.out _ (HT.out.below HB1.out)).mono ?_
        rintro e w2 ⟨rfl, hB⟩
        have HB2 := hid (HB1.out.trans (hB.mono HB1.out.size))
        clear hB IG
        go_wp2_with fail
        refine (PW.out _ j (HT.out.below HB2.out)).mono ?_
        rintro e w3 ⟨r, f, rfl, hp, hB⟩
        have HB3 := hid (HB2.out.trans (hB.mono HB2.out.size))
        have KP := hid (HK.out r f hp)
        clear hB hp PW HK
        go_wp2_with fail
        go_ret2
        exact ⟨_, _, rfl, KP.out, HB3.out⟩
      · have HK := hid hk
        clear hB hj TI FX hk
        go_wp2_with fail
        go_ret2
        exact ⟨_, _, rfl, HK.out, HB1.out⟩
  · have TI := hid (toInt_inf y w y0 y1 (by rw [Ie.fin, Ie.ab] at hf; omega))
    have NO : Hid (Ie.PowYIs x y 0 60) := Ie.powy_out (fun n _ _ h _ => hf h)
    clear hf hT IG PW
    go_enter Tryz.func34, Tryz.ntmps34
    go_wp2_with fail
    refine TI.out.mono ?_
    rintro e wz ⟨rfl, hz⟩
    replace hz := hz.symm
    subst hz
    go_wp2_with fail
    go_ret2
    exact ⟨_, _, rfl, NO.out, Below.refl _ _⟩
end Go.Proofs.YtmakkfekomnpbaaGreatDoor

/-
  ieee: Neg.
-/
namespace Go.Proofs.YtmakkfekomnpbaaGreatDoor
open Go Go.RowKit Go.Deep

set_option maxRecDepth 100000 in
theorem neg_any (d : Int) (w : World) (h0 : 0 ≤ d) (h1 : d < 18446744073709551616) :
    Calls Tryz.prog 116 #[.int .u64 d] w fun e w' => e = .returned (.int .u64 (Ie.ng d)) ∧ w' = w := by
  have B : bits .xor .u64 d 9223372036854775808 = Ie.ng d := Ib.sign_xor d h0 h1
  go_enter Tryz.func116, Tryz.ntmps116
  go_wp2
  go_ret
  exact ⟨rfl, rfl⟩
end Go.Proofs.YtmakkfekomnpbaaGreatDoor

/-
  Two exacts in boxes of their own, and room for the answer.
-/
namespace Go.Proofs.YtmakkfekomnpbaaGreatDoor
open Go Go.RowKit Go.Deep

/-- Two exacts in boxes of their own, and room for the answer. -/
def Box (w wx : World) (x0 x1 x2 x3 y0 y1 y2 y3 : Value) : Prop :=
  (Row4 wx w.heap.size 108 x0 x1 x2 x3 ∧ Row4 wx (w.heap.size + 1) 108 y0 y1 y2 y3 ∧ Row4 wx (w.heap.size + 2) 108 (.bool false) (.slice none 0 0) (.int .i64 0) (.bool false)) ∧ Below w.heap.size w wx ∧ w.heap.size + 3 ≤ wx.heap.size

theorem Box.new (w : World) (x0 x1 x2 x3 y0 y1 y2 y3 : Value) :
    Box w (((w.alloc (.cells #[x0, x1, x2, x3] 108)).alloc (.cells #[y0, y1, y2, y3] 108)).alloc (.cells #[.bool false, .slice none 0 0, .int .i64 0, .bool false] 108)) x0 x1 x2 x3 y0 y1 y2 y3 := by
  have s1 : (w.alloc (.cells #[x0, x1, x2, x3] 108)).heap.size = w.heap.size + 1 := by simp
  have s2 : ((w.alloc (.cells #[x0, x1, x2, x3] 108)).alloc (.cells #[y0, y1, y2, y3] 108)).heap.size = w.heap.size + 2 := by simp
  have r0 := Row4.new w 108 x0 x1 x2 x3
  have r1 := Row4.new (w.alloc (.cells #[x0, x1, x2, x3] 108)) 108 y0 y1 y2 y3
  have r2 := Row4.new ((w.alloc (.cells #[x0, x1, x2, x3] 108)).alloc (.cells #[y0, y1, y2, y3] 108)) 108 (.bool false) (.slice none 0 0) (.int .i64 0) (.bool false)
  rw [s1] at r1
  rw [s2] at r2
  refine ⟨⟨?_, ?_, r2⟩, ?_, ?_⟩
  · exact (r0.below (alloc_b _ _) (by omega)).below (alloc_b _ _) (by omega)
  · exact r1.below (alloc_b _ _) (by omega)
  · have h1 := alloc_b w (.cells #[x0, x1, x2, x3] 108)
    have h2 := Below.alloc h1 h1.size (.cells #[y0, y1, y2, y3] 108)
    exact Below.alloc h2 h2.size _
  · simp

theorem Box.on {w wx w' : World} {x0 x1 x2 x3 y0 y1 y2 y3 : Value} (h : Box w wx x0 x1 x2 x3 y0 y1 y2 y3) (hB : Below wx.heap.size wx w') : Box w w' x0 x1 x2 x3 y0 y1 y2 y3 := by
  obtain ⟨⟨a, b, c⟩, d, e⟩ := h
  exact ⟨⟨a.below hB a.lt, b.below hB b.lt, c.below hB c.lt⟩, d.trans (hB.mono d.size), by have := hB.size; omega⟩

theorem Box.cells {w wx : World} {x0 x1 x2 x3 y0 y1 y2 y3 : Value} (h : Box w wx x0 x1 x2 x3 y0 y1 y2 y3) :
    (wx.cell? ⟨w.heap.size, 0, none⟩ = some x0 ∧ wx.cell? ⟨w.heap.size, 1, none⟩ = some x1 ∧ wx.cell? ⟨w.heap.size, 2, none⟩ = some x2) ∧
    (wx.cell? ⟨w.heap.size + 1, 0, none⟩ = some y0 ∧ wx.cell? ⟨w.heap.size + 1, 1, none⟩ = some y1 ∧ wx.cell? ⟨w.heap.size + 1, 2, none⟩ = some y2) ∧
    ((wx.cell? ⟨w.heap.size + 2, 0, none⟩ = some (.bool false) ∧ wx.cell? ⟨w.heap.size + 2, 1, none⟩ = some (.slice none 0 0) ∧ wx.cell? ⟨w.heap.size + 2, 2, none⟩ = some (.int .i64 0) ∧ wx.cell? ⟨w.heap.size + 2, 3, none⟩ = some (.bool false)) ∧
      (wx.frozen? ⟨w.heap.size + 2, 0, none⟩ = false ∧ wx.frozen? ⟨w.heap.size + 2, 1, none⟩ = false ∧ wx.frozen? ⟨w.heap.size + 2, 2, none⟩ = false ∧ wx.frozen? ⟨w.heap.size + 2, 3, none⟩ = false)) := by
  obtain ⟨⟨a, b, c⟩, -, -⟩ := h
  exact ⟨⟨a.cells.1.1, a.cells.1.2.1, a.cells.1.2.2.1⟩, ⟨b.cells.1.1, b.cells.1.2.1, b.cells.1.2.2.1⟩, c.cells⟩
end Go.Proofs.YtmakkfekomnpbaaGreatDoor

/-
  soft: plus (made by mkplus.py).
-/
namespace Go.Proofs.YtmakkfekomnpbaaGreatDoor
open Go Go.RowKit Go.Deep

namespace Ie
/-- What plus tells: the sum of both, at the lower exponent (or nothing at 0). -/
def SumIs (n1 : Bool) (V1 e1 : Int) (n2 : Bool) (V2 e2 : Int) (neg : Bool) (V x : Int) : Prop :=
  (x = min e1 e2 ∨ (V = 0 ∧ x = 0)) ∧ (V = 0 → neg = (n1 && n2)) ∧ (0 ≤ V ∧ V < 2 ^ 5000) ∧
  ∀ B a b c : Nat, (a : Int) = e1 + B → (b : Int) = e2 + B → (c : Int) = x + B → sn neg V * 2 ^ c = sn n1 V1 * 2 ^ a + sn n2 V2 * 2 ^ b

theorem sum_at {n1 n2 neg : Bool} {V1 V2 V e1 e2 m : Int} {k1 k2 : Nat} (hm : min e1 e2 = m) (hk1 : (k1 : Int) = e1 - m) (hk2 : (k2 : Int) = e2 - m) (h : sn neg V = sn n1 (V1 * 2 ^ k1) + sn n2 (V2 * 2 ^ k2)) (h0 : V = 0 → neg = (n1 && n2)) (v0 : 0 ≤ V) (v1 : V < 2 ^ 5000) : SumIs n1 V1 e1 n2 V2 e2 neg V m := by
  refine ⟨.inl hm.symm, h0, ⟨v0, v1⟩, fun B a b c ha hb hc => ?_⟩
  rw [h, ← sn_mul_right, ← sn_mul_right, Int.add_mul, Int.mul_assoc, Int.mul_assoc, ← Nm.two_add, ← Nm.two_add, show k1 + c = a by omega, show k2 + c = b by omega]

theorem sum_none {n1 n2 : Bool} {V1 V2 e1 e2 m : Int} {k1 k2 : Nat} (hm : min e1 e2 = m) (hk1 : (k1 : Int) = e1 - m) (hk2 : (k2 : Int) = e2 - m) (hn : n1 ≠ n2) (h : V1 * 2 ^ k1 = V2 * 2 ^ k2) : SumIs n1 V1 e1 n2 V2 e2 false 0 0 := by
  refine ⟨.inr ⟨rfl, rfl⟩, fun _ => ?_, ⟨by omega, Nm.two_pos _⟩, fun B a b c ha hb hc => ?_⟩
  · cases n1 <;> cases n2 <;> first | rfl | exact absurd rfl hn
  · have key : V1 * 2 ^ a = V2 * 2 ^ b := by
      have q : (a : Int) = k1 + (m + B) ∧ (b : Int) = k2 + (m + B) := by omega
      obtain ⟨j, hj⟩ : ∃ j : Nat, (j : Int) = m + B := ⟨(m + B).toNat, by omega⟩
      rw [show a = k1 + j by omega, show b = k2 + j by omega, Nm.two_add, Nm.two_add, ← Int.mul_assoc, ← Int.mul_assoc, h]
    rw [sn_zero, Int.zero_mul, sn_mul_right, sn_mul_right, key]
    cases n1 <;> cases n2 <;> simp only [sn, Bool.false_eq_true, if_true, if_false] <;> first | exact absurd rfl hn | omega

theorem up_lt {V : Int} {k K : Nat} (v1 : V < 2 ^ 200) (hk : k ≤ K) : V * 2 ^ k < 2 ^ (200 + K) := by
  have h1 : V * 2 ^ k < 2 ^ 200 * 2 ^ k := Int.mul_lt_mul_of_pos_right v1 (Nm.two_pos k)
  rw [← Nm.two_add] at h1
  have := Nm.two_mono (show 200 + k ≤ 200 + K by omega)
  omega
end Ie

/-- What plus answers. -/
def PlusTold (n1 : Bool) (V1 e1 : Int) (n2 : Bool) (V2 e2 : Int) (w : World) (e : Ending) (w' : World) : Prop :=
  ∃ neg p os V x, e = .returned (exactOf neg p (List.length os) (List.length os) x false) ∧ Ans w.heap.size w' p os V ∧ Below w.heap.size w w' ∧ Ie.SumIs n1 V1 e1 n2 V2 e2 neg V x

theorem Ans.tl {B : Nat} {w : World} {p : Option Addr} {ys : List Int} {n : Int} (h : Ans B w p ys n) {K : Nat} (hn : n < 2 ^ K) (hK : K ≤ 262144) : Nm.tsize ys ≤ 4096 ∧ ys.length ≤ 4096 ∧ n < Nm.pw 4096 := by
  have e := pw_4096
  have := Nm.two_mono hK
  have h1 : n < Nm.pw 4096 := by omega
  have h2 := (Nm.tsize_le_iff h.2.1 4096).2 (by rw [h.2.2.2.1]; exact h1)
  exact ⟨h2, by rw [← h.2.2.1]; exact h2, h1⟩
end Go.Proofs.YtmakkfekomnpbaaGreatDoor

namespace Go.Proofs.YtmakkfekomnpbaaGreatDoor
open Go.RowKit Go.Deep

set_option maxHeartbeats 1000000 in
theorem addTo_any (g k : Nat) (zs : List Int) (q : Option Addr) (m cap : Nat) (ys : List Int) (w : World) (hk : zs.length = k) (hkm : k ≤ 35184372088832) (ho : Own w g zs) (hl : Nm.Limbs zs)
    (hm : ys.length = m) (hmk : m ≤ k) (hy : Lies w q ys) (hly : Nm.Limbs ys) (hq : 0 < ys.length → ∀ a, q = some a → a.block < g) (hT : Nm.val zs + Nm.val ys < Nm.pw k) :
    Calls Tryz.prog 144 #[.slice (some ⟨g, 0, none⟩) k k, .slice q m cap] w fun e w' => e = .returned (.tuple #[]) ∧ Wrote g k (Nm.val zs + Nm.val ys) w w' := by
  rcases hy with rfl | ⟨b, off, rfl, hcell⟩
  · have hm0 : m = 0 := by simpa using hm.symm
    subst hm0
    have E : Wrote g k (Nm.val zs + Nm.val []) w w := ⟨zs, ho, hk, hl, by simp [Nm.val], Below.refl _ _, rfl⟩
    clear ho hl hT hq hm hk
    go_enter Tryz.func144, Tryz.ntmps144
    go_wp2
    refine wp_loop_rounds 1 ?_
    rw [rounds_succ]
    go_wp2
    refine wp_loop_rounds 1 ?_
    rw [rounds_succ]
    go_wp2
    go_end0
    exact ⟨rfl, E⟩
  · have hbg : 0 < ys.length → b < g := fun h => hq h _ rfl
    have I0 : AddInv g k w (Nm.val zs + Nm.val (ys.take 0)) 0 0 zs w := ⟨ho, hk, hl, by simp [Nm.val], Below.refl _ _, rfl⟩
    have HC : Hid (∀ i, i < ys.length → w.cell? ⟨b, off + i, none⟩ = some (.int .u64 (ys.getD i 0))) := hcell
    have HM : Hid (ys.length = m) := hm
    have HT : Hid (Nm.val zs + Nm.val ys < Nm.pw k) := hT
    have HY : Hid (Nm.Limbs ys) := hly
    clear hcell hm hT hly hq ho hk hl
    go_enter Tryz.func144, Tryz.ntmps144
    go_wp2
    go_loopw [4, 10] (fun c i wr => ∃ (j : Nat) (cc : Int) (os : List Int), j ≤ m ∧ i = .int .i64 j ∧ c = .int .u64 cc ∧ 0 ≤ cc ∧ cc ≤ 1 ∧ AddInv g k w (Nm.val zs + Nm.val (ys.take j)) j cc os wr) (fun _ i _ => m - (intOf i).toNat)
    case atStart => exact ⟨0, 0, zs, Nat.zero_le _, rfl, rfl, by omega, by omega, I0⟩
    case round =>
      obtain ⟨j, cc, os, hj, rfl, rfl, hc0, hc1, I⟩ := hrel
      by_cases hlt : j < m
      · obtain ⟨x, hx, X⟩ : ∃ x, wr.cell? ⟨b, off + j, none⟩ = some (.int .u64 x) ∧ Hid (x = ys.getD j 0) :=
          ⟨_, (I.2.2.2.2.1.cell (p := ⟨b, off + j, none⟩) (hbg (by have := HM.out; omega))).trans (HC.out j (by have := HM.out; omega)), rfl⟩
        obtain ⟨y, hyc, Y⟩ : ∃ y, wr.cell? ⟨g, j, none⟩ = some (.int .u64 y) ∧ Hid (y = os.getD j 0) := ⟨_, I.1.cell j (by have := I.2.1; omega), rfl⟩
        have hfr := I.1.free j
        have hx0 : 0 ≤ x := by have := HY.out.at j; have := X.out; omega
        have hy0 : 0 ≤ y := by have := I.2.2.1.at j; have := Y.out; omega
        obtain ⟨s, S⟩ : ∃ s, Hid (s = (y + x + cc) % 18446744073709551616) := ⟨_, rfl⟩
        obtain ⟨c', C⟩ : ∃ c', Hid (c' = (y + x + cc) / 18446744073709551616) := ⟨_, rfl⟩
        have hc0' : 0 ≤ c' := by have := C.out; omega
        have hc1' : c' ≤ 1 := by have := C.out; have := I.2.2.1.at j; have := Y.out; have := HY.out.at j; have := X.out; omega
        have hjk : (j : Int) < (k : Int) := by omega
        go_wp2_with (simp only [add64' y x cc s c' hy0 hx0 hc0 hc1 S.out C.out])
        go_roundw
        case rel =>
          have hst := I.step (by omega) (x := x) (s := s) (c' := c') (by rw [← Y.out]; exact S.out) (by rw [← Y.out]; exact C.out)
          refine ⟨j + 1, c', os.set j s, by omega, by go_num, rfl, hc0', hc1', ?_⟩
          rw [Nm.val_take_succ ys j (by have := HM.out; omega), ← X.out]
          rw [← Int.add_assoc]
          exact hst
        case measure => simp [intOf]; omega
      · have hjm : j = m := by omega
        subst hjm
        have hT : Nm.val zs + Nm.val (ys.take j) = Nm.val zs + Nm.val ys := by rw [List.take_of_length_le (by have := HM.out; omega)]
        rw [hT] at I
        clear hT
        go_wp2
        go_loopw [4, 7] (fun c i wr => ∃ (t : Nat) (cc : Int) (os : List Int), t ≤ k ∧ i = .int .i64 t ∧ c = .int .u64 cc ∧ 0 ≤ cc ∧ cc ≤ 1 ∧ AddInv g k w (Nm.val zs + Nm.val ys) t cc os wr) (fun _ i _ => k - (intOf i).toNat)
        case atStart => exact ⟨j, cc, os, hmk, rfl, rfl, hc0, hc1, I⟩
        case round =>
          clear I hc0 hc1
          obtain ⟨t, cc, os, ht, rfl, rfl, hc0, hc1, I⟩ := hrel
          by_cases hz : cc = 0
          · subst hz
            have E : Wrote g k (Nm.val zs + Nm.val ys) w wr :=
              ⟨os, I.1, I.2.1, I.2.2.1, by have := I.2.2.2.1; omega, I.2.2.2.2.1, I.2.2.2.2.2⟩
            clear I
            go_wp2
            go_end0
            exact ⟨rfl, E⟩
          · have htk := I.end HT.out (by omega)
            have htk' : (t : Int) < (k : Int) := by omega
            obtain ⟨y, hyc, Y⟩ : ∃ y, wr.cell? ⟨g, t, none⟩ = some (.int .u64 y) ∧ Hid (y = os.getD t 0) := ⟨_, I.1.cell t (by have := I.2.1; omega), rfl⟩
            have hfr := I.1.free t
            have hy0 : 0 ≤ y := by have := I.2.2.1.at t; have := Y.out; omega
            obtain ⟨s, S⟩ : ∃ s, Hid (s = (y + 0 + cc) % 18446744073709551616) := ⟨_, rfl⟩
            obtain ⟨c', C⟩ : ∃ c', Hid (c' = (y + 0 + cc) / 18446744073709551616) := ⟨_, rfl⟩
            have hc0' : 0 ≤ c' := by have := C.out; omega
            have hc1' : c' ≤ 1 := by have := C.out; have := I.2.2.1.at t; have := Y.out; omega
            go_wp2_with (simp only [add64' y 0 cc s c' hy0 (Int.le_refl 0) hc0 hc1 S.out C.out])
            go_roundw
            case rel =>
              have hst := I.step (by omega) (x := 0) (s := s) (c' := c') (by rw [← Y.out]; exact S.out) (by rw [← Y.out]; exact C.out)
              rw [Int.mul_zero, Int.add_zero] at hst
              exact ⟨t + 1, c', os.set t s, by omega, by go_num, rfl, hc0', hc1', hst⟩
            case measure => simp [intOf]; omega
end Go.Proofs.YtmakkfekomnpbaaGreatDoor

namespace Go.Proofs.YtmakkfekomnpbaaGreatDoor
open Go.RowKit Go.Deep

/-- Room for a sum: one limb more than the longer of both. -/
theorem sum_room {zs ys : List Int} (hz : Nm.Limbs zs) (hy : Nm.Limbs ys) (h : Nm.tsize ys ≤ Nm.tsize zs) : Nm.val (Nm.trim zs ++ List.replicate 1 0) + Nm.val (Nm.trim ys) < Nm.pw (Nm.tsize zs + 1) ∧ Nm.val (Nm.trim zs ++ List.replicate 1 0) + Nm.val (Nm.trim ys) = Nm.val zs + Nm.val ys := by
  have h1 := Nm.val_lt_tsize hz
  have h2 := Nm.val_lt_tsize hy
  have h3 := Nm.pw_mono h
  have h4 := Nm.pw_pos (Nm.tsize zs)
  rw [Nm.val_append, Nm.val_replicate, Int.mul_zero, Int.add_zero, Nm.val_trim, Nm.val_trim, Nm.pw_succ]
  exact ⟨by omega, rfl⟩

set_option maxHeartbeats 1000000 in
theorem add_ok (p q : Option Addr) (n cap m cap' : Nat) (zs ys : List Int) (w : World) (ha : Arg w p n cap zs) (hb : Arg w q m cap' ys) (hs : Nm.val zs + Nm.val ys < Nm.pw 4096) :
    Calls Tryz.prog 142 #[.slice p n cap, .slice q m cap'] w fun e w' => ∃ r os, e = .returned (.tuple #[.slice r (List.length os) (List.length os), .int .i64 0]) ∧ Ans w.heap.size w' r os (Nm.val zs + Nm.val ys) ∧ Below w.heap.size w w' := by
  have z0 := (Nm.val_bd zs ha.2.2.2.2).1
  have y0 := (Nm.val_bd ys hb.2.2.2.2).1
  have tz := ha.small (by omega)
  have ty := hb.small (by omega)
  obtain ⟨a1, a2, a3, a4, a5⟩ := ha
  obtain ⟨b1, b2, b3, b4, b5⟩ := hb
  have HS : Hid (Nm.val zs + Nm.val ys < Nm.pw 4096) := hs
  clear hs z0 y0
  by_cases hlt : Nm.tsize zs < Nm.tsize ys
  · have hlt' : (Nm.tsize zs : Int) < (Nm.tsize ys : Int) := by omega
    have R := hid (sum_room b5 a5 (by omega))
    go_enter Tryz.func142, Tryz.ntmps142
    go_wp2_with fail
    refine (pair_ok p q n cap m cap' zs ys _ a1 a2 (by omega) a4 tz b1 b2 (by omega) b4 ty).mono ?_
    rintro e w' ⟨rfl, rfl⟩
    go_wp2_with fail
    refine (widened_any q (Nm.tsize ys) (Nm.tsize ys) 1 1 (Nm.trim ys) _ rfl (Nm.trim_length ys) (by omega) (b4.take _)).mono ?_
    rintro e w1 ⟨rfl, ho, hb1, hz1⟩
    have HO := hid ho
    have HB := hid hb1
    have HZ := hid hz1
    clear ho hb1 hz1
    go_wp2_with fail
    refine (addTo_any w'.heap.size (Nm.tsize ys + 1) (Nm.trim ys ++ List.replicate 1 0) p (Nm.tsize zs) (Nm.tsize zs) (Nm.trim zs) _ (by simp [Nm.trim_length]) (by omega) HO.out ((b5.take _).append (Nm.Limbs.replicate _)) (Nm.trim_length zs) (by omega) ((a4.take _).below HB.out (Nat.le_refl _)) (a5.take _) (fun h0 => (a4.take _).lt h0) R.out.1).mono ?_
    rintro e w2 ⟨rfl, hw⟩
    obtain ⟨os, o1, o2, o3, o4, o5, o6⟩ := hw
    have HO := hid o1
    have O4 := hid o4
    have HB2 := hid o5
    clear o1 o4 o5 o6
    go_wp2_with fail
    refine (limited_own w'.heap.size (Nm.tsize ys + 1) os _ o2 (by omega) HO.out o3 w'.heap.size (Nat.le_refl _) (by rw [O4.out, R.out.2, Int.add_comm]; exact HS.out)).mono ?_
    rintro e w3 ⟨r, xs, rfl, hans, rfl⟩
    rw [O4.out, R.out.2, Int.add_comm] at hans
    have HA := hid hans
    clear hans
    go_wp2_with fail
    go_ret2
    exact ⟨r, xs, rfl, HA.out, HB.out.trans HB2.out⟩
  · have hlt' : (Nm.tsize ys : Int) ≤ (Nm.tsize zs : Int) := by omega
    have R := hid (sum_room a5 b5 (by omega))
    go_enter Tryz.func142, Tryz.ntmps142
    go_wp2_with fail
    refine (pair_ok p q n cap m cap' zs ys _ a1 a2 (by omega) a4 tz b1 b2 (by omega) b4 ty).mono ?_
    rintro e w' ⟨rfl, rfl⟩
    go_wp2_with fail
    refine (widened_any p (Nm.tsize zs) (Nm.tsize zs) 1 1 (Nm.trim zs) _ rfl (Nm.trim_length zs) (by omega) (a4.take _)).mono ?_
    rintro e w1 ⟨rfl, ho, hb1, hz1⟩
    have HO := hid ho
    have HB := hid hb1
    have HZ := hid hz1
    clear ho hb1 hz1
    go_wp2_with fail
    refine (addTo_any w'.heap.size (Nm.tsize zs + 1) (Nm.trim zs ++ List.replicate 1 0) q (Nm.tsize ys) (Nm.tsize ys) (Nm.trim ys) _ (by simp [Nm.trim_length]) (by omega) HO.out ((a5.take _).append (Nm.Limbs.replicate _)) (Nm.trim_length ys) (by omega) ((b4.take _).below HB.out (Nat.le_refl _)) (b5.take _) (fun h0 => (b4.take _).lt h0) R.out.1).mono ?_
    rintro e w2 ⟨rfl, hw⟩
    obtain ⟨os, o1, o2, o3, o4, o5, o6⟩ := hw
    have HO := hid o1
    have O4 := hid o4
    have HB2 := hid o5
    clear o1 o4 o5 o6
    go_wp2_with fail
    refine (limited_own w'.heap.size (Nm.tsize zs + 1) os _ o2 (by omega) HO.out o3 w'.heap.size (Nat.le_refl _) (by rw [O4.out, R.out.2]; exact HS.out)).mono ?_
    rintro e w3 ⟨r, xs, rfl, hans, rfl⟩
    rw [O4.out, R.out.2] at hans
    have HA := hid hans
    clear hans
    go_wp2_with fail
    go_ret2
    exact ⟨r, xs, rfl, HA.out, HB.out.trans HB2.out⟩
end Go.Proofs.YtmakkfekomnpbaaGreatDoor

namespace Go.Proofs.YtmakkfekomnpbaaGreatDoor
open Go.RowKit Go.Deep

set_option maxHeartbeats 1000000 in
theorem subFrom_any (g k : Nat) (zs : List Int) (q : Option Addr) (m cap : Nat) (ys : List Int) (w : World) (hk : zs.length = k) (hkm : k ≤ 35184372088832) (ho : Own w g zs) (hl : Nm.Limbs zs)
    (hm : ys.length = m) (hmk : m ≤ k) (hy : Lies w q ys) (hly : Nm.Limbs ys) (hq : 0 < ys.length → ∀ a, q = some a → a.block < g) (hT : 0 ≤ Nm.val zs - Nm.val ys) :
    Calls Tryz.prog 111 #[.slice (some ⟨g, 0, none⟩) k k, .slice q m cap] w fun e w' => e = .returned (.tuple #[]) ∧ Wrote g k (Nm.val zs - Nm.val ys) w w' := by
  rcases hy with rfl | ⟨b, off, rfl, hcell⟩
  · have hm0 : m = 0 := by simpa using hm.symm
    subst hm0
    have E : Wrote g k (Nm.val zs - Nm.val []) w w := ⟨zs, ho, hk, hl, by simp [Nm.val], Below.refl _ _, rfl⟩
    clear ho hl hT hq hm hk
    go_enter Tryz.func111, Tryz.ntmps111
    go_wp2
    refine wp_loop_rounds 1 ?_
    rw [rounds_succ]
    go_wp2
    refine wp_loop_rounds 1 ?_
    rw [rounds_succ]
    go_wp2
    go_end0
    exact ⟨rfl, E⟩
  · have hbg : 0 < ys.length → b < g := fun h => hq h _ rfl
    have I0 : AddInv g k w (Nm.val zs - Nm.val (ys.take 0)) 0 (-0) zs w := ⟨ho, hk, hl, by simp [Nm.val], Below.refl _ _, rfl⟩
    have HC : Hid (∀ i, i < ys.length → w.cell? ⟨b, off + i, none⟩ = some (.int .u64 (ys.getD i 0))) := hcell
    have HM : Hid (ys.length = m) := hm
    have HT : Hid (0 ≤ Nm.val zs - Nm.val ys) := hT
    have HY : Hid (Nm.Limbs ys) := hly
    clear hcell hm hT hly hq ho hk hl
    go_enter Tryz.func111, Tryz.ntmps111
    go_wp2
    go_loopw [4, 10] (fun c i wr => ∃ (j : Nat) (cc : Int) (os : List Int), j ≤ m ∧ i = .int .i64 j ∧ c = .int .u64 cc ∧ 0 ≤ cc ∧ cc ≤ 1 ∧ AddInv g k w (Nm.val zs - Nm.val (ys.take j)) j (-cc) os wr) (fun _ i _ => m - (intOf i).toNat)
    case atStart => exact ⟨0, 0, zs, Nat.zero_le _, rfl, rfl, by omega, by omega, I0⟩
    case round =>
      clear I0
      obtain ⟨j, cc, os, hj, rfl, rfl, hc0, hc1, I⟩ := hrel
      by_cases hlt : j < m
      · obtain ⟨x, hx, X⟩ : ∃ x, wr.cell? ⟨b, off + j, none⟩ = some (.int .u64 x) ∧ Hid (x = ys.getD j 0) :=
          ⟨_, (I.2.2.2.2.1.cell (p := ⟨b, off + j, none⟩) (hbg (by have := HM.out; omega))).trans (HC.out j (by have := HM.out; omega)), rfl⟩
        obtain ⟨y, hyc, Y⟩ : ∃ y, wr.cell? ⟨g, j, none⟩ = some (.int .u64 y) ∧ Hid (y = os.getD j 0) := ⟨_, I.1.cell j (by have := I.2.1; omega), rfl⟩
        have hfr := I.1.free j
        have hx0 := HY.out.at j
        rw [← X.out] at hx0
        obtain ⟨hx0, hx1⟩ := hx0
        have hy0 := I.2.2.1.at j
        rw [← Y.out] at hy0
        obtain ⟨hy0, hy1⟩ := hy0
        obtain ⟨s, c', hs, hc', E⟩ := sub_names y x cc hy0 hy1 hx0 hx1 hc0 hc1
        have hjk : (j : Int) < (k : Int) := by omega
        go_wp2_with (simp only [sub64' y x cc s c' hy0 hy1 hx0 hx1 hc0 hc1 hs hc' E.out])
        go_roundw
        case rel =>
          have hst := I.down (by omega) (x := -x) (s := s) (c' := -c') hs (by rw [← Y.out]; exact E.out)
          refine ⟨j + 1, c', os.set j s, by omega, by go_num, rfl, hc'.1, hc'.2, ?_⟩
          have e : Nm.val zs - Nm.val (ys.take (j + 1)) = Nm.val zs - Nm.val (ys.take j) + Nm.pw j * (-x) := by
            rw [Nm.val_take_succ ys j (by have := HM.out; omega), ← X.out, Int.mul_neg]
            omega
          rw [e]
          exact hst
        case measure => simp [intOf]; omega
      · have hjm : j = m := by omega
        subst hjm
        rw [List.take_of_length_le (by have := HM.out; omega)] at I
        go_wp2
        go_loopw [4, 7] (fun c i wr => ∃ (t : Nat) (cc : Int) (os : List Int), t ≤ k ∧ i = .int .i64 t ∧ c = .int .u64 cc ∧ 0 ≤ cc ∧ cc ≤ 1 ∧ AddInv g k w (Nm.val zs - Nm.val ys) t (-cc) os wr) (fun _ i _ => k - (intOf i).toNat)
        case atStart => exact ⟨j, cc, os, hmk, rfl, rfl, hc0, hc1, I⟩
        case round =>
          clear I hc0 hc1
          obtain ⟨t, cc, os, ht, rfl, rfl, hc0, hc1, I⟩ := hrel
          by_cases hz : cc = 0
          · subst hz
            have E : Wrote g k (Nm.val zs - Nm.val ys) w wr := ⟨os, I.1, I.2.1, I.2.2.1, by have := I.2.2.2.1; simp at this; omega, I.2.2.2.2.1, I.2.2.2.2.2⟩
            clear I
            go_wp2
            go_end0
            exact ⟨rfl, E⟩
          · have htk := I.stop HT.out (by omega)
            have htk' : (t : Int) < (k : Int) := by omega
            obtain ⟨y, hyc, Y⟩ : ∃ y, wr.cell? ⟨g, t, none⟩ = some (.int .u64 y) ∧ Hid (y = os.getD t 0) := ⟨_, I.1.cell t (by have := I.2.1; omega), rfl⟩
            have hfr := I.1.free t
            have hy0 := I.2.2.1.at t
            rw [← Y.out] at hy0
            obtain ⟨hy0, hy1⟩ := hy0
            obtain ⟨s, c', hs, hc', E⟩ := sub_names y 0 cc hy0 hy1 (by omega) (by omega) hc0 hc1
            go_wp2_with (simp only [sub64' y 0 cc s c' hy0 hy1 (Int.le_refl 0) (by decide) hc0 hc1 hs hc' E.out])
            go_roundw
            case rel =>
              have hst := I.down (by omega) (x := -0) (s := s) (c' := -c') hs (by rw [← Y.out]; exact E.out)
              rw [Int.neg_zero, Int.mul_zero, Int.add_zero] at hst
              exact ⟨t + 1, c', os.set t s, by omega, by go_num, rfl, hc'.1, hc'.2, hst⟩
            case measure => simp [intOf]; omega

theorem Arg.trim {w : World} {p : Option Addr} {n cap : Nat} {zs : List Int} (h : Arg w p n cap zs) : Arg w p (Nm.tsize zs) (Nm.tsize zs) (Nm.trim zs) :=
  ⟨Nm.trim_length zs, Nat.le_refl _, by have := h.tl; have := h.2.1; have := h.2.2.1; omega, h.2.2.2.1.trim, h.2.2.2.2.trim⟩

set_option maxHeartbeats 1000000 in
theorem sub_ok (p q : Option Addr) (n cap m cap' : Nat) (zs ys : List Int) (w : World) (ha : Arg w p n cap zs) (hb : Arg w q m cap' ys) (tz : Nm.tsize zs ≤ 4096) (hle : Nm.val ys ≤ Nm.val zs) :
    Calls Tryz.prog 80 #[.slice p n cap, .slice q m cap'] w fun e w' => ∃ r os, e = .returned (.tuple #[.slice r (List.length os) (List.length os), .int .i64 0]) ∧ Ans w.heap.size w' r os (Nm.val zs - Nm.val ys) ∧ Below w.heap.size w w' := by
  have hs : Nm.val zs < Nm.pw 4096 := (Nm.tsize_le_iff ha.2.2.2.2 4096).1 tz
  have y0 := (Nm.val_bd ys hb.2.2.2.2).1
  have ty : Nm.tsize ys ≤ 4096 := (Nm.tsize_le_iff hb.2.2.2.2 4096).2 (by omega)
  have tyz : Nm.tsize ys ≤ Nm.tsize zs := by
    have h1 := Nm.val_lt_tsize ha.2.2.2.2
    exact (Nm.tsize_le_iff hb.2.2.2.2 _).2 (by omega)
  have AT := hid ha.trim
  have BT := hid hb.trim
  obtain ⟨a1, a2, a3, a4, a5⟩ := ha
  obtain ⟨b1, b2, b3, b4, b5⟩ := hb
  obtain ⟨c, C⟩ : ∃ c, Hid (cmpI (Nm.val (Nm.trim zs)) (Nm.val (Nm.trim ys)) = c) := ⟨_, rfl⟩
  have hc : ¬ c < 0 := by
    rw [← C.out, Nm.val_trim, Nm.val_trim]
    unfold cmpI
    rw [if_neg (by omega)]
    split <;> omega
  have V : Hid (Nm.val (Nm.trim zs) - Nm.val (Nm.trim ys) = Nm.val zs - Nm.val ys) := by rw [Hid, Nm.val_trim, Nm.val_trim]
  have HS : Hid (0 ≤ Nm.val (Nm.trim zs) - Nm.val (Nm.trim ys) ∧ Nm.val (Nm.trim zs) - Nm.val (Nm.trim ys) < Nm.pw 4096) := by rw [Hid, Nm.val_trim, Nm.val_trim]; omega
  clear hs y0 hle
  go_enter Tryz.func80, Tryz.ntmps80
  go_wp2_with fail
  refine (pair_ok p q n cap m cap' zs ys _ a1 a2 (by omega) a4 tz b1 b2 (by omega) b4 ty).mono ?_
  rintro e w' ⟨rfl, rfl⟩
  go_wp2_with fail
  refine (cmp_is c p q _ _ _ _ (Nm.trim zs) (Nm.trim ys) _ AT.out BT.out C.out).mono ?_
  rintro e w1 ⟨rfl, hb1⟩
  have D1 := hid hb1
  clear hb1
  go_wp2_with fail
  refine (widened_any p (Nm.tsize zs) (Nm.tsize zs) 0 0 (Nm.trim zs) _ rfl (Nm.trim_length zs) (by omega) (AT.out.below D1.out (Nat.le_refl _)).2.2.2.1).mono ?_
  rintro e w2 ⟨rfl, ho, hb1, hz1⟩
  rw [List.replicate_zero, List.append_nil] at ho
  have HO := hid ho
  have D2 := hid hb1
  have S1 := hid D1.out.size
  clear ho hb1 hz1
  go_wp2_with fail
  refine (subFrom_any w1.heap.size (Nm.tsize zs) (Nm.trim zs) q (Nm.tsize ys) (Nm.tsize ys) (Nm.trim ys) _ (Nm.trim_length zs) (by omega) HO.out a5.trim (Nm.trim_length ys) tyz ((BT.out.below D1.out (Nat.le_refl _)).2.2.2.1.below D2.out (Nat.le_refl _)) b5.trim (fun h0 => (BT.out.below D1.out (Nat.le_refl _)).2.2.2.1.lt h0) HS.out.1).mono ?_
  rintro e w3 ⟨rfl, hw⟩
  obtain ⟨os, o1, o2, o3, o4, o5, o6⟩ := hw
  have HO3 := hid o1
  have O4 := hid o4
  have HB2 := hid o5
  clear o1 o4 o5 o6
  go_wp2_with fail
  refine (limited_own w1.heap.size (Nm.tsize zs) os _ o2 (by omega) HO3.out o3 w'.heap.size S1.out (by rw [O4.out]; exact HS.out.2)).mono ?_
  rintro e w4 ⟨r, xs, rfl, hans, rfl⟩
  rw [O4.out, V.out] at hans
  have HA := hid hans
  clear hans
  go_wp2_with fail
  go_ret2
  exact ⟨r, xs, rfl, HA.out, D1.out.trans ((D2.out.trans HB2.out).mono S1.out)⟩

set_option maxHeartbeats 1000000 in
theorem sub_below (p q : Option Addr) (n cap m cap' : Nat) (zs ys : List Int) (w : World) (ha : Arg w p n cap zs) (hb : Arg w q m cap' ys) (tz : Nm.tsize zs ≤ 4096) (ty : Nm.tsize ys ≤ 4096) (hlt : Nm.val zs < Nm.val ys) :
    Calls Tryz.prog 80 #[.slice p n cap, .slice q m cap'] w fun e w' => e = .returned (.tuple #[.slice none 0 0, .int .i64 10]) ∧ Below w.heap.size w w' := by
  have AT := hid ha.trim
  have BT := hid hb.trim
  obtain ⟨a1, a2, a3, a4, a5⟩ := ha
  obtain ⟨b1, b2, b3, b4, b5⟩ := hb
  have C := hid (cmpI_lt hlt)
  rw [← Nm.val_trim zs, ← Nm.val_trim ys] at C
  clear hlt
  go_enter Tryz.func80, Tryz.ntmps80
  go_wp2_with fail
  refine (pair_ok p q n cap m cap' zs ys _ a1 a2 (by omega) a4 tz b1 b2 (by omega) b4 ty).mono ?_
  rintro e w' ⟨rfl, rfl⟩
  go_wp2_with fail
  refine (cmp_is _ p q _ _ _ _ (Nm.trim zs) (Nm.trim ys) _ AT.out BT.out C.out).mono ?_
  rintro e w1 ⟨rfl, hb1⟩
  have D1 := hid hb1
  clear hb1
  go_wp2_with fail
  go_ret2
  exact ⟨rfl, D1.out⟩
end Go.Proofs.YtmakkfekomnpbaaGreatDoor
