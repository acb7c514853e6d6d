/-
  Texts put together: IWalk1, IOrd1, IOrdD, IOrd2, MSteps, HNum6, MTold, MSplit.
-/
import Derived.Test.YtnfomlkhkggjeaaGreatDoorIWalk1B
import Derived.Test.YtnfomlkhkggjeaaGreatDoorMNum
import Derived.Test.YtnfomlkhkggjeaaGreatDoorMRnd
import Derived.Test.YtnfomlkhkggjeaaGreatDoorXB
import Derived.Test.YtnfomlkhkggjeaaGreatDoorXA
/-
  ieee: Abs.
-/
namespace Go.Proofs.YtnfomlkhkggjeaaGreatDoor
open Go Go.RowKit Go.Deep

set_option maxRecDepth 100000 in
theorem abs_any (d : Int) (w : World) (h0 : 0 ≤ d) (h1 : d < 18446744073709551616) :
    Calls Tryz.prog 23 #[.int .u64 d] w fun e w' => e = .returned (.int .u64 (d % 9223372036854775808)) ∧ w' = w := by
  have B := Ib.sign_andNot d h0 h1
  go_enter Tryz.func23, Tryz.ntmps23
  go_wp2
  go_ret
  exact ⟨rfl, rfl⟩
end Go.Proofs.YtnfomlkhkggjeaaGreatDoor

/-
  ieee: place, Total, Rank, Compare, AtRank, Up, Down; cmp.Compare of two int64.
-/
namespace Go.Proofs.YtnfomlkhkggjeaaGreatDoor
open Go Go.RowKit Go.Deep

namespace Ie
/-- Where a pattern stands in the order of all. -/
def plc (d : Int) : Int := if d < 9223372036854775808 then d else 9223372036854775807 - d
/-- -1, 0 or 1. -/
def cm (a b : Int) : Int := if a < b then -1 else if b < a then 1 else 0
end Ie

set_option maxRecDepth 100000 in
theorem isNaN_any (x : Int) (w : World) : Calls Tryz.prog 72 #[.int .i64 x] w fun e w' => e = .returned (.bool false) ∧ w' = w := by
  go_enter Tryz.func72, Tryz.ntmps72
  go_wp2
  go_ret
  exact ⟨by simp, rfl⟩

set_option maxRecDepth 100000 in
theorem ccmp_any (x y : Int) (w : World) : Calls Tryz.prog 40 #[.int .i64 x, .int .i64 y] w fun e w' => e = .returned (.int .i64 (Ie.cm x y)) ∧ w' = w := by
  by_cases h1 : x < y
  · have E : Hid (Ie.cm x y = -1) := by rw [Hid, Ie.cm, if_pos h1]
    go_enter Tryz.func40, Tryz.ntmps40
    go_wp2_with fail
    refine (isNaN_any x w).mono ?_
    rintro e w' ⟨rfl, rfl⟩
    go_wp2_with fail
    refine (isNaN_any y _).mono ?_
    rintro e w' ⟨rfl, rfl⟩
    go_wp2_with fail
    go_ret
    exact ⟨i_retI E.out.symm, rfl⟩
  · by_cases h2 : y < x
    · have E : Hid (Ie.cm x y = 1) := by rw [Hid, Ie.cm, if_neg h1, if_pos h2]
      go_enter Tryz.func40, Tryz.ntmps40
      go_wp2_with fail
      refine (isNaN_any x w).mono ?_
      rintro e w' ⟨rfl, rfl⟩
      go_wp2_with fail
      refine (isNaN_any y _).mono ?_
      rintro e w' ⟨rfl, rfl⟩
      go_wp2_with fail
      go_ret
      exact ⟨i_retI E.out.symm, rfl⟩
    · have E : Hid (Ie.cm x y = 0) := by rw [Hid, Ie.cm, if_neg h1, if_neg h2]
      go_enter Tryz.func40, Tryz.ntmps40
      go_wp2_with fail
      refine (isNaN_any x w).mono ?_
      rintro e w' ⟨rfl, rfl⟩
      go_wp2_with fail
      refine (isNaN_any y _).mono ?_
      rintro e w' ⟨rfl, rfl⟩
      go_wp2_with fail
      go_ret
      exact ⟨i_retI E.out.symm, rfl⟩
end Go.Proofs.YtnfomlkhkggjeaaGreatDoor

/-
  ieee: the order of doubles, in numbers.
-/
namespace Go.Proofs.YtnfomlkhkggjeaaGreatDoor
open Go Go.RowKit Go.Deep

namespace Ie
/-- No NaN. -/
def okd (d : Int) : Bool := decide (d % 9223372036854775808 ≤ 9218868437227405312)
/-- The rank. -/
def rk (d : Int) : Int := if d < 9223372036854775808 then d else 9223372036854775808 - d
theorem cls4 (d : Int) : cls d = 4 ↔ okd d = false := by
  rw [okd, decide_eq_false_iff_not, cls]
  by_cases a : fld d = 0
  · rw [if_pos a]
    simp only [fld] at a
    by_cases b : d % 4503599627370496 = 0
    · rw [if_pos b]; omega
    · rw [if_neg b]; omega
  · rw [if_neg a]
    by_cases c : fld d = 2047
    · rw [if_pos c]
      simp only [fld] at a c
      by_cases b : d % 4503599627370496 = 0
      · rw [if_pos b]; omega
      · rw [if_neg b]; omega
    · rw [if_neg c]
      simp only [fld] at a c
      omega
/-- Rank's number. -/
def rkv (d : Int) : Int := if okd d = true then rk d else 0
/-- The next one above. -/
def upd (d : Int) : Int :=
  if okd d = false then 9221120237041090560 else if d = 9218868437227405312 then d else if d = 9223372036854775808 then 1 else if 9223372036854775808 < d then d - 1 else d + 1
/-- The next one below. -/
def dnd (d : Int) : Int := if okd d = false then 9221120237041090560 else ng (upd (ng d))
/-- The double at a rank. -/
def atr (i : Int) : Int := if i < 0 then 9223372036854775808 - i else i
end Ie

theorem ret_i64b {a b : Int} {c d : Bool} (h : a = b) (k : c = d) : Ending.returned (.tuple #[.int .i64 a, .bool c]) = .returned (.tuple #[.int .i64 b, .bool d]) := by rw [h, k]
theorem ret_u64b {a b : Int} {c d : Bool} (h : a = b) (k : c = d) : Ending.returned (.tuple #[.int .u64 a, .bool c]) = .returned (.tuple #[.int .u64 b, .bool d]) := by rw [h, k]
end Go.Proofs.YtnfomlkhkggjeaaGreatDoor

/-
  ieee: Rank, Compare, Total, AtRank, Up, Down.
-/
namespace Go.Proofs.YtnfomlkhkggjeaaGreatDoor
open Go Go.RowKit Go.Deep

namespace Ie
/-- Compare's number. -/
def cmv (a b : Int) : Int := if okd a = true ∧ okd b = true then cm (rk a) (rk b) else 0
end Ie

set_option maxRecDepth 100000 in
set_option maxHeartbeats 1000000 in
theorem rank_any (d : Int) (w : World) (h0 : 0 ≤ d) (h1 : d < 18446744073709551616) :
    Calls Tryz.prog 39 #[.int .u64 d] w fun e w' => e = .returned (.tuple #[.int .i64 (Ie.rkv d), .bool (Ie.okd d)]) ∧ w' = w := by
  have B := Ib.sign_and d h0 h1
  have CL := hid (class_any d w h0 h1)
  have AB := hid (abs_any d w h0 h1)
  have c4 := Ie.cls4 d
  obtain ⟨c, hc⟩ : ∃ c, Ie.cls d = c := ⟨_, rfl⟩
  rw [hc] at CL c4
  obtain ⟨sv, hsv⟩ : ∃ sv, d / 9223372036854775808 * 9223372036854775808 = sv := ⟨_, rfl⟩
  rw [hsv] at B
  obtain ⟨r, hr⟩ : ∃ r, d % 9223372036854775808 = r := ⟨_, rfl⟩
  rw [hr] at AB
  have r0 : 0 ≤ r := by omega
  have r1 : r < 9223372036854775808 := by omega
  by_cases hn : c = 4
  · have E : Hid (0 = Ie.rkv d ∧ false = Ie.okd d) := by
      have := c4.1 hn
      exact ⟨by rw [Ie.rkv, this]; rfl, this.symm⟩
    subst hn
    clear hc hsv hr c4
    go_enter Tryz.func39, Tryz.ntmps39
    go_wp2_with fail
    refine CL.out.mono ?_
    rintro e w' ⟨rfl, rfl⟩
    go_wp2_with fail
    go_ret2
    exact ⟨ret_i64b E.out.1 E.out.2, rfl⟩
  · have ok : Ie.okd d = true := by
      cases h : Ie.okd d
      · exact absurd (c4.2 h) hn
      · rfl
    have hn' : (c == 4) = false := by rw [beq_eq_false_iff_ne]; exact hn
    rcases (show d < 9223372036854775808 ∨ 9223372036854775808 ≤ d by omega) with hs | hs
    · have E : Hid (r = Ie.rkv d ∧ true = Ie.okd d) := ⟨by rw [Ie.rkv, ok, if_pos rfl, Ie.rk, if_pos hs]; omega, ok.symm⟩
      have hz : sv = 0 := by omega
      subst hz
      clear hc hsv hr c4 ok hs hn
      go_enter Tryz.func39, Tryz.ntmps39
      go_wp2_with fail
      refine CL.out.mono ?_
      rintro e w' ⟨rfl, rfl⟩
      go_wp2_with fail
      refine AB.out.mono ?_
      rintro e w' ⟨rfl, rfl⟩
      go_wp2_with fail
      go_ret2
      exact ⟨ret_i64b E.out.1 E.out.2, rfl⟩
    · have E : Hid (-r = Ie.rkv d ∧ true = Ie.okd d) := ⟨by rw [Ie.rkv, ok, if_pos rfl, Ie.rk, if_neg (by omega)]; omega, ok.symm⟩
      have hz : sv = 9223372036854775808 := by omega
      subst hz
      clear hc hsv hr c4 ok hs hn
      go_enter Tryz.func39, Tryz.ntmps39
      go_wp2_with fail
      refine CL.out.mono ?_
      rintro e w' ⟨rfl, rfl⟩
      go_wp2_with fail
      refine AB.out.mono ?_
      rintro e w' ⟨rfl, rfl⟩
      go_wp2_with fail
      go_ret2
      exact ⟨ret_i64b E.out.1 E.out.2, rfl⟩

set_option maxRecDepth 100000 in
set_option maxHeartbeats 1000000 in
theorem compare_any (a b : Int) (w : World) (a0 : 0 ≤ a) (a1 : a < 18446744073709551616) (b0 : 0 ≤ b) (b1 : b < 18446744073709551616) :
    Calls Tryz.prog 17 #[.int .u64 a, .int .u64 b] w fun e w' => e = .returned (.tuple #[.int .i64 (Ie.cmv a b), .bool (Ie.okd a && Ie.okd b)]) ∧ w' = w := by
  have P1 := hid (rank_any a w a0 a1)
  have P2 := hid (rank_any b w b0 b1)
  have X1 : Hid (Ie.okd a = true → Ie.rkv a = Ie.rk a) := by intro h; rw [Ie.rkv, if_pos h]
  have X2 : Hid (Ie.okd b = true → Ie.rkv b = Ie.rk b) := by intro h; rw [Ie.rkv, if_pos h]
  have V : Hid (Ie.cmv a b = if Ie.okd a = true ∧ Ie.okd b = true then Ie.cm (Ie.rk a) (Ie.rk b) else 0) := rfl
  generalize Ie.cmv a b = cv at *
  generalize Ie.rkv a = x at *
  generalize Ie.rkv b = y at *
  generalize Ie.okd a = oa at *
  generalize Ie.okd b = ob at *
  clear a0 a1 b0 b1
  cases oa
  · go_enter Tryz.func17, Tryz.ntmps17
    go_wp2_with fail
    refine P1.out.mono ?_
    rintro e w' ⟨rfl, rfl⟩
    go_wp2_with fail
    refine P2.out.mono ?_
    rintro e w' ⟨rfl, rfl⟩
    go_wp2_with fail
    go_ret2
    exact ⟨ret_i64b (by rw [V.out]; rfl) rfl, rfl⟩
  · cases ob
    · go_enter Tryz.func17, Tryz.ntmps17
      go_wp2_with fail
      refine P1.out.mono ?_
      rintro e w' ⟨rfl, rfl⟩
      go_wp2_with fail
      refine P2.out.mono ?_
      rintro e w' ⟨rfl, rfl⟩
      go_wp2_with fail
      go_ret2
      exact ⟨ret_i64b (by rw [V.out]; rfl) rfl, rfl⟩
    · go_enter Tryz.func17, Tryz.ntmps17
      go_wp2_with fail
      refine P1.out.mono ?_
      rintro e w' ⟨rfl, rfl⟩
      go_wp2_with fail
      refine P2.out.mono ?_
      rintro e w' ⟨rfl, rfl⟩
      go_wp2_with fail
      refine (ccmp_any _ _ _).mono ?_
      rintro e w' ⟨rfl, rfl⟩
      go_wp2_with fail
      go_ret2
      exact ⟨ret_i64b (by rw [V.out, if_pos ⟨trivial, trivial⟩, X1.out trivial, X2.out trivial]) rfl, rfl⟩

end Go.Proofs.YtnfomlkhkggjeaaGreatDoor

/-
  Scalings: what lost nothing is exact; two scalings are one.
-/
namespace Go.Proofs.YtnfomlkhkggjeaaGreatDoor
namespace Ie

theorem scale_exact {V E x : Int} (v0 : 0 < V) (v1 : V < 9007199254740992) (h : Rnd V 1 E false x) (x0 : 4503599627370496 < x) (x1 : x < 9218868437227405312) : ∃ c : Nat, (c : Int) = E + 1074 ∧ un x = V * 2 ^ c := by
  have e53 : (2 : Int) ^ 53 = 9007199254740992 := by decide
  rcases (show E < -1074 ∨ -1074 ≤ E by omega) with hE | hE
  · exfalso
    have hl : Rnd 4503599627370496 1 (-1074) false 4503599627370496 := by
      refine rnd_vl _ _ _ false 1 0 (by omega) (by omega) (by omega) ?_
      decide
    obtain ⟨a', ha'⟩ : ∃ a' : Nat, (a' : Int) = -1074 - E := ⟨(-1074 - E).toNat, by omega⟩
    have := h.mono (by decide) (by decide) hl (a := 0) (a' := a') (by omega) (.inl ?_)
    · omega
    · have g := Nm.two_mono (show 1 ≤ a' by omega)
      have e1 : (2 : Int) ^ 1 = 2 := rfl
      rw [Int.mul_one, Int.pow_zero, Int.mul_one, Int.mul_one]
      omega
  · obtain ⟨c, hc⟩ : ∃ c : Nat, (c : Int) = E + 1074 := ⟨(E + 1074).toNat, by omega⟩
    refine ⟨c, hc, ?_⟩
    rcases Nat.lt_or_ge 2045 c with hl | hl
    · obtain ⟨s, hs⟩ : ∃ s, c = 2045 + s := ⟨c - 2045, by omega⟩
      have hp := Nm.two_pos s
      have g := h.up s
      rcases (show V * 2 ^ s < 9007199254740992 ∨ 9007199254740992 ≤ V * 2 ^ s by omega) with q | q
      · have := (rnd_rep (c := 2045) (by omega) (by have := Int.mul_pos v0 hp; omega) q (Nat.le_refl _) g).1
        rw [this, hs, Nm.two_add, Int.mul_comm (2 ^ 2045), Int.mul_assoc]
      · exfalso
        have := g.one (by decide) (by decide) (rnd_inf (V * 2 ^ s) 1 (E - s) 53 0 false (by omega) (by decide) (by omega)) (a := 0) (a' := 0) (by omega) rfl
        omega
    · exact (rnd_rep hc (by omega) v1 hl h).1

/-- Two roundings of one number. -/
theorem same_rnd {V V' E E' x y : Int} {a a' : Nat} (h : Rnd V 1 E false x) (h' : Rnd V' 1 E' false y) (ha : (a : Int) - a' = E - E') (e : V * 2 ^ a = V' * 2 ^ a') : x = y := by
  refine h.one (by decide) (by decide) h' ha ?_
  rw [Int.mul_one, Int.mul_one]
  exact e
end Ie
end Go.Proofs.YtnfomlkhkggjeaaGreatDoor

/-
  RemainFloors, RemainJoins in numbers.
-/
namespace Go.Proofs.YtnfomlkhkggjeaaGreatDoor
namespace Ie

theorem div_mod (U P : Int) : U / P * P + U % P = U := by
  have := Int.mul_ediv_add_emod U P
  rw [Int.mul_comm] at this
  exact this
theorem sn_sub (N : Bool) {U A F : Int} (h : A + F = U) : sn N U + -sn N A = sn N F := by
  cases N <;> simp only [sn_true, sn_false] <;> omega
theorem sn_add (N : Bool) {U A F : Int} (h : A + F = U) : sn N A + sn N F = sn N U := by
  cases N <;> simp only [sn_true, sn_false] <;> omega

theorem uv_sg (neg : Bool) (x : Int) (h0 : 0 ≤ x) (h1 : x < 9223372036854775808) : uv (sg neg x) = sn neg (un x) := by
  have h := ab_sb neg x h0 h1
  rw [show sb neg x = sg neg x from rfl] at h
  rw [uv, h.1, h.2]

theorem sg_all (neg : Bool) (x : Int) (h0 : 0 ≤ x) (h1 : x ≤ 9218868437227405312) : ab (sg neg x) = x ∧ ngd (sg neg x) = neg ∧ 0 ≤ sg neg x ∧ sg neg x < 18446744073709551616 ∧ sg neg x / 9223372036854775808 = (if neg = true then 1 else 0) ∧ isn (sg neg x) = false := by
  have := ab_sb neg x h0 (by omega)
  rw [show sb neg x = sg neg x from rfl] at this
  refine ⟨this.1, this.2, ?_, ?_, ?_, by rw [isn, this.1, decide_eq_false_iff_not]; omega⟩ <;> cases neg <;> simp only [sg, Bool.false_eq_true, if_true, if_false] <;> omega

theorem dv_ngd (d : Int) (h0 : 0 ≤ d) (h1 : d < 18446744073709551616) : d / 9223372036854775808 = (if ngd d = true then 1 else 0) := by
  rcases (show d < 9223372036854775808 ∨ 9223372036854775808 ≤ d by omega) with g | g
  · rw [ngd, decide_eq_false (by omega), if_neg (by decide)]; omega
  · rw [ngd, decide_eq_true (by omega), if_pos rfl]; omega

theorem rs_fl {S : Int} {z : Bool} {r : Int} (h : RS S 1 z r) : Fl S (uv r) ∧ isn r = false ∧ 0 ≤ r ∧ r < 18446744073709551616 := by
  obtain ⟨neg, V, x, rfl, hS, v0, hN, -⟩ := h
  obtain ⟨b0, b1⟩ := hN.1
  obtain ⟨-, -, q1, q2, -, q3⟩ := sg_all neg x b0 b1
  exact ⟨⟨neg, V, x, hS, v0, uv_sg neg x b0 (by omega), hN⟩, q3, q1, q2⟩

theorem rk_sn (d : Int) (h0 : 0 ≤ d) (h1 : d < 18446744073709551616) : rk d = sn (ngd d) (ab d) := by
  rcases (show d < 9223372036854775808 ∨ 9223372036854775808 ≤ d by omega) with g | g
  · rw [rk, if_pos g, ngd, decide_eq_false (by omega), sn_false, ab]; omega
  · rw [rk, if_neg (by omega), ngd, decide_eq_true g, sn_true, ab]; omega

theorem sn_un_lt (N M : Bool) {x y : Int} (x0 : 0 ≤ x) (y0 : 0 ≤ y) : sn N x < sn M y ↔ sn N (un x) < sn M (un y) := by
  have ux := un_nn x0
  have uy := un_nn y0
  have e1 : x = 0 ↔ un x = 0 := ⟨fun h => by rw [h, un_zero], fun h => un_inj x0 (by omega) (by rw [h, un_zero])⟩
  have e2 : y = 0 ↔ un y = 0 := ⟨fun h => by rw [h, un_zero], fun h => un_inj y0 (by omega) (by rw [h, un_zero])⟩
  have l1 : x < y ↔ un x < un y := ⟨fun h => un_lt x0 h, fun h => by
    rcases (show x < y ∨ y ≤ x by omega) with g | g
    · exact g
    · have := un_le y0 g; omega⟩
  have l2 : y < x ↔ un y < un x := ⟨fun h => un_lt y0 h, fun h => by
    rcases (show y < x ∨ x ≤ y by omega) with g | g
    · exact g
    · have := un_le x0 g; omega⟩
  cases N <;> cases M <;> simp only [sn_true, sn_false] <;> omega

theorem rk_uv {a b : Int} (a0 : 0 ≤ a) (a1 : a < 18446744073709551616) (b0 : 0 ≤ b) (b1 : b < 18446744073709551616) : (rk a < rk b ↔ uv a < uv b) ∧ (rk b < rk a ↔ uv b < uv a) := by
  rw [rk_sn a a0 a1, rk_sn b b0 b1, uv, uv]
  exact ⟨sn_un_lt _ _ (ab_bd a).1 (ab_bd b).1, sn_un_lt _ _ (ab_bd b).1 (ab_bd a).1⟩

theorem cmv_uv {a b : Int} (a0 : 0 ≤ a) (a1 : a < 18446744073709551616) (b0 : 0 ≤ b) (b1 : b < 18446744073709551616) (na : isn a = false) (nb : isn b = false) : (okd a && okd b) = true ∧ (cmv a b < 0 ↔ uv a < uv b) ∧ (cmv a b ≤ 0 ↔ uv a ≤ uv b) ∧ (uv a = uv b → cmv a b = 0) := by
  rw [isn, decide_eq_false_iff_not, ab] at na nb
  have o1 : okd a = true := by rw [okd, decide_eq_true_iff]; omega
  have o2 : okd b = true := by rw [okd, decide_eq_true_iff]; omega
  obtain ⟨l1, l2⟩ := rk_uv a0 a1 b0 b1
  rw [cmv, if_pos ⟨o1, o2⟩, o1, o2, cm]
  refine ⟨rfl, ?_, ?_, ?_⟩
  · split
    · rename_i h; have := l1.1 h; omega
    · split <;> omega
  · split
    · rename_i h; have := l1.1 h; omega
    · split
      · rename_i h; have := l2.1 h; omega
      · omega
  · intro e
    rw [if_neg (by omega), if_neg (by omega)]

theorem uv_ng {x : Int} (h0 : 0 ≤ x) (h1 : x < 18446744073709551616) : uv (ng x) = -uv x ∧ ab (ng x) = ab x ∧ ngd (ng x) = !ngd x ∧ 0 ≤ ng x ∧ ng x < 18446744073709551616 := by
  have q : ab (ng x) = ab x ∧ ngd (ng x) = !ngd x ∧ 0 ≤ ng x ∧ ng x < 18446744073709551616 := by
    rcases (show x < 9223372036854775808 ∨ 9223372036854775808 ≤ x by omega) with g | g
    · rw [ng, if_pos g]
      exact ⟨by simp only [ab]; omega, by rw [ngd, ngd, decide_eq_true (by omega), decide_eq_false (by omega)]; rfl, by omega, by omega⟩
    · rw [ng, if_neg (by omega)]
      exact ⟨by simp only [ab]; omega, by rw [ngd, ngd, decide_eq_false (by omega), decide_eq_true (by omega)]; rfl, by omega, by omega⟩
  refine ⟨?_, q⟩
  rw [uv, uv, q.1, q.2.1, sn_not]

/-- The rest is a double. -/
theorem frac_rep {d : Int} (hf : fin d) : ∃ z, 0 ≤ z ∧ z < 9218868437227405312 ∧ un z = un (ab d) % 2 ^ 1074 := by
  have b := ab_bd d
  have mb := man_nn (ab d) b.1
  have eb : ex (ab d) ≤ 2045 := by rw [fin] at hf; simp only [ex]; omega
  rcases Nat.lt_or_ge (ex (ab d)) 1074 with h | h
  · obtain ⟨z, z0, z1, hz⟩ := un_rep (ex (ab d)) (man (ab d) % 2 ^ (1074 - ex (ab d))) (Int.emod_nonneg _ (by have := Nm.two_pos (1074 - ex (ab d)); omega)) (by
      have g1 := Int.mul_ediv_add_emod (man (ab d)) (2 ^ (1074 - ex (ab d)))
      have g2 : 0 ≤ (2 : Int) ^ (1074 - ex (ab d)) * (man (ab d) / 2 ^ (1074 - ex (ab d))) := Int.mul_nonneg (by have := Nm.two_pos (1074 - ex (ab d)); omega) (Int.ediv_nonneg mb.1 (by have := Nm.two_pos (1074 - ex (ab d)); omega))
      omega) eb
    refine ⟨z, z0, z1, ?_⟩
    have e1 : (2 : Int) ^ 1074 = 2 ^ (1074 - ex (ab d)) * 2 ^ ex (ab d) := by rw [← Nm.two_add]; congr 1; omega
    rw [hz, e1, un, emod_scale _ _ _ (Nm.two_pos _)]
  · refine ⟨0, by omega, by omega, ?_⟩
    obtain ⟨j, hj⟩ : ∃ j, ex (ab d) = j + 1074 := ⟨ex (ab d) - 1074, by omega⟩
    rw [un_zero, un, hj, Nm.two_add, ← Int.mul_assoc]
    exact (Int.mul_emod_left _ _).symm

theorem wis_trunc {d r : Int} (hf : fin d) (h : WIs d false r) : ∃ y, r = sg (ngd d) y ∧ 0 ≤ y ∧ y < 9218868437227405312 ∧ un y = un (ab d) / 2 ^ 1074 * 2 ^ 1074 := by
  obtain ⟨y, hr, y0, y1, q1, q2⟩ := h.2.2 hf
  refine ⟨y, hr, y0, y1, ?_⟩
  cases g : intg d
  · rw [q2 g, wup, if_neg (by decide)]
  · rw [q1 g]
    have e := (intg_iff_un hf).1 g
    have := div_mod (un (ab d)) (2 ^ 1074)
    rw [e, Int.add_zero] at this
    exact this.symm

theorem fin_sg {N : Bool} {y : Int} (h0 : 0 ≤ y) (h1 : y < 9218868437227405312) : fin (sg N y) := by
  rw [fin, (sg_all N y h0 (by omega)).1]; exact h1

/-- What Split's difference is. -/
theorem split_sub {d w s f : Int} (hf : fin d) (h : WIs d false w) (h' : AddIs d (ng w) s f) : ∃ z neg, s = sb neg z ∧ 0 ≤ z ∧ z < 9218868437227405312 ∧ un z = un (ab d) % 2 ^ 1074 ∧ (neg = ngd d ∨ neg = false ∧ z = 0) := by
  obtain ⟨y, rfl, y0, y1, hy⟩ := wis_trunc hf h
  obtain ⟨q1, q2, q3, q4, -, -⟩ := sg_all (ngd d) y y0 (by omega)
  obtain ⟨n1, n2, n3, -, -⟩ := uv_ng q3 q4
  have fw : fin (ng (sg (ngd d) y)) := by rw [fin, n2, q1]; exact y1
  have hs := h'.rs hf fw
  rw [n1, n3, q2, uv_sg _ _ y0 (by omega), uv, hy] at hs
  obtain ⟨z, z0, z1, hz⟩ := frac_rep hf
  have eS : sn (ngd d) (un (ab d)) + -sn (ngd d) (un (ab d) / 2 ^ 1074 * 2 ^ 1074) = sn (ngd d) (un z) := by
    rw [hz]
    exact sn_sub _ (div_mod _ _)
  rw [eS] at hs
  obtain ⟨neg, hr, hS, h0⟩ := hs.exact (by decide) z z0 z1 (by rw [az_sn _ _ (un_nn z0), Int.mul_one])
  refine ⟨z, neg, hr, z0, z1, hz, ?_⟩
  rw [Int.mul_one] at hS
  rcases (show un z = 0 ∨ un z ≠ 0 by omega) with g | g
  · right
    have := h0 (by rw [g]; exact sn_zero _)
    refine ⟨?_, un_inj z0 (by omega) (by rw [g, un_zero])⟩
    rw [this]; cases ngd d <;> rfl
  · left
    cases neg <;> cases N : ngd d <;> rw [N] at hS <;> simp only [sn_true, sn_false] at hS <;> first | rfl | omega

/-- What Split's parts add up to. -/
theorem join_sum {d y z r f : Int} (h0 : 0 ≤ d) (h1 : d < 18446744073709551616) (hf : fin d) (y0 : 0 ≤ y) (y1 : y < 9218868437227405312) (hy : un y = un (ab d) / 2 ^ 1074 * 2 ^ 1074) (z0 : 0 ≤ z) (z1 : z < 9218868437227405312) (hz : un z = un (ab d) % 2 ^ 1074)
    (h : AddIs (sg (ngd d) y) (sg (ngd d) z) r f) : r = d ∧ f = 0 := by
  have fy := fin_sg (N := ngd d) y0 y1
  have fz := fin_sg (N := ngd d) z0 z1
  have hs := h.rs fy fz
  have hfl := h.flags fy fz
  rw [uv_sg _ _ y0 (by omega), uv_sg _ _ z0 (by omega), hy, hz] at hs hfl
  have eS : sn (ngd d) (un (ab d) / 2 ^ 1074 * 2 ^ 1074) + sn (ngd d) (un (ab d) % 2 ^ 1074) = sn (ngd d) (un (ab d)) := sn_add _ (div_mod _ _)
  rw [eS] at hs hfl
  rw [(sg_all (ngd d) y y0 (by omega)).2.1, (sg_all (ngd d) z z0 (by omega)).2.1, Bool.and_self] at hs
  obtain ⟨neg, hr, hS, hz0⟩ := hs.exact (by decide) (ab d) (ab_bd d).1 hf (by rw [az_sn _ _ (un_nn (ab_bd d).1), Int.mul_one])
  rw [Int.mul_one] at hS
  have hn : neg = ngd d := by
    rcases (show un (ab d) = 0 ∨ un (ab d) ≠ 0 by omega) with g | g
    · exact hz0 (by rw [g]; exact sn_zero _)
    · have := un_nn (ab_bd d).1
      cases neg <;> cases N : ngd d <;> rw [N] at hS <;> simp only [sn_true, sn_false] at hS <;> first | rfl | omega
  have er : r = d := by rw [hr, hn]; exact (sb_ab d h0 h1).symm
  refine ⟨er, ?_⟩
  rw [er] at hfl
  rcases hfl with ⟨g, -, -⟩ | ⟨g, -⟩
  · exact g
  · exact absurd ⟨hf, rfl⟩ g

theorem un_1074 : un 4607182418800017408 = 2 ^ 1074 := by
  rw [un, show man 4607182418800017408 = 4503599627370496 by decide, show ex 4607182418800017408 = 1022 by decide, show (4503599627370496 : Int) = 2 ^ 52 by decide, ← Nm.two_add]

theorem un_1073 : un 4602678819172646912 = 2 ^ 1073 := by
  rw [un, show man 4602678819172646912 = 4503599627370496 by decide, show ex 4602678819172646912 = 1021 by decide, show (4503599627370496 : Int) = 2 ^ 52 by decide, ← Nm.two_add]

theorem Fl.nn {S z : Int} (h : Fl S z) (hS : 0 < S) : 0 ≤ z := by
  obtain ⟨n, V, x, rfl, hV, rfl, hN⟩ := h
  cases n
  · exact un_nn hN.1.1
  · rw [sn_true] at hS; omega

/-- The rounded distances to both sides have their order. -/
theorem fl_order {d F G zF zG : Int} (hf : fin d) (hi : intg d = false) (eF : F = un (ab d) % 2 ^ 1074) (eG : G = 2 ^ 1074 - F) (hF : Fl F zF) (hG : Fl G zG) : (0 < F ∧ 0 < G) ∧ (zF < zG ↔ F < G) ∧ (zG < zF ↔ G < F) := by
  have hp := Nm.two_pos 1074
  have b := ab_bd d
  have f0 : 0 ≤ F := by rw [eF]; exact Int.emod_nonneg _ (by omega)
  have f1 : F < 2 ^ 1074 := by rw [eF]; exact Int.emod_lt_of_pos _ hp
  have fn : F ≠ 0 := fun h => by
    rw [h] at eF
    rw [(intg_iff_un hf).2 eF.symm] at hi
    cases hi
  refine ⟨by omega, ?_⟩
  have zF0 := hF.nn (by omega)
  have zG0 := hG.nn (by omega)
  have DF : DB F := by
    obtain ⟨z, z0, z1, hz⟩ := frac_rep hf
    exact ⟨z, z0, z1, by rw [hz, ← eF]; rcases az_or F with ⟨_, g⟩ | ⟨_, g⟩ <;> omega⟩
  have eZF := hF.exact DF
  have hd := Int.mul_ediv_add_emod (un (ab d)) (2 ^ 1074)
  have un0 := un_nn b.1
  rcases (show un (ab d) < 2 ^ 1074 ∨ 2 ^ 1074 ≤ un (ab d) by omega) with g | g
  · -- below one: the rest is the number
    have eU : F = un (ab d) := by rw [eF]; exact Int.emod_eq_of_lt un0 g
    rcases (show 2 ^ 1074 ≤ 2 * F ∨ 2 * F < 2 ^ 1074 by omega) with k | k
    · have hl : ab d ≤ 4607182418800017408 := by
        rcases (show ab d ≤ 4607182418800017408 ∨ 4607182418800017408 < ab d by omega) with q | q
        · exact q
        · have := un_lt (by omega) q; rw [un_1074] at this; omega
      have := sterbenz (x := ab d) (y := 4607182418800017408) b.1 (by omega) hl (by rw [un_1074, ← eU]; exact k)
      rw [un_1074, ← eU, ← eG] at this
      have eZG := hG.exact this
      omega
    · have h73 : (2 : Int) ^ 1074 = 2 * 2 ^ 1073 := Nm.two_succ 1073
      have ge := hG.ge (y := 4602678819172646912) (by omega) (by omega) (by rw [un_1073]; rcases az_or G with ⟨_, q⟩ | ⟨_, q⟩ <;> omega)
      rw [un_1073] at ge
      have az1 : az zG = zG := by rcases az_or zG with ⟨_, q⟩ | ⟨_, q⟩ <;> omega
      omega
  · -- from one on both are exact
    have ub := un_bd (ab d) b.1
    have el : ex (ab d) < 1074 := by
      rcases Nat.lt_or_ge (ex (ab d)) 1074 with q | q
      · exact q
      · exfalso
        obtain ⟨j, hj⟩ : ∃ j, ex (ab d) = j + 1074 := ⟨ex (ab d) - 1074, by omega⟩
        apply fn
        rw [eF, un, hj, Nm.two_add, ← Int.mul_assoc]
        exact Int.mul_emod_left _ _
    have dvP : Dv (ex (ab d)) (2 ^ 1074) := ⟨2 ^ (1074 - ex (ab d)), by rw [← Nm.two_add]; congr 1; omega⟩
    have dvF : Dv (ex (ab d)) F := by
      have e1 : (2 : Int) ^ 1074 = 2 ^ (1074 - ex (ab d)) * 2 ^ ex (ab d) := by rw [← Nm.two_add]; congr 1; omega
      refine ⟨man (ab d) % 2 ^ (1074 - ex (ab d)), ?_⟩
      rw [eF, e1, un, emod_scale _ _ _ (Nm.two_pos _)]
    have dvG : Dv (ex (ab d)) G := by rw [eG]; exact dvP.sub dvF
    have m2 := Nm.two_mono (show 1074 ≤ 2098 by omega)
    have aG : az G = G := by rcases az_or G with ⟨_, q⟩ | ⟨_, q⟩ <;> omega
    have eZG := hG.exact (db_of dvG (by omega) (by omega))
    omega
end Ie
end Go.Proofs.YtnfomlkhkggjeaaGreatDoor

/-
  soft.Told, of an addition.
-/
namespace Go.Proofs.YtnfomlkhkggjeaaGreatDoor
open Go Go.RowKit Go.Deep

set_option maxRecDepth 100000 in
set_option maxHeartbeats 4000000 in
theorem oper1_any (a b c : Int) (w : World) (a0 : 0 ≤ a) (a1 : a < 18446744073709551616) (b0 : 0 ≤ b) (b1 : b < 18446744073709551616) (hT : Tab w) :
    Calls Tryz.prog 78 #[.int .u64 a, .int .u64 b, .int .u64 c] w fun e w' => Told2 (Ie.AddIs a b) w e w' := by
  have AD := hid (add_any a b w a0 a1 b0 b1 hT)
  clear hT
  go_enter Tryz.func78, Tryz.ntmps78
  go_wp2_with fail
  refine AD.out.mono ?_
  rintro e w1 ⟨r, f, rfl, h, hB⟩
  have KK : Hid (Told2 (Ie.AddIs a b) w (.returned (.tuple #[.int .u64 r, .int .i64 f])) w1) := ⟨r, f, rfl, h, hB⟩
  clear h hB AD
  go_wp2_with fail
  go_ret2
  exact KK.out

def ToldAdd (a b : Int) (w : World) (e : Ending) (w' : World) : Prop := ∃ r f, e = .returned (.tuple #[.int .u64 r, .int .i64 f, .int .i64 0]) ∧ Ie.AddIs a b r f ∧ Below w.heap.size w w'

/-- The table lies at block b. -/
def OpTab (w : World) (b : Nat) : Prop := w.cell? ⟨b, 0, none⟩ = some .nilFunc ∧ w.cell? ⟨b, 1, none⟩ = some (.func (.func 78) #[] #[]) ∧ w.cell? ⟨b, 2, none⟩ = some (.func (.func 79) #[] #[]) ∧ w.cell? ⟨b, 3, none⟩ = some (.func (.func 80) #[] #[]) ∧ w.cell? ⟨b, 4, none⟩ = some (.func (.func 82) #[] #[]) ∧ w.cell? ⟨b, 5, none⟩ = some (.func (.func 84) #[] #[]) ∧ w.cell? ⟨b, 6, none⟩ = some (.func (.func 86) #[] #[])

set_option maxRecDepth 100000 in
set_option maxHeartbeats 4000000 in
theorem opers_any (w : World) : Calls Tryz.prog 46 #[] w fun e w' => ∃ b, e = .returned (.slice (some ⟨b, 0, none⟩) 7 7) ∧ OpTab w' b ∧ Below w.heap.size w w' := by
  have AB := hid (alloc_b w)
  go_enter Tryz.func46, Tryz.ntmps46
  go_wp2_with fail
  go_ret
  exact ⟨_, rfl, ⟨by simp, by simp, by simp, by simp, by simp, by simp, by simp⟩, AB.out _⟩

set_option maxRecDepth 100000 in
set_option maxHeartbeats 4000000 in
theorem toldAdd (a b c : Int) (w : World) (a0 : 0 ≤ a) (a1 : a < 18446744073709551616) (b0 : 0 ≤ b) (b1 : b < 18446744073709551616) (hT : Tab w) :
    Calls Tryz.prog 22 #[.int .i64 1, .int .u64 a, .int .u64 b, .int .u64 c] w fun e w' => ToldAdd a b w e w' := by
  have AD := hid (fun (wx : World) (hx : Below w.heap.size w wx) => oper1_any a b c wx a0 a1 b0 b1 (hT.below hx))
  have OP := hid (opers_any w)
  clear hT
  go_enter Tryz.func22, Tryz.ntmps22
  go_wp2_with fail
  refine OP.out.mono ?_
  rintro e w1 ⟨tb, rfl, hO, hB1⟩
  obtain ⟨o0, o1, o2, o3, o4, o5, o6⟩ := hO
  have HB1 := hid hB1
  clear hB1 OP
  go_wp2_with fail
  refine (AD.out _ HB1.out).mono ?_
  rintro e w2 ⟨r, f, rfl, h, hB⟩
  have KK : Hid (ToldAdd a b w (.returned (.tuple #[.int .u64 r, .int .i64 f, .int .i64 0])) w2) := ⟨r, f, rfl, h, HB1.out.trans (hB.mono HB1.out.size)⟩
  clear h hB AD HB1
  go_wp2_with fail
  go_ret3
  exact KK.out
end Go.Proofs.YtnfomlkhkggjeaaGreatDoor

/-
  remain: Split (made by mkhjoins.py).
-/
namespace Go.Proofs.YtnfomlkhkggjeaaGreatDoor
open Go Go.RowKit Go.Deep

theorem Ib.or_hi (d : Int) (h0 : 0 ≤ d) (h1 : d < 9223372036854775808) : bits .or .u64 (d + 9223372036854775808) 9223372036854775808 = d + 9223372036854775808 := by
  obtain ⟨a, rfl⟩ := Int.eq_ofNat_of_zero_le h0
  have j : a ||| 9223372036854775808 = a + 9223372036854775808 := by
    have h := u64_or_nat a 9223372036854775808 (by omega) (by omega)
    rw [show ((9223372036854775808 : Nat) : Int) = 9223372036854775808 from rfl, Ib.sign_or (a : Int) (by omega) (by omega)] at h
    omega
  have h := u64_or_nat (a + 9223372036854775808) 9223372036854775808 (by omega) (by omega)
  rw [show ((9223372036854775808 : Nat) : Int) = 9223372036854775808 from rfl, show ((a + 9223372036854775808 : Nat) : Int) = (a : Int) + 9223372036854775808 by omega] at h
  rw [h, ← j, Nat.or_assoc, Nat.or_self, j]
  omega

theorem Ie.or_sign {d z : Int} {neg : Bool} (h0 : 0 ≤ d) (h1 : d < 18446744073709551616) (z0 : 0 ≤ z) (z1 : z < 9218868437227405312) (h : neg = Ie.ngd d ∨ neg = false ∧ z = 0) : bits .or .u64 (Ie.sb neg z) (d / 9223372036854775808 * 9223372036854775808) = Ie.sg (Ie.ngd d) z := by
  rcases (show d < 9223372036854775808 ∨ 9223372036854775808 ≤ d by omega) with g | g
  · have N : Ie.ngd d = false := by rw [Ie.ngd, decide_eq_false (by omega)]
    rw [N] at h ⊢
    obtain rfl : neg = false := by rcases h with h | h; exact h; exact h.1
    rw [show d / 9223372036854775808 * 9223372036854775808 = 0 by omega]
    exact Ib.or_zero z z0 (by omega)
  · have N : Ie.ngd d = true := by rw [Ie.ngd, decide_eq_true (by omega)]
    rw [N] at h ⊢
    rw [show d / 9223372036854775808 * 9223372036854775808 = 9223372036854775808 by omega]
    rcases h with h | ⟨h, hz⟩
    · rw [h]; exact Ib.or_hi z z0 (by omega)
    · rw [h, hz]; exact Ib.sign_or 0 (by omega) (by omega)

namespace Ie
/-- What Split answers. -/
def SplitIs (d r s : Int) : Prop := (isn d = true → r = 9221120237041090560 ∧ s = 9221120237041090560) ∧ (isi d = true → r = d ∧ s = sg (ngd d) 0) ∧
  (fin d → ∃ y z, r = sg (ngd d) y ∧ s = sg (ngd d) z ∧ 0 ≤ y ∧ y < 9218868437227405312 ∧ un y = un (ab d) / 2 ^ 1074 * 2 ^ 1074 ∧ 0 ≤ z ∧ z < 9218868437227405312 ∧ un z = un (ab d) % 2 ^ 1074)
theorem sv_sg (d : Int) (h0 : 0 ≤ d) (h1 : d < 18446744073709551616) : d / 9223372036854775808 * 9223372036854775808 = sg (ngd d) 0 := by
  rw [ngd]
  rcases (show d < 9223372036854775808 ∨ 9223372036854775808 ≤ d by omega) with g | g
  · rw [decide_eq_false (by omega)]; show _ = (0 : Int); omega
  · rw [decide_eq_true (by omega)]; show _ = (0 : Int) + 9223372036854775808; omega
end Ie

theorem ret_uu {a b c d : Int} (h : a = b) (k : c = d) : Ending.returned (.tuple #[.int .u64 a, .int .u64 c]) = .returned (.tuple #[.int .u64 b, .int .u64 d]) := by rw [h, k]

set_option maxRecDepth 100000 in
set_option maxHeartbeats 2000000 in
theorem split_any (d : Int) (w : World) (hT : Tab w) (h0 : 0 ≤ d) (h1 : d < 18446744073709551616) :
    Calls Tryz.prog 21 #[.int .u64 d] w fun e w' => ∃ r s, e = .returned (.tuple #[.int .u64 r, .int .u64 s]) ∧ Ie.SplitIs d r s ∧ Below w.heap.size w w' := by
  have NN := hid (fun (wx : World) => mnan_any d wx h0 h1)
  have NI := hid (fun (wx : World) => minfinite_any d wx h0 h1)
  have SA := Ib.sign_and d h0 h1
  have HT := hid hT
  rcases Ie.kinds d with g | ⟨g, g', g''⟩ | ⟨g, g', g''⟩
  · have E : Hid (Ie.SplitIs d 9221120237041090560 9221120237041090560) := ⟨fun _ => ⟨rfl, rfl⟩, fun k => (by simp only [Ie.isn, Ie.isi, decide_eq_true_iff] at g k; omega), fun k => (by simp only [Ie.isn, Ie.fin, decide_eq_true_iff] at g k; omega)⟩
    rw [g] at NN
    clear g hT
    go_enter Tryz.func21, Tryz.ntmps21
    go_wp2_with fail
    refine (NN.out _).mono ?_
    rintro e wz ⟨rfl, hz⟩
    replace hz := hz.symm
    subst hz
    go_wp2_with fail
    go_ret2
    exact ⟨_, _, rfl, E.out, Below.refl _ _⟩
  · have E : Hid (Ie.SplitIs d d (d / 9223372036854775808 * 9223372036854775808)) := ⟨fun k => (by rw [g] at k; cases k), fun _ => ⟨rfl, Ie.sv_sg d h0 h1⟩, fun k => absurd k g''⟩
    rw [g] at NN
    rw [g'] at NI
    clear g g' g'' hT
    generalize d / 9223372036854775808 * 9223372036854775808 = sv at *
    go_enter Tryz.func21, Tryz.ntmps21
    go_wp2_with fail
    refine (NN.out _).mono ?_
    rintro e wz ⟨rfl, hz⟩
    replace hz := hz.symm
    subst hz
    go_wp2_with fail
    refine (NI.out _).mono ?_
    rintro e wz ⟨rfl, hz⟩
    replace hz := hz.symm
    subst hz
    go_wp2_with fail
    go_ret2
    exact ⟨_, _, rfl, E.out, Below.refl _ _⟩
  · have TR := hid (trunc_any d w hT h0 h1)
    have SU : Hid (∀ (wx : World) (r : Int), Tab wx → Ie.WIs d false r → Calls Tryz.prog 18 #[.int .u64 d, .int .u64 r] wx fun e w' => ∃ s t, e = .returned (.int .u64 s) ∧ bits .or .u64 s (d / 9223372036854775808 * 9223372036854775808) = t ∧ Hid (Ie.SplitIs d r t) ∧ Below wx.heap.size wx w') := by
      intro wx r hx hr
      obtain ⟨y, hry, y0, y1, hy⟩ := Ie.wis_trunc g'' hr
      obtain ⟨-, -, q3, q4, -, -⟩ := Ie.sg_all (Ie.ngd d) y y0 (by omega)
      rw [← hry] at q3 q4
      refine (softSub_any d r wx h0 h1 q3 q4 hx).mono ?_
      rintro e w' ⟨s, f, rfl, hs, hB⟩
      obtain ⟨z, neg, hsz, z0, z1, hz, hn⟩ := Ie.split_sub g'' hr hs
      refine ⟨s, _, rfl, rfl, ?_, hB⟩
      rw [hsz, Ie.or_sign h0 h1 z0 z1 hn]
      exact ⟨fun k => (by rw [g] at k; cases k), fun k => (by rw [g'] at k; cases k), fun _ => ⟨y, z, hry, rfl, y0, y1, hy, z0, z1, hz⟩⟩
    rw [g] at NN
    rw [g'] at NI
    clear g g' g'' hT
    generalize d / 9223372036854775808 * 9223372036854775808 = sv at *
    go_enter Tryz.func21, Tryz.ntmps21
    go_wp2_with fail
    refine (NN.out _).mono ?_
    rintro e wz ⟨rfl, hz⟩
    replace hz := hz.symm
    subst hz
    go_wp2_with fail
    refine (NI.out _).mono ?_
    rintro e wz ⟨rfl, hz⟩
    replace hz := hz.symm
    subst hz
    go_wp2_with fail
    refine TR.out.mono ?_
    rintro e w1 ⟨r, rfl, hr, hB⟩
    have HB1 := hid hB
    have S1 := hid (SU.out w1 r (HT.out.below hB) hr)
    clear hB hr TR SU
    go_wp2_with fail
    refine S1.out.mono ?_
    rintro e w2 ⟨s, t, rfl, hst, hs, hB⟩
    have HB2 := hid (HB1.out.trans (hB.mono HB1.out.size))
    clear hB S1
    go_wp2_with fail
    go_ret2
    exact ⟨_, _, rfl, hs.out, HB2.out⟩
end Go.Proofs.YtnfomlkhkggjeaaGreatDoor
