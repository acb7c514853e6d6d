/-
  Texts put together: IOrd1, IOrdD, IOrd2, HUnits, MLeftR, MRem, HMod, HWraps.
-/
import Derived.Test.YtnfomlkhkggjeaaDoorIWalk1
import Derived.Test.YtnfomlkhkggjeaaDoorIWalk1B
import Derived.Test.YtnfomlkhkggjeaaDoorMPw
import Derived.Laws.Cover1
import Derived.Test.YtnfomlkhkggjeaaDoorMLft
/-
  ieee: place, Total, Rank, Compare, AtRank, Up, Down; cmp.Compare of two int64.
-/
namespace Go.Proofs.YtnfomlkhkggjeaaDoor
open Go Go.RowKit Go.Deep

namespace Ie
/-- Where a pattern stands in the order of all. -/
def plc (d : Int) : Int := if d < 9223372036854775808 then d else 9223372036854775807 - d
/-- -1, 0 or 1. -/
def cm (a b : Int) : Int := if a < b then -1 else if b < a then 1 else 0
end Ie

set_option maxRecDepth 100000 in
theorem isNaN_any (x : Int) (w : World) : Calls Tryd.prog 70 #[.int .i64 x] w fun e w' => e = .returned (.bool false) ∧ w' = w := by
  go_enter Tryd.func70, Tryd.ntmps70
  go_wp2
  go_ret
  exact ⟨by simp, rfl⟩

set_option maxRecDepth 100000 in
theorem ccmp_any (x y : Int) (w : World) : Calls Tryd.prog 53 #[.int .i64 x, .int .i64 y] w fun e w' => e = .returned (.int .i64 (Ie.cm x y)) ∧ w' = w := by
  by_cases h1 : x < y
  · have E : Hid (Ie.cm x y = -1) := by rw [Hid, Ie.cm, if_pos h1]
    go_enter Tryd.func53, Tryd.ntmps53
    go_wp2_with fail
    refine (isNaN_any x w).mono ?_
    rintro e w' ⟨rfl, rfl⟩
    go_wp2_with fail
    refine (isNaN_any y _).mono ?_
    rintro e w' ⟨rfl, rfl⟩
    go_wp2_with fail
    go_ret
    exact ⟨i_retI E.out.symm, rfl⟩
  · by_cases h2 : y < x
    · have E : Hid (Ie.cm x y = 1) := by rw [Hid, Ie.cm, if_neg h1, if_pos h2]
      go_enter Tryd.func53, Tryd.ntmps53
      go_wp2_with fail
      refine (isNaN_any x w).mono ?_
      rintro e w' ⟨rfl, rfl⟩
      go_wp2_with fail
      refine (isNaN_any y _).mono ?_
      rintro e w' ⟨rfl, rfl⟩
      go_wp2_with fail
      go_ret
      exact ⟨i_retI E.out.symm, rfl⟩
    · have E : Hid (Ie.cm x y = 0) := by rw [Hid, Ie.cm, if_neg h1, if_neg h2]
      go_enter Tryd.func53, Tryd.ntmps53
      go_wp2_with fail
      refine (isNaN_any x w).mono ?_
      rintro e w' ⟨rfl, rfl⟩
      go_wp2_with fail
      refine (isNaN_any y _).mono ?_
      rintro e w' ⟨rfl, rfl⟩
      go_wp2_with fail
      go_ret
      exact ⟨i_retI E.out.symm, rfl⟩
end Go.Proofs.YtnfomlkhkggjeaaDoor

/-
  ieee: the order of doubles, in numbers.
-/
namespace Go.Proofs.YtnfomlkhkggjeaaDoor
open Go Go.RowKit Go.Deep

namespace Ie
/-- No NaN. -/
def okd (d : Int) : Bool := decide (d % 9223372036854775808 ≤ 9218868437227405312)
/-- The rank. -/
def rk (d : Int) : Int := if d < 9223372036854775808 then d else 9223372036854775808 - d
theorem cls4 (d : Int) : cls d = 4 ↔ okd d = false := by
  rw [okd, decide_eq_false_iff_not, cls]
  by_cases a : fld d = 0
  · rw [if_pos a]
    simp only [fld] at a
    by_cases b : d % 4503599627370496 = 0
    · rw [if_pos b]; omega
    · rw [if_neg b]; omega
  · rw [if_neg a]
    by_cases c : fld d = 2047
    · rw [if_pos c]
      simp only [fld] at a c
      by_cases b : d % 4503599627370496 = 0
      · rw [if_pos b]; omega
      · rw [if_neg b]; omega
    · rw [if_neg c]
      simp only [fld] at a c
      omega
/-- Rank's number. -/
def rkv (d : Int) : Int := if okd d = true then rk d else 0
/-- The next one above. -/
def upd (d : Int) : Int :=
  if okd d = false then 9221120237041090560 else if d = 9218868437227405312 then d else if d = 9223372036854775808 then 1 else if 9223372036854775808 < d then d - 1 else d + 1
/-- The next one below. -/
def dnd (d : Int) : Int := if okd d = false then 9221120237041090560 else ng (upd (ng d))
/-- The double at a rank. -/
def atr (i : Int) : Int := if i < 0 then 9223372036854775808 - i else i
end Ie

theorem ret_i64b {a b : Int} {c d : Bool} (h : a = b) (k : c = d) : Ending.returned (.tuple #[.int .i64 a, .bool c]) = .returned (.tuple #[.int .i64 b, .bool d]) := by rw [h, k]
theorem ret_u64b {a b : Int} {c d : Bool} (h : a = b) (k : c = d) : Ending.returned (.tuple #[.int .u64 a, .bool c]) = .returned (.tuple #[.int .u64 b, .bool d]) := by rw [h, k]
end Go.Proofs.YtnfomlkhkggjeaaDoor

/-
  ieee: Rank, Compare, Total, AtRank, Up, Down.
-/
namespace Go.Proofs.YtnfomlkhkggjeaaDoor
open Go Go.RowKit Go.Deep

namespace Ie
/-- Compare's number. -/
def cmv (a b : Int) : Int := if okd a = true ∧ okd b = true then cm (rk a) (rk b) else 0
end Ie

set_option maxRecDepth 100000 in
set_option maxHeartbeats 1000000 in
theorem rank_any (d : Int) (w : World) (h0 : 0 ≤ d) (h1 : d < 18446744073709551616) :
    Calls Tryd.prog 52 #[.int .u64 d] w fun e w' => e = .returned (.tuple #[.int .i64 (Ie.rkv d), .bool (Ie.okd d)]) ∧ w' = w := by
  have B := Ib.sign_and d h0 h1
  have CL := hid (class_any d w h0 h1)
  have AB := hid (abs_any d w h0 h1)
  have c4 := Ie.cls4 d
  obtain ⟨c, hc⟩ : ∃ c, Ie.cls d = c := ⟨_, rfl⟩
  rw [hc] at CL c4
  obtain ⟨sv, hsv⟩ : ∃ sv, d / 9223372036854775808 * 9223372036854775808 = sv := ⟨_, rfl⟩
  rw [hsv] at B
  obtain ⟨r, hr⟩ : ∃ r, d % 9223372036854775808 = r := ⟨_, rfl⟩
  rw [hr] at AB
  have r0 : 0 ≤ r := by omega
  have r1 : r < 9223372036854775808 := by omega
  by_cases hn : c = 4
  · have E : Hid (0 = Ie.rkv d ∧ false = Ie.okd d) := by
      have := c4.1 hn
      exact ⟨by rw [Ie.rkv, this]; rfl, this.symm⟩
    subst hn
    clear hc hsv hr c4
    go_enter Tryd.func52, Tryd.ntmps52
    go_wp2_with fail
    refine CL.out.mono ?_
    rintro e w' ⟨rfl, rfl⟩
    go_wp2_with fail
    go_ret2
    exact ⟨ret_i64b E.out.1 E.out.2, rfl⟩
  · have ok : Ie.okd d = true := by
      cases h : Ie.okd d
      · exact absurd (c4.2 h) hn
      · rfl
    have hn' : (c == 4) = false := by rw [beq_eq_false_iff_ne]; exact hn
    rcases (show d < 9223372036854775808 ∨ 9223372036854775808 ≤ d by omega) with hs | hs
    · have E : Hid (r = Ie.rkv d ∧ true = Ie.okd d) := ⟨by rw [Ie.rkv, ok, if_pos rfl, Ie.rk, if_pos hs]; omega, ok.symm⟩
      have hz : sv = 0 := by omega
      subst hz
      clear hc hsv hr c4 ok hs hn
      go_enter Tryd.func52, Tryd.ntmps52
      go_wp2_with fail
      refine CL.out.mono ?_
      rintro e w' ⟨rfl, rfl⟩
      go_wp2_with fail
      refine AB.out.mono ?_
      rintro e w' ⟨rfl, rfl⟩
      go_wp2_with fail
      go_ret2
      exact ⟨ret_i64b E.out.1 E.out.2, rfl⟩
    · have E : Hid (-r = Ie.rkv d ∧ true = Ie.okd d) := ⟨by rw [Ie.rkv, ok, if_pos rfl, Ie.rk, if_neg (by omega)]; omega, ok.symm⟩
      have hz : sv = 9223372036854775808 := by omega
      subst hz
      clear hc hsv hr c4 ok hs hn
      go_enter Tryd.func52, Tryd.ntmps52
      go_wp2_with fail
      refine CL.out.mono ?_
      rintro e w' ⟨rfl, rfl⟩
      go_wp2_with fail
      refine AB.out.mono ?_
      rintro e w' ⟨rfl, rfl⟩
      go_wp2_with fail
      go_ret2
      exact ⟨ret_i64b E.out.1 E.out.2, rfl⟩

set_option maxRecDepth 100000 in
set_option maxHeartbeats 1000000 in
theorem compare_any (a b : Int) (w : World) (a0 : 0 ≤ a) (a1 : a < 18446744073709551616) (b0 : 0 ≤ b) (b1 : b < 18446744073709551616) :
    Calls Tryd.prog 26 #[.int .u64 a, .int .u64 b] w fun e w' => e = .returned (.tuple #[.int .i64 (Ie.cmv a b), .bool (Ie.okd a && Ie.okd b)]) ∧ w' = w := by
  have P1 := hid (rank_any a w a0 a1)
  have P2 := hid (rank_any b w b0 b1)
  have X1 : Hid (Ie.okd a = true → Ie.rkv a = Ie.rk a) := by intro h; rw [Ie.rkv, if_pos h]
  have X2 : Hid (Ie.okd b = true → Ie.rkv b = Ie.rk b) := by intro h; rw [Ie.rkv, if_pos h]
  have V : Hid (Ie.cmv a b = if Ie.okd a = true ∧ Ie.okd b = true then Ie.cm (Ie.rk a) (Ie.rk b) else 0) := rfl
  generalize Ie.cmv a b = cv at *
  generalize Ie.rkv a = x at *
  generalize Ie.rkv b = y at *
  generalize Ie.okd a = oa at *
  generalize Ie.okd b = ob at *
  clear a0 a1 b0 b1
  cases oa
  · go_enter Tryd.func26, Tryd.ntmps26
    go_wp2_with fail
    refine P1.out.mono ?_
    rintro e w' ⟨rfl, rfl⟩
    go_wp2_with fail
    refine P2.out.mono ?_
    rintro e w' ⟨rfl, rfl⟩
    go_wp2_with fail
    go_ret2
    exact ⟨ret_i64b (by rw [V.out]; rfl) rfl, rfl⟩
  · cases ob
    · go_enter Tryd.func26, Tryd.ntmps26
      go_wp2_with fail
      refine P1.out.mono ?_
      rintro e w' ⟨rfl, rfl⟩
      go_wp2_with fail
      refine P2.out.mono ?_
      rintro e w' ⟨rfl, rfl⟩
      go_wp2_with fail
      go_ret2
      exact ⟨ret_i64b (by rw [V.out]; rfl) rfl, rfl⟩
    · go_enter Tryd.func26, Tryd.ntmps26
      go_wp2_with fail
      refine P1.out.mono ?_
      rintro e w' ⟨rfl, rfl⟩
      go_wp2_with fail
      refine P2.out.mono ?_
      rintro e w' ⟨rfl, rfl⟩
      go_wp2_with fail
      refine (ccmp_any _ _ _).mono ?_
      rintro e w' ⟨rfl, rfl⟩
      go_wp2_with fail
      go_ret2
      exact ⟨ret_i64b (by rw [V.out, if_pos ⟨trivial, trivial⟩, X1.out trivial, X2.out trivial]) rfl, rfl⟩

end Go.Proofs.YtnfomlkhkggjeaaDoor

/-
  law06: finite, below, atMost, units (made by mkhunits.py).
-/
namespace Go.Proofs.YtnfomlkhkggjeaaDoor
open Go Go.RowKit Go.Deep

set_option maxRecDepth 100000 in
theorem hfinite_any (d : Int) (w : World) (h0 : 0 ≤ d) :
    Calls Tryd.prog 8 #[.int .u64 d] w fun e w' => e = .returned (.bool (decide (Ie.ab d < 9218868437227405312))) ∧ w' = w := by
  rw [Ie.ab]
  go_enter Tryd.func8, Tryd.ntmps8
  go_wp2_with fail
  go_ret
  exact ⟨rfl, rfl⟩

theorem Ie.cmv_nn (x y : Int) (x0 : 0 ≤ x) (x1 : x ≤ 9218868437227405312) (y0 : 0 ≤ y) (y1 : y ≤ 9218868437227405312) : Ie.cmv x y = Ie.cm x y ∧ (Ie.okd x && Ie.okd y) = true := by
  have o1 : Ie.okd x = true := by rw [Ie.okd, decide_eq_true_iff]; omega
  have o2 : Ie.okd y = true := by rw [Ie.okd, decide_eq_true_iff]; omega
  rw [Ie.cmv, if_pos ⟨o1, o2⟩, Ie.rk, Ie.rk, if_pos (by omega), if_pos (by omega), o1, o2]
  exact ⟨rfl, rfl⟩

set_option maxRecDepth 100000 in
theorem below_any (x y : Int) (w : World) (x0 : 0 ≤ x) (x1 : x ≤ 9218868437227405312) (y0 : 0 ≤ y) (y1 : y ≤ 9218868437227405312) :
    Calls Tryd.prog 9 #[.int .u64 x, .int .u64 y] w fun e w' => e = .returned (.bool (decide (x < y))) ∧ w' = w := by
  have C := compare_any x y w x0 (by omega) y0 (by omega)
  rw [(Ie.cmv_nn x y x0 x1 y0 y1).1, (Ie.cmv_nn x y x0 x1 y0 y1).2] at C
  have C := hid C
  have E : Hid (decide (Ie.cm x y < 0) = decide (x < y)) := by
    rw [Hid, decide_eq_decide, Ie.cm]
    split
    · omega
    · split <;> omega
  generalize Ie.cm x y = c at *
  go_enter Tryd.func9, Tryd.ntmps9
  go_wp2_with fail
  refine C.out.mono ?_
  rintro e w' ⟨rfl, rfl⟩
  go_wp2_with fail
  go_ret
  exact ⟨by rw [← E.out]; rfl, rfl⟩

set_option maxRecDepth 100000 in
theorem atMost_any (x y : Int) (w : World) (x0 : 0 ≤ x) (x1 : x ≤ 9218868437227405312) (y0 : 0 ≤ y) (y1 : y ≤ 9218868437227405312) :
    Calls Tryd.prog 11 #[.int .u64 x, .int .u64 y] w fun e w' => e = .returned (.bool (decide (x ≤ y))) ∧ w' = w := by
  have C := compare_any x y w x0 (by omega) y0 (by omega)
  rw [(Ie.cmv_nn x y x0 x1 y0 y1).1, (Ie.cmv_nn x y x0 x1 y0 y1).2] at C
  have C := hid C
  have E : Hid (decide (Ie.cm x y ≤ 0) = decide (x ≤ y)) := by
    rw [Hid, decide_eq_decide, Ie.cm]
    split
    · omega
    · split <;> omega
  generalize Ie.cm x y = c at *
  go_enter Tryd.func11, Tryd.ntmps11
  go_wp2_with fail
  refine C.out.mono ?_
  rintro e w' ⟨rfl, rfl⟩
  go_wp2_with fail
  go_ret
  exact ⟨by rw [← E.out]; rfl, rfl⟩

theorem arg1 {w : World} {g : Nat} {x : Int} (h : w.heap[g]? = some (.cells #[.int .u64 x] 22 (0, 0))) (h0 : 0 ≤ x) (h1 : x < 18446744073709551616) : Arg w (some ⟨g, 0, none⟩) 1 1 [x] := by
  refine ⟨rfl, Nat.le_refl _, by omega, .inr ⟨g, 0, rfl, fun i hi => ?_⟩, Nm.Limbs.mk h0 h1 Nm.Limbs.nil⟩
  obtain rfl : i = 0 := by simpa using hi
  simp [World.cell?, h]

theorem shl_lit (m : Int) (i : Nat) (w wx : World) (m0 : 0 ≤ m) (m1 : m < 9007199254740992) (hi : i ≤ 2100) (hx : Below w.heap.size w wx) :
    Calls Tryd.prog 18 #[.slice (some ⟨wx.heap.size, 0, none⟩) 1 1, .int .i64 (i : Int)] (wx.alloc (.cells #[.int .u64 m] 22)) fun e w' => ∃ r os, e = .returned (.tuple #[.slice r (List.length os) (List.length os), .int .i64 0]) ∧ Ans w.heap.size w' r os (m * 2 ^ i) ∧ Below wx.heap.size wx w' := by
  have ha := alloc_b wx (.cells #[.int .u64 m] 22)
  have e53 : (2 : Int) ^ 53 = 9007199254740992 := by decide
  have hv : Nm.val [m] = m := by simp [Nm.val]
  have ht : Nm.tsize [m] ≤ 1 := Nm.tsize_le [m]
  have := shl_any _ 1 1 [m] (i : Int) i _ (arg1 (heap_alloc_new wx (.cells #[.int .u64 m] 22)) m0 (by omega)) (by omega) rfl (by rw [hv]; exact sh_room (K := 53) (by omega) (by omega))
  rw [hv] at this
  refine this.mono ?_
  rintro e w' ⟨r, os, rfl, A, hB⟩
  exact ⟨r, os, rfl, A.upB (Nat.le_trans hx.size ha.size), ha.trans (hB.mono ha.size)⟩

/-- What units tells. -/
def UnitsTold3 (a b c : Int) (w : World) (e : Ending) (w' : World) : Prop :=
  ∃ (p q r : Option Addr) (os qs rs : List Int) (X Y Z : Int) (k : Nat), e = .returned (.tuple #[.slice p (List.length os) (List.length os), .slice q (List.length qs) (List.length qs), .slice r (List.length rs) (List.length rs)]) ∧
    Ans w.heap.size w' p os X ∧ Ans w.heap.size w' q qs Y ∧ Ans w.heap.size w' r rs Z ∧ Hid (Ie.un (Ie.ab a) = X * 2 ^ k ∧ Ie.un (Ie.ab b) = Y * 2 ^ k ∧ Ie.un (Ie.ab c) = Z * 2 ^ k ∧ X < 2 ^ 2200 ∧ Y < 2 ^ 2200 ∧ Z < 2 ^ 2200) ∧ Below w.heap.size w w'

set_option maxRecDepth 100000 in
set_option maxHeartbeats 8000000 in
theorem units3_any (a b c : Int) (w : World) (a0 : 0 ≤ a) (a1 : a < 18446744073709551616) (b0 : 0 ≤ b) (b1 : b < 18446744073709551616) (c0 : 0 ≤ c) (c1 : c < 18446744073709551616) (fa : Ie.fin a) (fb : Ie.fin b) (fc : Ie.fin c) :
    Calls Tryd.prog 12 #[.int .u64 a, .int .u64 b, .int .u64 c] w fun e w' => UnitsTold3 a b c w e w' := by
  have Da := hid (fun (wx : World) => decode_any a wx a0 a1)
  obtain ⟨⟨ma0, ma1⟩, ⟨ea0, ea1⟩, ga, -⟩ := Ie.dec_f a fa
  have Db := hid (fun (wx : World) => decode_any b wx b0 b1)
  obtain ⟨⟨mb0, mb1⟩, ⟨eb0, eb1⟩, gb, -⟩ := Ie.dec_f b fb
  have Dc := hid (fun (wx : World) => decode_any c wx c0 c1)
  obtain ⟨⟨mc0, mc1⟩, ⟨ec0, ec1⟩, gc, -⟩ := Ie.dec_f c fc
  obtain ⟨x, hx⟩ : ∃ x, min (min (Ie.de a) (Ie.de b)) (Ie.de c) = x := ⟨_, rfl⟩
  have hx' : (if Ie.de c < (if Ie.de b < Ie.de a then Ie.de b else Ie.de a) then Ie.de c else (if Ie.de b < Ie.de a then Ie.de b else Ie.de a)) = x := by split <;> split at * <;> omega
  obtain ⟨i, hi⟩ : ∃ i : Nat, (i : Int) = Ie.de a - x := ⟨(Ie.de a - x).toNat, by omega⟩
  have Wa : Ie.de a - x = (i : Int) := by omega
  have Sa := hid (fun (wx : World) (hw : Below w.heap.size w wx) => shl_lit (Ie.dm a) i w wx ma0 ma1 (by omega) hw)
  obtain ⟨j, hj⟩ : ∃ j : Nat, (j : Int) = Ie.de b - x := ⟨(Ie.de b - x).toNat, by omega⟩
  have Wb : Ie.de b - x = (j : Int) := by omega
  have Sb := hid (fun (wx : World) (hw : Below w.heap.size w wx) => shl_lit (Ie.dm b) j w wx mb0 mb1 (by omega) hw)
  obtain ⟨l, hl⟩ : ∃ l : Nat, (l : Int) = Ie.de c - x := ⟨(Ie.de c - x).toNat, by omega⟩
  have Wc : Ie.de c - x = (l : Int) := by omega
  have Sc := hid (fun (wx : World) (hw : Below w.heap.size w wx) => shl_lit (Ie.dm c) l w wx mc0 mc1 (by omega) hw)
  have WT : Hid (∀ (wx : World) (p q r : Option Addr) (os qs rs : List Int), Ans w.heap.size wx p os (Ie.dm a * 2 ^ i) → Ans w.heap.size wx q qs (Ie.dm b * 2 ^ j) → Ans w.heap.size wx r rs (Ie.dm c * 2 ^ l) → Below w.heap.size w wx → UnitsTold3 a b c w (.returned (.tuple #[.slice p (List.length os) (List.length os), .slice q (List.length qs) (List.length qs), .slice r (List.length rs) (List.length rs)])) wx) := by
    intro wx p q r os qs rs A1 A2 A3 hB
    obtain ⟨k, hk⟩ : ∃ k : Nat, (k : Int) = x + 1074 := ⟨(x + 1074).toNat, by omega⟩
    have e53 : (2 : Int) ^ 53 = 9007199254740992 := by decide
    have bd : ∀ (m : Int) (i : Nat), m < 9007199254740992 → i ≤ 2100 → m * 2 ^ i < 2 ^ 2200 := by
      intro m i hm hi
      have h1 : m * 2 ^ i < 2 ^ 53 * 2 ^ i := Int.mul_lt_mul_of_pos_right (by omega) (Nm.two_pos i)
      rw [← Nm.two_add] at h1
      exact Int.lt_of_lt_of_le h1 (Nm.two_mono (show 53 + i ≤ 2200 by omega))
    refine ⟨p, q, r, os, qs, rs, _, _, _, k, rfl, A1, A2, A3, ⟨?_, ?_, ?_, bd _ i ma1 (by omega), bd _ j mb1 (by omega), bd _ l mc1 (by omega)⟩, hB⟩
    · rw [← ga (i + k) (by omega), Nm.two_add, Int.mul_assoc]
    · rw [← gb (j + k) (by omega), Nm.two_add, Int.mul_assoc]
    · rw [← gc (l + k) (by omega), Nm.two_add, Int.mul_assoc]
  have wa : -1074 ≤ Ie.de a ∧ Ie.de a ≤ 971 := ⟨ea0, ea1⟩
  have wb : -1074 ≤ Ie.de b ∧ Ie.de b ≤ 971 := ⟨eb0, eb1⟩
  have wc : -1074 ≤ Ie.de c ∧ Ie.de c ≤ 971 := ⟨ec0, ec1⟩
  have xb : -1074 ≤ x ∧ x ≤ 971 := by omega
  simp only [partsOf] at Da Db Dc
  clear fa fb fc a0 a1 b0 b1 c0 c1 ma0 ma1 mb0 mb1 mc0 mc1 ga gb gc ea0 ea1 eb0 eb1 ec0 ec1 hi hj hl
  obtain ⟨wa0, wa1⟩ := wa
  generalize decide (9223372036854775808 ≤ a) = na at *
  generalize Ie.dm a = ma at *
  generalize Ie.de a = ea at *
  generalize Ie.cls a = ka at *
  obtain ⟨wb0, wb1⟩ := wb
  generalize decide (9223372036854775808 ≤ b) = nb at *
  generalize Ie.dm b = mb at *
  generalize Ie.de b = eb at *
  generalize Ie.cls b = kb at *
  obtain ⟨wc0, wc1⟩ := wc
  generalize decide (9223372036854775808 ≤ c) = nc at *
  generalize Ie.dm c = mc at *
  generalize Ie.de c = ec at *
  generalize Ie.cls c = kc at *
  obtain ⟨xb0, xb1⟩ := xb
  go_enter Tryd.func12, Tryd.ntmps12
  go_wp2_with fail
  refine (Da.out _).mono ?_
  rintro e w1 ⟨rfl, hB⟩
  have hb := hB.trans ((alloc_b w1 (.cells #[.bool na, .int .i64 ka, .int .u64 ma, .int .i64 ea] 49)).mono hB.size)
  have P := Row4.new w1 49 (.bool na) (.int .i64 ka) (.int .u64 ma) (.int .i64 ea)
  go_upto_region 2 with fail
  have H1 := hid (And.intro hb P)
  clear hB hb P Da
  generalize w1.alloc (.cells #[.bool na, .int .i64 ka, .int .u64 ma, .int .i64 ea] 49) = wA at *
  generalize w1.heap.size = x1 at *
  go_wp2_with fail
  refine (Db.out _).mono ?_
  rintro e w2 ⟨rfl, hB⟩
  have h1 := alloc_b w2 (.cells #[.bool nb, .int .i64 kb, .int .u64 mb, .int .i64 eb] 49)
  have hc := H1.out.1.trans (hB.mono H1.out.1.size)
  have hb := hc.trans (h1.mono hc.size)
  have P := Row4.new w2 49 (.bool nb) (.int .i64 kb) (.int .u64 mb) (.int .i64 eb)
  have Q := (H1.out.2.below hB H1.out.2.lt).below h1 (H1.out.2.below hB H1.out.2.lt).lt
  go_upto_region 3 with fail
  have H2 := hid (And.intro hb (And.intro Q P))
  clear hB hb hc h1 P Q Db H1
  generalize w2.alloc (.cells #[.bool nb, .int .i64 kb, .int .u64 mb, .int .i64 eb] 49) = wB at *
  generalize w2.heap.size = x2 at *
  go_wp2_with fail
  refine (Dc.out _).mono ?_
  rintro e w3 ⟨rfl, hB⟩
  have h1 := alloc_b w3 (.cells #[.bool nc, .int .i64 kc, .int .u64 mc, .int .i64 ec] 49)
  have hc := H2.out.1.trans (hB.mono H2.out.1.size)
  have hb := hc.trans (h1.mono hc.size)
  have P := Row4.new w3 49 (.bool nc) (.int .i64 kc) (.int .u64 mc) (.int .i64 ec)
  have Q1 := (H2.out.2.1.below hB H2.out.2.1.lt).below h1 (H2.out.2.1.below hB H2.out.2.1.lt).lt
  have Q2 := (H2.out.2.2.below hB H2.out.2.2.lt).below h1 (H2.out.2.2.below hB H2.out.2.2.lt).lt
  go_upto_region 4 with fail
  obtain ⟨SS, KS, CS, BS, MS⟩ := state (fun w' => w'.cell? ⟨x1, 2, none⟩ = some (.int .u64 ma) ∧ w'.cell? ⟨x1, 3, none⟩ = some (.int .i64 ea) ∧ w'.cell? ⟨x2, 2, none⟩ = some (.int .u64 mb) ∧ w'.cell? ⟨x2, 3, none⟩ = some (.int .i64 eb) ∧ w'.cell? ⟨w3.heap.size, 2, none⟩ = some (.int .u64 mc) ∧ w'.cell? ⟨w3.heap.size, 3, none⟩ = some (.int .i64 ec)) w ((Stays.cell _ _).and ((Stays.cell _ _).and ((Stays.cell _ _).and ((Stays.cell _ _).and ((Stays.cell _ _).and (Stays.cell _ _))))))
  have S0 := hid (MS.out _ ⟨Q1.cells.1.2.2.1, Q1.cells.1.2.2.2, Q2.cells.1.2.2.1, Q2.cells.1.2.2.2, P.cells.1.2.2.1, P.cells.1.2.2.2⟩ hb)
  clear hB hb hc h1 P Q1 Q2 Dc H2 MS
  generalize w3.alloc (.cells #[.bool nc, .int .i64 kc, .int .u64 mc, .int .i64 ec] 49) = wC at *
  generalize w3.heap.size = x3 at *
  obtain ⟨p1, p2, p3, p4, p5, p6⟩ := CS.out _ S0.out
  have S1 := hid (Sa.out wC (BS.out _ S0.out))
  obtain ⟨-, q2, -, q4, -, q6⟩ := CS.out _ (KS.out _ _ S0.out (alloc_b wC (.cells #[.int .u64 ma] 22)))
  clear Sa
  go_wp2_with fail
  refine S1.out.mono ?_
  rintro e w4 ⟨r4, o4, rfl, A, hB⟩
  have T1 := hid (KS.out _ _ S0.out hB)
  have A4 := hid A
  have S2 := hid (Sb.out w4 (BS.out _ T1.out))
  clear A hB S0 S1 Sb p1 p2 p3 p4 p5 p6 q2 q4 q6
  obtain ⟨p1, p2, p3, p4, p5, p6⟩ := CS.out _ T1.out
  obtain ⟨-, q2, -, q4, -, q6⟩ := CS.out _ (KS.out _ _ T1.out (alloc_b w4 (.cells #[.int .u64 mb] 22)))
  go_wp2_with fail
  refine S2.out.mono ?_
  rintro e w5 ⟨r5, o5, rfl, A, hB⟩
  have T2 := hid (KS.out _ _ T1.out hB)
  have A5 := hid A
  have A4' := hid (A4.out.below hB (Nat.le_refl _))
  have S3 := hid (Sc.out w5 (BS.out _ T2.out))
  clear A hB T1 S2 Sc A4 p1 p2 p3 p4 p5 p6 q2 q4 q6
  obtain ⟨p1, p2, p3, p4, p5, p6⟩ := CS.out _ T2.out
  obtain ⟨-, q2, -, q4, -, q6⟩ := CS.out _ (KS.out _ _ T2.out (alloc_b w5 (.cells #[.int .u64 mc] 22)))
  go_wp2_with fail
  refine S3.out.mono ?_
  rintro e w6 ⟨r6, o6, rfl, A, hB⟩
  have T3 := hid (KS.out _ _ T2.out hB)
  have KK := hid (WT.out w6 r4 r5 r6 o4 o5 o6 (A4'.out.below hB (Nat.le_refl _)) (A5.out.below hB (Nat.le_refl _)) A (BS.out _ T3.out))
  clear A hB T2 S3 A5 A4' p1 p2 p3 p4 p5 p6 q2 q4 q6 WT
  go_wp2_with fail
  go_ret3
  exact KK.out
end Go.Proofs.YtnfomlkhkggjeaaDoor

/-
  remain: left, by Remainder's rule (made by mkmleft.py).
-/
namespace Go.Proofs.YtnfomlkhkggjeaaDoor
open Go Go.RowKit Go.Deep

set_option maxRecDepth 100000 in
set_option maxHeartbeats 8000000 in
theorem left_R (a b : Int) (up : Bool) (w : World) (hT : Tab w) (a0 : 0 ≤ a) (a1 : a < 18446744073709551616) (b0 : 0 ≤ b) (b1 : b < 18446744073709551616) (fa : Ie.fin a) (fb : Ie.fin b) (zb : Ie.ab b ≠ 0)
    (AW : ∀ wx : World, Below w.heap.size w wx → Calls Tryd.prog 37 #[.bool (Ie.un (Ie.ab a) / Ie.un (Ie.ab b) % 2 == 1), .int .i64 (cmpI (2 * (Ie.un (Ie.ab a) % Ie.un (Ie.ab b))) (Ie.un (Ie.ab b)))] wx fun e w' => e = .returned (.bool up) ∧ w' = wx)
    (UP : up = true → Ie.un (Ie.ab b) ≤ 2 * (Ie.un (Ie.ab a) % Ie.un (Ie.ab b))) :
    Calls Tryd.prog 24 #[.int .u64 a, .int .u64 b, .func (Fn.func 37) #[] #[]] w fun e w' => ∃ y, e = .returned (.int .u64 (Ie.sg (Ie.ngd a != up) y)) ∧ Hid (Ie.un y = Ie.lft (Ie.un (Ie.ab a)) (Ie.un (Ie.ab b)) up ∧ 0 ≤ y ∧ y < 9218868437227405312) ∧ Below w.heap.size w w' := by
  have NA := hid (fun (wx : World) => mnan_any a wx a0 a1)
  have NB := hid (fun (wx : World) => mnan_any b wx b0 b1)
  have IA := hid (fun (wx : World) => minfinite_any a wx a0 a1)
  have IB := hid (fun (wx : World) => minfinite_any b wx b0 b1)
  have ZB := hid (fun (wx : World) => mzero_any b wx b0 b1)
  rw [(Ie.fin_kinds fa).1] at NA
  rw [(Ie.fin_kinds fb).1] at NB
  rw [(Ie.fin_kinds fa).2] at IA
  rw [(Ie.fin_kinds fb).2] at IB
  have zb' : Ie.isz b = false := by rw [Ie.isz, decide_eq_false_iff_not]; exact zb
  rw [zb'] at ZB
  have AL := hid (aligned_any a b w a0 a1 b0 b1 fa fb)
  have SV := Ib.sign_and a a0 a1
  have HT := hid hT
  obtain ⟨⟨ma0, ma1⟩, ⟨ea0, ea1⟩, gA, -⟩ := Ie.dec_f a fa
  obtain ⟨⟨mb0, mb1⟩, ⟨eb0, eb1⟩, gB, mz⟩ := Ie.dec_f b fb
  have mbp : 0 < Ie.dm b := by have := fun g => zb (mz.1 g); omega
  have AW := hid AW
  have e53 : (2 : Int) ^ 53 = 9007199254740992 := by decide
  -- all that is said of numbers
  have NU : Hid (∀ (i j : Nat) (x : Int), x = min (Ie.de a) (Ie.de b) → (i : Int) = Ie.de a - x → (j : Int) = Ie.de b - x → ∃ V1 V2 : Int, V1 = Ie.dm a * 2 ^ i ∧ V2 = Ie.dm b * 2 ^ j ∧ V1 < Nm.pw 4096 ∧ V2 < Nm.pw 4096 ∧ 0 < V2 ∧ 0 ≤ V1 % V2 ∧ V1 % V2 < V2 ∧ V1 % V2 * 2 ^ 1 < Nm.pw 4096 ∧ V1 / V2 < Nm.pw 4096 ∧ V1 / V2 = Ie.un (Ie.ab a) / Ie.un (Ie.ab b) ∧ cmpI (V1 % V2 * 2 ^ 1) V2 = cmpI (2 * (Ie.un (Ie.ab a) % Ie.un (Ie.ab b))) (Ie.un (Ie.ab b)) ∧ (∀ y, Ie.Rnd (Ie.lft V1 V2 up) 1 x false y → Ie.un y = Ie.lft (Ie.un (Ie.ab a)) (Ie.un (Ie.ab b)) up ∧ 0 ≤ y ∧ y < 9218868437227405312)) := by
    intro i j x hx hi hj
    obtain ⟨c, hc, hc2, hA, hB⟩ := Ie.left_un hx hi hj ea0 eb0 ea1 gA gB
    obtain ⟨v2, v1, r0, r1, r2, r3⟩ := Ie.left_bd (i := i) (j := j) (by omega) ma0 ma1 mbp mb1
    have l1 := sh_room (m := Ie.dm a) (i := i) (K := 53) (by omega) (by omega)
    have l2 := sh_room (m := Ie.dm b) (i := j) (K := 53) (by omega) (by omega)
    have hp := Nm.two_pos c
    rw [hA, hB] at UP ⊢
    generalize Ie.dm a * 2 ^ i = V1 at *
    generalize Ie.dm b * 2 ^ j = V2 at *
    have q1 : V1 / V2 ≤ V1 := Int.ediv_le_self _ v1
    have t1 : 2 * (V1 * 2 ^ c % (V2 * 2 ^ c)) = V1 % V2 * 2 ^ 1 * 2 ^ c := by rw [Ie.emod_scale _ _ _ hp, Int.pow_one, Int.mul_comm (V1 % V2) 2, Int.mul_assoc]
    refine ⟨V1, V2, rfl, rfl, l1, l2, v2, r0, r1, ?_, by omega, (Ie.ediv_scale _ _ _ hp).symm, ?_, ?_⟩
    · exact sh_room (K := 53) (i := 1) (by omega) (by omega)
    · rw [t1]
      have g1 := Ie.lt_scale (a := V1 % V2 * 2 ^ 1) (b := V2) hp
      have g2 := Ie.eq_scale (a := V1 % V2 * 2 ^ 1) (b := V2) hp
      exact cmpI_iff g1.symm g2.symm
    · intro y hy
      have key : Ie.lft (V1 * 2 ^ c) (V2 * 2 ^ c) up = Ie.lft V1 V2 up * 2 ^ c := by
        rw [Ie.lft, Ie.lft, Ie.emod_scale _ _ _ hp]
        split
        · rw [Int.sub_mul]
        · rfl
      rw [key]
      refine Ie.rnd_rep hc ?_ ?_ hc2 hy
      · rw [Ie.lft]; split <;> omega
      · rw [Ie.lft]
        split
        · rename_i hu
          have u1 := UP hu
          rw [t1] at u1
          have u2 := Int.le_of_mul_le_mul_right u1 hp
          rw [Int.pow_one] at u2
          exact r3 (by omega)
        · exact r2
  have SG : (a / 9223372036854775808 * 9223372036854775808 != 0) = Ie.ngd a := by
    rcases (show a < 9223372036854775808 ∨ 9223372036854775808 ≤ a by omega) with g | g
    · rw [show a / 9223372036854775808 * 9223372036854775808 = 0 by omega, Ie.ngd, decide_eq_false (by omega)]; rfl
    · rw [show a / 9223372036854775808 * 9223372036854775808 = 9223372036854775808 by omega, Ie.ngd, decide_eq_true (by omega)]; rfl
  clear UP hT ma0 ma1 mb0 mb1 ea0 ea1 eb0 eb1 gA gB mz mbp zb zb' fa fb a0 a1 b0 b1 e53
  generalize a / 9223372036854775808 * 9223372036854775808 = sv at *
  generalize Ie.un (Ie.ab a) = UA at *
  generalize Ie.un (Ie.ab b) = UB at *
  generalize Ie.ngd a = neg at *
  go_enter Tryd.func24, Tryd.ntmps24
  go_wp2_with fail
  refine (NA.out _).mono ?_
  rintro e wz ⟨rfl, hz⟩
  replace hz := hz.symm
  subst hz
  go_wp2_with fail
  refine (NB.out _).mono ?_
  rintro e wz ⟨rfl, hz⟩
  replace hz := hz.symm
  subst hz
  go_wp2_with fail
  refine (IA.out _).mono ?_
  rintro e wz ⟨rfl, hz⟩
  replace hz := hz.symm
  subst hz
  go_wp2_with fail
  refine (ZB.out _).mono ?_
  rintro e wz ⟨rfl, hz⟩
  replace hz := hz.symm
  subst hz
  go_wp2_with fail
  refine (IB.out _).mono ?_
  rintro e wz ⟨rfl, hz⟩
  replace hz := hz.symm
  subst hz
  clear NA NB IA IB ZB
  go_wp2_with fail
  refine AL.out.mono ?_
  rintro e w1 ⟨p, q, os, qs, i, j, x, rfl, A1, A2, hx, hi, hj, hB1⟩
  obtain ⟨V1, V2, hV1, hV2, l1, l2, v2, r0, r1, l3, l4, hq, hc, hy⟩ := NU.out i j x hx hi hj
  rw [← hV1] at A1
  rw [← hV2] at A2
  have D1 := hid (a_div A1 A2 l1 l2 v2)
  have HA2 := hid A2
  have HB1 := hid hB1
  have R1 := hid (And.intro l1 (And.intro l2 (And.intro v2 (And.intro r0 r1))))
  have R2 := hid (And.intro l3 l4)
  have HQ := hid hq
  have HC := hid hc
  have HY := hid hy
  clear A1 A2 hB1 l1 l2 v2 r0 r1 l3 l4 hq hc hy hV1 hV2 hx hi hj NU AL
  go_wp2_with fail
  refine D1.out.mono ?_
  rintro e w2 ⟨r3, o3, r4, o4, rfl, A3, A4, hB⟩
  have HB2 := hid (HB1.out.trans (hB.mono HB1.out.size))
  have HA3 := hid A3
  have HA4 := hid A4
  have HA5 := hid (HA2.out.below hB (Nat.le_refl _))
  have S1 := hid (a_shl 1 A4 R2.out.1)
  clear A3 A4 hB D1 HA2 HB1
  go_wp2_with fail
  refine S1.out.mono ?_
  rintro e w3 ⟨r5, o5, rfl, A, hB⟩
  have HB3 := hid (HB2.out.trans (hB.mono HB2.out.size))
  have HA6 := hid (HA3.out.below hB (Nat.le_refl _))
  have HA7 := hid (HA4.out.below hB (Nat.le_refl _))
  have HA8 := hid (HA5.out.below hB (Nat.le_refl _))
  have BI := hid (a_bit0 HA6.out R2.out.2)
  have CM := hid (a_cmp A HA8.out R2.out.1 R1.out.2.1)
  rw [HQ.out] at BI
  rw [HC.out] at CM
  clear A hB HA3 HA4 HA5 S1 HB2 HA6 HQ HC
  go_wp2_with fail
  refine BI.out.mono ?_
  rintro e wz ⟨rfl, hz⟩
  replace hz := hz.symm
  subst hz
  clear BI
  go_wp2_with fail
  refine CM.out.mono ?_
  rintro e w4 ⟨rfl, hB⟩
  have HB4 := hid (HB3.out.trans (hB.mono HB3.out.size))
  have HA9 := hid (HA7.out.below hB (Nat.le_refl _))
  have HA10 := hid (HA8.out.below hB (Nat.le_refl _))
  have HT4 := hid (HT.out.below HB4.out)
  clear hB HA7 HA8 HB3 CM HT
  go_wp2_with fail
  refine (AW.out _ HB4.out).mono ?_
  rintro e wz ⟨rfl, hz⟩
  replace hz := hz.symm
  subst hz
  clear AW
  cases up
  · have RO := round_any neg r4 _ _ o4 w4 (HA9.out.argT (by have := R1.out.2.2.2.2; have := R1.out.2.1; omega)) HT4.out (HA9.out.tsT (by have := R1.out.2.2.2.2; have := R1.out.2.1; omega)) (V1 % V2) x false HA9.out.2.2.2.1
    have HRO := hid RO
    clear RO HA9 HA10 R1 R2
    go_wp2_with fail
    refine HRO.out.mono ?_
    rintro e w5 ⟨y, rfl, hR, hB⟩
    have HB5 := hid (HB4.out.trans (hB.mono HB4.out.size))
    have KY := hid (HY.out y hR)
    clear hB hR HRO HY HB4
    go_wp2_with fail
    go_ret
    exact ⟨y, i_retU (show Ie.sg neg y = _ by rw [Bool.bne_false]), KY.out, HB5.out⟩
  · have SU := hid (a_sub HA10.out HA9.out R1.out.2.1 (Int.le_of_lt R1.out.2.2.2.2))
    have RB : Hid (V2 - V1 % V2 < Nm.pw 4096) := by
      have := R1.out.2.2.2.1
      have := R1.out.2.1
      show V2 - V1 % V2 < Nm.pw 4096
      omega
    clear HA9 HA10 R1 R2
    go_wp2_with fail
    refine SU.out.mono ?_
    rintro e w5 ⟨r6, o6, rfl, A, hB⟩
    have HB5 := hid (HB4.out.trans (hB.mono HB4.out.size))
    have HT5 := hid (HT4.out.below hB)
    have HRO := hid (round_any (!neg) r6 _ _ o6 w5 (A.argT RB.out) HT5.out (A.tsT RB.out) (V2 - V1 % V2) x false A.2.2.2.1)
    clear A hB SU HB4 HT4 RB
    go_wp2_with fail
    refine HRO.out.mono ?_
    rintro e w6 ⟨y, rfl, hR, hB⟩
    have HB6 := hid (HB5.out.trans (hB.mono HB5.out.size))
    have KY := hid (HY.out y hR)
    clear hB hR HRO HY HB5
    go_wp2_with fail
    go_ret
    exact ⟨y, i_retU (show Ie.sg (!neg) y = _ by rw [Bool.bne_true]), KY.out, HB6.out⟩
end Go.Proofs.YtnfomlkhkggjeaaDoor

/-
  remain: Remainder.
-/
namespace Go.Proofs.YtnfomlkhkggjeaaDoor
open Go Go.RowKit Go.Deep

/-- Does the nearest whole number lie farther from nothing? -/
def Ie.nup (odd : Bool) (c : Int) : Bool := decide (0 < c ∨ (c = 0 ∧ odd = true))

theorem cmpI_cases (a b : Int) : (cmpI a b = -1 ∧ a < b) ∨ (cmpI a b = 0 ∧ a = b) ∨ (cmpI a b = 1 ∧ b < a) := by
  by_cases h : a < b
  · exact .inl ⟨cmpI_lt h, h⟩
  · by_cases g : a = b
    · exact .inr (.inl ⟨cmpI_eq g, g⟩)
    · exact .inr (.inr ⟨cmpI_gt (by omega), by omega⟩)

set_option maxRecDepth 100000 in
theorem remRule_any (odd : Bool) (c : Int) (w : World) (hc : c = -1 ∨ c = 0 ∨ c = 1) : Calls Tryd.prog 37 #[.bool odd, .int .i64 c] w fun e w' => e = .returned (.bool (Ie.nup odd c)) ∧ w' = w := by
  rcases hc with rfl | rfl | rfl
  · go_enter Tryd.func37, Tryd.ntmps37
    go_wp2_with fail
    go_ret
    exact ⟨by cases odd <;> rfl, rfl⟩
  · go_enter Tryd.func37, Tryd.ntmps37
    go_wp2_with fail
    go_ret
    exact ⟨by cases odd <;> rfl, rfl⟩
  · go_enter Tryd.func37, Tryd.ntmps37
    go_wp2_with fail
    go_ret
    exact ⟨by cases odd <;> rfl, rfl⟩

/-- Remainder's turn. -/
def Ie.rup (A B : Int) : Bool := Ie.nup (A / B % 2 == 1) (cmpI (2 * (A % B)) B)

set_option maxRecDepth 100000 in
theorem remainder_any (a b : Int) (w : World) (hT : Tab w) (a0 : 0 ≤ a) (a1 : a < 18446744073709551616) (b0 : 0 ≤ b) (b1 : b < 18446744073709551616) :
    Calls Tryd.prog 15 #[.int .u64 a, .int .u64 b] w fun e w' => ∃ r, e = .returned (.int .u64 r) ∧ Ie.LeftIs a b (Ie.rup (Ie.un (Ie.ab a)) (Ie.un (Ie.ab b))) r ∧ Below w.heap.size w w' := by
  have L : Hid (Calls Tryd.prog 24 #[.int .u64 a, .int .u64 b, .func (Fn.func 37) #[] #[]] w fun e w' => ∃ r, e = .returned (.int .u64 r) ∧ Hid (Ie.LeftIs a b (Ie.rup (Ie.un (Ie.ab a)) (Ie.un (Ie.ab b))) r ∧ Below w.heap.size w w')) := by
    by_cases h : Ie.fin a ∧ Ie.fin b ∧ Ie.ab b ≠ 0
    · refine (left_R a b _ w hT a0 a1 b0 b1 h.1 h.2.1 h.2.2 (fun wx _ => remRule_any _ _ wx ?_) (fun g => ?_)).mono ?_
      · rcases cmpI_cases (2 * (Ie.un (Ie.ab a) % Ie.un (Ie.ab b))) (Ie.un (Ie.ab b)) with g | g | g <;> omega
      · rw [Ie.nup, decide_eq_true_iff] at g
        rcases cmpI_cases (2 * (Ie.un (Ie.ab a) % Ie.un (Ie.ab b))) (Ie.un (Ie.ab b)) with k | k | k
        · rw [k.1] at g; omega
        · omega
        · omega
      · rintro e w' ⟨y, rfl, hy, hB⟩
        exact ⟨_, rfl, Ie.left_fin h.1 h.2.1 h.2.2 hy.out, hB⟩
    · exact left_stay _ _ a b w a0 a1 b0 b1 h
  clear hT
  go_enter Tryd.func15, Tryd.ntmps15
  go_wp2_with fail
  refine L.out.mono ?_
  rintro e w' ⟨r, rfl, h⟩
  go_wp2_with fail
  go_ret
  exact ⟨_, rfl, h.out⟩
end Go.Proofs.YtnfomlkhkggjeaaDoor

/-
  RemainWraps, RemainCentres in numbers (made by mkhwraps.py).
-/
namespace Go.Proofs.YtnfomlkhkggjeaaDoor
open Go Go.RowKit Go.Deep

namespace Ie
theorem sgf (N : Bool) (y : Int) (h0 : 0 ≤ y) (h1 : y < 9223372036854775808) : ab (sg N y) = y ∧ ngd (sg N y) = N ∧ 0 ≤ sg N y ∧ sg N y < 18446744073709551616 ∧ sg N y / 9223372036854775808 = (if N = true then 1 else 0) := by
  have := ab_sb N y h0 h1
  rw [show sb N y = sg N y from rfl] at this
  refine ⟨this.1, this.2, ?_, ?_, ?_⟩ <;> cases N <;> simp only [sg, Bool.false_eq_true, if_true, if_false] <;> omega

theorem dngd (d : Int) (h0 : 0 ≤ d) (h1 : d < 18446744073709551616) : d / 9223372036854775808 = (if ngd d = true then 1 else 0) := by
  rcases (show d < 9223372036854775808 ∨ 9223372036854775808 ≤ d by omega) with g | g
  · rw [ngd, decide_eq_false (by omega), if_neg (by decide)]; omega
  · rw [ngd, decide_eq_true (by omega), if_pos rfl]; omega

theorem mod_whole (X Y : Int) (hY : 0 < Y) : (X - X % Y) % Y = 0 ∧ (X - X % Y) / Y = X / Y := by
  have h := Int.mul_ediv_add_emod X Y
  have e : X - X % Y = Y * (X / Y) := by omega
  rw [e]
  exact ⟨Int.mul_emod_right _ _, Int.mul_ediv_cancel_left _ (by omega)⟩

theorem mod_up (X Y : Int) (hY : 0 < Y) : (X + (Y - X % Y)) % Y = 0 ∧ (X + (Y - X % Y)) / Y = X / Y + 1 := by
  have h := Int.mul_ediv_add_emod X Y
  have e : X + (Y - X % Y) = Y * (X / Y + 1) := by rw [Int.mul_add, Int.mul_one]; omega
  rw [e]
  exact ⟨Int.mul_emod_right _ _, Int.mul_ediv_cancel_left _ (by omega)⟩

theorem lft_scale {X Y Z A B : Int} {k : Nat} {up : Bool} (hA : A = X * 2 ^ k) (hB : B = Y * 2 ^ k) (h : Z * 2 ^ k = lft A B up) : Z = lft X Y up := by
  have hp := Nm.two_pos k
  rw [hA, hB, lft, emod_scale _ _ _ hp] at h
  rw [lft]
  cases up
  · rw [if_neg (by decide)] at h ⊢; exact (eq_scale hp).1 h
  · rw [if_pos rfl, ← Int.sub_mul] at h; rw [if_pos rfl]; exact (eq_scale hp).1 h

theorem rup_scale {X Y A B : Int} {k : Nat} (hA : A = X * 2 ^ k) (hB : B = Y * 2 ^ k) : rup A B = rup X Y := by
  have hp := Nm.two_pos k
  have t1 : 2 * (X * 2 ^ k % (Y * 2 ^ k)) = 2 * (X % Y) * 2 ^ k := by rw [emod_scale _ _ _ hp, Int.mul_assoc]
  rw [rup, rup, hA, hB, ediv_scale _ _ _ hp, t1, cmpI_iff (lt_scale (a := 2 * (X % Y)) (b := Y) hp) (eq_scale hp)]

theorem left_kinds (a b : Int) : (9218868437227405312 ≤ ab a) ∨ (fin a ∧ 9218868437227405312 < ab b) ∨ (fin a ∧ ab b = 0) ∨ (fin a ∧ ab b = 9218868437227405312) ∨ (fin a ∧ fin b ∧ ab b ≠ 0) := by
  simp only [fin]; omega

theorem ge_inf {a : Int} (k : 9218868437227405312 ≤ ab a) : isn a = true ∨ isi a = true := by
  rcases (show ab a = 9218868437227405312 ∨ 9218868437227405312 < ab a by omega) with g | g
  · exact .inr (by rw [isi, decide_eq_true_iff]; exact g)
  · exact .inl (by rw [isn, decide_eq_true_iff]; exact g)

theorem un_lt_back {x y : Int} (_ : 0 ≤ x) (y0 : 0 ≤ y) (h : un x < un y) : x < y := by
  rcases (show x < y ∨ y ≤ x by omega) with g | g
  · exact g
  · have := un_le y0 g; omega
theorem un_le_back {x y : Int} (_ : 0 ≤ x) (y0 : 0 ≤ y) (h : un x ≤ un y) : x ≤ y := by
  rcases (show x ≤ y ∨ y < x by omega) with g | g
  · exact g
  · have := un_lt y0 g; omega
end Ie

theorem ans_zero {B : Nat} {w : World} {p : Option Addr} {os : List Int} {v : Int} (h : Ans B w p os v) (hv : v = 0) : (os.length : Int) = 0 := by
  have h1 := Nm.tsize_zero_iff h.2.1
  rw [h.2.2.1, h.2.2.2.1] at h1
  have := h1.2 hv
  omega
end Go.Proofs.YtnfomlkhkggjeaaDoor

/-
  RemainWraps (made by mkhwraps.py).
-/
namespace Go.Proofs.YtnfomlkhkggjeaaDoor
open Go Go.RowKit Go.Deep

set_option maxRecDepth 100000 in
set_option maxHeartbeats 4000000 in
theorem remainwraps_n0 (a b : Int) (w : World) (hT : Tab w) (a0 : 0 ≤ a) (a1 : a < 18446744073709551616) (b0 : 0 ≤ b) (b1 : b < 18446744073709551616) (k : 9218868437227405312 ≤ Ie.ab a) :
    Calls Tryd.prog 3 #[.int .u64 a, .int .u64 b] w fun e w' => e = .returned (.bool true) ∧ Below w.heap.size w w' := by
  have AWK := hid (hawake_any w hT)
  have FM := hid (fun (wx : World) (hx : Tab wx) => fmod_any a b wx hx a0 a1 b0 b1)
  have HT := hid hT
  have k1 : a % 9223372036854775808 ≥ 9218868437227405312 := k
  have E : Hid (∀ r, Ie.LeftIs a b (false) r → r = 9221120237041090560) := fun r h => h.1 (by rcases Ie.ge_inf k with g | g; exact .inl g; exact .inr (.inr (.inl g)))
  clear k
  go_enter Tryd.func3, Tryd.ntmps3
  go_wp2_with fail
  refine AWK.out.mono ?_
  rintro e w1 ⟨rfl, hB⟩
  have HB1 := hid hB
  have S1 := hid (FM.out w1 (HT.out.below hB))
  clear hB AWK FM
  go_wp2_with fail
  refine S1.out.mono ?_
  rintro e w2 ⟨r, rfl, hS, hB⟩
  have HB2 := hid (HB1.out.trans (hB.mono HB1.out.size))
  obtain rfl := E.out r hS
  clear hB hS S1 HB1 E
  go_wp2_with fail
  go_ret
  exact ⟨rfl, HB2.out⟩

set_option maxRecDepth 100000 in
set_option maxHeartbeats 4000000 in
theorem remainwraps_n1 (a b : Int) (w : World) (hT : Tab w) (a0 : 0 ≤ a) (a1 : a < 18446744073709551616) (b0 : 0 ≤ b) (b1 : b < 18446744073709551616) (f : Ie.fin a) (k : 9218868437227405312 < Ie.ab b) :
    Calls Tryd.prog 3 #[.int .u64 a, .int .u64 b] w fun e w' => e = .returned (.bool true) ∧ Below w.heap.size w w' := by
  have AWK := hid (hawake_any w hT)
  have FM := hid (fun (wx : World) (hx : Tab wx) => fmod_any a b wx hx a0 a1 b0 b1)
  have HT := hid hT
  have k1 : ¬ a % 9223372036854775808 ≥ 9218868437227405312 := by rw [Ie.fin, Ie.ab] at f; omega
  have k2 : b % 9223372036854775808 > 9218868437227405312 := k
  have E : Hid (∀ r, Ie.LeftIs a b (false) r → r = 9221120237041090560) := fun r h => h.1 (.inr (.inl (by rw [Ie.isn, decide_eq_true_iff]; exact k)))
  clear k f
  go_enter Tryd.func3, Tryd.ntmps3
  go_wp2_with fail
  refine AWK.out.mono ?_
  rintro e w1 ⟨rfl, hB⟩
  have HB1 := hid hB
  have S1 := hid (FM.out w1 (HT.out.below hB))
  clear hB AWK FM
  go_wp2_with fail
  refine S1.out.mono ?_
  rintro e w2 ⟨r, rfl, hS, hB⟩
  have HB2 := hid (HB1.out.trans (hB.mono HB1.out.size))
  obtain rfl := E.out r hS
  clear hB hS S1 HB1 E
  go_wp2_with fail
  go_ret
  exact ⟨rfl, HB2.out⟩

set_option maxRecDepth 100000 in
set_option maxHeartbeats 4000000 in
theorem remainwraps_n2 (a b : Int) (w : World) (hT : Tab w) (a0 : 0 ≤ a) (a1 : a < 18446744073709551616) (b0 : 0 ≤ b) (b1 : b < 18446744073709551616) (f : Ie.fin a) (k : Ie.ab b = 0) :
    Calls Tryd.prog 3 #[.int .u64 a, .int .u64 b] w fun e w' => e = .returned (.bool true) ∧ Below w.heap.size w w' := by
  have AWK := hid (hawake_any w hT)
  have FM := hid (fun (wx : World) (hx : Tab wx) => fmod_any a b wx hx a0 a1 b0 b1)
  have HT := hid hT
  have k1 : ¬ a % 9223372036854775808 ≥ 9218868437227405312 := by rw [Ie.fin, Ie.ab] at f; omega
  have k2 : b % 9223372036854775808 = 0 := k
  have E : Hid (∀ r, Ie.LeftIs a b (false) r → r = 9221120237041090560) := fun r h => h.1 (.inr (.inr (.inr (by rw [Ie.isz, decide_eq_true_iff]; exact k))))
  clear k f
  go_enter Tryd.func3, Tryd.ntmps3
  go_wp2_with fail
  refine AWK.out.mono ?_
  rintro e w1 ⟨rfl, hB⟩
  have HB1 := hid hB
  have S1 := hid (FM.out w1 (HT.out.below hB))
  clear hB AWK FM
  go_wp2_with fail
  refine S1.out.mono ?_
  rintro e w2 ⟨r, rfl, hS, hB⟩
  have HB2 := hid (HB1.out.trans (hB.mono HB1.out.size))
  obtain rfl := E.out r hS
  clear hB hS S1 HB1 E
  go_wp2_with fail
  go_ret
  exact ⟨rfl, HB2.out⟩

set_option maxRecDepth 100000 in
set_option maxHeartbeats 4000000 in
theorem remainwraps_inf (a b : Int) (w : World) (hT : Tab w) (a0 : 0 ≤ a) (a1 : a < 18446744073709551616) (b0 : 0 ≤ b) (b1 : b < 18446744073709551616) (f : Ie.fin a) (k : Ie.ab b = 9218868437227405312) :
    Calls Tryd.prog 3 #[.int .u64 a, .int .u64 b] w fun e w' => e = .returned (.bool true) ∧ Below w.heap.size w w' := by
  have AWK := hid (hawake_any w hT)
  have FM := hid (fun (wx : World) (hx : Tab wx) => fmod_any a b wx hx a0 a1 b0 b1)
  have HT := hid hT
  have k1 : ¬ a % 9223372036854775808 ≥ 9218868437227405312 := by rw [Ie.fin, Ie.ab] at f; omega
  have k2 : b % 9223372036854775808 = 9218868437227405312 := k
  have E : Hid (∀ r, Ie.LeftIs a b (false) r → r = a) := fun r h => h.2.1 f (by rw [Ie.isi, decide_eq_true_iff]; exact k)
  clear k f
  go_enter Tryd.func3, Tryd.ntmps3
  go_wp2_with fail
  refine AWK.out.mono ?_
  rintro e w1 ⟨rfl, hB⟩
  have HB1 := hid hB
  have S1 := hid (FM.out w1 (HT.out.below hB))
  clear hB AWK FM
  go_wp2_with fail
  refine S1.out.mono ?_
  rintro e w2 ⟨r, rfl, hS, hB⟩
  have HB2 := hid (HB1.out.trans (hB.mono HB1.out.size))
  replace hS := (E.out r hS).symm
  subst hS
  clear hB S1 HB1 E
  go_wp2_with fail
  go_ret
  exact ⟨rfl, HB2.out⟩

set_option maxRecDepth 100000 in
set_option maxHeartbeats 4000000 in
theorem remainwraps_main (a b : Int) (w : World) (hT : Tab w) (a0 : 0 ≤ a) (a1 : a < 18446744073709551616) (b0 : 0 ≤ b) (b1 : b < 18446744073709551616) (fa : Ie.fin a) (fb : Ie.fin b) (zb : Ie.ab b ≠ 0) :
    Calls Tryd.prog 3 #[.int .u64 a, .int .u64 b] w fun e w' => e = .returned (.bool true) ∧ Below w.heap.size w w' := by
  have AWK := hid (hawake_any w hT)
  have FM := hid (fun (wx : World) (hx : Tab wx) => fmod_any a b wx hx a0 a1 b0 b1)
  have HT := hid hT
  have k1 : ¬ a % 9223372036854775808 ≥ 9218868437227405312 := by rw [Ie.fin, Ie.ab] at fa; omega
  have k2 : ¬ b % 9223372036854775808 > 9218868437227405312 := by rw [Ie.fin, Ie.ab] at fb; omega
  have k3 : (b % 9223372036854775808 == 0) = false := by rw [beq_eq_false_iff_ne]; exact zb
  have k4 : (b % 9223372036854775808 == 9218868437227405312) = false := by rw [beq_eq_false_iff_ne]; rw [Ie.fin, Ie.ab] at fb; omega
  have bA := Ie.ab_bd a
  have bB := Ie.ab_bd b
  have uB : 0 < Ie.un (Ie.ab b) := Ie.un_pos (by omega)
  have ABb := hid (fun (wx : World) => abs_any b wx b0 b1)
  have ABa := hid (fun (wx : World) => abs_any a wx a0 a1)
  rw [← Ie.ab] at ABa ABb
  obtain ⟨q, hq⟩ : ∃ q, a / 9223372036854775808 = q := ⟨_, rfl⟩
  have RF : Hid (∀ r : Int, Ie.LeftIs a b false r → ∃ y, Ie.ab r = y ∧ 0 ≤ y ∧ y < 9218868437227405312 ∧ Ie.un y = Ie.un (Ie.ab a) % Ie.un (Ie.ab b) ∧ r / 9223372036854775808 = q ∧ 0 ≤ r ∧ r < 18446744073709551616) := by
    intro r hr
    obtain ⟨y, rfl, y0, y1, hy⟩ := hr.2.2 fa fb zb
    rw [Bool.bne_false]
    obtain ⟨q1, q2, q3, q4, q5⟩ := Ie.sgf (Ie.ngd a) y y0 (by omega)
    exact ⟨y, q1, y0, y1, hy, by rw [q5, ← hq, Ie.dngd a a0 a1], q3, q4⟩
  have UN := hid (fun (wx : World) (r : Int) (r0 : 0 ≤ r) (r1 : r < 18446744073709551616) (fr : Ie.fin r) => units3_any a b r wx a0 a1 b0 b1 r0 r1 fa fb fr)
  go_enter Tryd.func3, Tryd.ntmps3
  go_wp2_with fail
  refine AWK.out.mono ?_
  rintro e w1 ⟨rfl, hB⟩
  have HB1 := hid hB
  have S1 := hid (FM.out w1 (HT.out.below hB))
  clear hB AWK FM
  go_wp2_with fail
  refine S1.out.mono ?_
  rintro e w2 ⟨r, rfl, hS, hB⟩
  have HB2 := hid (HB1.out.trans (hB.mono HB1.out.size))
  obtain ⟨y, hy, y0, y1, hu, rq, r0, r1⟩ := RF.out r hS
  have m1 : Ie.un y < Ie.un (Ie.ab b) := by rw [hu]; exact Int.emod_lt_of_pos _ uB
  have m2 : Ie.un y ≤ Ie.un (Ie.ab a) := by
    rw [hu]
    have := Int.mul_ediv_add_emod (Ie.un (Ie.ab a)) (Ie.un (Ie.ab b))
    have : 0 ≤ Ie.un (Ie.ab b) * (Ie.un (Ie.ab a) / Ie.un (Ie.ab b)) := Int.mul_nonneg (by omega) (Int.ediv_nonneg (Ie.un_nn bA.1) (by omega))
    omega
  have l1 := Ie.un_lt_back y0 bB.1 m1
  have l2 := Ie.un_le_back y0 bA.1 m2
  have FI := hid (fun (wx : World) => hfinite_any r wx r0)
  rw [hy, decide_eq_true y1] at FI
  have ABr := hid (fun (wx : World) => abs_any r wx r0 r1)
  rw [← Ie.ab, hy] at ABr
  have BE := hid (fun (wx : World) => below_any y (Ie.ab b) wx y0 (by omega) bB.1 (by rw [Ie.fin] at fb; omega))
  rw [decide_eq_true l1] at BE
  have AM := hid (fun (wx : World) => atMost_any y (Ie.ab a) wx y0 (by omega) bA.1 (by rw [Ie.fin] at fa; omega))
  rw [decide_eq_true l2] at AM
  have U1 := hid (fun (wx : World) => UN.out wx r r0 r1 (by rw [Ie.fin, hy]; exact y1))
  have NF : Hid (∀ (X Y Z : Int) (k : Nat), Ie.un (Ie.ab a) = X * 2 ^ k → Ie.un (Ie.ab b) = Y * 2 ^ k → Ie.un (Ie.ab r) = Z * 2 ^ k → 0 < Y ∧ Z ≤ X ∧ (X - Z) % Y = 0) := by
    intro X Y Z k hX hY hZ
    have hp := Nm.two_pos k
    have Y0 : 0 < Y := by
      rw [hY] at uB
      exact Int.pos_of_mul_pos_left uB hp
    have e := Ie.lft_scale (Z := Z) (up := false) hX hY (by rw [← hZ, hy, hu, Ie.lft, if_neg (by decide)])
    rw [Ie.lft, if_neg (by decide)] at e
    rw [e]
    refine ⟨Y0, ?_, (Ie.mod_whole X Y Y0).1⟩
    have m3 := m2
    rw [← hy, hZ, hX, e] at m3
    exact Int.le_of_mul_le_mul_right m3 hp
  clear hB hS S1 HB1 RF m1 m2 l1 l2 hu UN bA bB uB fa fb zb hy y0 y1
  go_wp2_with fail
  refine (FI.out _).mono ?_
  rintro e wz ⟨rfl, hz⟩
  replace hz := hz.symm
  subst hz
  go_wp2_with fail
  refine (ABr.out _).mono ?_
  rintro e wz ⟨rfl, hz⟩
  replace hz := hz.symm
  subst hz
  go_wp2_with fail
  refine (ABb.out _).mono ?_
  rintro e wz ⟨rfl, hz⟩
  replace hz := hz.symm
  subst hz
  go_wp2_with fail
  refine (BE.out _).mono ?_
  rintro e wz ⟨rfl, hz⟩
  replace hz := hz.symm
  subst hz
  go_wp2_with fail
  refine (ABr.out _).mono ?_
  rintro e wz ⟨rfl, hz⟩
  replace hz := hz.symm
  subst hz
  go_wp2_with fail
  refine (ABa.out _).mono ?_
  rintro e wz ⟨rfl, hz⟩
  replace hz := hz.symm
  subst hz
  go_wp2_with fail
  refine (AM.out _).mono ?_
  rintro e wz ⟨rfl, hz⟩
  replace hz := hz.symm
  subst hz
  clear FI ABr ABb BE ABa AM
  go_wp2_with fail
  refine (U1.out _).mono ?_
  rintro e w3 ⟨p, q3, r3, os, qs, rs, X, Y, Z, k, rfl, A1, A2, A3, hU, hB⟩
  have HB3 := hid (HB2.out.trans (hB.mono HB2.out.size))
  obtain ⟨u1, u2, u3, u4, u5, u6⟩ := hU.out
  obtain ⟨Y0, ZX, ZZ⟩ := NF.out X Y Z k u1 u2 u3
  have SU := hid (a_sub A1 A3 (pw_room (k := 2200) (by omega) u4) ZX)
  have HA2 := hid A2
  have Z0 : 0 ≤ Z := by rw [← A3.2.2.2.1]; exact (Nm.val_bd rs A3.2.1).1
  have XB : Hid (X - Z < Nm.pw 4096 ∧ Y < Nm.pw 4096 ∧ 0 < Y ∧ (X - Z) % Y = 0) := ⟨Int.lt_of_le_of_lt (show X - Z ≤ X by omega) (pw_room (k := 2200) (by omega) u4), pw_room (k := 2200) (by omega) u5, Y0, ZZ⟩
  clear hB hU u1 u2 u3 u4 u5 u6 Y0 ZX ZZ A1 A2 A3 NF U1 HB2 Z0
  go_wp2_with fail
  refine SU.out.mono ?_
  rintro e w4 ⟨p4, o4, rfl, A, hB⟩
  have HB4 := hid (HB3.out.trans (hB.mono HB3.out.size))
  have DI := hid (a_div A (HA2.out.below hB (Nat.le_refl _)) XB.out.1 XB.out.2.1 XB.out.2.2.1)
  clear hB A HA2 SU HB3
  go_wp2_with fail
  refine DI.out.mono ?_
  rintro e w5 ⟨p5, o5, p6, o6, rfl, A5, A6, hB⟩
  have HB5 := hid (HB4.out.trans (hB.mono HB4.out.size))
  have L0 := ans_zero A6 XB.out.2.2.2
  clear hB A5 A6 DI HB4 XB
  go_wp2_with fail
  go_ret
  exact ⟨by first | rfl | simp, HB5.out⟩

theorem wraps_law (a b : Int) (w : World) (hT : Tab w) (a0 : 0 ≤ a) (a1 : a < 18446744073709551616) (b0 : 0 ≤ b) (b1 : b < 18446744073709551616) :
    Calls Tryd.prog 3 #[.int .u64 a, .int .u64 b] w fun e w' => e = .returned (.bool true) ∧ Below w.heap.size w w' := by
  rcases Ie.left_kinds a b with h | ⟨f, h⟩ | ⟨f, h⟩ | ⟨f, h⟩ | ⟨f, g, h⟩
  · exact remainwraps_n0 a b w hT a0 a1 b0 b1 h
  · exact remainwraps_n1 a b w hT a0 a1 b0 b1 f h
  · exact remainwraps_n2 a b w hT a0 a1 b0 b1 f h
  · exact remainwraps_inf a b w hT a0 a1 b0 b1 f h
  · exact remainwraps_main a b w hT a0 a1 b0 b1 f g h
end Go.Proofs.YtnfomlkhkggjeaaDoor
