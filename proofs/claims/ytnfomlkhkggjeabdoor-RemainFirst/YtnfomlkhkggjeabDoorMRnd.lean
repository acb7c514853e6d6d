/-
  Texts put together: IRoomA, IFin, IIntg, MCmp, MRoundT, MTrunc, MAlign.
-/
import Derived.Test.YtnfomlkhkggjeabDoorMem
import Derived.Test.YtnfomlkhkggjeabDoorIKinds
import Derived.Test.YtnfomlkhkggjeabDoorIRatio
import Derived.Test.YtnfomlkhkggjeabDoorFromW
import Derived.Deep.RegionWith
import Derived.Test.YtnfomlkhkggjeabDoorNToU
import Derived.BigQuiet
import Derived.Test.YtnfomlkhkggjeabDoorIWalk1B
import Derived.Test.YtnfomlkhkggjeabDoorWalk5a
import Derived.Test.YtnfomlkhkggjeabDoorMScale
import Derived.BigRegion
import Derived.Test.YtnfomlkhkggjeabDoorIShiftA
/-
  Room for products and shifts.
-/
namespace Go.Proofs.YtnfomlkhkggjeabDoor
open Go Go.RowKit Go.Deep

theorem alloc_below (w : World) (A : Obj) : Below w.heap.size w (w.alloc A) := Below.alloc (Below.refl _ _) (Nat.le_refl _) A

theorem lit_small {D m : Int} {L s : Nat} (hD : 0 ≤ D) (h1 : D < Nm.pw L) (m0 : 0 ≤ m) (h2 : m < 18446744073709551616) (hs : 64 * L + 64 + s ≤ 262144) : D * m * 2 ^ s < Nm.pw 4096 ∧ D * m < Nm.pw 4096 := by
  have e64 : (2 : Int) ^ 64 = 18446744073709551616 := by decide
  rw [Nm.pw_two] at h1
  have p0 := Nm.two_pos s
  have g1 : D * m ≤ D * 2 ^ 64 := Int.mul_le_mul_of_nonneg_left (by omega) hD
  have g2 : D * 2 ^ 64 < 2 ^ (64 * L) * 2 ^ 64 := Int.mul_lt_mul_of_pos_right h1 (by omega)
  rw [← Nm.two_add] at g2
  have g3 : D * m < 2 ^ (64 * L + 64) := by omega
  have g4 : D * m * 2 ^ s < 2 ^ (64 * L + 64) * 2 ^ s := Int.mul_lt_mul_of_pos_right g3 p0
  rw [← Nm.two_add] at g4
  rw [Nm.pw_two]
  have g5 := Nm.two_mono (show 64 * L + 64 + s ≤ 64 * 4096 by omega)
  have g6 := Nm.two_mono (show 64 * L + 64 ≤ 64 * 4096 by omega)
  omega

theorem shl_room {V : Int} {L t : Nat} (h1 : V < Nm.pw L) (ht : 64 * L + t ≤ 262144) : V * 2 ^ t < Nm.pw 4096 := by
  rw [Nm.pw_two] at h1
  have g1 : V * 2 ^ t < 2 ^ (64 * L) * 2 ^ t := Int.mul_lt_mul_of_pos_right h1 (Nm.two_pos t)
  rw [← Nm.two_add] at g1
  have g2 := Nm.two_mono (show 64 * L + t ≤ 64 * 4096 by omega)
  rw [Nm.pw_two]
  omega

end Go.Proofs.YtnfomlkhkggjeabDoor

/-
  ieee: finite, FromUint.
-/
namespace Go.Proofs.YtnfomlkhkggjeabDoor
open Go Go.RowKit Go.Deep

set_option maxRecDepth 100000 in
theorem finite_any (d : Int) (w : World) (h0 : 0 ≤ d) (h1 : d < 18446744073709551616) :
    Calls Tryd.prog 59 #[.int .u64 d] w fun e w' => e = .returned (.bool (decide (d % 9223372036854775808 < 9218868437227405312))) ∧ w' = w := by
  have F := hid (field_any d w h0 h1)
  have fe : Ie.fld d = d % 9223372036854775808 / 4503599627370496 := by simp only [Ie.fld]; omega
  obtain ⟨f, hf⟩ : ∃ f, Ie.fld d = f := ⟨_, rfl⟩
  rw [hf] at F
  by_cases hc : f = 2047
  · have E : Hid (decide (d % 9223372036854775808 < 9218868437227405312) = false) := by rw [Hid, decide_eq_false_iff_not]; omega
    subst hc
    clear hf fe
    go_enter Tryd.func59, Tryd.ntmps59
    go_wp2_with fail
    refine F.out.mono ?_
    rintro e w' ⟨rfl, rfl⟩
    go_wp2_with fail
    go_ret
    exact ⟨by rw [E.out]; rfl, rfl⟩
  · have E : Hid (decide (d % 9223372036854775808 < 9218868437227405312) = true) := by rw [Hid, decide_eq_true_iff]; omega
    have hc' : (f == 2047) = false := by rw [beq_eq_false_iff_ne]; exact hc
    clear hf fe
    go_enter Tryd.func59, Tryd.ntmps59
    go_wp2_with fail
    refine F.out.mono ?_
    rintro e w' ⟨rfl, rfl⟩
    go_wp2_with fail
    go_ret
    exact ⟨by rw [E.out]; simp [hc], rfl⟩

set_option maxRecDepth 100000 in
theorem fromU_any (u : Int) (w : World) (hT : Tab w) (h0 : 0 ≤ u) (h1 : u < 18446744073709551616) :
    Calls Tryd.prog 27 #[.int .u64 u] w fun e w' => ∃ x, e = .returned (.int .u64 x) ∧ Ie.Rnd u 1 0 false x ∧ Below w.heap.size w w' := by
  have F := hid (fromUint_any u w h0 h1)
  have HT := hid hT
  have hp : Hid (u < Nm.pw 1) := h1
  clear hT
  go_enter Tryd.func27, Tryd.ntmps27
  go_wp2_with fail
  refine F.out.mono ?_
  rintro e w1 ⟨r, os, rfl, A, hB⟩
  have l1 := ans_small A 1 hp.out
  have N := hid (nearest_any r _ _ os w1 (A.arg (by omega)) (HT.out.below hB) (by rw [A.2.2.1]; omega) u 0 false A.2.2.2.1 (by omega) (by omega))
  have HB := hid hB
  clear A l1 hB F HT
  go_wp2_with fail
  refine N.out.mono ?_
  rintro e w2 ⟨x, rfl, R, hB2⟩
  have RR := hid R
  have HB2 := hid (HB.out.trans (hB2.mono HB.out.size))
  clear R hB2
  go_wp2_with fail
  go_ret
  exact ⟨x, rfl, RR.out, HB2.out⟩

theorem below_drew1 {B : Nat} {w w' : World} (h : Below B w w') : Below B w w'.drew := ⟨h.os, h.tape, h.output, h.size, h.block⟩

end Go.Proofs.YtnfomlkhkggjeabDoor

/-
  ieee: Integral.
-/
namespace Go.Proofs.YtnfomlkhkggjeabDoor
open Go Go.RowKit Go.Deep

theorem tz_is (x : Int) (n : Nat) (w : World) (hx : x = (n : Int)) (h1 : x < 18446744073709551616) (hT : Tab w) :
    Calls Tryd.prog 33 #[.int .u64 x] w fun e w' => e = .returned (.int .i64 (Lib.ctz 64 n)) ∧ w' = w := by
  subst hx
  exact Any7.bits_TrailingZeros64 tzLays n (by omega) w (fun _ => hT)

theorem ctz_int (n q t : Nat) (h : n = 2 ^ t * (2 * q + 1)) : (n : Int) = 2 ^ t * (2 * (q : Int) + 1) := by
  have e : ((2 ^ t * (2 * q + 1) : Nat) : Int) = 2 ^ t * (2 * (q : Int) + 1) := by simp
  rw [← e, ← h]

theorem tab_drewN {w : World} (h : Tab w) (n : Nat) : Tab (w.drewN n) := h.below (below_drewN (Below.refl _ _) n)

namespace Ie
/-- Whether it is a whole number. -/
def intg (d : Int) : Bool := decide (d % 9223372036854775808 < 9218868437227405312 ∧ vl (d % 9223372036854775808) = whp (d % 9223372036854775808) * 2 ^ 1075)

theorem intg_iff (r m q : Int) (t : Nat) (hm : man r = m) (h : m = 2 ^ t * (2 * q + 1)) : (vl r = whp r * 2 ^ 1075) ↔ 0 ≤ (ex r : Int) - 1074 + t := by
  have e1 : vl r = (2 * q + 1) * 2 ^ (t + ex r + 1) := by
    rw [vl, hm, h, Nm.two_succ, Nm.two_add]; ac_rfl
  constructor
  · intro he
    rcases (show 0 ≤ (ex r : Int) - 1074 + t ∨ t + ex r + 1 < 1075 by omega) with g | g
    · exact g
    · exfalso
      obtain ⟨s, hs⟩ : ∃ s, 1075 = (s + 1) + (t + ex r + 1) := ⟨1075 - (t + ex r + 1) - 1, by omega⟩
      rw [e1, hs, Nm.two_add (s + 1), ← Int.mul_assoc] at he
      have := Int.eq_of_mul_eq_mul_right (by have := Nm.two_pos (t + ex r + 1); omega) he
      exact Nm.odd_unique (this.trans (Int.mul_comm _ _))
  · intro g
    obtain ⟨s, hs⟩ : ∃ s, t + ex r + 1 = s + 1075 := ⟨t + ex r + 1 - 1075, by omega⟩
    rw [hs, Nm.two_add, ← Int.mul_assoc] at e1
    rw [whp, e1, Int.mul_ediv_cancel _ (by have := Nm.two_pos 1075; omega)]
end Ie

set_option maxRecDepth 100000 in
set_option maxHeartbeats 4000000 in
theorem integral_inf (d : Int) (w : World) (h0 : 0 ≤ d) (h1 : d < 18446744073709551616) (hr : 9218868437227405312 ≤ d % 9223372036854775808) :
    Calls Tryd.prog 26 #[.int .u64 d] w fun e w' => e = .returned (.bool false) ∧ Below w.heap.size w w' := by
  have F : Hid (∀ wx : World, Calls Tryd.prog 59 #[.int .u64 d] wx fun e w' => e = .returned (.bool false) ∧ w' = wx) := by
    intro wx
    have := finite_any d wx h0 h1
    rw [decide_eq_false (by omega)] at this
    exact this
  have D := hid (decode_any d w h0 h1)
  generalize decide (9223372036854775808 ≤ d) = neg at D
  generalize Ie.cls d = c at D
  generalize Ie.dm d = m at D
  generalize Ie.de d = x at D
  simp only [partsOf] at D
  clear hr
  go_enter Tryd.func26, Tryd.ntmps26
  go_wp2_with fail
  refine D.out.mono ?_
  rintro e w1 ⟨rfl, hB⟩
  have HB := hid hB
  clear hB D
  go_wp2_with fail
  have HB1 := hid (Below.alloc HB.out HB.out.size (.cells #[.bool neg, .int .i64 c, .int .u64 m, .int .i64 x] 34))
  generalize w1.alloc (.cells #[.bool neg, .int .i64 c, .int .u64 m, .int .i64 x] 34) = wA at *
  go_quiet ((go_at_call 59; with_reducible exact Calls.quiet_of_same (F.out _)))
  go_wp2_with fail
  go_ret
  exact ⟨rfl, below_drewN HB1.out _⟩

set_option maxRecDepth 100000 in
set_option maxHeartbeats 4000000 in
theorem integral_fin (d : Int) (w : World) (hT : Tab w) (h0 : 0 ≤ d) (h1 : d < 18446744073709551616) (hr : d % 9223372036854775808 < 9218868437227405312) (t : Nat) (ht : t ≤ 64) (m x : Int) (hm : Ie.dm d = m) (hx : Ie.de d = x) (hxb : -1074 ≤ x ∧ x ≤ 971) (hmb : 0 ≤ m ∧ m < 18446744073709551616) (hct : Lib.ctz 64 m.toNat = t) :
    Calls Tryd.prog 26 #[.int .u64 d] w fun e w' => e = .returned (.bool (decide (0 ≤ x + t))) ∧ Below w.heap.size w w' := by
  have F : Hid (∀ wx : World, Calls Tryd.prog 59 #[.int .u64 d] wx fun e w' => e = .returned (.bool true) ∧ w' = wx) := by
    intro wx
    have := finite_any d wx h0 h1
    rw [decide_eq_true hr] at this
    exact this
  have Z : Hid (∀ wx : World, Tab wx → Calls Tryd.prog 33 #[.int .u64 m] wx fun e w' => e = .returned (.int .i64 (t : Int)) ∧ w' = wx) := by
    intro wx hx
    have := tz_is m m.toNat wx (by omega) hmb.2 hx
    rw [hct] at this
    exact this
  have D := hid (decode_any d w h0 h1)
  rw [hm, hx] at D
  generalize decide (9223372036854775808 ≤ d) = neg at D
  generalize Ie.cls d = c at D
  simp only [partsOf] at D
  obtain ⟨x0, x1⟩ := hxb
  have t1 : (t : Int) ≤ 64 := by omega
  have HT := hid hT
  clear hr hm hx hmb hct hT ht
  go_enter Tryd.func26, Tryd.ntmps26
  go_wp2_with fail
  refine D.out.mono ?_
  rintro e w1 ⟨rfl, hB⟩
  have HB := hid hB
  clear hB D
  go_wp2_with fail
  have HB1 := hid (Below.alloc HB.out HB.out.size (.cells #[.bool neg, .int .i64 c, .int .u64 m, .int .i64 x] 34))
  have hg := heap_alloc_new w1 (.cells #[.bool neg, .int .i64 c, .int .u64 m, .int .i64 x] 34)
  have p2 : (w1.alloc (.cells #[.bool neg, .int .i64 c, .int .u64 m, .int .i64 x] 34)).cell? ⟨w1.heap.size, 2, none⟩ = some (.int .u64 m) := by simp only [World.cell?, hg]; rfl
  have p3 : (w1.alloc (.cells #[.bool neg, .int .i64 c, .int .u64 m, .int .i64 x] 34)).cell? ⟨w1.heap.size, 3, none⟩ = some (.int .i64 x) := by simp only [World.cell?, hg]; rfl
  clear hg
  generalize w1.alloc (.cells #[.bool neg, .int .i64 c, .int .u64 m, .int .i64 x] 34) = wA at *
  have TA := HT.out.below HB1.out
  have ZZ := hid (fun (n : Nat) => Z.out (wA.drewN n) (tab_drewN TA n))
  clear TA
  go_quiet ((first | (go_at_call 59; with_reducible exact Calls.quiet_of_same (F.out _)) | (go_at_call 33; with_reducible exact Calls.quiet_of_same (ZZ.out _))))
  go_wp2_with fail
  go_ret
  exact ⟨by simp, below_drewN HB1.out _⟩

/-- Integral. -/
theorem integral_any (d : Int) (w : World) (hT : Tab w) (h0 : 0 ≤ d) (h1 : d < 18446744073709551616) :
    Calls Tryd.prog 26 #[.int .u64 d] w fun e w' => e = .returned (.bool (Ie.intg d)) ∧ Below w.heap.size w w' := by
  by_cases hf : d % 9223372036854775808 < 9218868437227405312
  · have key : ∀ b : Bool, (b = true ↔ Ie.vl (d % 9223372036854775808) = Ie.whp (d % 9223372036854775808) * 2 ^ 1075) → Ie.intg d = b := by
      intro b hb
      rw [Ie.intg]
      cases b
      · rw [decide_eq_false_iff_not]; intro hh; have := hb.2 hh.2; cases this
      · rw [decide_eq_true_iff]; exact ⟨hf, hb.1 rfl⟩
    rcases Ie.dec_kinds d _ rfl with ⟨c, m, x, k1⟩ | ⟨c, m, x, k1, k2⟩ | ⟨c, m, x, k1, k2⟩ | ⟨c, m, x, k1⟩ | ⟨c, m, x, k1, k2⟩
    · have := integral_fin d w hT h0 h1 hf 64 (by omega) 0 0 m x (by omega) (by omega) rfl
      rw [key true ⟨fun _ => by rw [k1, Ie.vl_zero, Ie.whp_zero, Int.zero_mul], fun _ => rfl⟩]
      exact this
    · have e0 : Ie.ex (d % 9223372036854775808) = 0 := by rw [Ie.ex]; omega
      have m0 : Ie.man (d % 9223372036854775808) = d % 9223372036854775808 := by rw [Ie.man, if_pos k2]
      obtain ⟨n, hn⟩ := Int.eq_ofNat_of_zero_le (show 0 ≤ d % 9223372036854775808 by omega)
      obtain ⟨q, hq, hlt⟩ := Lib.ctzFrom_spec 64 n (by omega) (by simpa using (show n < 18446744073709551616 by omega))
      have hc : Lib.ctz 64 (d % 9223372036854775808).toNat = Lib.ctzFrom 64 n := by rw [hn, Int.toNat_natCast, Lib.ctz, if_neg (by omega)]
      have hi := Ie.intg_iff (d % 9223372036854775808) (d % 9223372036854775808) (q : Int) (Lib.ctzFrom 64 n) m0 (by rw [hn]; exact ctz_int n q _ hq)
      have := integral_fin d w hT h0 h1 hf _ (by omega) _ _ m x (by omega) (by omega) hc
      rw [key (decide (0 ≤ (-1074 : Int) + (Lib.ctzFrom 64 n : Int))) (by rw [hi, e0, decide_eq_true_iff]; omega)]
      exact this
    · have mb := Ie.man_nn (d % 9223372036854775808) (by omega)
      have mp : 0 < Ie.man (d % 9223372036854775808) := by rw [Ie.man, if_neg (by omega)]; omega
      have eb : (Ie.ex (d % 9223372036854775808) : Int) ≤ 2045 := by simp only [Ie.ex]; omega
      obtain ⟨n, hn⟩ := Int.eq_ofNat_of_zero_le mb.1
      obtain ⟨q, hq, hlt⟩ := Lib.ctzFrom_spec 64 n (by omega) (by simpa using (show n < 18446744073709551616 by omega))
      have hc : Lib.ctz 64 (Ie.man (d % 9223372036854775808)).toNat = Lib.ctzFrom 64 n := by rw [hn, Int.toNat_natCast, Lib.ctz, if_neg (by omega)]
      have hi := Ie.intg_iff (d % 9223372036854775808) _ (q : Int) (Lib.ctzFrom 64 n) hn (ctz_int n q _ hq)
      have := integral_fin d w hT h0 h1 hf _ (by omega) _ _ m x (by omega) (by omega) hc
      rw [key (decide (0 ≤ (Ie.ex (d % 9223372036854775808) : Int) - 1074 + (Lib.ctzFrom 64 n : Int))) (by rw [hi, decide_eq_true_iff])]
      exact this
    · omega
    · omega
  · have : Ie.intg d = false := by rw [Ie.intg, decide_eq_false_iff_not]; intro h; exact hf h.1
    rw [this]
    exact integral_inf d w h0 h1 (by omega)
end Go.Proofs.YtnfomlkhkggjeabDoor

/-
  cmp.Compare of two uint64; masks.
-/
namespace Go.Proofs.YtnfomlkhkggjeabDoor
open Go Go.RowKit Go.Deep

set_option maxRecDepth 100000 in
theorem uNaN_any (x : Int) (w : World) : Calls Tryd.prog 81 #[.int .u64 x] w fun e w' => e = .returned (.bool false) ∧ w' = w := by
  go_enter Tryd.func81, Tryd.ntmps81
  go_wp2
  go_ret
  exact ⟨by simp, rfl⟩

set_option maxRecDepth 100000 in
theorem ucmp_any (x y : Int) (w : World) : Calls Tryd.prog 68 #[.int .u64 x, .int .u64 y] w fun e w' => e = .returned (.int .i64 (cmpI x y)) ∧ w' = w := by
  by_cases h1 : x < y
  · have E : Hid (cmpI x y = -1) := by exact cmpI_lt h1
    go_enter Tryd.func68, Tryd.ntmps68
    go_wp2_with fail
    refine (uNaN_any x w).mono ?_
    rintro e w' ⟨rfl, rfl⟩
    go_wp2_with fail
    refine (uNaN_any y _).mono ?_
    rintro e w' ⟨rfl, rfl⟩
    go_wp2_with fail
    go_ret
    exact ⟨i_retI E.out.symm, rfl⟩
  · by_cases h2 : y < x
    · have E : Hid (cmpI x y = 1) := by exact cmpI_gt h2
      go_enter Tryd.func68, Tryd.ntmps68
      go_wp2_with fail
      refine (uNaN_any x w).mono ?_
      rintro e w' ⟨rfl, rfl⟩
      go_wp2_with fail
      refine (uNaN_any y _).mono ?_
      rintro e w' ⟨rfl, rfl⟩
      go_wp2_with fail
      go_ret
      exact ⟨i_retI E.out.symm, rfl⟩
    · have E : Hid (cmpI x y = 0) := by exact cmpI_eq (by omega)
      go_enter Tryd.func68, Tryd.ntmps68
      go_wp2_with fail
      refine (uNaN_any x w).mono ?_
      rintro e w' ⟨rfl, rfl⟩
      go_wp2_with fail
      refine (uNaN_any y _).mono ?_
      rintro e w' ⟨rfl, rfl⟩
      go_wp2_with fail
      go_ret
      exact ⟨i_retI E.out.symm, rfl⟩

namespace Ib
theorem mask_and (d : Int) (j : Nat) (h0 : 0 ≤ d) (h1 : d < 18446744073709551616) (hj : j ≤ 63) : bits .and .u64 d (2 ^ j - 1) = d % 2 ^ j := by
  obtain ⟨a, rfl⟩ := Int.eq_ofNat_of_zero_le h0
  have hp : (2 : Nat) ^ j ≤ 2 ^ 63 := Nat.pow_le_pow_right (by omega) hj
  have hq : 0 < (2 : Nat) ^ j := Nat.pow_pos (by omega)
  have e63 : (2 : Nat) ^ 63 = 9223372036854775808 := by decide
  have h := u64_and_nat a (2 ^ j - 1) (by omega) (by omega)
  have e : (((2 ^ j - 1 : Nat)) : Int) = 2 ^ j - 1 := by
    rw [Int.ofNat_sub (by omega)]; simp
  rw [e] at h
  rw [h, Nat.and_two_pow_sub_one_eq_mod]
  simp

theorem or_zero (d : Int) (h0 : 0 ≤ d) (h1 : d < 18446744073709551616) : bits .or .u64 d 0 = d := by
  obtain ⟨a, rfl⟩ := Int.eq_ofNat_of_zero_le h0
  have h := u64_or_nat a 0 (by omega) (by omega)
  rw [show ((0 : Nat) : Int) = 0 from rfl] at h
  rw [h, Nat.or_zero]
end Ib
end Go.Proofs.YtnfomlkhkggjeabDoor

/-
  remain: rounded.
-/
namespace Go.Proofs.YtnfomlkhkggjeabDoor
open Go Go.RowKit Go.Deep

/-- What a number between two whole ones goes to: W or W + 1. -/
def Ie.wup (W : Int) (up : Bool) : Int := if up = true then W + 1 else W

set_option maxRecDepth 100000 in
set_option maxHeartbeats 4000000 in
theorem rounded_T (up : Bool) (d : Int) (k s : Nat) (w : World) (hT : Tab w) (h0 : 0 ≤ d) (h1 : d < 18446744073709551616) (hf : Ie.fin d) (hi : Ie.intg d = false) (hx : Ie.de d = -(k : Int)) (k1 : 1 ≤ k) (k2 : k ≤ 1074) (hs : min k 63 = s + 1)
    (AW : ∀ wx : World, Below w.heap.size w wx → Calls Tryd.prog 44 #[.bool (Ie.dm d / 2 ^ (s + 1) % 2 == 1), .int .i64 (cmpI (Ie.dm d % 2 ^ (s + 1)) (2 ^ s))] wx fun e w' => e = .returned (.bool up) ∧ w' = wx) :
    Calls Tryd.prog 43 #[.int .u64 d, .func (Fn.func 44) #[] #[]] w fun e w' => ∃ y, e = .returned (.int .u64 (Ie.sg (Ie.ngd d) y)) ∧ Hid (Ie.Rnd (Ie.wup (Ie.dm d / 2 ^ (s + 1)) up) 1 0 false y) ∧ Below w.heap.size w w' := by
  have NN := hid (fun (wx : World) => mnan_any d wx h0 h1)
  have NI := hid (fun (wx : World) => minfinite_any d wx h0 h1)
  rw [(Ie.fin_kinds hf).1] at NN
  rw [(Ie.fin_kinds hf).2] at NI
  have IG := hid (fun (wx : World) (hx : Tab wx) => integral_any d wx hx h0 h1)
  rw [hi] at IG
  have D := hid (fun (wx : World) => decode_any d wx h0 h1)
  rw [← Ie.ngd, hx] at D
  obtain ⟨⟨m0, m1⟩, ⟨e0, e1⟩, -, -⟩ := Ie.dec_f d hf
  have HT := hid hT
  have WK : IntKind.i64.wrap (k : Int) = (k : Int) := by rw [IntKind.wrap_i64]; omega
  have hd : min (k : Int) 63 = ((s + 1 : Nat) : Int) := by omega
  obtain ⟨H, hH⟩ : ∃ H, IntKind.u64.wrap (2 ^ s) = H := ⟨_, rfl⟩
  have HB0 : 1 ≤ H ∧ H ≤ 4611686018427387904 ∧ H = 2 ^ s := by
    have g1 := Nm.two_mono (show s ≤ 62 by omega)
    have g2 := Nm.two_pos s
    have e62 : (2 : Int) ^ 62 = 4611686018427387904 := by decide
    rw [IntKind.wrap_u64, Int.emod_eq_of_lt (by omega) (by omega)] at hH
    exact ⟨by omega, by omega, hH.symm⟩
  obtain ⟨H0, H1, H2⟩ := HB0
  have HH2 := hid H2
  have hR : bits .and .u64 (Ie.dm d) (2 * H - 1) = Ie.dm d % 2 ^ (s + 1) := by
    have e : 2 * H - 1 = 2 ^ (s + 1) - 1 := by rw [H2, Nm.two_succ]
    rw [e]
    exact Ib.mask_and _ (s + 1) m0 (by omega) (by omega)
  rw [← H2] at AW
  obtain ⟨W, hW⟩ : ∃ W, Ie.dm d / 2 ^ (s + 1) = W := ⟨_, rfl⟩
  obtain ⟨R, hR2⟩ : ∃ R, Ie.dm d % 2 ^ (s + 1) = R := ⟨_, rfl⟩
  rw [hW, hR2] at AW
  rw [hR2] at hR
  rw [hW]
  have W0 : 0 ≤ W ∧ W < 9007199254740992 := by
    rw [← hW]
    have := Nm.two_pos (s + 1)
    exact ⟨Int.ediv_nonneg m0 (by omega), by have := Int.ediv_le_self (2 ^ (s + 1)) m0; omega⟩
  obtain ⟨W0, W1⟩ := W0
  have OA := Ib.one_and W W0 (by omega)
  have UC := hid (fun (wx : World) => ucmp_any R H wx)
  have AW := hid AW
  have SA := Ib.sign_and d h0 h1
  have FU : Hid (∀ wx : World, Tab wx → Calls Tryd.prog 27 #[.int .u64 (Ie.wup W up)] wx fun e w' => ∃ x, e = .returned (.int .u64 x) ∧ Ie.Rnd (Ie.wup W up) 1 0 false x ∧ Below wx.heap.size wx w') := by
    intro wx hx
    exact fromU_any _ wx hx (by rw [Ie.wup]; split <;> omega) (by rw [Ie.wup]; split <;> omega)
  have OR : Hid (∀ y : Int, Ie.Rnd (Ie.wup W up) 1 0 false y → bits .or .u64 y (d / 9223372036854775808 * 9223372036854775808) = Ie.sg (Ie.ngd d) y) := by
    intro y hy
    have b := hy.bd
    rcases (show d < 9223372036854775808 ∨ 9223372036854775808 ≤ d by omega) with g | g
    · rw [show d / 9223372036854775808 * 9223372036854775808 = 0 by omega, Ib.or_zero y b.1 (by omega), Ie.ngd, decide_eq_false (by omega)]; rfl
    · rw [show d / 9223372036854775808 * 9223372036854775808 = 9223372036854775808 by omega, Ib.sign_or y b.1 (by omega), Ie.ngd, decide_eq_true (by omega)]; rfl
  clear H2
  clear hT hf e0 e1 hi hx hs hR2
  simp only [partsOf] at D
  generalize Ie.ngd d = neg at *
  generalize Ie.dm d = m at *
  generalize d / 9223372036854775808 * 9223372036854775808 = sv at *
  generalize Ie.cls d = c at *
  go_enter Tryd.func43, Tryd.ntmps43
  go_wp2_with fail
  refine (NN.out _).mono ?_
  rintro e wz ⟨rfl, hz⟩
  replace hz := hz.symm
  subst hz
  go_wp2_with fail
  refine (NI.out _).mono ?_
  rintro e wz ⟨rfl, hz⟩
  replace hz := hz.symm
  subst hz
  go_wp2_with fail
  refine (IG.out _ HT.out).mono ?_
  rintro e w0 ⟨rfl, hB0⟩
  go_wp2_with fail
  refine (D.out _).mono ?_
  rintro e w1 ⟨rfl, hB1⟩
  have HB1 := hid (hB0.trans (hB1.mono hB0.size))
  clear hB0 hB1 NN NI D IG
  go_upto_region 6 with fail
  have hb := HB1.out.trans ((alloc_b w1 (.cells #[.bool neg, .int .i64 c, .int .u64 m, .int .i64 (-(k : Int))] 34)).mono HB1.out.size)
  have P := Row4.new w1 34 (.bool neg) (.int .i64 c) (.int .u64 m) (.int .i64 (-(k : Int)))
  have HT1 := hid (HT.out.below hb)
  have HB2 := hid hb
  obtain ⟨⟨-, -, p2, p3⟩, -⟩ := P.cells
  clear P hb HT HB1
  generalize w1.alloc (.cells #[.bool neg, .int .i64 c, .int .u64 m, .int .i64 (-(k : Int))] 34) = wA at *
  generalize w1.heap.size = b at *
  go_upto_region 8 with fail
  go_region
  have HT2 := hid (HT1.out.below (drew_nil wA))
  have HB3 := hid (HB2.out.trans ((drew_nil wA).mono HB2.out.size))
  clear HT1 HB2 p2 p3 hR hW
  generalize wA.drew = wB at *
  go_wp2_with fail
  refine (UC.out _).mono ?_
  rintro e wz ⟨rfl, hz⟩
  replace hz := hz.symm
  subst hz
  go_wp2_with fail
  refine (AW.out _ HB3.out).mono ?_
  rintro e wz ⟨rfl, hz⟩
  replace hz := hz.symm
  subst hz
  clear AW UC
  cases up
  · simp only [Ie.wup, Bool.false_eq_true, if_false] at FU OR ⊢
    go_wp2_with fail
    refine (FU.out _ HT2.out).mono ?_
    rintro e w5 ⟨y, rfl, hy, hB⟩
    have E := OR.out y hy
    have HY := hid hy
    have HB4 := hid (HB3.out.trans (hB.mono HB3.out.size))
    clear hy hB FU OR HB3
    go_wp2_with fail
    go_ret
    exact ⟨_, rfl, HY.out, HB4.out⟩
  · simp only [Ie.wup, if_true] at FU OR ⊢
    go_wp2_with fail
    refine (FU.out _ HT2.out).mono ?_
    rintro e w5 ⟨y, rfl, hy, hB⟩
    have E := OR.out y hy
    have HY := hid hy
    have HB4 := hid (HB3.out.trans (hB.mono HB3.out.size))
    clear hy hB FU OR HB3
    go_wp2_with fail
    go_ret
    exact ⟨_, rfl, HY.out, HB4.out⟩
end Go.Proofs.YtnfomlkhkggjeabDoor

/-
  remain: rounded where nothing is to be rounded; Trunc.
-/
namespace Go.Proofs.YtnfomlkhkggjeabDoor
open Go Go.RowKit Go.Deep

namespace Ie
theorem intg_iff_un {d : Int} (hf : fin d) : intg d = true ↔ un (ab d) % 2 ^ 1074 = 0 := by
  rw [intg, decide_eq_true_iff, ← intg_un, whp, ab]
  exact ⟨fun h => h.2, fun h => ⟨hf, h⟩⟩

theorem cmpI_iff {a b c d : Int} (h1 : a < b ↔ c < d) (h2 : a = b ↔ c = d) : cmpI a b = cmpI c d := by
  by_cases g1 : a < b
  · rw [cmpI_lt g1, cmpI_lt (h1.1 g1)]
  · by_cases g2 : a = b
    · rw [cmpI_eq g2, cmpI_eq (h2.1 g2)]
    · have k1 : ¬ c < d := fun h => g1 (h1.2 h)
      have k2 : ¬ c = d := fun h => g2 (h2.2 h)
      rw [cmpI_gt (by omega), cmpI_gt (by omega)]

/-- A number that isn't whole has bits behind the point. -/
theorem frac_k {d : Int} (hf : fin d) (hi : intg d = false) : ∃ k s : Nat, de d = -(k : Int) ∧ 1 ≤ k ∧ k ≤ 1074 ∧ min k 63 = s + 1 ∧ dm d / 2 ^ (s + 1) = un (ab d) / 2 ^ 1074 ∧ cmpI (dm d % 2 ^ (s + 1)) (2 ^ s) = cmpI (un (ab d) % 2 ^ 1074) (2 ^ 1073) := by
  obtain ⟨⟨m0, m1⟩, ⟨e0, e1⟩, g, -⟩ := dec_f d hf
  have hn : ¬ un (ab d) % 2 ^ 1074 = 0 := fun h => by rw [(intg_iff_un hf).2 h] at hi; cases hi
  have neg : de d < 0 := by
    rcases (show de d < 0 ∨ 0 ≤ de d by omega) with h | h
    · exact h
    · exfalso
      obtain ⟨j, hj⟩ : ∃ j : Nat, (j : Int) = de d := ⟨(de d).toNat, by omega⟩
      apply hn
      rw [← g (j + 1074) (by omega), Nm.two_add, ← Int.mul_assoc]
      exact Int.mul_emod_left _ _
  obtain ⟨k, hk⟩ : ∃ k : Nat, de d = -(k : Int) := ⟨(-de d).toNat, by omega⟩
  obtain ⟨s, hs⟩ : ∃ s : Nat, min k 63 = s + 1 := ⟨min k 63 - 1, by omega⟩
  obtain ⟨q1, q2, q3⟩ := whole_cut (U := un (ab d)) (k := k) (dr := s + 1) m0 m1 (by omega) (by omega) hs.symm (g (1074 - k) (by omega)).symm
  exact ⟨k, s, hk, by omega, by omega, hs, q1, cmpI_iff q2 q3⟩

/-- One of the two whole numbers beside d. -/
def WIs (d : Int) (up : Bool) (r : Int) : Prop :=
  (isn d = true → r = 9221120237041090560) ∧ (isi d = true → r = d) ∧
  (fin d → ∃ y, r = sg (ngd d) y ∧ 0 ≤ y ∧ y < 9218868437227405312 ∧ (intg d = true → y = ab d) ∧ (intg d = false → un y = wup (un (ab d) / 2 ^ 1074) up * 2 ^ 1074))

theorem sg_ab (d : Int) (h0 : 0 ≤ d) (h1 : d < 18446744073709551616) : d = sg (ngd d) (ab d) := by
  have := sb_ab d h0 h1
  exact this

theorem un_half {d : Int} (hf : fin d) (hi : intg d = false) : 0 ≤ un (ab d) / 2 ^ 1074 ∧ un (ab d) / 2 ^ 1074 + 1 < 9007199254740992 := by
  obtain ⟨⟨m0, m1⟩, -, -, -⟩ := dec_f d hf
  obtain ⟨k, s, -, -, -, -, q, -⟩ := frac_k hf hi
  rw [← q]
  have hp := Nm.two_pos (s + 1)
  refine ⟨Int.ediv_nonneg m0 (by omega), ?_⟩
  have h2 : (2 : Int) ^ (s + 1) = 2 ^ s * 2 := by rw [Nm.two_succ, Int.mul_comm]
  have hs := Nm.two_pos s
  have : dm d / 2 ^ (s + 1) < 4503599627370496 := by
    refine Int.ediv_lt_of_lt_mul hp ?_
    generalize (2 : Int) ^ (s + 1) = A at *
    generalize (2 : Int) ^ s = B at *
    omega
  omega

theorem wup_bd {W : Int} (up : Bool) (h0 : 0 ≤ W) (h1 : W + 1 < 9007199254740992) : 0 ≤ wup W up ∧ wup W up < 9007199254740992 := by
  rw [wup]; split <;> omega

theorem wis_fin {d y : Int} {up : Bool} (hf : fin d) (hi : intg d = false) (h : Rnd (wup (un (ab d) / 2 ^ 1074) up) 1 0 false y) : WIs d up (sg (ngd d) y) := by
  have b := un_half hf hi
  obtain ⟨q, q0, q1⟩ := rnd_rep (c := 1074) (by omega) (wup_bd up b.1 b.2).1 (wup_bd up b.1 b.2).2 (by omega) h
  refine ⟨fun g => ?_, fun g => ?_, fun _ => ⟨y, rfl, q0, q1, fun g => ?_, fun _ => q⟩⟩
  · rw [(fin_kinds hf).1] at g; cases g
  · rw [(fin_kinds hf).2] at g; cases g
  · rw [hi] at g; cases g

theorem wis_stay {d : Int} (up : Bool) (h0 : 0 ≤ d) (h1 : d < 18446744073709551616) (h : isi d = true ∨ (fin d ∧ intg d = true)) : WIs d up d := by
  refine ⟨fun g => ?_, fun _ => rfl, fun hf => ?_⟩
  · rcases h with h | h
    · simp only [isn, isi, decide_eq_true_iff] at h g; omega
    · rw [(fin_kinds h.1).1] at g; cases g
  · rcases h with h | h
    · rw [(fin_kinds hf).2] at h; cases h
    · exact ⟨ab d, sg_ab d h0 h1, (ab_bd d).1, hf, fun _ => rfl, fun g => by rw [h.2] at g; cases g⟩
end Ie

set_option maxRecDepth 100000 in
theorem rounded_stay (fv : Value) (up : Bool) (d : Int) (w : World) (hT : Tab w) (h0 : 0 ≤ d) (h1 : d < 18446744073709551616) (h : Ie.fin d → Ie.intg d = true) :
    Calls Tryd.prog 43 #[.int .u64 d, fv] w fun e w' => ∃ r, e = .returned (.int .u64 r) ∧ Ie.WIs d up r ∧ Below w.heap.size w w' := by
  have NN := hid (fun (wx : World) => mnan_any d wx h0 h1)
  have NI := hid (fun (wx : World) => minfinite_any d wx h0 h1)
  have IG := hid (fun (wx : World) (hx : Tab wx) => integral_any d wx hx h0 h1)
  have HT := hid hT
  rcases Ie.kinds d with g | ⟨g, g', g''⟩ | ⟨g, g', g''⟩
  · have E : Hid (Ie.WIs d up 9221120237041090560) := ⟨fun _ => rfl, fun k => (by simp only [Ie.isn, Ie.isi, decide_eq_true_iff] at g k; omega), fun k => (by simp only [Ie.isn, Ie.fin, decide_eq_true_iff] at g k; omega)⟩
    rw [g] at NN
    clear g h
    go_enter Tryd.func43, Tryd.ntmps43
    go_wp2_with fail
    refine (NN.out _).mono ?_
    rintro e wz ⟨rfl, hz⟩
    replace hz := hz.symm
    subst hz
    go_wp2_with fail
    go_ret
    exact ⟨_, rfl, E.out, Below.refl _ _⟩
  · have E := hid (Ie.wis_stay up h0 h1 (.inl g'))
    rw [g] at NN
    rw [g'] at NI
    clear g g' g'' h
    go_enter Tryd.func43, Tryd.ntmps43
    go_wp2_with fail
    refine (NN.out _).mono ?_
    rintro e wz ⟨rfl, hz⟩
    replace hz := hz.symm
    subst hz
    go_wp2_with fail
    refine (NI.out _).mono ?_
    rintro e wz ⟨rfl, hz⟩
    replace hz := hz.symm
    subst hz
    go_wp2_with fail
    go_ret
    exact ⟨_, rfl, E.out, Below.refl _ _⟩
  · have E := hid (Ie.wis_stay up h0 h1 (.inr ⟨g'', h g''⟩))
    rw [g] at NN
    rw [g'] at NI
    rw [h g''] at IG
    clear g g' g'' h
    go_enter Tryd.func43, Tryd.ntmps43
    go_wp2_with fail
    refine (NN.out _).mono ?_
    rintro e wz ⟨rfl, hz⟩
    replace hz := hz.symm
    subst hz
    go_wp2_with fail
    refine (NI.out _).mono ?_
    rintro e wz ⟨rfl, hz⟩
    replace hz := hz.symm
    subst hz
    go_wp2_with fail
    refine (IG.out _ HT.out).mono ?_
    rintro e w1 ⟨rfl, hB⟩
    have HB := hid hB
    clear hB
    go_wp2_with fail
    go_ret
    exact ⟨_, rfl, E.out, HB.out⟩

set_option maxRecDepth 100000 in
theorem truncRule_any (a b : Value) (w : World) : Calls Tryd.prog 44 #[a, b] w fun e w' => e = .returned (.bool false) ∧ w' = w := by
  go_enter Tryd.func44, Tryd.ntmps44
  go_wp2_with fail
  go_ret
  exact ⟨rfl, rfl⟩

theorem roundedT_any (d : Int) (w : World) (hT : Tab w) (h0 : 0 ≤ d) (h1 : d < 18446744073709551616) :
    Calls Tryd.prog 43 #[.int .u64 d, .func (Fn.func 44) #[] #[]] w fun e w' => ∃ r, e = .returned (.int .u64 r) ∧ Ie.WIs d false r ∧ Below w.heap.size w w' := by
  by_cases hi : Ie.fin d ∧ Ie.intg d = false
  · obtain ⟨hf, hi⟩ := hi
    obtain ⟨k, s, q1, q2, q3, q4, q5, q6⟩ := Ie.frac_k hf hi
    refine (rounded_T false d k s w hT h0 h1 hf hi q1 q2 q3 q4 (fun wx _ => truncRule_any _ _ wx)).mono ?_
    rintro e w' ⟨y, rfl, hy, hB⟩
    rw [q5] at hy
    exact ⟨_, rfl, Ie.wis_fin hf hi hy.out, hB⟩
  · refine rounded_stay _ false d w hT h0 h1 (fun hf => ?_)
    cases g : Ie.intg d
    · exact absurd ⟨hf, g⟩ hi
    · rfl

set_option maxRecDepth 100000 in
theorem trunc_any (d : Int) (w : World) (hT : Tab w) (h0 : 0 ≤ d) (h1 : d < 18446744073709551616) :
    Calls Tryd.prog 19 #[.int .u64 d] w fun e w' => ∃ r, e = .returned (.int .u64 r) ∧ Ie.WIs d false r ∧ Below w.heap.size w w' := by
  have R := hid (roundedT_any d w hT h0 h1)
  clear hT
  go_enter Tryd.func19, Tryd.ntmps19
  go_wp2_with fail
  refine R.out.mono ?_
  rintro e w' ⟨r, rfl, h⟩
  have H := hid h
  clear h
  go_wp2_with fail
  go_ret
  exact ⟨_, rfl, H.out⟩
end Go.Proofs.YtnfomlkhkggjeabDoor

/-
  remain: aligned.
-/
namespace Go.Proofs.YtnfomlkhkggjeabDoor
open Go Go.RowKit Go.Deep

/-- What aligned tells. -/
def AlignTold (a b : Int) (w : World) (e : Ending) (w' : World) : Prop :=
  ∃ (p q : Option Addr) (os qs : List Int) (i j : Nat) (x : Int), e = .returned (.tuple #[.slice p (List.length os) (List.length os), .slice q (List.length qs) (List.length qs), .int .i64 x]) ∧
    Ans w.heap.size w' p os (Ie.dm a * 2 ^ i) ∧ Ans w.heap.size w' q qs (Ie.dm b * 2 ^ j) ∧ x = min (Ie.de a) (Ie.de b) ∧ (i : Int) = Ie.de a - x ∧ (j : Int) = Ie.de b - x ∧ Below w.heap.size w w'

theorem Ans.upB {B B' : Nat} {w : World} {p : Option Addr} {ys : List Int} {n : Int} (h : Ans B w p ys n) (hB : B' ≤ B) : Ans B' w p ys n :=
  ⟨h.1, h.2.1, h.2.2.1, h.2.2.2.1, fun a ha => Nat.le_trans hB (h.2.2.2.2 a ha)⟩

set_option maxRecDepth 100000 in
set_option maxHeartbeats 8000000 in
theorem aligned_any (a b : Int) (w : World) (a0 : 0 ≤ a) (a1 : a < 18446744073709551616) (b0 : 0 ≤ b) (b1 : b < 18446744073709551616) (fa : Ie.fin a) (fb : Ie.fin b) :
    Calls Tryd.prog 69 #[.int .u64 a, .int .u64 b] w fun e w' => AlignTold a b w e w' := by
  have DA := hid (fun (wx : World) => decode_any a wx a0 a1)
  have DB := hid (fun (wx : World) => decode_any b wx b0 b1)
  obtain ⟨⟨ma0, ma1⟩, ⟨ea0, ea1⟩, -, -⟩ := Ie.dec_f a fa
  obtain ⟨⟨mb0, mb1⟩, ⟨eb0, eb1⟩, -, -⟩ := Ie.dec_f b fb
  have FA := hid (fun (wx : World) => fromUint_any (Ie.dm a) wx ma0 (by omega))
  have FB := hid (fun (wx : World) => fromUint_any (Ie.dm b) wx mb0 (by omega))
  obtain ⟨x, hx⟩ : ∃ x, min (Ie.de a) (Ie.de b) = x := ⟨_, rfl⟩
  obtain ⟨i, hi⟩ : ∃ i : Nat, (i : Int) = Ie.de a - x := ⟨(Ie.de a - x).toNat, by omega⟩
  obtain ⟨j, hj⟩ : ∃ j : Nat, (j : Int) = Ie.de b - x := ⟨(Ie.de b - x).toNat, by omega⟩
  have W1 : IntKind.i64.wrap (Ie.de a - x) = (i : Int) := by rw [IntKind.wrap_i64]; omega
  have W2 : IntKind.i64.wrap (Ie.de b - x) = (j : Int) := by rw [IntKind.wrap_i64]; omega
  have SH : ∀ (m : Int) (i : Nat), 0 ≤ m → m < 9007199254740992 → i ≤ 2100 → ∀ (wx : World) (p : Option Addr) (os : List Int) (B : Nat), Ans B wx p os m → Calls Tryd.prog 17 #[.slice p os.length os.length, .int .i64 (i : Int)] wx fun e w' => ∃ r os, e = .returned (.tuple #[.slice r (List.length os) (List.length os), .int .i64 0]) ∧ Ans wx.heap.size w' r os (m * 2 ^ i) ∧ Below wx.heap.size wx w' := by
    intro m i m0 m1 hi wx p os B A
    have l1 := A.lim1 (by omega)
    have := shl_any p _ _ os (i : Int) i wx (A.arg (by omega)) (by rw [A.2.2.1]; omega) rfl (by rw [A.2.2.2.1]; exact shl_room (L := 1) (show m < 18446744073709551616 by omega) (by omega))
    rw [A.2.2.2.1] at this
    exact this
  have SA := hid (SH (Ie.dm a) i ma0 ma1 (by omega))
  have SB := hid (SH (Ie.dm b) j mb0 mb1 (by omega))
  have WT : Hid (∀ (wx : World) (p q : Option Addr) (os qs : List Int) (B B' : Nat), w.heap.size ≤ B → w.heap.size ≤ B' → Ans B wx p os (Ie.dm a * 2 ^ i) → Ans B' wx q qs (Ie.dm b * 2 ^ j) → Below w.heap.size w wx → AlignTold a b w (.returned (.tuple #[.slice p (List.length os) (List.length os), .slice q (List.length qs) (List.length qs), .int .i64 x])) wx) := by
    intro wx p q os qs B B' l1 l2 A1 A2 hB
    exact ⟨p, q, os, qs, i, j, x, rfl, A1.upB l1, A2.upB l2, hx.symm, hi, hj, hB⟩
  clear SH fa fb ma0 ma1 mb0 mb1 hi hj a0 a1 b0 b1 ea0 ea1 eb0 eb1
  simp only [partsOf] at DA DB
  generalize decide (9223372036854775808 ≤ a) = na at *
  generalize decide (9223372036854775808 ≤ b) = nb at *
  generalize Ie.dm a = ma at *
  generalize Ie.dm b = mb at *
  generalize Ie.de a = ea at *
  generalize Ie.de b = eb at *
  generalize Ie.cls a = ca at *
  generalize Ie.cls b = cb at *
  go_enter Tryd.func69, Tryd.ntmps69
  go_wp2_with fail
  refine (DA.out _).mono ?_
  rintro e w1 ⟨rfl, hB1⟩
  go_wp2_with fail
  refine (DB.out _).mono ?_
  rintro e w2 ⟨rfl, hB2⟩
  have HB2 := hid (hB1.trans (hB2.mono hB1.size))
  clear hB1 hB2 DA DB
  go_upto_region 2 with fail
  have s1 : (w2.alloc (.cells #[.bool na, .int .i64 ca, .int .u64 ma, .int .i64 ea] 34)).heap.size = w2.heap.size + 1 := by simp
  have hb := HB2.out.trans ((twice_alloc w2 (.cells #[.bool na, .int .i64 ca, .int .u64 ma, .int .i64 ea] 34) (.cells #[.bool nb, .int .i64 cb, .int .u64 mb, .int .i64 eb] 34)).mono HB2.out.size)
  have P1 := (Row4.new w2 34 (.bool na) (.int .i64 ca) (.int .u64 ma) (.int .i64 ea)).below (alloc_b _ (.cells #[.bool nb, .int .i64 cb, .int .u64 mb, .int .i64 eb] 34)) (by omega)
  have P2 := Row4.new (w2.alloc (.cells #[.bool na, .int .i64 ca, .int .u64 ma, .int .i64 ea] 34)) 34 (.bool nb) (.int .i64 cb) (.int .u64 mb) (.int .i64 eb)
  rw [s1] at P2
  obtain ⟨SS, KS, CS, BS, MS⟩ := state (fun w' => w'.cell? ⟨w2.heap.size, 2, none⟩ = some (.int .u64 ma) ∧ w'.cell? ⟨w2.heap.size, 3, none⟩ = some (.int .i64 ea) ∧ w'.cell? ⟨w2.heap.size + 1, 2, none⟩ = some (.int .u64 mb) ∧ w'.cell? ⟨w2.heap.size + 1, 3, none⟩ = some (.int .i64 eb)) w ((Stays.cell _ _).and ((Stays.cell _ _).and ((Stays.cell _ _).and (Stays.cell _ _))))
  have S0 := hid (MS.out _ ⟨P1.cells.1.2.2.1, P1.cells.1.2.2.2, P2.cells.1.2.2.1, P2.cells.1.2.2.2⟩ hb)
  clear P1 P2 hb HB2 MS s1
  generalize (w2.alloc (.cells #[.bool na, .int .i64 ca, .int .u64 ma, .int .i64 ea] 34)).alloc (.cells #[.bool nb, .int .i64 cb, .int .u64 mb, .int .i64 eb] 34) = wA at *
  generalize hd : w2.heap.size + 1 = d at *
  generalize w2.heap.size = c at *
  clear hd
  obtain ⟨p0, p1, p2, p3⟩ := CS.out _ S0.out
  go_upto_region 3 with fail
  clear hx
  have S1 := hid (KS.out _ _ S0.out (drew_nil _))
  go_region_held3 (fun w' => w'.cell? ⟨c, 2, none⟩ = some (.int .u64 ma) ∧ w'.cell? ⟨c, 3, none⟩ = some (.int .i64 ea) ∧ w'.cell? ⟨d, 2, none⟩ = some (.int .u64 mb) ∧ w'.cell? ⟨d, 3, none⟩ = some (.int .i64 eb)) (first | (with_reducible exact CS.out _ S3.out) | (with_reducible exact CS.out _ S2.out) | (with_reducible exact CS.out _ S1.out)) (first
    | (go_at_call 30; refine (FA.out _).mono ?_; rintro e w4 ⟨p, os, rfl, A, hB⟩; have S2 := hid (KS.out _ _ S1.out hB); have R2 := hid (SA.out w4 p os _ A); clear hB A)
    | (go_at_call 17; (try rw [W1]); refine R2.out.mono ?_; rintro e w5 ⟨p5, o5, rfl, A, hB⟩; have S3 := hid (KS.out _ _ S2.out hB); have A5 := hid (A.upB (BS.out _ S2.out).size); clear hB A))
  all_goals
    clear p0 p1 p2 p3 S0 S1 S2 R2 FA SA
    obtain ⟨p0, p1, p2, p3⟩ := CS.out _ S3.out
    go_upto_region 4 with fail
    have T1 := hid (KS.out _ _ S3.out (drew_nil _))
    have A6 := hid (A5.out.below (drew_nil _) (Nat.le_refl _))
    go_region_held3 (fun w' => w'.cell? ⟨c, 2, none⟩ = some (.int .u64 ma) ∧ w'.cell? ⟨c, 3, none⟩ = some (.int .i64 ea) ∧ w'.cell? ⟨d, 2, none⟩ = some (.int .u64 mb) ∧ w'.cell? ⟨d, 3, none⟩ = some (.int .i64 eb)) (first | (with_reducible exact CS.out _ T3.out) | (with_reducible exact CS.out _ T2.out) | (with_reducible exact CS.out _ T1.out)) (first
      | (go_at_call 30; refine (FB.out _).mono ?_; rintro e w6 ⟨p, os, rfl, A, hB⟩; have T2 := hid (KS.out _ _ T1.out hB); have A7 := hid (A6.out.below hB (Nat.le_refl _)); have R2 := hid (SB.out w6 p os _ A); clear hB A)
      | (go_at_call 17; (try rw [W2]); refine R2.out.mono ?_; rintro e w7 ⟨p7, o7, rfl, A, hB⟩; have T3 := hid (KS.out _ _ T2.out hB); have KK := hid (WT.out w7 p5 p7 o5 o7 _ _ (Nat.le_refl _) (BS.out _ T2.out).size (A7.out.below hB (Nat.le_refl _)) A (BS.out _ T3.out)); clear hB A))
    all_goals (go_wp2_with fail; go_ret3; exact KK.out)
end Go.Proofs.YtnfomlkhkggjeabDoor
