/-
  Texts put together: IRoomA, IFin, IIntg, MCmp, MRoundT, MTrunc, MRoundB, MFloor.
-/
import Derived.Test.YtnfomlkhkggjeaaGreatDoorMem
import Derived.Test.YtnfomlkhkggjeaaGreatDoorIKinds
import Derived.Test.YtnfomlkhkggjeaaGreatDoorIRatio
import Derived.Test.YtnfomlkhkggjeaaGreatDoorFromW
import Derived.Deep.RegionWith
import Derived.Test.YtnfomlkhkggjeaaGreatDoorNToU
import Derived.BigQuiet
import Derived.Test.YtnfomlkhkggjeaaGreatDoorIWalk1B
import Derived.Test.YtnfomlkhkggjeaaGreatDoorWalk5a
import Derived.Test.YtnfomlkhkggjeaaGreatDoorMScale
import Derived.BigRegion
/-
  Room for products and shifts.
-/
namespace Go.Proofs.YtnfomlkhkggjeaaGreatDoor
open Go Go.RowKit Go.Deep

theorem alloc_below (w : World) (A : Obj) : Below w.heap.size w (w.alloc A) := Below.alloc (Below.refl _ _) (Nat.le_refl _) A

theorem lit_small {D m : Int} {L s : Nat} (hD : 0 ≤ D) (h1 : D < Nm.pw L) (m0 : 0 ≤ m) (h2 : m < 18446744073709551616) (hs : 64 * L + 64 + s ≤ 262144) : D * m * 2 ^ s < Nm.pw 4096 ∧ D * m < Nm.pw 4096 := by
  have e64 : (2 : Int) ^ 64 = 18446744073709551616 := by decide
  rw [Nm.pw_two] at h1
  have p0 := Nm.two_pos s
  have g1 : D * m ≤ D * 2 ^ 64 := Int.mul_le_mul_of_nonneg_left (by omega) hD
  have g2 : D * 2 ^ 64 < 2 ^ (64 * L) * 2 ^ 64 := Int.mul_lt_mul_of_pos_right h1 (by omega)
  rw [← Nm.two_add] at g2
  have g3 : D * m < 2 ^ (64 * L + 64) := by omega
  have g4 : D * m * 2 ^ s < 2 ^ (64 * L + 64) * 2 ^ s := Int.mul_lt_mul_of_pos_right g3 p0
  rw [← Nm.two_add] at g4
  rw [Nm.pw_two]
  have g5 := Nm.two_mono (show 64 * L + 64 + s ≤ 64 * 4096 by omega)
  have g6 := Nm.two_mono (show 64 * L + 64 ≤ 64 * 4096 by omega)
  omega

theorem shl_room {V : Int} {L t : Nat} (h1 : V < Nm.pw L) (ht : 64 * L + t ≤ 262144) : V * 2 ^ t < Nm.pw 4096 := by
  rw [Nm.pw_two] at h1
  have g1 : V * 2 ^ t < 2 ^ (64 * L) * 2 ^ t := Int.mul_lt_mul_of_pos_right h1 (Nm.two_pos t)
  rw [← Nm.two_add] at g1
  have g2 := Nm.two_mono (show 64 * L + t ≤ 64 * 4096 by omega)
  rw [Nm.pw_two]
  omega

end Go.Proofs.YtnfomlkhkggjeaaGreatDoor

/-
  ieee: finite, FromUint.
-/
namespace Go.Proofs.YtnfomlkhkggjeaaGreatDoor
open Go Go.RowKit Go.Deep

set_option maxRecDepth 100000 in
theorem finite_any (d : Int) (w : World) (h0 : 0 ≤ d) (h1 : d < 18446744073709551616) :
    Calls Tryz.prog 34 #[.int .u64 d] w fun e w' => e = .returned (.bool (decide (d % 9223372036854775808 < 9218868437227405312))) ∧ w' = w := by
  have F := hid (field_any d w h0 h1)
  have fe : Ie.fld d = d % 9223372036854775808 / 4503599627370496 := by simp only [Ie.fld]; omega
  obtain ⟨f, hf⟩ : ∃ f, Ie.fld d = f := ⟨_, rfl⟩
  rw [hf] at F
  by_cases hc : f = 2047
  · have E : Hid (decide (d % 9223372036854775808 < 9218868437227405312) = false) := by rw [Hid, decide_eq_false_iff_not]; omega
    subst hc
    clear hf fe
    go_enter Tryz.func34, Tryz.ntmps34
    go_wp2_with fail
    refine F.out.mono ?_
    rintro e w' ⟨rfl, rfl⟩
    go_wp2_with fail
    go_ret
    exact ⟨by rw [E.out]; rfl, rfl⟩
  · have E : Hid (decide (d % 9223372036854775808 < 9218868437227405312) = true) := by rw [Hid, decide_eq_true_iff]; omega
    have hc' : (f == 2047) = false := by rw [beq_eq_false_iff_ne]; exact hc
    clear hf fe
    go_enter Tryz.func34, Tryz.ntmps34
    go_wp2_with fail
    refine F.out.mono ?_
    rintro e w' ⟨rfl, rfl⟩
    go_wp2_with fail
    go_ret
    exact ⟨by rw [E.out]; simp [hc], rfl⟩

set_option maxRecDepth 100000 in
theorem fromU_any (u : Int) (w : World) (hT : Tab w) (h0 : 0 ≤ u) (h1 : u < 18446744073709551616) :
    Calls Tryz.prog 64 #[.int .u64 u] w fun e w' => ∃ x, e = .returned (.int .u64 x) ∧ Ie.Rnd u 1 0 false x ∧ Below w.heap.size w w' := by
  have F := hid (fromUint_any u w h0 h1)
  have HT := hid hT
  have hp : Hid (u < Nm.pw 1) := h1
  clear hT
  go_enter Tryz.func64, Tryz.ntmps64
  go_wp2_with fail
  refine F.out.mono ?_
  rintro e w1 ⟨r, os, rfl, A, hB⟩
  have l1 := ans_small A 1 hp.out
  have N := hid (nearest_any r _ _ os w1 (A.arg (by omega)) (HT.out.below hB) (by rw [A.2.2.1]; omega) u 0 false A.2.2.2.1 (by omega) (by omega))
  have HB := hid hB
  clear A l1 hB F HT
  go_wp2_with fail
  refine N.out.mono ?_
  rintro e w2 ⟨x, rfl, R, hB2⟩
  have RR := hid R
  have HB2 := hid (HB.out.trans (hB2.mono HB.out.size))
  clear R hB2
  go_wp2_with fail
  go_ret
  exact ⟨x, rfl, RR.out, HB2.out⟩

theorem below_drew1 {B : Nat} {w w' : World} (h : Below B w w') : Below B w w'.drew := ⟨h.os, h.tape, h.output, h.size, h.block⟩

end Go.Proofs.YtnfomlkhkggjeaaGreatDoor

/-
  ieee: Integral.
-/
namespace Go.Proofs.YtnfomlkhkggjeaaGreatDoor
open Go Go.RowKit Go.Deep

theorem tz_is (x : Int) (n : Nat) (w : World) (hx : x = (n : Int)) (h1 : x < 18446744073709551616) (hT : Tab w) :
    Calls Tryz.prog 35 #[.int .u64 x] w fun e w' => e = .returned (.int .i64 (Lib.ctz 64 n)) ∧ w' = w := by
  subst hx
  exact Any7.bits_TrailingZeros64 tzLays n (by omega) w (fun _ => hT)

theorem ctz_int (n q t : Nat) (h : n = 2 ^ t * (2 * q + 1)) : (n : Int) = 2 ^ t * (2 * (q : Int) + 1) := by
  have e : ((2 ^ t * (2 * q + 1) : Nat) : Int) = 2 ^ t * (2 * (q : Int) + 1) := by simp
  rw [← e, ← h]

theorem tab_drewN {w : World} (h : Tab w) (n : Nat) : Tab (w.drewN n) := h.below (below_drewN (Below.refl _ _) n)

namespace Ie
/-- Whether it is a whole number. -/
def intg (d : Int) : Bool := decide (d % 9223372036854775808 < 9218868437227405312 ∧ vl (d % 9223372036854775808) = whp (d % 9223372036854775808) * 2 ^ 1075)

theorem intg_iff (r m q : Int) (t : Nat) (hm : man r = m) (h : m = 2 ^ t * (2 * q + 1)) : (vl r = whp r * 2 ^ 1075) ↔ 0 ≤ (ex r : Int) - 1074 + t := by
  have e1 : vl r = (2 * q + 1) * 2 ^ (t + ex r + 1) := by
    rw [vl, hm, h, Nm.two_succ, Nm.two_add]; ac_rfl
  constructor
  · intro he
    rcases (show 0 ≤ (ex r : Int) - 1074 + t ∨ t + ex r + 1 < 1075 by omega) with g | g
    · exact g
    · exfalso
      obtain ⟨s, hs⟩ : ∃ s, 1075 = (s + 1) + (t + ex r + 1) := ⟨1075 - (t + ex r + 1) - 1, by omega⟩
      rw [e1, hs, Nm.two_add (s + 1), ← Int.mul_assoc] at he
      have := Int.eq_of_mul_eq_mul_right (by have := Nm.two_pos (t + ex r + 1); omega) he
      exact Nm.odd_unique (this.trans (Int.mul_comm _ _))
  · intro g
    obtain ⟨s, hs⟩ : ∃ s, t + ex r + 1 = s + 1075 := ⟨t + ex r + 1 - 1075, by omega⟩
    rw [hs, Nm.two_add, ← Int.mul_assoc] at e1
    rw [whp, e1, Int.mul_ediv_cancel _ (by have := Nm.two_pos 1075; omega)]
end Ie

set_option maxRecDepth 100000 in
set_option maxHeartbeats 4000000 in
theorem integral_inf (d : Int) (w : World) (h0 : 0 ≤ d) (h1 : d < 18446744073709551616) (hr : 9218868437227405312 ≤ d % 9223372036854775808) :
    Calls Tryz.prog 12 #[.int .u64 d] w fun e w' => e = .returned (.bool false) ∧ Below w.heap.size w w' := by
  have F : Hid (∀ wx : World, Calls Tryz.prog 34 #[.int .u64 d] wx fun e w' => e = .returned (.bool false) ∧ w' = wx) := by
    intro wx
    have := finite_any d wx h0 h1
    rw [decide_eq_false (by omega)] at this
    exact this
  have D := hid (decode_any d w h0 h1)
  generalize decide (9223372036854775808 ≤ d) = neg at D
  generalize Ie.cls d = c at D
  generalize Ie.dm d = m at D
  generalize Ie.de d = x at D
  simp only [partsOf] at D
  clear hr
  go_enter Tryz.func12, Tryz.ntmps12
  go_wp2_with fail
  refine D.out.mono ?_
  rintro e w1 ⟨rfl, hB⟩
  have HB := hid hB
  clear hB D
  go_wp2_with fail
  have HB1 := hid (Below.alloc HB.out HB.out.size (.cells #[.bool neg, .int .i64 c, .int .u64 m, .int .i64 x] 47))
  generalize w1.alloc (.cells #[.bool neg, .int .i64 c, .int .u64 m, .int .i64 x] 47) = wA at *
  go_quiet ((go_at_call 34; with_reducible exact Calls.quiet_of_same (F.out _)))
  go_wp2_with fail
  go_ret
  exact ⟨rfl, below_drewN HB1.out _⟩

set_option maxRecDepth 100000 in
set_option maxHeartbeats 4000000 in
theorem integral_fin (d : Int) (w : World) (hT : Tab w) (h0 : 0 ≤ d) (h1 : d < 18446744073709551616) (hr : d % 9223372036854775808 < 9218868437227405312) (t : Nat) (ht : t ≤ 64) (m x : Int) (hm : Ie.dm d = m) (hx : Ie.de d = x) (hxb : -1074 ≤ x ∧ x ≤ 971) (hmb : 0 ≤ m ∧ m < 18446744073709551616) (hct : Lib.ctz 64 m.toNat = t) :
    Calls Tryz.prog 12 #[.int .u64 d] w fun e w' => e = .returned (.bool (decide (0 ≤ x + t))) ∧ Below w.heap.size w w' := by
  have F : Hid (∀ wx : World, Calls Tryz.prog 34 #[.int .u64 d] wx fun e w' => e = .returned (.bool true) ∧ w' = wx) := by
    intro wx
    have := finite_any d wx h0 h1
    rw [decide_eq_true hr] at this
    exact this
  have Z : Hid (∀ wx : World, Tab wx → Calls Tryz.prog 35 #[.int .u64 m] wx fun e w' => e = .returned (.int .i64 (t : Int)) ∧ w' = wx) := by
    intro wx hx
    have := tz_is m m.toNat wx (by omega) hmb.2 hx
    rw [hct] at this
    exact this
  have D := hid (decode_any d w h0 h1)
  rw [hm, hx] at D
  generalize decide (9223372036854775808 ≤ d) = neg at D
  generalize Ie.cls d = c at D
  simp only [partsOf] at D
  obtain ⟨x0, x1⟩ := hxb
  have t1 : (t : Int) ≤ 64 := by omega
  have HT := hid hT
  clear hr hm hx hmb hct hT ht
  go_enter Tryz.func12, Tryz.ntmps12
  go_wp2_with fail
  refine D.out.mono ?_
  rintro e w1 ⟨rfl, hB⟩
  have HB := hid hB
  clear hB D
  go_wp2_with fail
  have HB1 := hid (Below.alloc HB.out HB.out.size (.cells #[.bool neg, .int .i64 c, .int .u64 m, .int .i64 x] 47))
  have hg := heap_alloc_new w1 (.cells #[.bool neg, .int .i64 c, .int .u64 m, .int .i64 x] 47)
  have p2 : (w1.alloc (.cells #[.bool neg, .int .i64 c, .int .u64 m, .int .i64 x] 47)).cell? ⟨w1.heap.size, 2, none⟩ = some (.int .u64 m) := by simp only [World.cell?, hg]; rfl
  have p3 : (w1.alloc (.cells #[.bool neg, .int .i64 c, .int .u64 m, .int .i64 x] 47)).cell? ⟨w1.heap.size, 3, none⟩ = some (.int .i64 x) := by simp only [World.cell?, hg]; rfl
  clear hg
  generalize w1.alloc (.cells #[.bool neg, .int .i64 c, .int .u64 m, .int .i64 x] 47) = wA at *
  have TA := HT.out.below HB1.out
  have ZZ := hid (fun (n : Nat) => Z.out (wA.drewN n) (tab_drewN TA n))
  clear TA
  go_quiet ((first | (go_at_call 34; with_reducible exact Calls.quiet_of_same (F.out _)) | (go_at_call 35; with_reducible exact Calls.quiet_of_same (ZZ.out _))))
  go_wp2_with fail
  go_ret
  exact ⟨by simp, below_drewN HB1.out _⟩

/-- Integral. -/
theorem integral_any (d : Int) (w : World) (hT : Tab w) (h0 : 0 ≤ d) (h1 : d < 18446744073709551616) :
    Calls Tryz.prog 12 #[.int .u64 d] w fun e w' => e = .returned (.bool (Ie.intg d)) ∧ Below w.heap.size w w' := by
  by_cases hf : d % 9223372036854775808 < 9218868437227405312
  · have key : ∀ b : Bool, (b = true ↔ Ie.vl (d % 9223372036854775808) = Ie.whp (d % 9223372036854775808) * 2 ^ 1075) → Ie.intg d = b := by
      intro b hb
      rw [Ie.intg]
      cases b
      · rw [decide_eq_false_iff_not]; intro hh; have := hb.2 hh.2; cases this
      · rw [decide_eq_true_iff]; exact ⟨hf, hb.1 rfl⟩
    rcases Ie.dec_kinds d _ rfl with ⟨c, m, x, k1⟩ | ⟨c, m, x, k1, k2⟩ | ⟨c, m, x, k1, k2⟩ | ⟨c, m, x, k1⟩ | ⟨c, m, x, k1, k2⟩
    · have := integral_fin d w hT h0 h1 hf 64 (by omega) 0 0 m x (by omega) (by omega) rfl
      rw [key true ⟨fun _ => by rw [k1, Ie.vl_zero, Ie.whp_zero, Int.zero_mul], fun _ => rfl⟩]
      exact this
    · have e0 : Ie.ex (d % 9223372036854775808) = 0 := by rw [Ie.ex]; omega
      have m0 : Ie.man (d % 9223372036854775808) = d % 9223372036854775808 := by rw [Ie.man, if_pos k2]
      obtain ⟨n, hn⟩ := Int.eq_ofNat_of_zero_le (show 0 ≤ d % 9223372036854775808 by omega)
      obtain ⟨q, hq, hlt⟩ := Lib.ctzFrom_spec 64 n (by omega) (by simpa using (show n < 18446744073709551616 by omega))
      have hc : Lib.ctz 64 (d % 9223372036854775808).toNat = Lib.ctzFrom 64 n := by rw [hn, Int.toNat_natCast, Lib.ctz, if_neg (by omega)]
      have hi := Ie.intg_iff (d % 9223372036854775808) (d % 9223372036854775808) (q : Int) (Lib.ctzFrom 64 n) m0 (by rw [hn]; exact ctz_int n q _ hq)
      have := integral_fin d w hT h0 h1 hf _ (by omega) _ _ m x (by omega) (by omega) hc
      rw [key (decide (0 ≤ (-1074 : Int) + (Lib.ctzFrom 64 n : Int))) (by rw [hi, e0, decide_eq_true_iff]; omega)]
      exact this
    · have mb := Ie.man_nn (d % 9223372036854775808) (by omega)
      have mp : 0 < Ie.man (d % 9223372036854775808) := by rw [Ie.man, if_neg (by omega)]; omega
      have eb : (Ie.ex (d % 9223372036854775808) : Int) ≤ 2045 := by simp only [Ie.ex]; omega
      obtain ⟨n, hn⟩ := Int.eq_ofNat_of_zero_le mb.1
      obtain ⟨q, hq, hlt⟩ := Lib.ctzFrom_spec 64 n (by omega) (by simpa using (show n < 18446744073709551616 by omega))
      have hc : Lib.ctz 64 (Ie.man (d % 9223372036854775808)).toNat = Lib.ctzFrom 64 n := by rw [hn, Int.toNat_natCast, Lib.ctz, if_neg (by omega)]
      have hi := Ie.intg_iff (d % 9223372036854775808) _ (q : Int) (Lib.ctzFrom 64 n) hn (ctz_int n q _ hq)
      have := integral_fin d w hT h0 h1 hf _ (by omega) _ _ m x (by omega) (by omega) hc
      rw [key (decide (0 ≤ (Ie.ex (d % 9223372036854775808) : Int) - 1074 + (Lib.ctzFrom 64 n : Int))) (by rw [hi, decide_eq_true_iff])]
      exact this
    · omega
    · omega
  · have : Ie.intg d = false := by rw [Ie.intg, decide_eq_false_iff_not]; intro h; exact hf h.1
    rw [this]
    exact integral_inf d w h0 h1 (by omega)
end Go.Proofs.YtnfomlkhkggjeaaGreatDoor

/-
  cmp.Compare of two uint64; masks.
-/
namespace Go.Proofs.YtnfomlkhkggjeaaGreatDoor
open Go Go.RowKit Go.Deep

set_option maxRecDepth 100000 in
theorem uNaN_any (x : Int) (w : World) : Calls Tryz.prog 116 #[.int .u64 x] w fun e w' => e = .returned (.bool false) ∧ w' = w := by
  go_enter Tryz.func116, Tryz.ntmps116
  go_wp2
  go_ret
  exact ⟨by simp, rfl⟩

set_option maxRecDepth 100000 in
theorem ucmp_any (x y : Int) (w : World) : Calls Tryz.prog 63 #[.int .u64 x, .int .u64 y] w fun e w' => e = .returned (.int .i64 (cmpI x y)) ∧ w' = w := by
  by_cases h1 : x < y
  · have E : Hid (cmpI x y = -1) := by exact cmpI_lt h1
    go_enter Tryz.func63, Tryz.ntmps63
    go_wp2_with fail
    refine (uNaN_any x w).mono ?_
    rintro e w' ⟨rfl, rfl⟩
    go_wp2_with fail
    refine (uNaN_any y _).mono ?_
    rintro e w' ⟨rfl, rfl⟩
    go_wp2_with fail
    go_ret
    exact ⟨i_retI E.out.symm, rfl⟩
  · by_cases h2 : y < x
    · have E : Hid (cmpI x y = 1) := by exact cmpI_gt h2
      go_enter Tryz.func63, Tryz.ntmps63
      go_wp2_with fail
      refine (uNaN_any x w).mono ?_
      rintro e w' ⟨rfl, rfl⟩
      go_wp2_with fail
      refine (uNaN_any y _).mono ?_
      rintro e w' ⟨rfl, rfl⟩
      go_wp2_with fail
      go_ret
      exact ⟨i_retI E.out.symm, rfl⟩
    · have E : Hid (cmpI x y = 0) := by exact cmpI_eq (by omega)
      go_enter Tryz.func63, Tryz.ntmps63
      go_wp2_with fail
      refine (uNaN_any x w).mono ?_
      rintro e w' ⟨rfl, rfl⟩
      go_wp2_with fail
      refine (uNaN_any y _).mono ?_
      rintro e w' ⟨rfl, rfl⟩
      go_wp2_with fail
      go_ret
      exact ⟨i_retI E.out.symm, rfl⟩

namespace Ib
theorem mask_and (d : Int) (j : Nat) (h0 : 0 ≤ d) (h1 : d < 18446744073709551616) (hj : j ≤ 63) : bits .and .u64 d (2 ^ j - 1) = d % 2 ^ j := by
  obtain ⟨a, rfl⟩ := Int.eq_ofNat_of_zero_le h0
  have hp : (2 : Nat) ^ j ≤ 2 ^ 63 := Nat.pow_le_pow_right (by omega) hj
  have hq : 0 < (2 : Nat) ^ j := Nat.pow_pos (by omega)
  have e63 : (2 : Nat) ^ 63 = 9223372036854775808 := by decide
  have h := u64_and_nat a (2 ^ j - 1) (by omega) (by omega)
  have e : (((2 ^ j - 1 : Nat)) : Int) = 2 ^ j - 1 := by
    rw [Int.ofNat_sub (by omega)]; simp
  rw [e] at h
  rw [h, Nat.and_two_pow_sub_one_eq_mod]
  simp

theorem or_zero (d : Int) (h0 : 0 ≤ d) (h1 : d < 18446744073709551616) : bits .or .u64 d 0 = d := by
  obtain ⟨a, rfl⟩ := Int.eq_ofNat_of_zero_le h0
  have h := u64_or_nat a 0 (by omega) (by omega)
  rw [show ((0 : Nat) : Int) = 0 from rfl] at h
  rw [h, Nat.or_zero]
end Ib
end Go.Proofs.YtnfomlkhkggjeaaGreatDoor

/-
  remain: rounded.
-/
namespace Go.Proofs.YtnfomlkhkggjeaaGreatDoor
open Go Go.RowKit Go.Deep

/-- What a number between two whole ones goes to: W or W + 1. -/
def Ie.wup (W : Int) (up : Bool) : Int := if up = true then W + 1 else W

set_option maxRecDepth 100000 in
set_option maxHeartbeats 4000000 in
theorem rounded_T (up : Bool) (d : Int) (k s : Nat) (w : World) (hT : Tab w) (h0 : 0 ≤ d) (h1 : d < 18446744073709551616) (hf : Ie.fin d) (hi : Ie.intg d = false) (hx : Ie.de d = -(k : Int)) (k1 : 1 ≤ k) (k2 : k ≤ 1074) (hs : min k 63 = s + 1)
    (AW : ∀ wx : World, Below w.heap.size w wx → Calls Tryz.prog 36 #[.bool (Ie.dm d / 2 ^ (s + 1) % 2 == 1), .int .i64 (cmpI (Ie.dm d % 2 ^ (s + 1)) (2 ^ s))] wx fun e w' => e = .returned (.bool up) ∧ w' = wx) :
    Calls Tryz.prog 30 #[.int .u64 d, .func (Fn.func 36) #[] #[]] w fun e w' => ∃ y, e = .returned (.int .u64 (Ie.sg (Ie.ngd d) y)) ∧ Hid (Ie.Rnd (Ie.wup (Ie.dm d / 2 ^ (s + 1)) up) 1 0 false y) ∧ Below w.heap.size w w' := by
  have NN := hid (fun (wx : World) => mnan_any d wx h0 h1)
  have NI := hid (fun (wx : World) => minfinite_any d wx h0 h1)
  rw [(Ie.fin_kinds hf).1] at NN
  rw [(Ie.fin_kinds hf).2] at NI
  have IG := hid (fun (wx : World) (hx : Tab wx) => integral_any d wx hx h0 h1)
  rw [hi] at IG
  have D := hid (fun (wx : World) => decode_any d wx h0 h1)
  rw [← Ie.ngd, hx] at D
  obtain ⟨⟨m0, m1⟩, ⟨e0, e1⟩, -, -⟩ := Ie.dec_f d hf
  have HT := hid hT
  have WK : IntKind.i64.wrap (k : Int) = (k : Int) := by rw [IntKind.wrap_i64]; omega
  have hd : min (k : Int) 63 = ((s + 1 : Nat) : Int) := by omega
  obtain ⟨H, hH⟩ : ∃ H, IntKind.u64.wrap (2 ^ s) = H := ⟨_, rfl⟩
  have HB0 : 1 ≤ H ∧ H ≤ 4611686018427387904 ∧ H = 2 ^ s := by
    have g1 := Nm.two_mono (show s ≤ 62 by omega)
    have g2 := Nm.two_pos s
    have e62 : (2 : Int) ^ 62 = 4611686018427387904 := by decide
    rw [IntKind.wrap_u64, Int.emod_eq_of_lt (by omega) (by omega)] at hH
    exact ⟨by omega, by omega, hH.symm⟩
  obtain ⟨H0, H1, H2⟩ := HB0
  have HH2 := hid H2
  have hR : bits .and .u64 (Ie.dm d) (2 * H - 1) = Ie.dm d % 2 ^ (s + 1) := by
    have e : 2 * H - 1 = 2 ^ (s + 1) - 1 := by rw [H2, Nm.two_succ]
    rw [e]
    exact Ib.mask_and _ (s + 1) m0 (by omega) (by omega)
  rw [← H2] at AW
  obtain ⟨W, hW⟩ : ∃ W, Ie.dm d / 2 ^ (s + 1) = W := ⟨_, rfl⟩
  obtain ⟨R, hR2⟩ : ∃ R, Ie.dm d % 2 ^ (s + 1) = R := ⟨_, rfl⟩
  rw [hW, hR2] at AW
  rw [hR2] at hR
  rw [hW]
  have W0 : 0 ≤ W ∧ W < 9007199254740992 := by
    rw [← hW]
    have := Nm.two_pos (s + 1)
    exact ⟨Int.ediv_nonneg m0 (by omega), by have := Int.ediv_le_self (2 ^ (s + 1)) m0; omega⟩
  obtain ⟨W0, W1⟩ := W0
  have OA := Ib.one_and W W0 (by omega)
  have UC := hid (fun (wx : World) => ucmp_any R H wx)
  have AW := hid AW
  have SA := Ib.sign_and d h0 h1
  have FU : Hid (∀ wx : World, Tab wx → Calls Tryz.prog 64 #[.int .u64 (Ie.wup W up)] wx fun e w' => ∃ x, e = .returned (.int .u64 x) ∧ Ie.Rnd (Ie.wup W up) 1 0 false x ∧ Below wx.heap.size wx w') := by
    intro wx hx
    exact fromU_any _ wx hx (by rw [Ie.wup]; split <;> omega) (by rw [Ie.wup]; split <;> omega)
  have OR : Hid (∀ y : Int, Ie.Rnd (Ie.wup W up) 1 0 false y → bits .or .u64 y (d / 9223372036854775808 * 9223372036854775808) = Ie.sg (Ie.ngd d) y) := by
    intro y hy
    have b := hy.bd
    rcases (show d < 9223372036854775808 ∨ 9223372036854775808 ≤ d by omega) with g | g
    · rw [show d / 9223372036854775808 * 9223372036854775808 = 0 by omega, Ib.or_zero y b.1 (by omega), Ie.ngd, decide_eq_false (by omega)]; rfl
    · rw [show d / 9223372036854775808 * 9223372036854775808 = 9223372036854775808 by omega, Ib.sign_or y b.1 (by omega), Ie.ngd, decide_eq_true (by omega)]; rfl
  clear H2
  clear hT hf e0 e1 hi hx hs hR2
  simp only [partsOf] at D
  generalize Ie.ngd d = neg at *
  generalize Ie.dm d = m at *
  generalize d / 9223372036854775808 * 9223372036854775808 = sv at *
  generalize Ie.cls d = c at *
  go_enter Tryz.func30, Tryz.ntmps30
  go_wp2_with fail
  refine (NN.out _).mono ?_
  rintro e wz ⟨rfl, hz⟩
  replace hz := hz.symm
  subst hz
  go_wp2_with fail
  refine (NI.out _).mono ?_
  rintro e wz ⟨rfl, hz⟩
  replace hz := hz.symm
  subst hz
  go_wp2_with fail
  refine (IG.out _ HT.out).mono ?_
  rintro e w0 ⟨rfl, hB0⟩
  go_wp2_with fail
  refine (D.out _).mono ?_
  rintro e w1 ⟨rfl, hB1⟩
  have HB1 := hid (hB0.trans (hB1.mono hB0.size))
  clear hB0 hB1 NN NI D IG
  go_upto_region 6 with fail
  have hb := HB1.out.trans ((alloc_b w1 (.cells #[.bool neg, .int .i64 c, .int .u64 m, .int .i64 (-(k : Int))] 47)).mono HB1.out.size)
  have P := Row4.new w1 47 (.bool neg) (.int .i64 c) (.int .u64 m) (.int .i64 (-(k : Int)))
  have HT1 := hid (HT.out.below hb)
  have HB2 := hid hb
  obtain ⟨⟨-, -, p2, p3⟩, -⟩ := P.cells
  clear P hb HT HB1
  generalize w1.alloc (.cells #[.bool neg, .int .i64 c, .int .u64 m, .int .i64 (-(k : Int))] 47) = wA at *
  generalize w1.heap.size = b at *
  go_upto_region 8 with fail
  go_region
  have HT2 := hid (HT1.out.below (drew_nil wA))
  have HB3 := hid (HB2.out.trans ((drew_nil wA).mono HB2.out.size))
  clear HT1 HB2 p2 p3 hR hW
  generalize wA.drew = wB at *
  go_wp2_with fail
  refine (UC.out _).mono ?_
  rintro e wz ⟨rfl, hz⟩
  replace hz := hz.symm
  subst hz
  go_wp2_with fail
  refine (AW.out _ HB3.out).mono ?_
  rintro e wz ⟨rfl, hz⟩
  replace hz := hz.symm
  subst hz
  clear AW UC
  cases up
  · simp only [Ie.wup, Bool.false_eq_true, if_false] at FU OR ⊢
    go_wp2_with fail
    refine (FU.out _ HT2.out).mono ?_
    rintro e w5 ⟨y, rfl, hy, hB⟩
    have E := OR.out y hy
    have HY := hid hy
    have HB4 := hid (HB3.out.trans (hB.mono HB3.out.size))
    clear hy hB FU OR HB3
    go_wp2_with fail
    go_ret
    exact ⟨_, rfl, HY.out, HB4.out⟩
  · simp only [Ie.wup, if_true] at FU OR ⊢
    go_wp2_with fail
    refine (FU.out _ HT2.out).mono ?_
    rintro e w5 ⟨y, rfl, hy, hB⟩
    have E := OR.out y hy
    have HY := hid hy
    have HB4 := hid (HB3.out.trans (hB.mono HB3.out.size))
    clear hy hB FU OR HB3
    go_wp2_with fail
    go_ret
    exact ⟨_, rfl, HY.out, HB4.out⟩
end Go.Proofs.YtnfomlkhkggjeaaGreatDoor

/-
  remain: rounded where nothing is to be rounded; Trunc.
-/
namespace Go.Proofs.YtnfomlkhkggjeaaGreatDoor
open Go Go.RowKit Go.Deep

namespace Ie
theorem intg_iff_un {d : Int} (hf : fin d) : intg d = true ↔ un (ab d) % 2 ^ 1074 = 0 := by
  rw [intg, decide_eq_true_iff, ← intg_un, whp, ab]
  exact ⟨fun h => h.2, fun h => ⟨hf, h⟩⟩

theorem cmpI_iff {a b c d : Int} (h1 : a < b ↔ c < d) (h2 : a = b ↔ c = d) : cmpI a b = cmpI c d := by
  by_cases g1 : a < b
  · rw [cmpI_lt g1, cmpI_lt (h1.1 g1)]
  · by_cases g2 : a = b
    · rw [cmpI_eq g2, cmpI_eq (h2.1 g2)]
    · have k1 : ¬ c < d := fun h => g1 (h1.2 h)
      have k2 : ¬ c = d := fun h => g2 (h2.2 h)
      rw [cmpI_gt (by omega), cmpI_gt (by omega)]

/-- A number that isn't whole has bits behind the point. -/
theorem frac_k {d : Int} (hf : fin d) (hi : intg d = false) : ∃ k s : Nat, de d = -(k : Int) ∧ 1 ≤ k ∧ k ≤ 1074 ∧ min k 63 = s + 1 ∧ dm d / 2 ^ (s + 1) = un (ab d) / 2 ^ 1074 ∧ cmpI (dm d % 2 ^ (s + 1)) (2 ^ s) = cmpI (un (ab d) % 2 ^ 1074) (2 ^ 1073) := by
  obtain ⟨⟨m0, m1⟩, ⟨e0, e1⟩, g, -⟩ := dec_f d hf
  have hn : ¬ un (ab d) % 2 ^ 1074 = 0 := fun h => by rw [(intg_iff_un hf).2 h] at hi; cases hi
  have neg : de d < 0 := by
    rcases (show de d < 0 ∨ 0 ≤ de d by omega) with h | h
    · exact h
    · exfalso
      obtain ⟨j, hj⟩ : ∃ j : Nat, (j : Int) = de d := ⟨(de d).toNat, by omega⟩
      apply hn
      rw [← g (j + 1074) (by omega), Nm.two_add, ← Int.mul_assoc]
      exact Int.mul_emod_left _ _
  obtain ⟨k, hk⟩ : ∃ k : Nat, de d = -(k : Int) := ⟨(-de d).toNat, by omega⟩
  obtain ⟨s, hs⟩ : ∃ s : Nat, min k 63 = s + 1 := ⟨min k 63 - 1, by omega⟩
  obtain ⟨q1, q2, q3⟩ := whole_cut (U := un (ab d)) (k := k) (dr := s + 1) m0 m1 (by omega) (by omega) hs.symm (g (1074 - k) (by omega)).symm
  exact ⟨k, s, hk, by omega, by omega, hs, q1, cmpI_iff q2 q3⟩

/-- One of the two whole numbers beside d. -/
def WIs (d : Int) (up : Bool) (r : Int) : Prop :=
  (isn d = true → r = 9221120237041090560) ∧ (isi d = true → r = d) ∧
  (fin d → ∃ y, r = sg (ngd d) y ∧ 0 ≤ y ∧ y < 9218868437227405312 ∧ (intg d = true → y = ab d) ∧ (intg d = false → un y = wup (un (ab d) / 2 ^ 1074) up * 2 ^ 1074))

theorem sg_ab (d : Int) (h0 : 0 ≤ d) (h1 : d < 18446744073709551616) : d = sg (ngd d) (ab d) := by
  have := sb_ab d h0 h1
  exact this

theorem un_half {d : Int} (hf : fin d) (hi : intg d = false) : 0 ≤ un (ab d) / 2 ^ 1074 ∧ un (ab d) / 2 ^ 1074 + 1 < 9007199254740992 := by
  obtain ⟨⟨m0, m1⟩, -, -, -⟩ := dec_f d hf
  obtain ⟨k, s, -, -, -, -, q, -⟩ := frac_k hf hi
  rw [← q]
  have hp := Nm.two_pos (s + 1)
  refine ⟨Int.ediv_nonneg m0 (by omega), ?_⟩
  have h2 : (2 : Int) ^ (s + 1) = 2 ^ s * 2 := by rw [Nm.two_succ, Int.mul_comm]
  have hs := Nm.two_pos s
  have : dm d / 2 ^ (s + 1) < 4503599627370496 := by
    refine Int.ediv_lt_of_lt_mul hp ?_
    generalize (2 : Int) ^ (s + 1) = A at *
    generalize (2 : Int) ^ s = B at *
    omega
  omega

theorem wup_bd {W : Int} (up : Bool) (h0 : 0 ≤ W) (h1 : W + 1 < 9007199254740992) : 0 ≤ wup W up ∧ wup W up < 9007199254740992 := by
  rw [wup]; split <;> omega

theorem wis_fin {d y : Int} {up : Bool} (hf : fin d) (hi : intg d = false) (h : Rnd (wup (un (ab d) / 2 ^ 1074) up) 1 0 false y) : WIs d up (sg (ngd d) y) := by
  have b := un_half hf hi
  obtain ⟨q, q0, q1⟩ := rnd_rep (c := 1074) (by omega) (wup_bd up b.1 b.2).1 (wup_bd up b.1 b.2).2 (by omega) h
  refine ⟨fun g => ?_, fun g => ?_, fun _ => ⟨y, rfl, q0, q1, fun g => ?_, fun _ => q⟩⟩
  · rw [(fin_kinds hf).1] at g; cases g
  · rw [(fin_kinds hf).2] at g; cases g
  · rw [hi] at g; cases g

theorem wis_stay {d : Int} (up : Bool) (h0 : 0 ≤ d) (h1 : d < 18446744073709551616) (h : isi d = true ∨ (fin d ∧ intg d = true)) : WIs d up d := by
  refine ⟨fun g => ?_, fun _ => rfl, fun hf => ?_⟩
  · rcases h with h | h
    · simp only [isn, isi, decide_eq_true_iff] at h g; omega
    · rw [(fin_kinds h.1).1] at g; cases g
  · rcases h with h | h
    · rw [(fin_kinds hf).2] at h; cases h
    · exact ⟨ab d, sg_ab d h0 h1, (ab_bd d).1, hf, fun _ => rfl, fun g => by rw [h.2] at g; cases g⟩
end Ie

set_option maxRecDepth 100000 in
theorem rounded_stay (fv : Value) (up : Bool) (d : Int) (w : World) (hT : Tab w) (h0 : 0 ≤ d) (h1 : d < 18446744073709551616) (h : Ie.fin d → Ie.intg d = true) :
    Calls Tryz.prog 30 #[.int .u64 d, fv] w fun e w' => ∃ r, e = .returned (.int .u64 r) ∧ Ie.WIs d up r ∧ Below w.heap.size w w' := by
  have NN := hid (fun (wx : World) => mnan_any d wx h0 h1)
  have NI := hid (fun (wx : World) => minfinite_any d wx h0 h1)
  have IG := hid (fun (wx : World) (hx : Tab wx) => integral_any d wx hx h0 h1)
  have HT := hid hT
  rcases Ie.kinds d with g | ⟨g, g', g''⟩ | ⟨g, g', g''⟩
  · have E : Hid (Ie.WIs d up 9221120237041090560) := ⟨fun _ => rfl, fun k => (by simp only [Ie.isn, Ie.isi, decide_eq_true_iff] at g k; omega), fun k => (by simp only [Ie.isn, Ie.fin, decide_eq_true_iff] at g k; omega)⟩
    rw [g] at NN
    clear g h
    go_enter Tryz.func30, Tryz.ntmps30
    go_wp2_with fail
    refine (NN.out _).mono ?_
    rintro e wz ⟨rfl, hz⟩
    replace hz := hz.symm
    subst hz
    go_wp2_with fail
    go_ret
    exact ⟨_, rfl, E.out, Below.refl _ _⟩
  · have E := hid (Ie.wis_stay up h0 h1 (.inl g'))
    rw [g] at NN
    rw [g'] at NI
    clear g g' g'' h
    go_enter Tryz.func30, Tryz.ntmps30
    go_wp2_with fail
    refine (NN.out _).mono ?_
    rintro e wz ⟨rfl, hz⟩
    replace hz := hz.symm
    subst hz
    go_wp2_with fail
    refine (NI.out _).mono ?_
    rintro e wz ⟨rfl, hz⟩
    replace hz := hz.symm
    subst hz
    go_wp2_with fail
    go_ret
    exact ⟨_, rfl, E.out, Below.refl _ _⟩
  · have E := hid (Ie.wis_stay up h0 h1 (.inr ⟨g'', h g''⟩))
    rw [g] at NN
    rw [g'] at NI
    rw [h g''] at IG
    clear g g' g'' h
    go_enter Tryz.func30, Tryz.ntmps30
    go_wp2_with fail
    refine (NN.out _).mono ?_
    rintro e wz ⟨rfl, hz⟩
    replace hz := hz.symm
    subst hz
    go_wp2_with fail
    refine (NI.out _).mono ?_
    rintro e wz ⟨rfl, hz⟩
    replace hz := hz.symm
    subst hz
    go_wp2_with fail
    refine (IG.out _ HT.out).mono ?_
    rintro e w1 ⟨rfl, hB⟩
    have HB := hid hB
    clear hB
    go_wp2_with fail
    go_ret
    exact ⟨_, rfl, E.out, HB.out⟩

set_option maxRecDepth 100000 in
theorem truncRule_any (a b : Value) (w : World) : Calls Tryz.prog 36 #[a, b] w fun e w' => e = .returned (.bool false) ∧ w' = w := by
  go_enter Tryz.func36, Tryz.ntmps36
  go_wp2_with fail
  go_ret
  exact ⟨rfl, rfl⟩

theorem roundedT_any (d : Int) (w : World) (hT : Tab w) (h0 : 0 ≤ d) (h1 : d < 18446744073709551616) :
    Calls Tryz.prog 30 #[.int .u64 d, .func (Fn.func 36) #[] #[]] w fun e w' => ∃ r, e = .returned (.int .u64 r) ∧ Ie.WIs d false r ∧ Below w.heap.size w w' := by
  by_cases hi : Ie.fin d ∧ Ie.intg d = false
  · obtain ⟨hf, hi⟩ := hi
    obtain ⟨k, s, q1, q2, q3, q4, q5, q6⟩ := Ie.frac_k hf hi
    refine (rounded_T false d k s w hT h0 h1 hf hi q1 q2 q3 q4 (fun wx _ => truncRule_any _ _ wx)).mono ?_
    rintro e w' ⟨y, rfl, hy, hB⟩
    rw [q5] at hy
    exact ⟨_, rfl, Ie.wis_fin hf hi hy.out, hB⟩
  · refine rounded_stay _ false d w hT h0 h1 (fun hf => ?_)
    cases g : Ie.intg d
    · exact absurd ⟨hf, g⟩ hi
    · rfl

set_option maxRecDepth 100000 in
theorem trunc_any (d : Int) (w : World) (hT : Tab w) (h0 : 0 ≤ d) (h1 : d < 18446744073709551616) :
    Calls Tryz.prog 14 #[.int .u64 d] w fun e w' => ∃ r, e = .returned (.int .u64 r) ∧ Ie.WIs d false r ∧ Below w.heap.size w w' := by
  have R := hid (roundedT_any d w hT h0 h1)
  clear hT
  go_enter Tryz.func14, Tryz.ntmps14
  go_wp2_with fail
  refine R.out.mono ?_
  rintro e w' ⟨r, rfl, h⟩
  have H := hid h
  clear h
  go_wp2_with fail
  go_ret
  exact ⟨_, rfl, H.out⟩
end Go.Proofs.YtnfomlkhkggjeaaGreatDoor

/-
  remain: rounded, by the other three rules.
-/
namespace Go.Proofs.YtnfomlkhkggjeaaGreatDoor
open Go Go.RowKit Go.Deep

set_option maxRecDepth 100000 in
set_option maxHeartbeats 4000000 in
theorem rounded_N (up : Bool) (d : Int) (k s : Nat) (w : World) (hT : Tab w) (h0 : 0 ≤ d) (h1 : d < 18446744073709551616) (hf : Ie.fin d) (hi : Ie.intg d = false) (hx : Ie.de d = -(k : Int)) (k1 : 1 ≤ k) (k2 : k ≤ 1074) (hs : min k 63 = s + 1)
    (AW : ∀ wx : World, Below w.heap.size w wx → Calls Tryz.prog 37 #[.bool (Ie.dm d / 2 ^ (s + 1) % 2 == 1), .int .i64 (cmpI (Ie.dm d % 2 ^ (s + 1)) (2 ^ s))] wx fun e w' => e = .returned (.bool up) ∧ w' = wx) :
    Calls Tryz.prog 30 #[.int .u64 d, .func (Fn.func 37) #[] #[]] w fun e w' => ∃ y, e = .returned (.int .u64 (Ie.sg (Ie.ngd d) y)) ∧ Hid (Ie.Rnd (Ie.wup (Ie.dm d / 2 ^ (s + 1)) up) 1 0 false y) ∧ Below w.heap.size w w' := by
  have NN := hid (fun (wx : World) => mnan_any d wx h0 h1)
  have NI := hid (fun (wx : World) => minfinite_any d wx h0 h1)
  rw [(Ie.fin_kinds hf).1] at NN
  rw [(Ie.fin_kinds hf).2] at NI
  have IG := hid (fun (wx : World) (hx : Tab wx) => integral_any d wx hx h0 h1)
  rw [hi] at IG
  have D := hid (fun (wx : World) => decode_any d wx h0 h1)
  rw [← Ie.ngd, hx] at D
  obtain ⟨⟨m0, m1⟩, ⟨e0, e1⟩, -, -⟩ := Ie.dec_f d hf
  have HT := hid hT
  have WK : IntKind.i64.wrap (k : Int) = (k : Int) := by rw [IntKind.wrap_i64]; omega
  have hd : min (k : Int) 63 = ((s + 1 : Nat) : Int) := by omega
  obtain ⟨H, hH⟩ : ∃ H, IntKind.u64.wrap (2 ^ s) = H := ⟨_, rfl⟩
  have HB0 : 1 ≤ H ∧ H ≤ 4611686018427387904 ∧ H = 2 ^ s := by
    have g1 := Nm.two_mono (show s ≤ 62 by omega)
    have g2 := Nm.two_pos s
    have e62 : (2 : Int) ^ 62 = 4611686018427387904 := by decide
    rw [IntKind.wrap_u64, Int.emod_eq_of_lt (by omega) (by omega)] at hH
    exact ⟨by omega, by omega, hH.symm⟩
  obtain ⟨H0, H1, H2⟩ := HB0
  have HH2 := hid H2
  have hR : bits .and .u64 (Ie.dm d) (2 * H - 1) = Ie.dm d % 2 ^ (s + 1) := by
    have e : 2 * H - 1 = 2 ^ (s + 1) - 1 := by rw [H2, Nm.two_succ]
    rw [e]
    exact Ib.mask_and _ (s + 1) m0 (by omega) (by omega)
  rw [← H2] at AW
  obtain ⟨W, hW⟩ : ∃ W, Ie.dm d / 2 ^ (s + 1) = W := ⟨_, rfl⟩
  obtain ⟨R, hR2⟩ : ∃ R, Ie.dm d % 2 ^ (s + 1) = R := ⟨_, rfl⟩
  rw [hW, hR2] at AW
  rw [hR2] at hR
  rw [hW]
  have W0 : 0 ≤ W ∧ W < 9007199254740992 := by
    rw [← hW]
    have := Nm.two_pos (s + 1)
    exact ⟨Int.ediv_nonneg m0 (by omega), by have := Int.ediv_le_self (2 ^ (s + 1)) m0; omega⟩
  obtain ⟨W0, W1⟩ := W0
  have OA := Ib.one_and W W0 (by omega)
  have UC := hid (fun (wx : World) => ucmp_any R H wx)
  have AW := hid AW
  have SA := Ib.sign_and d h0 h1
  have FU : Hid (∀ wx : World, Tab wx → Calls Tryz.prog 64 #[.int .u64 (Ie.wup W up)] wx fun e w' => ∃ x, e = .returned (.int .u64 x) ∧ Ie.Rnd (Ie.wup W up) 1 0 false x ∧ Below wx.heap.size wx w') := by
    intro wx hx
    exact fromU_any _ wx hx (by rw [Ie.wup]; split <;> omega) (by rw [Ie.wup]; split <;> omega)
  have OR : Hid (∀ y : Int, Ie.Rnd (Ie.wup W up) 1 0 false y → bits .or .u64 y (d / 9223372036854775808 * 9223372036854775808) = Ie.sg (Ie.ngd d) y) := by
    intro y hy
    have b := hy.bd
    rcases (show d < 9223372036854775808 ∨ 9223372036854775808 ≤ d by omega) with g | g
    · rw [show d / 9223372036854775808 * 9223372036854775808 = 0 by omega, Ib.or_zero y b.1 (by omega), Ie.ngd, decide_eq_false (by omega)]; rfl
    · rw [show d / 9223372036854775808 * 9223372036854775808 = 9223372036854775808 by omega, Ib.sign_or y b.1 (by omega), Ie.ngd, decide_eq_true (by omega)]; rfl
  clear H2
  clear hT hf e0 e1 hi hx hs hR2
  simp only [partsOf] at D
  generalize Ie.ngd d = neg at *
  generalize Ie.dm d = m at *
  generalize d / 9223372036854775808 * 9223372036854775808 = sv at *
  generalize Ie.cls d = c at *
  go_enter Tryz.func30, Tryz.ntmps30
  go_wp2_with fail
  refine (NN.out _).mono ?_
  rintro e wz ⟨rfl, hz⟩
  replace hz := hz.symm
  subst hz
  go_wp2_with fail
  refine (NI.out _).mono ?_
  rintro e wz ⟨rfl, hz⟩
  replace hz := hz.symm
  subst hz
  go_wp2_with fail
  refine (IG.out _ HT.out).mono ?_
  rintro e w0 ⟨rfl, hB0⟩
  go_wp2_with fail
  refine (D.out _).mono ?_
  rintro e w1 ⟨rfl, hB1⟩
  have HB1 := hid (hB0.trans (hB1.mono hB0.size))
  clear hB0 hB1 NN NI D IG
  go_upto_region 6 with fail
  have hb := HB1.out.trans ((alloc_b w1 (.cells #[.bool neg, .int .i64 c, .int .u64 m, .int .i64 (-(k : Int))] 47)).mono HB1.out.size)
  have P := Row4.new w1 47 (.bool neg) (.int .i64 c) (.int .u64 m) (.int .i64 (-(k : Int)))
  have HT1 := hid (HT.out.below hb)
  have HB2 := hid hb
  obtain ⟨⟨-, -, p2, p3⟩, -⟩ := P.cells
  clear P hb HT HB1
  generalize w1.alloc (.cells #[.bool neg, .int .i64 c, .int .u64 m, .int .i64 (-(k : Int))] 47) = wA at *
  generalize w1.heap.size = b at *
  go_upto_region 8 with fail
  go_region
  have HT2 := hid (HT1.out.below (drew_nil wA))
  have HB3 := hid (HB2.out.trans ((drew_nil wA).mono HB2.out.size))
  clear HT1 HB2 p2 p3 hR hW
  generalize wA.drew = wB at *
  go_wp2_with fail
  refine (UC.out _).mono ?_
  rintro e wz ⟨rfl, hz⟩
  replace hz := hz.symm
  subst hz
  go_wp2_with fail
  refine (AW.out _ HB3.out).mono ?_
  rintro e wz ⟨rfl, hz⟩
  replace hz := hz.symm
  subst hz
  clear AW UC
  cases up
  · simp only [Ie.wup, Bool.false_eq_true, if_false] at FU OR ⊢
    go_wp2_with fail
    refine (FU.out _ HT2.out).mono ?_
    rintro e w5 ⟨y, rfl, hy, hB⟩
    have E := OR.out y hy
    have HY := hid hy
    have HB4 := hid (HB3.out.trans (hB.mono HB3.out.size))
    clear hy hB FU OR HB3
    go_wp2_with fail
    go_ret
    exact ⟨_, rfl, HY.out, HB4.out⟩
  · simp only [Ie.wup, if_true] at FU OR ⊢
    go_wp2_with fail
    refine (FU.out _ HT2.out).mono ?_
    rintro e w5 ⟨y, rfl, hy, hB⟩
    have E := OR.out y hy
    have HY := hid hy
    have HB4 := hid (HB3.out.trans (hB.mono HB3.out.size))
    clear hy hB FU OR HB3
    go_wp2_with fail
    go_ret
    exact ⟨_, rfl, HY.out, HB4.out⟩
set_option maxRecDepth 100000 in
set_option maxHeartbeats 4000000 in
theorem rounded_F (cp : Addr) (up : Bool) (d : Int) (k s : Nat) (w : World) (hT : Tab w) (h0 : 0 ≤ d) (h1 : d < 18446744073709551616) (hf : Ie.fin d) (hi : Ie.intg d = false) (hx : Ie.de d = -(k : Int)) (k1 : 1 ≤ k) (k2 : k ≤ 1074) (hs : min k 63 = s + 1)
    (AW : ∀ wx : World, Below w.heap.size w wx → Calls Tryz.prog 31 #[.bool (Ie.dm d / 2 ^ (s + 1) % 2 == 1), .int .i64 (cmpI (Ie.dm d % 2 ^ (s + 1)) (2 ^ s)), .pointer (some cp)] wx fun e w' => e = .returned (.bool up) ∧ w' = wx) :
    Calls Tryz.prog 30 #[.int .u64 d, .func (Fn.func 31) #[] #[.pointer (some cp)]] w fun e w' => ∃ y, e = .returned (.int .u64 (Ie.sg (Ie.ngd d) y)) ∧ Hid (Ie.Rnd (Ie.wup (Ie.dm d / 2 ^ (s + 1)) up) 1 0 false y) ∧ Below w.heap.size w w' := by
  have NN := hid (fun (wx : World) => mnan_any d wx h0 h1)
  have NI := hid (fun (wx : World) => minfinite_any d wx h0 h1)
  rw [(Ie.fin_kinds hf).1] at NN
  rw [(Ie.fin_kinds hf).2] at NI
  have IG := hid (fun (wx : World) (hx : Tab wx) => integral_any d wx hx h0 h1)
  rw [hi] at IG
  have D := hid (fun (wx : World) => decode_any d wx h0 h1)
  rw [← Ie.ngd, hx] at D
  obtain ⟨⟨m0, m1⟩, ⟨e0, e1⟩, -, -⟩ := Ie.dec_f d hf
  have HT := hid hT
  have WK : IntKind.i64.wrap (k : Int) = (k : Int) := by rw [IntKind.wrap_i64]; omega
  have hd : min (k : Int) 63 = ((s + 1 : Nat) : Int) := by omega
  obtain ⟨H, hH⟩ : ∃ H, IntKind.u64.wrap (2 ^ s) = H := ⟨_, rfl⟩
  have HB0 : 1 ≤ H ∧ H ≤ 4611686018427387904 ∧ H = 2 ^ s := by
    have g1 := Nm.two_mono (show s ≤ 62 by omega)
    have g2 := Nm.two_pos s
    have e62 : (2 : Int) ^ 62 = 4611686018427387904 := by decide
    rw [IntKind.wrap_u64, Int.emod_eq_of_lt (by omega) (by omega)] at hH
    exact ⟨by omega, by omega, hH.symm⟩
  obtain ⟨H0, H1, H2⟩ := HB0
  have HH2 := hid H2
  have hR : bits .and .u64 (Ie.dm d) (2 * H - 1) = Ie.dm d % 2 ^ (s + 1) := by
    have e : 2 * H - 1 = 2 ^ (s + 1) - 1 := by rw [H2, Nm.two_succ]
    rw [e]
    exact Ib.mask_and _ (s + 1) m0 (by omega) (by omega)
  rw [← H2] at AW
  obtain ⟨W, hW⟩ : ∃ W, Ie.dm d / 2 ^ (s + 1) = W := ⟨_, rfl⟩
  obtain ⟨R, hR2⟩ : ∃ R, Ie.dm d % 2 ^ (s + 1) = R := ⟨_, rfl⟩
  rw [hW, hR2] at AW
  rw [hR2] at hR
  rw [hW]
  have W0 : 0 ≤ W ∧ W < 9007199254740992 := by
    rw [← hW]
    have := Nm.two_pos (s + 1)
    exact ⟨Int.ediv_nonneg m0 (by omega), by have := Int.ediv_le_self (2 ^ (s + 1)) m0; omega⟩
  obtain ⟨W0, W1⟩ := W0
  have OA := Ib.one_and W W0 (by omega)
  have UC := hid (fun (wx : World) => ucmp_any R H wx)
  have AW := hid AW
  have SA := Ib.sign_and d h0 h1
  have FU : Hid (∀ wx : World, Tab wx → Calls Tryz.prog 64 #[.int .u64 (Ie.wup W up)] wx fun e w' => ∃ x, e = .returned (.int .u64 x) ∧ Ie.Rnd (Ie.wup W up) 1 0 false x ∧ Below wx.heap.size wx w') := by
    intro wx hx
    exact fromU_any _ wx hx (by rw [Ie.wup]; split <;> omega) (by rw [Ie.wup]; split <;> omega)
  have OR : Hid (∀ y : Int, Ie.Rnd (Ie.wup W up) 1 0 false y → bits .or .u64 y (d / 9223372036854775808 * 9223372036854775808) = Ie.sg (Ie.ngd d) y) := by
    intro y hy
    have b := hy.bd
    rcases (show d < 9223372036854775808 ∨ 9223372036854775808 ≤ d by omega) with g | g
    · rw [show d / 9223372036854775808 * 9223372036854775808 = 0 by omega, Ib.or_zero y b.1 (by omega), Ie.ngd, decide_eq_false (by omega)]; rfl
    · rw [show d / 9223372036854775808 * 9223372036854775808 = 9223372036854775808 by omega, Ib.sign_or y b.1 (by omega), Ie.ngd, decide_eq_true (by omega)]; rfl
  clear H2
  clear hT hf e0 e1 hi hx hs hR2
  simp only [partsOf] at D
  generalize Ie.ngd d = neg at *
  generalize Ie.dm d = m at *
  generalize d / 9223372036854775808 * 9223372036854775808 = sv at *
  generalize Ie.cls d = c at *
  go_enter Tryz.func30, Tryz.ntmps30
  go_wp2_with fail
  refine (NN.out _).mono ?_
  rintro e wz ⟨rfl, hz⟩
  replace hz := hz.symm
  subst hz
  go_wp2_with fail
  refine (NI.out _).mono ?_
  rintro e wz ⟨rfl, hz⟩
  replace hz := hz.symm
  subst hz
  go_wp2_with fail
  refine (IG.out _ HT.out).mono ?_
  rintro e w0 ⟨rfl, hB0⟩
  go_wp2_with fail
  refine (D.out _).mono ?_
  rintro e w1 ⟨rfl, hB1⟩
  have HB1 := hid (hB0.trans (hB1.mono hB0.size))
  clear hB0 hB1 NN NI D IG
  go_upto_region 6 with fail
  have hb := HB1.out.trans ((alloc_b w1 (.cells #[.bool neg, .int .i64 c, .int .u64 m, .int .i64 (-(k : Int))] 47)).mono HB1.out.size)
  have P := Row4.new w1 47 (.bool neg) (.int .i64 c) (.int .u64 m) (.int .i64 (-(k : Int)))
  have HT1 := hid (HT.out.below hb)
  have HB2 := hid hb
  obtain ⟨⟨-, -, p2, p3⟩, -⟩ := P.cells
  clear P hb HT HB1
  generalize w1.alloc (.cells #[.bool neg, .int .i64 c, .int .u64 m, .int .i64 (-(k : Int))] 47) = wA at *
  generalize w1.heap.size = b at *
  go_upto_region 8 with fail
  go_region
  have HT2 := hid (HT1.out.below (drew_nil wA))
  have HB3 := hid (HB2.out.trans ((drew_nil wA).mono HB2.out.size))
  clear HT1 HB2 p2 p3 hR hW
  generalize wA.drew = wB at *
  go_wp2_with fail
  refine (UC.out _).mono ?_
  rintro e wz ⟨rfl, hz⟩
  replace hz := hz.symm
  subst hz
  go_wp2_with fail
  refine (AW.out _ HB3.out).mono ?_
  rintro e wz ⟨rfl, hz⟩
  replace hz := hz.symm
  subst hz
  clear AW UC
  cases up
  · simp only [Ie.wup, Bool.false_eq_true, if_false] at FU OR ⊢
    go_wp2_with fail
    refine (FU.out _ HT2.out).mono ?_
    rintro e w5 ⟨y, rfl, hy, hB⟩
    have E := OR.out y hy
    have HY := hid hy
    have HB4 := hid (HB3.out.trans (hB.mono HB3.out.size))
    clear hy hB FU OR HB3
    go_wp2_with fail
    go_ret
    exact ⟨_, rfl, HY.out, HB4.out⟩
  · simp only [Ie.wup, if_true] at FU OR ⊢
    go_wp2_with fail
    refine (FU.out _ HT2.out).mono ?_
    rintro e w5 ⟨y, rfl, hy, hB⟩
    have E := OR.out y hy
    have HY := hid hy
    have HB4 := hid (HB3.out.trans (hB.mono HB3.out.size))
    clear hy hB FU OR HB3
    go_wp2_with fail
    go_ret
    exact ⟨_, rfl, HY.out, HB4.out⟩
set_option maxRecDepth 100000 in
set_option maxHeartbeats 4000000 in
theorem rounded_C (cp : Addr) (up : Bool) (d : Int) (k s : Nat) (w : World) (hT : Tab w) (h0 : 0 ≤ d) (h1 : d < 18446744073709551616) (hf : Ie.fin d) (hi : Ie.intg d = false) (hx : Ie.de d = -(k : Int)) (k1 : 1 ≤ k) (k2 : k ≤ 1074) (hs : min k 63 = s + 1)
    (AW : ∀ wx : World, Below w.heap.size w wx → Calls Tryz.prog 32 #[.bool (Ie.dm d / 2 ^ (s + 1) % 2 == 1), .int .i64 (cmpI (Ie.dm d % 2 ^ (s + 1)) (2 ^ s)), .pointer (some cp)] wx fun e w' => e = .returned (.bool up) ∧ w' = wx) :
    Calls Tryz.prog 30 #[.int .u64 d, .func (Fn.func 32) #[] #[.pointer (some cp)]] w fun e w' => ∃ y, e = .returned (.int .u64 (Ie.sg (Ie.ngd d) y)) ∧ Hid (Ie.Rnd (Ie.wup (Ie.dm d / 2 ^ (s + 1)) up) 1 0 false y) ∧ Below w.heap.size w w' := by
  have NN := hid (fun (wx : World) => mnan_any d wx h0 h1)
  have NI := hid (fun (wx : World) => minfinite_any d wx h0 h1)
  rw [(Ie.fin_kinds hf).1] at NN
  rw [(Ie.fin_kinds hf).2] at NI
  have IG := hid (fun (wx : World) (hx : Tab wx) => integral_any d wx hx h0 h1)
  rw [hi] at IG
  have D := hid (fun (wx : World) => decode_any d wx h0 h1)
  rw [← Ie.ngd, hx] at D
  obtain ⟨⟨m0, m1⟩, ⟨e0, e1⟩, -, -⟩ := Ie.dec_f d hf
  have HT := hid hT
  have WK : IntKind.i64.wrap (k : Int) = (k : Int) := by rw [IntKind.wrap_i64]; omega
  have hd : min (k : Int) 63 = ((s + 1 : Nat) : Int) := by omega
  obtain ⟨H, hH⟩ : ∃ H, IntKind.u64.wrap (2 ^ s) = H := ⟨_, rfl⟩
  have HB0 : 1 ≤ H ∧ H ≤ 4611686018427387904 ∧ H = 2 ^ s := by
    have g1 := Nm.two_mono (show s ≤ 62 by omega)
    have g2 := Nm.two_pos s
    have e62 : (2 : Int) ^ 62 = 4611686018427387904 := by decide
    rw [IntKind.wrap_u64, Int.emod_eq_of_lt (by omega) (by omega)] at hH
    exact ⟨by omega, by omega, hH.symm⟩
  obtain ⟨H0, H1, H2⟩ := HB0
  have HH2 := hid H2
  have hR : bits .and .u64 (Ie.dm d) (2 * H - 1) = Ie.dm d % 2 ^ (s + 1) := by
    have e : 2 * H - 1 = 2 ^ (s + 1) - 1 := by rw [H2, Nm.two_succ]
    rw [e]
    exact Ib.mask_and _ (s + 1) m0 (by omega) (by omega)
  rw [← H2] at AW
  obtain ⟨W, hW⟩ : ∃ W, Ie.dm d / 2 ^ (s + 1) = W := ⟨_, rfl⟩
  obtain ⟨R, hR2⟩ : ∃ R, Ie.dm d % 2 ^ (s + 1) = R := ⟨_, rfl⟩
  rw [hW, hR2] at AW
  rw [hR2] at hR
  rw [hW]
  have W0 : 0 ≤ W ∧ W < 9007199254740992 := by
    rw [← hW]
    have := Nm.two_pos (s + 1)
    exact ⟨Int.ediv_nonneg m0 (by omega), by have := Int.ediv_le_self (2 ^ (s + 1)) m0; omega⟩
  obtain ⟨W0, W1⟩ := W0
  have OA := Ib.one_and W W0 (by omega)
  have UC := hid (fun (wx : World) => ucmp_any R H wx)
  have AW := hid AW
  have SA := Ib.sign_and d h0 h1
  have FU : Hid (∀ wx : World, Tab wx → Calls Tryz.prog 64 #[.int .u64 (Ie.wup W up)] wx fun e w' => ∃ x, e = .returned (.int .u64 x) ∧ Ie.Rnd (Ie.wup W up) 1 0 false x ∧ Below wx.heap.size wx w') := by
    intro wx hx
    exact fromU_any _ wx hx (by rw [Ie.wup]; split <;> omega) (by rw [Ie.wup]; split <;> omega)
  have OR : Hid (∀ y : Int, Ie.Rnd (Ie.wup W up) 1 0 false y → bits .or .u64 y (d / 9223372036854775808 * 9223372036854775808) = Ie.sg (Ie.ngd d) y) := by
    intro y hy
    have b := hy.bd
    rcases (show d < 9223372036854775808 ∨ 9223372036854775808 ≤ d by omega) with g | g
    · rw [show d / 9223372036854775808 * 9223372036854775808 = 0 by omega, Ib.or_zero y b.1 (by omega), Ie.ngd, decide_eq_false (by omega)]; rfl
    · rw [show d / 9223372036854775808 * 9223372036854775808 = 9223372036854775808 by omega, Ib.sign_or y b.1 (by omega), Ie.ngd, decide_eq_true (by omega)]; rfl
  clear H2
  clear hT hf e0 e1 hi hx hs hR2
  simp only [partsOf] at D
  generalize Ie.ngd d = neg at *
  generalize Ie.dm d = m at *
  generalize d / 9223372036854775808 * 9223372036854775808 = sv at *
  generalize Ie.cls d = c at *
  go_enter Tryz.func30, Tryz.ntmps30
  go_wp2_with fail
  refine (NN.out _).mono ?_
  rintro e wz ⟨rfl, hz⟩
  replace hz := hz.symm
  subst hz
  go_wp2_with fail
  refine (NI.out _).mono ?_
  rintro e wz ⟨rfl, hz⟩
  replace hz := hz.symm
  subst hz
  go_wp2_with fail
  refine (IG.out _ HT.out).mono ?_
  rintro e w0 ⟨rfl, hB0⟩
  go_wp2_with fail
  refine (D.out _).mono ?_
  rintro e w1 ⟨rfl, hB1⟩
  have HB1 := hid (hB0.trans (hB1.mono hB0.size))
  clear hB0 hB1 NN NI D IG
  go_upto_region 6 with fail
  have hb := HB1.out.trans ((alloc_b w1 (.cells #[.bool neg, .int .i64 c, .int .u64 m, .int .i64 (-(k : Int))] 47)).mono HB1.out.size)
  have P := Row4.new w1 47 (.bool neg) (.int .i64 c) (.int .u64 m) (.int .i64 (-(k : Int)))
  have HT1 := hid (HT.out.below hb)
  have HB2 := hid hb
  obtain ⟨⟨-, -, p2, p3⟩, -⟩ := P.cells
  clear P hb HT HB1
  generalize w1.alloc (.cells #[.bool neg, .int .i64 c, .int .u64 m, .int .i64 (-(k : Int))] 47) = wA at *
  generalize w1.heap.size = b at *
  go_upto_region 8 with fail
  go_region
  have HT2 := hid (HT1.out.below (drew_nil wA))
  have HB3 := hid (HB2.out.trans ((drew_nil wA).mono HB2.out.size))
  clear HT1 HB2 p2 p3 hR hW
  generalize wA.drew = wB at *
  go_wp2_with fail
  refine (UC.out _).mono ?_
  rintro e wz ⟨rfl, hz⟩
  replace hz := hz.symm
  subst hz
  go_wp2_with fail
  refine (AW.out _ HB3.out).mono ?_
  rintro e wz ⟨rfl, hz⟩
  replace hz := hz.symm
  subst hz
  clear AW UC
  cases up
  · simp only [Ie.wup, Bool.false_eq_true, if_false] at FU OR ⊢
    go_wp2_with fail
    refine (FU.out _ HT2.out).mono ?_
    rintro e w5 ⟨y, rfl, hy, hB⟩
    have E := OR.out y hy
    have HY := hid hy
    have HB4 := hid (HB3.out.trans (hB.mono HB3.out.size))
    clear hy hB FU OR HB3
    go_wp2_with fail
    go_ret
    exact ⟨_, rfl, HY.out, HB4.out⟩
  · simp only [Ie.wup, if_true] at FU OR ⊢
    go_wp2_with fail
    refine (FU.out _ HT2.out).mono ?_
    rintro e w5 ⟨y, rfl, hy, hB⟩
    have E := OR.out y hy
    have HY := hid hy
    have HB4 := hid (HB3.out.trans (hB.mono HB3.out.size))
    clear hy hB FU OR HB3
    go_wp2_with fail
    go_ret
    exact ⟨_, rfl, HY.out, HB4.out⟩
end Go.Proofs.YtnfomlkhkggjeaaGreatDoor

/-
  remain: Floor, Ceil, Near.
-/
namespace Go.Proofs.YtnfomlkhkggjeaaGreatDoor
open Go Go.RowKit Go.Deep

/-- Near's turn. -/
def Ie.nrup (U : Int) : Bool := decide (0 < cmpI (U % 2 ^ 1074) (2 ^ 1073) ∨ (cmpI (U % 2 ^ 1074) (2 ^ 1073) = 0 ∧ U / 2 ^ 1074 % 2 = 1))

set_option maxRecDepth 100000 in
theorem nearRule_any (odd : Bool) (c : Int) (w : World) (hc : c = -1 ∨ c = 0 ∨ c = 1) : Calls Tryz.prog 37 #[.bool odd, .int .i64 c] w fun e w' => e = .returned (.bool (decide (0 < c ∨ (c = 0 ∧ odd = true)))) ∧ w' = w := by
  rcases hc with rfl | rfl | rfl
  · go_enter Tryz.func37, Tryz.ntmps37
    go_wp2_with fail
    go_ret
    exact ⟨by cases odd <;> rfl, rfl⟩
  · go_enter Tryz.func37, Tryz.ntmps37
    go_wp2_with fail
    go_ret
    exact ⟨by cases odd <;> rfl, rfl⟩
  · go_enter Tryz.func37, Tryz.ntmps37
    go_wp2_with fail
    go_ret
    exact ⟨by cases odd <;> rfl, rfl⟩

set_option maxRecDepth 100000 in
theorem floorRule_any (a c : Value) (p : Addr) (neg : Bool) (w : World) (h : w.cell? p = some (.bool neg)) : Calls Tryz.prog 31 #[a, c, .pointer (some p)] w fun e w' => e = .returned (.bool neg) ∧ w' = w := by
  go_enter Tryz.func31, Tryz.ntmps31
  go_wp2_with fail
  go_ret
  exact ⟨rfl, rfl⟩

set_option maxRecDepth 100000 in
theorem ceilRule_any (a c : Value) (p : Addr) (neg : Bool) (w : World) (h : w.cell? p = some (.bool neg)) : Calls Tryz.prog 32 #[a, c, .pointer (some p)] w fun e w' => e = .returned (.bool (!neg)) ∧ w' = w := by
  go_enter Tryz.func32, Tryz.ntmps32
  go_wp2_with fail
  go_ret
  exact ⟨rfl, rfl⟩

theorem roundedN_any (d : Int) (w : World) (hT : Tab w) (h0 : 0 ≤ d) (h1 : d < 18446744073709551616) :
    Calls Tryz.prog 30 #[.int .u64 d, .func (Fn.func 37) #[] #[]] w fun e w' => ∃ r, e = .returned (.int .u64 r) ∧ Ie.WIs d (Ie.nrup (Ie.un (Ie.ab d))) r ∧ Below w.heap.size w w' := by
  by_cases hi : Ie.fin d ∧ Ie.intg d = false
  · obtain ⟨hf, hi⟩ := hi
    obtain ⟨k, s, q1, q2, q3, q4, q5, q6⟩ := Ie.frac_k hf hi
    refine (rounded_N (Ie.nrup (Ie.un (Ie.ab d))) d k s w hT h0 h1 hf hi q1 q2 q3 q4 (fun wx _ => ?_)).mono ?_
    · rw [q5, q6]
      have cc : cmpI (Ie.un (Ie.ab d) % 2 ^ 1074) (2 ^ 1073) = -1 ∨ cmpI (Ie.un (Ie.ab d) % 2 ^ 1074) (2 ^ 1073) = 0 ∨ cmpI (Ie.un (Ie.ab d) % 2 ^ 1074) (2 ^ 1073) = 1 := by
        generalize Ie.un (Ie.ab d) % 2 ^ 1074 = A
        generalize (2 : Int) ^ 1073 = B
        rw [cmpI]; split <;> (try split) <;> omega
      have e : decide (0 < cmpI (Ie.un (Ie.ab d) % 2 ^ 1074) (2 ^ 1073) ∨ (cmpI (Ie.un (Ie.ab d) % 2 ^ 1074) (2 ^ 1073) = 0 ∧ (Ie.un (Ie.ab d) / 2 ^ 1074 % 2 == 1) = true)) = Ie.nrup (Ie.un (Ie.ab d)) := by
        rw [Ie.nrup, decide_eq_decide, beq_iff_eq]
      rw [← e]
      exact nearRule_any _ _ wx cc
    · rintro e w' ⟨y, rfl, hy, hB⟩
      rw [q5] at hy
      exact ⟨_, rfl, Ie.wis_fin hf hi hy.out, hB⟩
  · refine rounded_stay _ _ d w hT h0 h1 (fun hf => ?_)
    cases g : Ie.intg d
    · exact absurd ⟨hf, g⟩ hi
    · rfl

theorem roundedF_any (p : Addr) (neg : Bool) (d : Int) (w : World) (hp : w.cell? p = some (.bool neg)) (hT : Tab w) (h0 : 0 ≤ d) (h1 : d < 18446744073709551616) :
    Calls Tryz.prog 30 #[.int .u64 d, .func (Fn.func 31) #[] #[.pointer (some p)]] w fun e w' => ∃ r, e = .returned (.int .u64 r) ∧ Ie.WIs d neg r ∧ Below w.heap.size w w' := by
  by_cases hi : Ie.fin d ∧ Ie.intg d = false
  · obtain ⟨hf, hi⟩ := hi
    obtain ⟨k, s, q1, q2, q3, q4, q5, q6⟩ := Ie.frac_k hf hi
    refine (rounded_F p neg d k s w hT h0 h1 hf hi q1 q2 q3 q4 (fun wx hx => floorRule_any _ _ p neg wx ((hx.cell (cell_lt hp)).trans hp))).mono ?_
    rintro e w' ⟨y, rfl, hy, hB⟩
    rw [q5] at hy
    exact ⟨_, rfl, Ie.wis_fin hf hi hy.out, hB⟩
  · refine rounded_stay _ _ d w hT h0 h1 (fun hf => ?_)
    cases g : Ie.intg d
    · exact absurd ⟨hf, g⟩ hi
    · rfl

theorem roundedC_any (p : Addr) (neg : Bool) (d : Int) (w : World) (hp : w.cell? p = some (.bool neg)) (hT : Tab w) (h0 : 0 ≤ d) (h1 : d < 18446744073709551616) :
    Calls Tryz.prog 30 #[.int .u64 d, .func (Fn.func 32) #[] #[.pointer (some p)]] w fun e w' => ∃ r, e = .returned (.int .u64 r) ∧ Ie.WIs d (!neg) r ∧ Below w.heap.size w w' := by
  by_cases hi : Ie.fin d ∧ Ie.intg d = false
  · obtain ⟨hf, hi⟩ := hi
    obtain ⟨k, s, q1, q2, q3, q4, q5, q6⟩ := Ie.frac_k hf hi
    refine (rounded_C p (!neg) d k s w hT h0 h1 hf hi q1 q2 q3 q4 (fun wx hx => ceilRule_any _ _ p neg wx ((hx.cell (cell_lt hp)).trans hp))).mono ?_
    rintro e w' ⟨y, rfl, hy, hB⟩
    rw [q5] at hy
    exact ⟨_, rfl, Ie.wis_fin hf hi hy.out, hB⟩
  · refine rounded_stay _ _ d w hT h0 h1 (fun hf => ?_)
    cases g : Ie.intg d
    · exact absurd ⟨hf, g⟩ hi
    · rfl

set_option maxRecDepth 100000 in
theorem near6_any (d : Int) (w : World) (hT : Tab w) (h0 : 0 ≤ d) (h1 : d < 18446744073709551616) :
    Calls Tryz.prog 15 #[.int .u64 d] w fun e w' => ∃ r, e = .returned (.int .u64 r) ∧ Ie.WIs d (Ie.nrup (Ie.un (Ie.ab d))) r ∧ Below w.heap.size w w' := by
  have R := hid (roundedN_any d w hT h0 h1)
  clear hT
  go_enter Tryz.func15, Tryz.ntmps15
  go_wp2_with fail
  refine R.out.mono ?_
  rintro e w' ⟨r, rfl, h⟩
  have H := hid h
  clear h
  go_wp2_with fail
  go_ret
  exact ⟨_, rfl, H.out⟩

theorem Ie.sign_ne (d : Int) (h0 : 0 ≤ d) (h1 : d < 18446744073709551616) : (d / 9223372036854775808 * 9223372036854775808 != 0) = Ie.ngd d := by
  rcases (show d < 9223372036854775808 ∨ 9223372036854775808 ≤ d by omega) with g | g
  · rw [show d / 9223372036854775808 * 9223372036854775808 = 0 by omega, Ie.ngd, decide_eq_false (by omega)]; rfl
  · rw [show d / 9223372036854775808 * 9223372036854775808 = 9223372036854775808 by omega, Ie.ngd, decide_eq_true (by omega)]; rfl

set_option maxRecDepth 100000 in
theorem floor_any (d : Int) (w : World) (hT : Tab w) (h0 : 0 ≤ d) (h1 : d < 18446744073709551616) :
    Calls Tryz.prog 10 #[.int .u64 d] w fun e w' => ∃ r, e = .returned (.int .u64 r) ∧ Ie.WIs d (Ie.ngd d) r ∧ Below w.heap.size w w' := by
  have SA := Ib.sign_and d h0 h1
  have SN := Ie.sign_ne d h0 h1
  have R : Hid (Calls Tryz.prog 30 #[.int .u64 d, .func (Fn.func 31) #[] #[.pointer (some ⟨w.heap.size, 0, none⟩)]] (w.alloc (.cells #[.bool (Ie.ngd d)] 4)) fun e w' => ∃ r, e = .returned (.int .u64 r) ∧ Hid (Ie.WIs d (Ie.ngd d) r ∧ Below w.heap.size w w')) := by
    have hb := alloc_b w (.cells #[.bool (Ie.ngd d)] 4)
    refine (roundedF_any ⟨w.heap.size, 0, none⟩ (Ie.ngd d) d _ (by simp) (hT.below hb) h0 h1).mono ?_
    rintro e w' ⟨r, rfl, h, hB⟩
    exact ⟨r, rfl, h, hb.trans (hB.mono hb.size)⟩
  clear hT
  generalize d / 9223372036854775808 * 9223372036854775808 = sv at *
  generalize hN : Ie.ngd d = neg at *
  go_enter Tryz.func10, Tryz.ntmps10
  go_wp2_with fail
  refine R.out.mono ?_
  rintro e w' ⟨r, rfl, h⟩
  go_wp2_with fail
  go_ret
  exact ⟨_, rfl, h.out⟩

set_option maxRecDepth 100000 in
theorem ceil_any (d : Int) (w : World) (hT : Tab w) (h0 : 0 ≤ d) (h1 : d < 18446744073709551616) :
    Calls Tryz.prog 11 #[.int .u64 d] w fun e w' => ∃ r, e = .returned (.int .u64 r) ∧ Ie.WIs d (!Ie.ngd d) r ∧ Below w.heap.size w w' := by
  have SA := Ib.sign_and d h0 h1
  have SN := Ie.sign_ne d h0 h1
  have R : Hid (Calls Tryz.prog 30 #[.int .u64 d, .func (Fn.func 32) #[] #[.pointer (some ⟨w.heap.size, 0, none⟩)]] (w.alloc (.cells #[.bool (Ie.ngd d)] 4)) fun e w' => ∃ r, e = .returned (.int .u64 r) ∧ Hid (Ie.WIs d (!Ie.ngd d) r ∧ Below w.heap.size w w')) := by
    have hb := alloc_b w (.cells #[.bool (Ie.ngd d)] 4)
    refine (roundedC_any ⟨w.heap.size, 0, none⟩ (Ie.ngd d) d _ (by simp) (hT.below hb) h0 h1).mono ?_
    rintro e w' ⟨r, rfl, h, hB⟩
    exact ⟨r, rfl, h, hb.trans (hB.mono hb.size)⟩
  clear hT
  generalize d / 9223372036854775808 * 9223372036854775808 = sv at *
  generalize hN : Ie.ngd d = neg at *
  go_enter Tryz.func11, Tryz.ntmps11
  go_wp2_with fail
  refine R.out.mono ?_
  rintro e w' ⟨r, rfl, h⟩
  go_wp2_with fail
  go_ret
  exact ⟨_, rfl, h.out⟩
end Go.Proofs.YtnfomlkhkggjeaaGreatDoor
