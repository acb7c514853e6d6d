/-
  Texts put together: IIntg, MCmp, MRoundT, MTrunc, XBox, XPlusA, XWalk1, XIs.
-/
import Derived.Test.YtpeecbidojjfpaaDoorRD
import Derived.Test.YtpeecbidojjfpaaDoorNToU
import Derived.BigQuiet
import Derived.Test.YtpeecbidojjfpaaDoorIWalk1B
import Derived.Test.YtpeecbidojjfpaaDoorWalk5a
import Derived.Test.YtpeecbidojjfpaaDoorRA
import Derived.BigRegion
import Derived.Test.YtpeecbidojjfpaaDoorXMem
import Derived.Test.YtpeecbidojjfpaaDoorXNum
import Derived.Test.YtpeecbidojjfpaaDoorIShiftA
import Derived.Test.YtpeecbidojjfpaaDoorXDef
import Derived.Test.YtpeecbidojjfpaaDoorFromW
import Derived.Deep.RegionWith
import Derived.Test.YtpeecbidojjfpaaDoorTrailW
/-
  ieee: Integral.
-/
namespace Go.Proofs.YtpeecbidojjfpaaDoor
open Go Go.RowKit Go.Deep

theorem tz_is (x : Int) (n : Nat) (w : World) (hx : x = (n : Int)) (h1 : x < 18446744073709551616) (hT : Tab w) :
    Calls Tryd.prog 23 #[.int .u64 x] w fun e w' => e = .returned (.int .i64 (Lib.ctz 64 n)) ∧ w' = w := by
  subst hx
  exact Any7.bits_TrailingZeros64 tzLays n (by omega) w (fun _ => hT)

theorem tab_drewN {w : World} (h : Tab w) (n : Nat) : Tab (w.drewN n) := h.below (below_drewN (Below.refl _ _) n)


set_option maxRecDepth 100000 in
set_option maxHeartbeats 4000000 in
theorem integral_inf (d : Int) (w : World) (h0 : 0 ≤ d) (h1 : d < 18446744073709551616) (hr : 9218868437227405312 ≤ d % 9223372036854775808) :
    Calls Tryd.prog 56 #[.int .u64 d] w fun e w' => e = .returned (.bool false) ∧ Below w.heap.size w w' := by
  have F : Hid (∀ wx : World, Calls Tryd.prog 75 #[.int .u64 d] wx fun e w' => e = .returned (.bool false) ∧ w' = wx) := by
    intro wx
    have := finite_any d wx h0 h1
    rw [decide_eq_false (by omega)] at this
    exact this
  have D := hid (decode_any d w h0 h1)
  generalize decide (9223372036854775808 ≤ d) = neg at D
  generalize Ie.cls d = c at D
  generalize Ie.dm d = m at D
  generalize Ie.de d = x at D
  simp only [partsOf] at D
  clear hr
  go_enter Tryd.func56, Tryd.ntmps56
  go_wp2_with fail
  refine D.out.mono ?_
  rintro e w1 ⟨rfl, hB⟩
  have HB := hid hB
  clear hB D
  go_wp2_with fail
  have HB1 := hid (Below.alloc HB.out HB.out.size (.cells #[.bool neg, .int .i64 c, .int .u64 m, .int .i64 x] 28))
  generalize w1.alloc (.cells #[.bool neg, .int .i64 c, .int .u64 m, .int .i64 x] 28) = wA at *
  go_quiet ((go_at_call 75; with_reducible exact Calls.quiet_of_same (F.out _)))
  go_wp2_with fail
  go_ret
  exact ⟨rfl, below_drewN HB1.out _⟩

set_option maxRecDepth 100000 in
set_option maxHeartbeats 4000000 in
theorem integral_fin (d : Int) (w : World) (hT : Tab w) (h0 : 0 ≤ d) (h1 : d < 18446744073709551616) (hr : d % 9223372036854775808 < 9218868437227405312) (t : Nat) (ht : t ≤ 64) (m x : Int) (hm : Ie.dm d = m) (hx : Ie.de d = x) (hxb : -1074 ≤ x ∧ x ≤ 971) (hmb : 0 ≤ m ∧ m < 18446744073709551616) (hct : Lib.ctz 64 m.toNat = t) :
    Calls Tryd.prog 56 #[.int .u64 d] w fun e w' => e = .returned (.bool (decide (0 ≤ x + t))) ∧ Below w.heap.size w w' := by
  have F : Hid (∀ wx : World, Calls Tryd.prog 75 #[.int .u64 d] wx fun e w' => e = .returned (.bool true) ∧ w' = wx) := by
    intro wx
    have := finite_any d wx h0 h1
    rw [decide_eq_true hr] at this
    exact this
  have Z : Hid (∀ wx : World, Tab wx → Calls Tryd.prog 23 #[.int .u64 m] wx fun e w' => e = .returned (.int .i64 (t : Int)) ∧ w' = wx) := by
    intro wx hx
    have := tz_is m m.toNat wx (by omega) hmb.2 hx
    rw [hct] at this
    exact this
  have D := hid (decode_any d w h0 h1)
  rw [hm, hx] at D
  generalize decide (9223372036854775808 ≤ d) = neg at D
  generalize Ie.cls d = c at D
  simp only [partsOf] at D
  obtain ⟨x0, x1⟩ := hxb
  have t1 : (t : Int) ≤ 64 := by omega
  have HT := hid hT
  clear hr hm hx hmb hct hT ht
  go_enter Tryd.func56, Tryd.ntmps56
  go_wp2_with fail
  refine D.out.mono ?_
  rintro e w1 ⟨rfl, hB⟩
  have HB := hid hB
  clear hB D
  go_wp2_with fail
  have HB1 := hid (Below.alloc HB.out HB.out.size (.cells #[.bool neg, .int .i64 c, .int .u64 m, .int .i64 x] 28))
  have hg := heap_alloc_new w1 (.cells #[.bool neg, .int .i64 c, .int .u64 m, .int .i64 x] 28)
  have p2 : (w1.alloc (.cells #[.bool neg, .int .i64 c, .int .u64 m, .int .i64 x] 28)).cell? ⟨w1.heap.size, 2, none⟩ = some (.int .u64 m) := by simp only [World.cell?, hg]; rfl
  have p3 : (w1.alloc (.cells #[.bool neg, .int .i64 c, .int .u64 m, .int .i64 x] 28)).cell? ⟨w1.heap.size, 3, none⟩ = some (.int .i64 x) := by simp only [World.cell?, hg]; rfl
  clear hg
  generalize w1.alloc (.cells #[.bool neg, .int .i64 c, .int .u64 m, .int .i64 x] 28) = wA at *
  have TA := HT.out.below HB1.out
  have ZZ := hid (fun (n : Nat) => Z.out (wA.drewN n) (tab_drewN TA n))
  clear TA
  go_quiet ((first | (go_at_call 75; with_reducible exact Calls.quiet_of_same (F.out _)) | (go_at_call 23; with_reducible exact Calls.quiet_of_same (ZZ.out _))))
  go_wp2_with fail
  go_ret
  exact ⟨by simp, below_drewN HB1.out _⟩

/-- Integral. -/
theorem integral_any (d : Int) (w : World) (hT : Tab w) (h0 : 0 ≤ d) (h1 : d < 18446744073709551616) :
    Calls Tryd.prog 56 #[.int .u64 d] w fun e w' => e = .returned (.bool (Ie.intg d)) ∧ Below w.heap.size w w' := by
  by_cases hf : d % 9223372036854775808 < 9218868437227405312
  · have key : ∀ b : Bool, (b = true ↔ Ie.vl (d % 9223372036854775808) = Ie.whp (d % 9223372036854775808) * 2 ^ 1075) → Ie.intg d = b := by
      intro b hb
      rw [Ie.intg]
      cases b
      · rw [decide_eq_false_iff_not]; intro hh; have := hb.2 hh.2; cases this
      · rw [decide_eq_true_iff]; exact ⟨hf, hb.1 rfl⟩
    rcases Ie.dec_kinds d _ rfl with ⟨c, m, x, k1⟩ | ⟨c, m, x, k1, k2⟩ | ⟨c, m, x, k1, k2⟩ | ⟨c, m, x, k1⟩ | ⟨c, m, x, k1, k2⟩
    · have := integral_fin d w hT h0 h1 hf 64 (by omega) 0 0 m x (by omega) (by omega) rfl
      rw [key true ⟨fun _ => by rw [k1, Ie.vl_zero, Ie.whp_zero, Int.zero_mul], fun _ => rfl⟩]
      exact this
    · have e0 : Ie.ex (d % 9223372036854775808) = 0 := by rw [Ie.ex]; omega
      have m0 : Ie.man (d % 9223372036854775808) = d % 9223372036854775808 := by rw [Ie.man, if_pos k2]
      obtain ⟨n, hn⟩ := Int.eq_ofNat_of_zero_le (show 0 ≤ d % 9223372036854775808 by omega)
      obtain ⟨q, hq, hlt⟩ := Lib.ctzFrom_spec 64 n (by omega) (by simpa using (show n < 18446744073709551616 by omega))
      have hc : Lib.ctz 64 (d % 9223372036854775808).toNat = Lib.ctzFrom 64 n := by rw [hn, Int.toNat_natCast, Lib.ctz, if_neg (by omega)]
      have hi := Ie.intg_iff (d % 9223372036854775808) (d % 9223372036854775808) (q : Int) (Lib.ctzFrom 64 n) m0 (by rw [hn]; exact ctz_int n q _ hq)
      have := integral_fin d w hT h0 h1 hf _ (by omega) _ _ m x (by omega) (by omega) hc
      rw [key (decide (0 ≤ (-1074 : Int) + (Lib.ctzFrom 64 n : Int))) (by rw [hi, e0, decide_eq_true_iff]; omega)]
      exact this
    · have mb := Ie.man_nn (d % 9223372036854775808) (by omega)
      have mp : 0 < Ie.man (d % 9223372036854775808) := by rw [Ie.man, if_neg (by omega)]; omega
      have eb : (Ie.ex (d % 9223372036854775808) : Int) ≤ 2045 := by simp only [Ie.ex]; omega
      obtain ⟨n, hn⟩ := Int.eq_ofNat_of_zero_le mb.1
      obtain ⟨q, hq, hlt⟩ := Lib.ctzFrom_spec 64 n (by omega) (by simpa using (show n < 18446744073709551616 by omega))
      have hc : Lib.ctz 64 (Ie.man (d % 9223372036854775808)).toNat = Lib.ctzFrom 64 n := by rw [hn, Int.toNat_natCast, Lib.ctz, if_neg (by omega)]
      have hi := Ie.intg_iff (d % 9223372036854775808) _ (q : Int) (Lib.ctzFrom 64 n) hn (ctz_int n q _ hq)
      have := integral_fin d w hT h0 h1 hf _ (by omega) _ _ m x (by omega) (by omega) hc
      rw [key (decide (0 ≤ (Ie.ex (d % 9223372036854775808) : Int) - 1074 + (Lib.ctzFrom 64 n : Int))) (by rw [hi, decide_eq_true_iff])]
      exact this
    · omega
    · omega
  · have : Ie.intg d = false := by rw [Ie.intg, decide_eq_false_iff_not]; intro h; exact hf h.1
    rw [this]
    exact integral_inf d w h0 h1 (by omega)
end Go.Proofs.YtpeecbidojjfpaaDoor

/-
  cmp.Compare of two uint64; masks.
-/
namespace Go.Proofs.YtpeecbidojjfpaaDoor
open Go Go.RowKit Go.Deep

set_option maxRecDepth 100000 in
theorem uNaN_any (x : Int) (w : World) : Calls Tryd.prog 76 #[.int .u64 x] w fun e w' => e = .returned (.bool false) ∧ w' = w := by
  go_enter Tryd.func76, Tryd.ntmps76
  go_wp2
  go_ret
  exact ⟨by simp, rfl⟩

set_option maxRecDepth 100000 in
theorem ucmp_any (x y : Int) (w : World) : Calls Tryd.prog 57 #[.int .u64 x, .int .u64 y] w fun e w' => e = .returned (.int .i64 (cmpI x y)) ∧ w' = w := by
  by_cases h1 : x < y
  · have E : Hid (cmpI x y = -1) := by exact cmpI_lt h1
    go_enter Tryd.func57, Tryd.ntmps57
    go_wp2_with fail
    refine (uNaN_any x w).mono ?_
    rintro e w' ⟨rfl, rfl⟩
    go_wp2_with fail
    refine (uNaN_any y _).mono ?_
    rintro e w' ⟨rfl, rfl⟩
    go_wp2_with fail
    go_ret
    exact ⟨i_retI E.out.symm, rfl⟩
  · by_cases h2 : y < x
    · have E : Hid (cmpI x y = 1) := by exact cmpI_gt h2
      go_enter Tryd.func57, Tryd.ntmps57
      go_wp2_with fail
      refine (uNaN_any x w).mono ?_
      rintro e w' ⟨rfl, rfl⟩
      go_wp2_with fail
      refine (uNaN_any y _).mono ?_
      rintro e w' ⟨rfl, rfl⟩
      go_wp2_with fail
      go_ret
      exact ⟨i_retI E.out.symm, rfl⟩
    · have E : Hid (cmpI x y = 0) := by exact cmpI_eq (by omega)
      go_enter Tryd.func57, Tryd.ntmps57
      go_wp2_with fail
      refine (uNaN_any x w).mono ?_
      rintro e w' ⟨rfl, rfl⟩
      go_wp2_with fail
      refine (uNaN_any y _).mono ?_
      rintro e w' ⟨rfl, rfl⟩
      go_wp2_with fail
      go_ret
      exact ⟨i_retI E.out.symm, rfl⟩

namespace Ib
theorem mask_and (d : Int) (j : Nat) (h0 : 0 ≤ d) (h1 : d < 18446744073709551616) (hj : j ≤ 63) : bits .and .u64 d (2 ^ j - 1) = d % 2 ^ j := by
  obtain ⟨a, rfl⟩ := Int.eq_ofNat_of_zero_le h0
  have hp : (2 : Nat) ^ j ≤ 2 ^ 63 := Nat.pow_le_pow_right (by omega) hj
  have hq : 0 < (2 : Nat) ^ j := Nat.pow_pos (by omega)
  have e63 : (2 : Nat) ^ 63 = 9223372036854775808 := by decide
  have h := u64_and_nat a (2 ^ j - 1) (by omega) (by omega)
  have e : (((2 ^ j - 1 : Nat)) : Int) = 2 ^ j - 1 := by
    rw [Int.ofNat_sub (by omega)]; simp
  rw [e] at h
  rw [h, Nat.and_two_pow_sub_one_eq_mod]
  simp

theorem or_zero (d : Int) (h0 : 0 ≤ d) (h1 : d < 18446744073709551616) : bits .or .u64 d 0 = d := by
  obtain ⟨a, rfl⟩ := Int.eq_ofNat_of_zero_le h0
  have h := u64_or_nat a 0 (by omega) (by omega)
  rw [show ((0 : Nat) : Int) = 0 from rfl] at h
  rw [h, Nat.or_zero]
end Ib
end Go.Proofs.YtpeecbidojjfpaaDoor

/-
  remain: rounded.
-/
namespace Go.Proofs.YtpeecbidojjfpaaDoor
open Go Go.RowKit Go.Deep

/-- What a number between two whole ones goes to: W or W + 1. -/
def Ie.wup (W : Int) (up : Bool) : Int := if up = true then W + 1 else W

set_option maxRecDepth 100000 in
set_option maxHeartbeats 4000000 in
theorem rounded_T (up : Bool) (d : Int) (k s : Nat) (w : World) (hT : Tab w) (h0 : 0 ≤ d) (h1 : d < 18446744073709551616) (hf : Ie.fin d) (hi : Ie.intg d = false) (hx : Ie.de d = -(k : Int)) (k1 : 1 ≤ k) (k2 : k ≤ 1074) (hs : min k 63 = s + 1)
    (AW : ∀ wx : World, Below w.heap.size w wx → Calls Tryd.prog 38 #[.bool (Ie.dm d / 2 ^ (s + 1) % 2 == 1), .int .i64 (cmpI (Ie.dm d % 2 ^ (s + 1)) (2 ^ s))] wx fun e w' => e = .returned (.bool up) ∧ w' = wx) :
    Calls Tryd.prog 37 #[.int .u64 d, .func (Fn.func 38) #[] #[]] w fun e w' => ∃ y, e = .returned (.int .u64 (Ie.sg (Ie.ngd d) y)) ∧ Hid (Ie.Rnd (Ie.wup (Ie.dm d / 2 ^ (s + 1)) up) 1 0 false y) ∧ Below w.heap.size w w' := by
  have NN := hid (fun (wx : World) => mnan_any d wx h0 h1)
  have NI := hid (fun (wx : World) => minfinite_any d wx h0 h1)
  rw [(Ie.fin_kinds hf).1] at NN
  rw [(Ie.fin_kinds hf).2] at NI
  have IG := hid (fun (wx : World) (hx : Tab wx) => integral_any d wx hx h0 h1)
  rw [hi] at IG
  have D := hid (fun (wx : World) => decode_any d wx h0 h1)
  rw [← Ie.ngd, hx] at D
  obtain ⟨⟨m0, m1⟩, ⟨e0, e1⟩, -, -⟩ := Ie.dec_f d hf
  have HT := hid hT
  have WK : IntKind.i64.wrap (k : Int) = (k : Int) := by rw [IntKind.wrap_i64]; omega
  have hd : min (k : Int) 63 = ((s + 1 : Nat) : Int) := by omega
  obtain ⟨H, hH⟩ : ∃ H, IntKind.u64.wrap (2 ^ s) = H := ⟨_, rfl⟩
  have HB0 : 1 ≤ H ∧ H ≤ 4611686018427387904 ∧ H = 2 ^ s := by
    have g1 := Nm.two_mono (show s ≤ 62 by omega)
    have g2 := Nm.two_pos s
    have e62 : (2 : Int) ^ 62 = 4611686018427387904 := by decide
    rw [IntKind.wrap_u64, Int.emod_eq_of_lt (by omega) (by omega)] at hH
    exact ⟨by omega, by omega, hH.symm⟩
  obtain ⟨H0, H1, H2⟩ := HB0
  have HH2 := hid H2
  have hR : bits .and .u64 (Ie.dm d) (2 * H - 1) = Ie.dm d % 2 ^ (s + 1) := by
    have e : 2 * H - 1 = 2 ^ (s + 1) - 1 := by rw [H2, Nm.two_succ]
    rw [e]
    exact Ib.mask_and _ (s + 1) m0 (by omega) (by omega)
  rw [← H2] at AW
  obtain ⟨W, hW⟩ : ∃ W, Ie.dm d / 2 ^ (s + 1) = W := ⟨_, rfl⟩
  obtain ⟨R, hR2⟩ : ∃ R, Ie.dm d % 2 ^ (s + 1) = R := ⟨_, rfl⟩
  rw [hW, hR2] at AW
  rw [hR2] at hR
  rw [hW]
  have W0 : 0 ≤ W ∧ W < 9007199254740992 := by
    rw [← hW]
    have := Nm.two_pos (s + 1)
    exact ⟨Int.ediv_nonneg m0 (by omega), by have := Int.ediv_le_self (2 ^ (s + 1)) m0; omega⟩
  obtain ⟨W0, W1⟩ := W0
  have OA := Ib.one_and W W0 (by omega)
  have UC := hid (fun (wx : World) => ucmp_any R H wx)
  have AW := hid AW
  have SA := Ib.sign_and d h0 h1
  have FU : Hid (∀ wx : World, Tab wx → Calls Tryd.prog 51 #[.int .u64 (Ie.wup W up)] wx fun e w' => ∃ x, e = .returned (.int .u64 x) ∧ Ie.Rnd (Ie.wup W up) 1 0 false x ∧ Below wx.heap.size wx w') := by
    intro wx hx
    exact fromU_any _ wx hx (by rw [Ie.wup]; split <;> omega) (by rw [Ie.wup]; split <;> omega)
  have OR : Hid (∀ y : Int, Ie.Rnd (Ie.wup W up) 1 0 false y → bits .or .u64 y (d / 9223372036854775808 * 9223372036854775808) = Ie.sg (Ie.ngd d) y) := by
    intro y hy
    have b := hy.bd
    rcases (show d < 9223372036854775808 ∨ 9223372036854775808 ≤ d by omega) with g | g
    · rw [show d / 9223372036854775808 * 9223372036854775808 = 0 by omega, Ib.or_zero y b.1 (by omega), Ie.ngd, decide_eq_false (by omega)]; rfl
    · rw [show d / 9223372036854775808 * 9223372036854775808 = 9223372036854775808 by omega, Ib.sign_or y b.1 (by omega), Ie.ngd, decide_eq_true (by omega)]; rfl
  clear H2
  clear hT hf e0 e1 hi hx hs hR2
  simp only [partsOf] at D
  generalize Ie.ngd d = neg at *
  generalize Ie.dm d = m at *
  generalize d / 9223372036854775808 * 9223372036854775808 = sv at *
  generalize Ie.cls d = c at *
  go_enter Tryd.func37, Tryd.ntmps37
  go_wp2_with fail
  refine (NN.out _).mono ?_
  rintro e wz ⟨rfl, hz⟩
  replace hz := hz.symm
  subst hz
  go_wp2_with fail
  refine (NI.out _).mono ?_
  rintro e wz ⟨rfl, hz⟩
  replace hz := hz.symm
  subst hz
  go_wp2_with fail
  refine (IG.out _ HT.out).mono ?_
  rintro e w0 ⟨rfl, hB0⟩
  go_wp2_with fail
  refine (D.out _).mono ?_
  rintro e w1 ⟨rfl, hB1⟩
  have HB1 := hid (hB0.trans (hB1.mono hB0.size))
  clear hB0 hB1 NN NI D IG
  go_upto_region 6 with fail
  have hb := HB1.out.trans ((alloc_b w1 (.cells #[.bool neg, .int .i64 c, .int .u64 m, .int .i64 (-(k : Int))] 28)).mono HB1.out.size)
  have P := Row4.new w1 28 (.bool neg) (.int .i64 c) (.int .u64 m) (.int .i64 (-(k : Int)))
  have HT1 := hid (HT.out.below hb)
  have HB2 := hid hb
  obtain ⟨⟨-, -, p2, p3⟩, -⟩ := P.cells
  clear P hb HT HB1
  generalize w1.alloc (.cells #[.bool neg, .int .i64 c, .int .u64 m, .int .i64 (-(k : Int))] 28) = wA at *
  generalize w1.heap.size = b at *
  go_upto_region 8 with fail
  go_region
  have HT2 := hid (HT1.out.below (drew_nil wA))
  have HB3 := hid (HB2.out.trans ((drew_nil wA).mono HB2.out.size))
  clear HT1 HB2 p2 p3 hR hW
  generalize wA.drew = wB at *
  go_wp2_with fail
  refine (UC.out _).mono ?_
  rintro e wz ⟨rfl, hz⟩
  replace hz := hz.symm
  subst hz
  go_wp2_with fail
  refine (AW.out _ HB3.out).mono ?_
  rintro e wz ⟨rfl, hz⟩
  replace hz := hz.symm
  subst hz
  clear AW UC
  cases up
  · simp only [Ie.wup, Bool.false_eq_true, if_false] at FU OR ⊢
    go_wp2_with fail
    refine (FU.out _ HT2.out).mono ?_
    rintro e w5 ⟨y, rfl, hy, hB⟩
    have E := OR.out y hy
    have HY := hid hy
    have HB4 := hid (HB3.out.trans (hB.mono HB3.out.size))
    clear hy hB FU OR HB3
    go_wp2_with fail
    go_ret
    exact ⟨_, rfl, HY.out, HB4.out⟩
  · simp only [Ie.wup, if_true] at FU OR ⊢
    go_wp2_with fail
    refine (FU.out _ HT2.out).mono ?_
    rintro e w5 ⟨y, rfl, hy, hB⟩
    have E := OR.out y hy
    have HY := hid hy
    have HB4 := hid (HB3.out.trans (hB.mono HB3.out.size))
    clear hy hB FU OR HB3
    go_wp2_with fail
    go_ret
    exact ⟨_, rfl, HY.out, HB4.out⟩
end Go.Proofs.YtpeecbidojjfpaaDoor

/-
  remain: rounded where nothing is to be rounded; Trunc.
-/
namespace Go.Proofs.YtpeecbidojjfpaaDoor
open Go Go.RowKit Go.Deep

namespace Ie
theorem intg_iff_un {d : Int} (hf : fin d) : intg d = true ↔ un (ab d) % 2 ^ 1074 = 0 := by
  rw [intg, decide_eq_true_iff, ← intg_un, whp, ab]
  exact ⟨fun h => h.2, fun h => ⟨hf, h⟩⟩

theorem cmpI_iff {a b c d : Int} (h1 : a < b ↔ c < d) (h2 : a = b ↔ c = d) : cmpI a b = cmpI c d := by
  by_cases g1 : a < b
  · rw [cmpI_lt g1, cmpI_lt (h1.1 g1)]
  · by_cases g2 : a = b
    · rw [cmpI_eq g2, cmpI_eq (h2.1 g2)]
    · have k1 : ¬ c < d := fun h => g1 (h1.2 h)
      have k2 : ¬ c = d := fun h => g2 (h2.2 h)
      rw [cmpI_gt (by omega), cmpI_gt (by omega)]

/-- A number that isn't whole has bits behind the point. -/
theorem frac_k {d : Int} (hf : fin d) (hi : intg d = false) : ∃ k s : Nat, de d = -(k : Int) ∧ 1 ≤ k ∧ k ≤ 1074 ∧ min k 63 = s + 1 ∧ dm d / 2 ^ (s + 1) = un (ab d) / 2 ^ 1074 ∧ cmpI (dm d % 2 ^ (s + 1)) (2 ^ s) = cmpI (un (ab d) % 2 ^ 1074) (2 ^ 1073) := by
  obtain ⟨⟨m0, m1⟩, ⟨e0, e1⟩, g, -⟩ := dec_f d hf
  have hn : ¬ un (ab d) % 2 ^ 1074 = 0 := fun h => by rw [(intg_iff_un hf).2 h] at hi; cases hi
  have neg : de d < 0 := by
    rcases (show de d < 0 ∨ 0 ≤ de d by omega) with h | h
    · exact h
    · exfalso
      obtain ⟨j, hj⟩ : ∃ j : Nat, (j : Int) = de d := ⟨(de d).toNat, by omega⟩
      apply hn
      rw [← g (j + 1074) (by omega), Nm.two_add, ← Int.mul_assoc]
      exact Int.mul_emod_left _ _
  obtain ⟨k, hk⟩ : ∃ k : Nat, de d = -(k : Int) := ⟨(-de d).toNat, by omega⟩
  obtain ⟨s, hs⟩ : ∃ s : Nat, min k 63 = s + 1 := ⟨min k 63 - 1, by omega⟩
  obtain ⟨q1, q2, q3⟩ := whole_cut (U := un (ab d)) (k := k) (dr := s + 1) m0 m1 (by omega) (by omega) hs.symm (g (1074 - k) (by omega)).symm
  exact ⟨k, s, hk, by omega, by omega, hs, q1, cmpI_iff q2 q3⟩

/-- One of the two whole numbers beside d. -/
def WIs (d : Int) (up : Bool) (r : Int) : Prop :=
  (isn d = true → r = 9221120237041090560) ∧ (isi d = true → r = d) ∧
  (fin d → ∃ y, r = sg (ngd d) y ∧ 0 ≤ y ∧ y < 9218868437227405312 ∧ (intg d = true → y = ab d) ∧ (intg d = false → un y = wup (un (ab d) / 2 ^ 1074) up * 2 ^ 1074))

theorem sg_ab (d : Int) (h0 : 0 ≤ d) (h1 : d < 18446744073709551616) : d = sg (ngd d) (ab d) := by
  have := sb_ab d h0 h1
  exact this

theorem un_half {d : Int} (hf : fin d) (hi : intg d = false) : 0 ≤ un (ab d) / 2 ^ 1074 ∧ un (ab d) / 2 ^ 1074 + 1 < 9007199254740992 := by
  obtain ⟨⟨m0, m1⟩, -, -, -⟩ := dec_f d hf
  obtain ⟨k, s, -, -, -, -, q, -⟩ := frac_k hf hi
  rw [← q]
  have hp := Nm.two_pos (s + 1)
  refine ⟨Int.ediv_nonneg m0 (by omega), ?_⟩
  have h2 : (2 : Int) ^ (s + 1) = 2 ^ s * 2 := by rw [Nm.two_succ, Int.mul_comm]
  have hs := Nm.two_pos s
  have : dm d / 2 ^ (s + 1) < 4503599627370496 := by
    refine Int.ediv_lt_of_lt_mul hp ?_
    generalize (2 : Int) ^ (s + 1) = A at *
    generalize (2 : Int) ^ s = B at *
    omega
  omega

theorem wup_bd {W : Int} (up : Bool) (h0 : 0 ≤ W) (h1 : W + 1 < 9007199254740992) : 0 ≤ wup W up ∧ wup W up < 9007199254740992 := by
  rw [wup]; split <;> omega

theorem wis_fin {d y : Int} {up : Bool} (hf : fin d) (hi : intg d = false) (h : Rnd (wup (un (ab d) / 2 ^ 1074) up) 1 0 false y) : WIs d up (sg (ngd d) y) := by
  have b := un_half hf hi
  obtain ⟨q, q0, q1⟩ := rnd_rep (c := 1074) (by omega) (wup_bd up b.1 b.2).1 (wup_bd up b.1 b.2).2 (by omega) h
  refine ⟨fun g => ?_, fun g => ?_, fun _ => ⟨y, rfl, q0, q1, fun g => ?_, fun _ => q⟩⟩
  · rw [(fin_kinds hf).1] at g; cases g
  · rw [(fin_kinds hf).2] at g; cases g
  · rw [hi] at g; cases g

theorem wis_stay {d : Int} (up : Bool) (h0 : 0 ≤ d) (h1 : d < 18446744073709551616) (h : isi d = true ∨ (fin d ∧ intg d = true)) : WIs d up d := by
  refine ⟨fun g => ?_, fun _ => rfl, fun hf => ?_⟩
  · rcases h with h | h
    · simp only [isn, isi, decide_eq_true_iff] at h g; omega
    · rw [(fin_kinds h.1).1] at g; cases g
  · rcases h with h | h
    · rw [(fin_kinds hf).2] at h; cases h
    · exact ⟨ab d, sg_ab d h0 h1, (ab_bd d).1, hf, fun _ => rfl, fun g => by rw [h.2] at g; cases g⟩
end Ie

set_option maxRecDepth 100000 in
theorem rounded_stay (fv : Value) (up : Bool) (d : Int) (w : World) (hT : Tab w) (h0 : 0 ≤ d) (h1 : d < 18446744073709551616) (h : Ie.fin d → Ie.intg d = true) :
    Calls Tryd.prog 37 #[.int .u64 d, fv] w fun e w' => ∃ r, e = .returned (.int .u64 r) ∧ Ie.WIs d up r ∧ Below w.heap.size w w' := by
  have NN := hid (fun (wx : World) => mnan_any d wx h0 h1)
  have NI := hid (fun (wx : World) => minfinite_any d wx h0 h1)
  have IG := hid (fun (wx : World) (hx : Tab wx) => integral_any d wx hx h0 h1)
  have HT := hid hT
  rcases Ie.kinds d with g | ⟨g, g', g''⟩ | ⟨g, g', g''⟩
  · have E : Hid (Ie.WIs d up 9221120237041090560) := ⟨fun _ => rfl, fun k => (by simp only [Ie.isn, Ie.isi, decide_eq_true_iff] at g k; omega), fun k => (by simp only [Ie.isn, Ie.fin, decide_eq_true_iff] at g k; omega)⟩
    rw [g] at NN
    clear g h
    go_enter Tryd.func37, Tryd.ntmps37
    go_wp2_with fail
    refine (NN.out _).mono ?_
    rintro e wz ⟨rfl, hz⟩
    replace hz := hz.symm
    subst hz
    go_wp2_with fail
    go_ret
    exact ⟨_, rfl, E.out, Below.refl _ _⟩
  · have E := hid (Ie.wis_stay up h0 h1 (.inl g'))
    rw [g] at NN
    rw [g'] at NI
    clear g g' g'' h
    go_enter Tryd.func37, Tryd.ntmps37
    go_wp2_with fail
    refine (NN.out _).mono ?_
    rintro e wz ⟨rfl, hz⟩
    replace hz := hz.symm
    subst hz
    go_wp2_with fail
    refine (NI.out _).mono ?_
    rintro e wz ⟨rfl, hz⟩
    replace hz := hz.symm
    subst hz
    go_wp2_with fail
    go_ret
    exact ⟨_, rfl, E.out, Below.refl _ _⟩
  · have E := hid (Ie.wis_stay up h0 h1 (.inr ⟨g'', h g''⟩))
    rw [g] at NN
    rw [g'] at NI
    rw [h g''] at IG
    clear g g' g'' h
    go_enter Tryd.func37, Tryd.ntmps37
    go_wp2_with fail
    refine (NN.out _).mono ?_
    rintro e wz ⟨rfl, hz⟩
    replace hz := hz.symm
    subst hz
    go_wp2_with fail
    refine (NI.out _).mono ?_
    rintro e wz ⟨rfl, hz⟩
    replace hz := hz.symm
    subst hz
    go_wp2_with fail
    refine (IG.out _ HT.out).mono ?_
    rintro e w1 ⟨rfl, hB⟩
    have HB := hid hB
    clear hB
    go_wp2_with fail
    go_ret
    exact ⟨_, rfl, E.out, HB.out⟩

set_option maxRecDepth 100000 in
theorem truncRule_any (a b : Value) (w : World) : Calls Tryd.prog 38 #[a, b] w fun e w' => e = .returned (.bool false) ∧ w' = w := by
  go_enter Tryd.func38, Tryd.ntmps38
  go_wp2_with fail
  go_ret
  exact ⟨rfl, rfl⟩

theorem roundedT_any (d : Int) (w : World) (hT : Tab w) (h0 : 0 ≤ d) (h1 : d < 18446744073709551616) :
    Calls Tryd.prog 37 #[.int .u64 d, .func (Fn.func 38) #[] #[]] w fun e w' => ∃ r, e = .returned (.int .u64 r) ∧ Ie.WIs d false r ∧ Below w.heap.size w w' := by
  by_cases hi : Ie.fin d ∧ Ie.intg d = false
  · obtain ⟨hf, hi⟩ := hi
    obtain ⟨k, s, q1, q2, q3, q4, q5, q6⟩ := Ie.frac_k hf hi
    refine (rounded_T false d k s w hT h0 h1 hf hi q1 q2 q3 q4 (fun wx _ => truncRule_any _ _ wx)).mono ?_
    rintro e w' ⟨y, rfl, hy, hB⟩
    rw [q5] at hy
    exact ⟨_, rfl, Ie.wis_fin hf hi hy.out, hB⟩
  · refine rounded_stay _ false d w hT h0 h1 (fun hf => ?_)
    cases g : Ie.intg d
    · exact absurd ⟨hf, g⟩ hi
    · rfl

set_option maxRecDepth 100000 in
theorem trunc_any (d : Int) (w : World) (hT : Tab w) (h0 : 0 ≤ d) (h1 : d < 18446744073709551616) :
    Calls Tryd.prog 16 #[.int .u64 d] w fun e w' => ∃ r, e = .returned (.int .u64 r) ∧ Ie.WIs d false r ∧ Below w.heap.size w w' := by
  have R := hid (roundedT_any d w hT h0 h1)
  clear hT
  go_enter Tryd.func16, Tryd.ntmps16
  go_wp2_with fail
  refine R.out.mono ?_
  rintro e w' ⟨r, rfl, h⟩
  have H := hid h
  clear h
  go_wp2_with fail
  go_ret
  exact ⟨_, rfl, H.out⟩
end Go.Proofs.YtpeecbidojjfpaaDoor

/-
  Two exacts in boxes of their own, and room for the answer.
-/
namespace Go.Proofs.YtpeecbidojjfpaaDoor
open Go Go.RowKit Go.Deep

/-- Two exacts in boxes of their own, and room for the answer. -/
def Box (w wx : World) (x0 x1 x2 x3 y0 y1 y2 y3 : Value) : Prop :=
  (Row4 wx w.heap.size 108 x0 x1 x2 x3 ∧ Row4 wx (w.heap.size + 1) 108 y0 y1 y2 y3 ∧ Row4 wx (w.heap.size + 2) 108 (.bool false) (.slice none 0 0) (.int .i64 0) (.bool false)) ∧ Below w.heap.size w wx ∧ w.heap.size + 3 ≤ wx.heap.size

theorem Box.new (w : World) (x0 x1 x2 x3 y0 y1 y2 y3 : Value) :
    Box w (((w.alloc (.cells #[x0, x1, x2, x3] 108)).alloc (.cells #[y0, y1, y2, y3] 108)).alloc (.cells #[.bool false, .slice none 0 0, .int .i64 0, .bool false] 108)) x0 x1 x2 x3 y0 y1 y2 y3 := by
  have s1 : (w.alloc (.cells #[x0, x1, x2, x3] 108)).heap.size = w.heap.size + 1 := by simp
  have s2 : ((w.alloc (.cells #[x0, x1, x2, x3] 108)).alloc (.cells #[y0, y1, y2, y3] 108)).heap.size = w.heap.size + 2 := by simp
  have r0 := Row4.new w 108 x0 x1 x2 x3
  have r1 := Row4.new (w.alloc (.cells #[x0, x1, x2, x3] 108)) 108 y0 y1 y2 y3
  have r2 := Row4.new ((w.alloc (.cells #[x0, x1, x2, x3] 108)).alloc (.cells #[y0, y1, y2, y3] 108)) 108 (.bool false) (.slice none 0 0) (.int .i64 0) (.bool false)
  rw [s1] at r1
  rw [s2] at r2
  refine ⟨⟨?_, ?_, r2⟩, ?_, ?_⟩
  · exact (r0.below (alloc_b _ _) (by omega)).below (alloc_b _ _) (by omega)
  · exact r1.below (alloc_b _ _) (by omega)
  · have h1 := alloc_b w (.cells #[x0, x1, x2, x3] 108)
    have h2 := Below.alloc h1 h1.size (.cells #[y0, y1, y2, y3] 108)
    exact Below.alloc h2 h2.size _
  · simp

theorem Box.on {w wx w' : World} {x0 x1 x2 x3 y0 y1 y2 y3 : Value} (h : Box w wx x0 x1 x2 x3 y0 y1 y2 y3) (hB : Below wx.heap.size wx w') : Box w w' x0 x1 x2 x3 y0 y1 y2 y3 := by
  obtain ⟨⟨a, b, c⟩, d, e⟩ := h
  exact ⟨⟨a.below hB a.lt, b.below hB b.lt, c.below hB c.lt⟩, d.trans (hB.mono d.size), by have := hB.size; omega⟩

theorem Box.cells {w wx : World} {x0 x1 x2 x3 y0 y1 y2 y3 : Value} (h : Box w wx x0 x1 x2 x3 y0 y1 y2 y3) :
    (wx.cell? ⟨w.heap.size, 0, none⟩ = some x0 ∧ wx.cell? ⟨w.heap.size, 1, none⟩ = some x1 ∧ wx.cell? ⟨w.heap.size, 2, none⟩ = some x2) ∧
    (wx.cell? ⟨w.heap.size + 1, 0, none⟩ = some y0 ∧ wx.cell? ⟨w.heap.size + 1, 1, none⟩ = some y1 ∧ wx.cell? ⟨w.heap.size + 1, 2, none⟩ = some y2) ∧
    ((wx.cell? ⟨w.heap.size + 2, 0, none⟩ = some (.bool false) ∧ wx.cell? ⟨w.heap.size + 2, 1, none⟩ = some (.slice none 0 0) ∧ wx.cell? ⟨w.heap.size + 2, 2, none⟩ = some (.int .i64 0) ∧ wx.cell? ⟨w.heap.size + 2, 3, none⟩ = some (.bool false)) ∧
      (wx.frozen? ⟨w.heap.size + 2, 0, none⟩ = false ∧ wx.frozen? ⟨w.heap.size + 2, 1, none⟩ = false ∧ wx.frozen? ⟨w.heap.size + 2, 2, none⟩ = false ∧ wx.frozen? ⟨w.heap.size + 2, 3, none⟩ = false)) := by
  obtain ⟨⟨a, b, c⟩, -, -⟩ := h
  exact ⟨⟨a.cells.1.1, a.cells.1.2.1, a.cells.1.2.2.1⟩, ⟨b.cells.1.1, b.cells.1.2.1, b.cells.1.2.2.1⟩, c.cells⟩
end Go.Proofs.YtpeecbidojjfpaaDoor

/-
  soft: plus (made by mkplus.py).
-/
namespace Go.Proofs.YtpeecbidojjfpaaDoor
open Go Go.RowKit Go.Deep

namespace Ie
/-- What plus tells: the sum of both, at the lower exponent (or nothing at 0). -/
def SumIs (n1 : Bool) (V1 e1 : Int) (n2 : Bool) (V2 e2 : Int) (neg : Bool) (V x : Int) : Prop :=
  (x = min e1 e2 ∨ (V = 0 ∧ x = 0)) ∧ (V = 0 → neg = (n1 && n2)) ∧ (0 ≤ V ∧ V < 2 ^ 5000) ∧
  ∀ B a b c : Nat, (a : Int) = e1 + B → (b : Int) = e2 + B → (c : Int) = x + B → sn neg V * 2 ^ c = sn n1 V1 * 2 ^ a + sn n2 V2 * 2 ^ b

theorem sum_at {n1 n2 neg : Bool} {V1 V2 V e1 e2 m : Int} {k1 k2 : Nat} (hm : min e1 e2 = m) (hk1 : (k1 : Int) = e1 - m) (hk2 : (k2 : Int) = e2 - m) (h : sn neg V = sn n1 (V1 * 2 ^ k1) + sn n2 (V2 * 2 ^ k2)) (h0 : V = 0 → neg = (n1 && n2)) (v0 : 0 ≤ V) (v1 : V < 2 ^ 5000) : SumIs n1 V1 e1 n2 V2 e2 neg V m := by
  refine ⟨.inl hm.symm, h0, ⟨v0, v1⟩, fun B a b c ha hb hc => ?_⟩
  rw [h, ← sn_mul_right, ← sn_mul_right, Int.add_mul, Int.mul_assoc, Int.mul_assoc, ← Nm.two_add, ← Nm.two_add, show k1 + c = a by omega, show k2 + c = b by omega]

theorem sum_none {n1 n2 : Bool} {V1 V2 e1 e2 m : Int} {k1 k2 : Nat} (hm : min e1 e2 = m) (hk1 : (k1 : Int) = e1 - m) (hk2 : (k2 : Int) = e2 - m) (hn : n1 ≠ n2) (h : V1 * 2 ^ k1 = V2 * 2 ^ k2) : SumIs n1 V1 e1 n2 V2 e2 false 0 0 := by
  refine ⟨.inr ⟨rfl, rfl⟩, fun _ => ?_, ⟨by omega, Nm.two_pos _⟩, fun B a b c ha hb hc => ?_⟩
  · cases n1 <;> cases n2 <;> first | rfl | exact absurd rfl hn
  · have key : V1 * 2 ^ a = V2 * 2 ^ b := by
      have q : (a : Int) = k1 + (m + B) ∧ (b : Int) = k2 + (m + B) := by omega
      obtain ⟨j, hj⟩ : ∃ j : Nat, (j : Int) = m + B := ⟨(m + B).toNat, by omega⟩
      rw [show a = k1 + j by omega, show b = k2 + j by omega, Nm.two_add, Nm.two_add, ← Int.mul_assoc, ← Int.mul_assoc, h]
    rw [sn_zero, Int.zero_mul, sn_mul_right, sn_mul_right, key]
    cases n1 <;> cases n2 <;> simp only [sn, Bool.false_eq_true, if_true, if_false] <;> first | exact absurd rfl hn | omega

theorem up_lt {V : Int} {k K : Nat} (v1 : V < 2 ^ 200) (hk : k ≤ K) : V * 2 ^ k < 2 ^ (200 + K) := by
  have h1 : V * 2 ^ k < 2 ^ 200 * 2 ^ k := Int.mul_lt_mul_of_pos_right v1 (Nm.two_pos k)
  rw [← Nm.two_add] at h1
  have := Nm.two_mono (show 200 + k ≤ 200 + K by omega)
  omega
end Ie

/-- What plus answers. -/
def PlusTold (n1 : Bool) (V1 e1 : Int) (n2 : Bool) (V2 e2 : Int) (w : World) (e : Ending) (w' : World) : Prop :=
  ∃ neg p os V x, e = .returned (exactOf neg p (List.length os) (List.length os) x false) ∧ Ans w.heap.size w' p os V ∧ Below w.heap.size w w' ∧ Ie.SumIs n1 V1 e1 n2 V2 e2 neg V x

theorem Ans.tl {B : Nat} {w : World} {p : Option Addr} {ys : List Int} {n : Int} (h : Ans B w p ys n) {K : Nat} (hn : n < 2 ^ K) (hK : K ≤ 262144) : Nm.tsize ys ≤ 4096 ∧ ys.length ≤ 4096 ∧ n < Nm.pw 4096 := by
  have e := pw_4096
  have := Nm.two_mono hK
  have h1 : n < Nm.pw 4096 := by omega
  have h2 := (Nm.tsize_le_iff h.2.1 4096).2 (by rw [h.2.2.2.1]; exact h1)
  exact ⟨h2, by rw [← h.2.2.1]; exact h2, h1⟩
end Go.Proofs.YtpeecbidojjfpaaDoor

/-
  soft: nan, infinite, zero, number.
-/
namespace Go.Proofs.YtpeecbidojjfpaaDoor
open Go Go.RowKit Go.Deep

set_option maxRecDepth 100000 in
theorem nan_any (d : Int) (w : World) (h0 : 0 ≤ d) (h1 : d < 18446744073709551616) :
    Calls Tryd.prog 89 #[.int .u64 d] w fun e w' => e = .returned (.bool (Ie.isn d)) ∧ w' = w := by
  have CL := hid (class_any d w h0 h1)
  have E := hid (Ie.isn_cls d)
  generalize Ie.cls d = c at CL E
  go_enter Tryd.func89, Tryd.ntmps89
  go_wp2_with fail
  refine CL.out.mono ?_
  rintro e w' ⟨rfl, rfl⟩
  go_wp2_with fail
  go_ret
  exact ⟨by rw [E.out]; rfl, rfl⟩

set_option maxRecDepth 100000 in
theorem infinite_any (d : Int) (w : World) (h0 : 0 ≤ d) (h1 : d < 18446744073709551616) :
    Calls Tryd.prog 90 #[.int .u64 d] w fun e w' => e = .returned (.bool (Ie.isi d)) ∧ w' = w := by
  have CL := hid (class_any d w h0 h1)
  have E := hid (Ie.isi_cls d)
  generalize Ie.cls d = c at CL E
  go_enter Tryd.func90, Tryd.ntmps90
  go_wp2_with fail
  refine CL.out.mono ?_
  rintro e w' ⟨rfl, rfl⟩
  go_wp2_with fail
  go_ret
  exact ⟨by rw [E.out]; rfl, rfl⟩

/-- What number answers. -/
def NumTold (d : Int) (w : World) (e : Ending) (w' : World) : Prop :=
  ∃ p os, e = .returned (exactOf (Ie.ngd d) p (List.length os) (List.length os) (Ie.de d) false) ∧ Ans w.heap.size w' p os (Ie.dm d) ∧ Below w.heap.size w w'

set_option maxRecDepth 100000 in
set_option maxHeartbeats 2000000 in
theorem number_any (d : Int) (w : World) (h0 : 0 ≤ d) (h1 : d < 18446744073709551616) (hf : Ie.fin d) :
    Calls Tryd.prog 91 #[.int .u64 d] w fun e w' => NumTold d w e w' := by
  have D := hid (fun (wx : World) => decode_any d wx h0 h1)
  rw [← Ie.ngd] at D
  obtain ⟨⟨m0, m1⟩, -, -, -⟩ := Ie.dec_f d hf
  have FU := hid (fun (wx : World) => fromUint_any (Ie.dm d) wx m0 (by omega))
  have WT : Hid (∀ (w2 : World) (p : Option Addr) (os : List Int), Ans (w.heap.size + 1) w2 p os (Ie.dm d) → Row4 w2 w.heap.size 108 (.bool false) (.slice none 0 0) (.int .i64 0) (.bool false) → Below w.heap.size w w2 →
      NumTold d w (.returned (exactOf (Ie.ngd d) p (List.length os) (List.length os) (Ie.de d) false)) ((((w2.setCell ⟨w.heap.size, 0, none⟩ (.bool (Ie.ngd d))).setCell ⟨w.heap.size, 1, none⟩ (.slice p os.length os.length)).setCell ⟨w.heap.size, 2, none⟩ (.int .i64 (Ie.de d))).setCell ⟨w.heap.size, 3, none⟩ (.bool false))) := by
    intro w2 p os A R hB
    have A' := A.set4 (b := w.heap.size) (u0 := .bool (Ie.ngd d)) (u1 := .slice p os.length os.length) (u2 := .int .i64 (Ie.de d)) (u3 := .bool false) (by omega)
    exact ⟨p, os, rfl, ⟨A'.1, A'.2.1, A'.2.2.1, A'.2.2.2.1, fun a h => by have := A'.2.2.2.2 a h; omega⟩, set4_below hB (Nat.le_refl _)⟩
  simp only [partsOf] at D
  generalize Ie.ngd d = neg at *
  generalize Ie.dm d = m at *
  generalize Ie.de d = x at *
  generalize Ie.cls d = c at *
  clear hf
  go_enter Tryd.func91, Tryd.ntmps91
  go_wp2_with fail
  refine (D.out _).mono ?_
  rintro e w1 ⟨rfl, hB⟩
  have R0 := Row4.new w 108 (.bool false) (.slice none 0 0) (.int .i64 0) (.bool false)
  have sz : (w.alloc (Obj.cells #[Value.bool false, Value.slice none 0 0, Value.int IntKind.i64 0, Value.bool false] 108)).heap.size = w.heap.size + 1 := by simp
  have R1 := R0.below hB (by omega)
  have HB := (alloc_b w _).trans (hB.mono (alloc_b w _).size)
  have s1 : w.heap.size + 1 ≤ w1.heap.size := by have := hB.size; omega
  clear hB R0 sz D
  go_wp2_with fail
  have HB1 := hid (Below.alloc HB HB.size (.cells #[.bool neg, .int .i64 c, .int .u64 m, .int .i64 x] 28))
  have R2 := R1.below (Below.alloc (w := w1) (Below.refl w1.heap.size w1) (Nat.le_refl _) (.cells #[.bool neg, .int .i64 c, .int .u64 m, .int .i64 x] 28)) R1.lt
  have P := Row4.new w1 28 (.bool neg) (.int .i64 c) (.int .u64 m) (.int .i64 x)
  clear R1 HB
  generalize w1.alloc (.cells #[.bool neg, .int .i64 c, .int .u64 m, .int .i64 x] 28) = wA at *
  obtain ⟨⟨p0, p1, p2, p3⟩, -⟩ := P.cells
  have HS := hid s1
  have CA : Hid (∀ w2 : World, Below wA.drew.heap.size wA.drew w2 → (Below w.heap.size w w2 ∧ Row4 w2 w.heap.size 108 (.bool false) (.slice none 0 0) (.int .i64 0) (.bool false)) ∧ Row4 w2 w1.heap.size 28 (.bool neg) (.int .i64 c) (.int .u64 m) (.int .i64 x)) := by
    intro w2 hB2
    have d := drew_b HB1.out
    exact ⟨⟨d.trans (hB2.mono d.size), (R2.heap (w' := wA.drew) rfl).below hB2 R2.lt⟩, (P.heap (w' := wA.drew) rfl).below hB2 P.lt⟩
  have LE := hid (show w.heap.size + 1 ≤ wA.drew.heap.size from Nat.le_trans s1 (Nat.le_of_lt P.lt))
  clear R2 P s1
  go_region_with (go_at_call 29; refine (FU.out _).mono ?_; rintro e w2 ⟨p, os, rfl, A, hB2⟩; obtain ⟨⟨c1, c2⟩, c3⟩ := CA.out w2 hB2; have KK := hid (WT.out w2 p os ⟨A.1, A.2.1, A.2.2.1, A.2.2.2.1, fun a h => Nat.le_trans LE.out (A.2.2.2.2 a h)⟩ c2 c1); obtain ⟨⟨r0, r1, r2, r3⟩, ⟨f0, f1, f2, f3⟩⟩ := c2.cells; obtain ⟨⟨q0, q1, q2, q3⟩, -⟩ := c3.cells; have RR := hid c2; clear A hB2 c1 c2 c3)
  all_goals (go_wp2_with fail; (try simp only [Exit.inBlock, Exit.then]); refine bodyPost_ret (results_cell_row rfl _ _ w.heap.size 108 _ (0, 0) _ rfl (Row4.set RR.out) Tryd.underlying108 rfl (by kernel_rfl)) rfl ?_; exact KK.out)
end Go.Proofs.YtpeecbidojjfpaaDoor

/-
  soft: is.
-/
namespace Go.Proofs.YtpeecbidojjfpaaDoor
open Go Go.RowKit Go.Deep

theorem trl_ex : ∀ (n : Nat) (V : Int), 0 < V → V < 2 ^ n → ∃ t : Nat, t < n ∧ Nm.Trl V t
  | 0, V, h0, h1 => by rw [Int.pow_zero] at h1; omega
  | n + 1, V, h0, h1 => by
    rw [Nm.two_succ] at h1
    rcases (show V % 2 = 1 ∨ V % 2 = 0 by omega) with h | h
    · exact ⟨0, by omega, .inr ⟨V / 2, by rw [Int.pow_zero]; omega⟩⟩
    · obtain ⟨t, ht, g⟩ := trl_ex n (V / 2) (by omega) (by omega)
      rcases g with ⟨g, _⟩ | ⟨m, g⟩
      · omega
      · refine ⟨t + 1, by omega, .inr ⟨m, ?_⟩⟩
        rw [Nm.two_succ, Int.mul_assoc, ← g]
        omega

/-- What is answers: t the zeros at the end of V. -/
def Ie.isx (V e : Int) (more : Bool) (d : Int) (t : Nat) : Bool := decide (V = 0) || (!more && (!Ie.isi d && decide (Ie.de d ≤ e + t)))

theorem below_a {w : World} {A : Obj} {w' : World} (h : Below (w.alloc A).heap.size (w.alloc A) w') : Below w.heap.size w w' := (alloc_b w A).trans (h.mono (alloc_b w A).size)

set_option maxRecDepth 100000 in
set_option maxHeartbeats 4000000 in
theorem is_any (neg more : Bool) (p : Option Addr) (l c : Nat) (zs : List Int) (e V d : Int) (t : Nat) (w : World) (ha : Arg w p l c zs) (hT : Tab w) (hV : Nm.val zs = V) (hl : l = 0 ↔ V = 0) (ht : Nm.Trl V t) (tb : t ≤ 10000) (q1 : -10000 ≤ e) (q2 : e ≤ 10000) (d0 : 0 ≤ d) (d1 : d < 18446744073709551616) :
    Calls Tryd.prog 103 #[exactOf neg p l c e more, .int .u64 d] w fun r w' => r = .returned (.bool (Ie.isx V e more d t)) ∧ Below w.heap.size w w' := by
  have R0 := Row4.new w 108 (.bool neg) (.slice p l c) (.int .i64 e) (.bool more)
  obtain ⟨⟨r0, r1, r2, r3⟩, -⟩ := R0.cells
  simp only [exactOf]
  by_cases hz : V = 0
  · have l0 : l = 0 := hl.2 hz
    subst l0
    have E : Hid (Ie.isx V e more d t = true) := by rw [Hid, Ie.isx, decide_eq_true hz, Bool.true_or]
    clear ha hT hV hl ht tb q1 q2
    go_enter Tryd.func103, Tryd.ntmps103
    go_wp2_with fail
    go_ret
    exact ⟨by rw [E.out]; rfl, alloc_b w _⟩
  · have l0 : ((l : Int) == 0) = false := by rw [beq_eq_false_iff_ne]; omega
    have lb : (l : Int) ≤ 17592186044416 := by have := ha.2.1; have := ha.2.2.1; omega
    cases more
    · have IN := hid (fun (wx : World) => infinite_any d wx d0 d1)
      cases hi : Ie.isi d
      · rw [hi] at IN
        obtain ⟨x, hx⟩ : ∃ x, Ie.de d = x := ⟨_, rfl⟩
        have xb : -1074 ≤ x ∧ x ≤ 2047 := by
          rw [← hx, Ie.de]
          have := Ie.fld_bd d
          split
          · rename_i h
            have : Ie.fld d ≠ 0 := by
              intro h0
              rw [Ie.cls, if_pos h0] at h
              split at h <;> omega
            omega
          · split <;> omega
        obtain ⟨xb0, xb1⟩ := xb
        have DC := hid (fun (wx : World) => decode_any d wx d0 d1)
        rw [hx] at DC
        have TR : Hid (∀ wx : World, Below w.heap.size w wx → Calls Tryd.prog 8 #[.slice p l c] wx fun e w' => e = .returned (.int .i64 (t : Int)) ∧ w' = wx) := by
          intro wx hxx
          refine (trail_any p l c zs wx (ha.below hxx (Nat.le_refl _)) (hT.below hxx)).mono ?_
          rintro e w' ⟨t', rfl, g, rfl⟩
          rw [hV] at g
          rw [g.unique ht]
          exact ⟨rfl, rfl⟩
        have E : Hid (Ie.isx V e false d t = decide (x ≤ e + t)) := by rw [Hid, Ie.isx, decide_eq_false hz, hi, hx]; simp
        have tb' : (t : Int) ≤ 10000 := by omega
        have CA : Hid (∀ w2 : World, Below (w.alloc (.cells #[.bool neg, .slice p l c, .int .i64 e, .bool false] 108)).drew.heap.size (w.alloc (.cells #[.bool neg, .slice p l c, .int .i64 e, .bool false] 108)).drew w2 → Below w.heap.size w w2 ∧ Row4 w2 w.heap.size 108 (.bool neg) (.slice p l c) (.int .i64 e) (.bool false)) := by
          intro w2 hB
          have h1 := drew_b (alloc_b w (.cells #[.bool neg, .slice p l c, .int .i64 e, .bool false] 108))
          exact ⟨h1.trans (hB.mono h1.size), (R0.heap (w' := (w.alloc (.cells #[.bool neg, .slice p l c, .int .i64 e, .bool false] 108)).drew) rfl).below hB R0.lt⟩
        have D0 := hid (drew_b (alloc_b w (.cells #[.bool neg, .slice p l c, .int .i64 e, .bool false] 108)))
        simp only [partsOf] at DC
        generalize decide (9223372036854775808 ≤ d) = sgn at DC
        generalize Ie.cls d = cl at DC
        generalize Ie.dm d = mm at DC
        have FD : ∀ wx : World, (Instr.field 28 (.agg #[.bool sgn, .int .i64 cl, .int .u64 mm, .int .i64 x]) 3).run Tryd.prog wx = .ok (.int .i64 x) wx := fun _ => by kernel_rfl
        have WR : IntKind.i64.wrap (e + (t : Int)) = e + (t : Int) := by rw [IntKind.wrap_i64]; omega
        clear ha hT hV hl ht tb hz hi hx R0
        go_enter Tryd.func103, Tryd.ntmps103
        go_wp2_with fail
        generalize w.alloc (.cells #[.bool neg, .slice p l c, .int .i64 e, .bool false] 108) = wA at *
        go_region_with (first | (go_at_call 90; refine (IN.out _).mono ?_; rintro e w2 ⟨rfl, rfl⟩) | (go_at_call 8; refine (TR.out _ (by first | exact D0.out | exact HB2.out)).mono ?_; rintro e w3 ⟨rfl, rfl⟩) | (go_at_call 7; refine (DC.out _).mono ?_; rintro e w2 ⟨rfl, hB⟩; have HB2 := hid (CA.out w2 hB).1; obtain ⟨⟨s0, s1, s2, s3⟩, -⟩ := (CA.out w2 hB).2.cells; clear hB))
        all_goals (go_wp2_with fail; go_ret; exact ⟨by rw [E.out]; rfl, by first | exact HB2.out | exact D0.out⟩)
      · rw [hi] at IN
        have E : Hid (Ie.isx V e false d t = false) := by rw [Hid, Ie.isx, decide_eq_false hz, hi]; rfl
        have D0 := hid (alloc_b w (.cells #[.bool neg, .slice p l c, .int .i64 e, .bool false] 108))
        clear ha hT hV hl ht tb hz hi R0
        go_enter Tryd.func103, Tryd.ntmps103
        go_wp2_with fail
        generalize w.alloc (.cells #[.bool neg, .slice p l c, .int .i64 e, .bool false] 108) = wA at *
        go_quiet (with_reducible exact Calls.quiet_of_same (IN.out _))
        go_wp2_with fail
        go_ret
        exact ⟨by rw [E.out]; rfl, below_drewN D0.out _⟩
    · have E : Hid (Ie.isx V e true d t = false) := by rw [Hid, Ie.isx, decide_eq_false hz]; rfl
      have D0 := hid (alloc_b w (.cells #[.bool neg, .slice p l c, .int .i64 e, .bool true] 108))
      clear ha hT hV hl ht tb hz R0
      go_enter Tryd.func103, Tryd.ntmps103
      go_wp2_with fail
      generalize w.alloc (.cells #[.bool neg, .slice p l c, .int .i64 e, .bool true] 108) = wA at *
      go_quiet (fail)
      go_wp2_with fail
      go_ret
      exact ⟨by rw [E.out]; rfl, below_drewN D0.out _⟩
end Go.Proofs.YtpeecbidojjfpaaDoor
