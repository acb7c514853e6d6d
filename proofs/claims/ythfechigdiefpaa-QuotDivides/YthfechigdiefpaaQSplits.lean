/-
  THE WALK OF QuotSplits.
-/
import Derived.Test.YthfechigdiefpaaQDivOk
import Derived.Test.YthfechigdiefpaaQErrs
import Derived.Test.YthfechigdiefpaaWalk3
import Derived.Test.YthfechigdiefpaaWalk4
namespace Go.Proofs.Ythfechigdiefpaa
open Go.RowKit Go.Deep

/-- An answer that stays below 2^(64 * 4096), as an argument. -/
theorem Ans.argS {B : Nat} {w : World} {p : Option Addr} {ys : List Int} {n : Int} (h : Ans B w p ys n) (hn : n < Nm.pw 4096) : Arg w p ys.length ys.length ys :=
  h.arg (by have := h.small hn; omega)

theorem Ans.ts {B : Nat} {w : World} {p : Option Addr} {ys : List Int} {n : Int} (h : Ans B w p ys n) (hn : n < Nm.pw 4096) : Nm.tsize ys ≤ 4096 := by
  rw [h.2.2.1]
  exact h.small hn

set_option maxRecDepth 100000 in
set_option maxHeartbeats 4000000 in
theorem splits_any (p q : Option Addr) (n cap m cap' : Nat) (za zb : List Int) (w : World) (ha : Arg w p n cap za) (hb : Arg w q m cap' zb) :
    Calls Try.prog 5 #[.slice p n cap, .slice q m cap'] w fun e w' => e = .returned (.bool true) ∧ Below w.heap.size w w' := by
  have HA := hid ha
  have HB := hid hb
  clear ha hb
  go_enter Try.func5, Try.ntmps5
  go_wp2_with fail
  refine (one_any 100 _ (by omega) (by omega)).mono ?_
  rintro e w1 ⟨r1, rfl, A1, hb1⟩
  have HA1 := hid A1
  have D1 := hid hb1
  clear A1 hb1
  go_wp2_with fail
  refine (one_any 7 _ (by omega) (by omega)).mono ?_
  rintro e w2 ⟨r2, rfl, A2, hb2⟩
  have HA2 := hid A2
  have HA1' := hid (HA1.out.below hb2 (Nat.le_refl _))
  have D2 := hid (chain D1.out hb2 (Nat.le_refl _))
  clear A2 hb2 HA1 D1
  go_wp2_with fail
  refine (divMod_ok r1 r2 1 1 1 1 [100] [7] _ HA1'.out HA2.out (by simp [Nm.tsize]) (by simp [Nm.tsize]) (by simp [Nm.tsize])).mono ?_
  rintro e w3 ⟨s1, os, s2, rs, rfl, B1, B2, hb3⟩
  rw [show Nm.val [100] / Nm.val [7] = 14 by simp [Nm.val]] at B1
  rw [show Nm.val [100] % Nm.val [7] = 2 by simp [Nm.val]] at B2
  have HB1 := hid B1
  have HB2 := hid B2
  have D3 := hid (chain D2.out hb3 (Nat.le_refl _))
  clear B1 B2 hb3 HA1' HA2 D2
  go_wp2_with fail
  refine (one_any 14 _ (by omega) (by omega)).mono ?_
  rintro e w4 ⟨r3, rfl, A3, hb4⟩
  have HA3 := hid A3
  have HB1' := hid (HB1.out.below hb4 (Nat.le_refl _))
  have HB2' := hid (HB2.out.below hb4 (Nat.le_refl _))
  have D4 := hid (chain D3.out hb4 (Nat.le_refl _))
  clear A3 hb4 HB1 HB2 D3
  go_wp2_with fail
  refine (alike_one HB1'.out (by omega) (by omega) r3 HA3.out).mono ?_
  rintro e w5 ⟨rfl, hb5⟩
  have HB2 := hid (HB2'.out.below hb5 (Nat.le_refl _))
  have D5 := hid (chain D4.out hb5 (Nat.le_refl _))
  clear hb5 HB1' HB2' HA3 D4
  go_wp2_with fail
  refine (one_any 2 _ (by omega) (by omega)).mono ?_
  rintro e w6 ⟨r4, rfl, A4, hb6⟩
  have HA4 := hid A4
  have HB2' := hid (HB2.out.below hb6 (Nat.le_refl _))
  have D6 := hid (chain D5.out hb6 (Nat.le_refl _))
  clear A4 hb6 HB2 D5
  go_wp2_with fail
  refine (alike_one HB2'.out (by omega) (by omega) r4 HA4.out).mono ?_
  rintro e w7 ⟨rfl, hb7⟩
  have D7 := hid (chain D6.out hb7 (Nat.le_refl _))
  have HA7 := hid (HA.out.below D7.out (Nat.le_refl _))
  have HB7 := hid (HB.out.below D7.out (Nat.le_refl _))
  clear hb7 HB2' HA4 D6
  by_cases hbig : 4096 < Nm.tsize za ∨ 4096 < Nm.tsize zb
  · have HG := hid hbig
    clear hbig
    go_wp2_with fail
    refine (divMod_big p q n cap m cap' za zb _ HA7.out HB7.out HG.out).mono ?_
    rintro e w8 ⟨rfl, rfl⟩
    go_wp2_with fail
    refine (errs_big p q n cap m cap' za zb _ HA7.out HB7.out HG.out).mono ?_
    rintro e w8 ⟨rfl, rfl⟩
    go_wp2_with fail
    go_ret
    exact ⟨rfl, D7.out⟩
  by_cases hzero : Nm.tsize zb = 0
  · have HZ := hid hzero
    have HG : Hid (Nm.tsize za ≤ 4096) := by show _ ≤ _; omega
    clear hbig hzero
    go_wp2_with fail
    refine (divMod_zero p q n cap m cap' za zb _ HA7.out HB7.out HG.out HZ.out).mono ?_
    rintro e w8 ⟨rfl, hb8⟩
    have D8 := hid (chain D7.out hb8 (Nat.le_refl _))
    have HA8 := hid (HA7.out.below hb8 (Nat.le_refl _))
    have HB8 := hid (HB7.out.below hb8 (Nat.le_refl _))
    clear hb8
    go_wp2_with fail
    refine (errs_zero p q n cap m cap' za zb _ HA8.out HB8.out HG.out HZ.out).mono ?_
    rintro e w8 ⟨rfl, rfl⟩
    go_wp2_with fail
    go_ret
    exact ⟨rfl, D8.out⟩
  · have HG : Hid (Nm.tsize za ≤ 4096) := by show _ ≤ _; omega
    have HG' : Hid (Nm.tsize zb ≤ 4096) := by show _ ≤ _; omega
    have HZ : Hid (0 < Nm.tsize zb) := by show _ < _; omega
    have va := Nm.val_bd za HA.out.2.2.2.2
    have vb : 0 < Nm.val zb := by
      have h1 := Nm.tsize_zero_iff HB.out.2.2.2.2
      have h2 := (Nm.val_bd zb HB.out.2.2.2.2).1
      omega
    have hs : Nm.val za < Nm.pw 4096 := (Nm.tsize_le_iff HA.out.2.2.2.2 4096).1 (by omega)
    have ed := Int.emod_add_mul_ediv (Nm.val za) (Nm.val zb)
    have e0 := Int.emod_nonneg (Nm.val za) (show Nm.val zb ≠ 0 by omega)
    have e1 := Int.emod_lt_of_pos (Nm.val za) vb
    have e2 : 0 ≤ Nm.val za / Nm.val zb := Int.ediv_nonneg va.1 (by omega)
    have e3 : Nm.val za / Nm.val zb * 1 ≤ Nm.val za / Nm.val zb * Nm.val zb := Int.mul_le_mul_of_nonneg_left (by omega) e2
    rw [Int.mul_comm] at ed
    have HE : Hid (Nm.val za / Nm.val zb * Nm.val zb + Nm.val za % Nm.val zb = Nm.val za ∧ Nm.val za / Nm.val zb < Nm.pw 4096 ∧ Nm.val za % Nm.val zb < Nm.pw 4096 ∧ Nm.val za / Nm.val zb * Nm.val zb < Nm.pw 4096 ∧ Nm.val za < Nm.pw 4096 ∧ Nm.val za % Nm.val zb < Nm.val zb) := by
      refine ⟨by omega, by omega, by omega, by omega, hs, e1⟩
    clear hbig hzero va vb hs ed e0 e1 e2 e3
    go_wp2_with fail
    refine (divMod_ok p q n cap m cap' za zb _ HA7.out HB7.out HG.out HG'.out HZ.out).mono ?_
    rintro e w8 ⟨s1, os, s2, rs, rfl, B1, B2, hb8⟩
    have D8 := hid (chain D7.out hb8 (Nat.le_refl _))
    have HA8 := hid (HA7.out.below hb8 (Nat.le_refl _))
    have HB8 := hid (HB7.out.below hb8 (Nat.le_refl _))
    have HB1 := hid B1
    have HB2 := hid B2
    clear hb8 B1 B2 HA7 HB7 D7
    go_wp2_with fail
    refine (errs_ok p q n cap m cap' za zb _ HA8.out HB8.out HG.out HG'.out HZ.out).mono ?_
    rintro e w8 ⟨rfl, rfl⟩
    go_wp2_with fail
    refine (mul_ok s1 q _ _ m cap' os zb _ (HB1.out.argS HE.out.2.1) HB8.out (HB1.out.ts HE.out.2.1) HG'.out (by rw [HB1.out.2.2.2.1]; exact HE.out.2.2.2.1)).mono ?_
    rintro e w9 ⟨t1, ps, rfl, B3, hb9⟩
    rw [HB1.out.2.2.2.1] at B3
    have HB3 := hid B3
    have D9 := hid (chain D8.out hb9 (Nat.le_refl _))
    have HA9 := hid (HA8.out.below hb9 (Nat.le_refl _))
    have HB9 := hid (HB8.out.below hb9 (Nat.le_refl _))
    have HB2' := hid (HB2.out.below hb9 (Nat.le_refl _))
    clear B3 hb9 HA8 HB8 D8 HB2 HB1
    go_wp2_with fail
    refine (add_ok t1 s2 _ _ _ _ ps rs _ (HB3.out.argS HE.out.2.2.2.1) (HB2'.out.argS HE.out.2.2.1) (by rw [HB3.out.2.2.2.1, HB2'.out.2.2.2.1, HE.out.1]; exact HE.out.2.2.2.2.1)).mono ?_
    rintro e w10 ⟨t2, qs, rfl, B4, hb10⟩
    rw [HB3.out.2.2.2.1, HB2'.out.2.2.2.1, HE.out.1] at B4
    have HB4 := hid B4
    have D10 := hid (chain D9.out hb10 (Nat.le_refl _))
    have HA10 := hid (HA9.out.below hb10 (Nat.le_refl _))
    have HB10 := hid (HB9.out.below hb10 (Nat.le_refl _))
    have HB2 := hid (HB2'.out.below hb10 (Nat.le_refl _))
    clear B4 hb10 HA9 HB9 D9 HB2' HB3
    go_wp2_with fail
    refine (cmp_is 0 t2 p _ _ n cap qs za _ (HB4.out.argS HE.out.2.2.2.2.1) HA10.out (cmpI_eq HB4.out.2.2.2.1)).mono ?_
    rintro e w11 ⟨rfl, hb11⟩
    have D11 := hid (chain D10.out hb11 (Nat.le_refl _))
    have HB11 := hid (HB10.out.below hb11 (Nat.le_refl _))
    have HB2' := hid (HB2.out.below hb11 (Nat.le_refl _))
    clear hb11 HB10 HB2 HB4 D10
    go_wp2_with fail
    refine (cmp_is (-1) s2 q _ _ m cap' rs zb _ (HB2'.out.argS HE.out.2.2.1) HB11.out (cmpI_lt (by rw [HB2'.out.2.2.2.1]; exact HE.out.2.2.2.2.2))).mono ?_
    rintro e w12 ⟨rfl, hb12⟩
    have D12 := hid (chain D11.out hb12 (Nat.le_refl _))
    clear hb12
    go_wp2_with fail
    go_ret
    exact ⟨rfl, D12.out⟩
end Go.Proofs.Ythfechigdiefpaa
