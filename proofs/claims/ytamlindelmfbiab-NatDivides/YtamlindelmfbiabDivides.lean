/-
  THE WALK OF NatDivides.
-/
import Derived.Test.YtamlindelmfbiabAwake
import Derived.Test.YtamlindelmfbiabSmall
import Derived.Test.YtamlindelmfbiabWalk6
namespace Go.Proofs.Ytamlindelmfbiab
open Go.RowKit Go.Deep

set_option maxRecDepth 100000 in
set_option maxHeartbeats 4000000 in
theorem divides_any (p : Option Addr) (n cap : Nat) (za : List Int) (d : Int) (w : World) (ha : Arg w p n cap za) (hd0 : 0 ≤ d) (hd1 : d < 18446744073709551616) :
    Calls Try.prog 3 #[.slice p n cap, .int .u64 d] w fun e w' => e = .returned (.bool true) ∧ Below w.heap.size w w' := by
  have HA := hid ha
  have HAL := hid ha.1
  have htl := ha.tl
  have hn44 : n ≤ 17592186044416 := by have := ha.2.1; have := ha.2.2.1; omega
  clear ha
  by_cases hbig : 4096 < Nm.tsize za
  · have hbig' : (4096 : Int) < (Nm.tsize za : Int) := by omega
    go_enter Try.func3, Try.ntmps3
    go_wp2_with fail
    refine (awake_any _).mono ?_
    rintro e w1 ⟨rfl, hb1⟩
    have D1 := hid hb1
    clear hb1
    go_wp2_with fail
    refine (size_any p n cap za _ HAL.out (by omega) (HA.out.below D1.out (Nat.le_refl _)).2.2.2.1).mono ?_
    rintro e w2 ⟨rfl, rfl⟩
    go_wp2_with fail
    refine (divSmall_big p n cap za d _ (HA.out.below D1.out (Nat.le_refl _)) hbig).mono ?_
    rintro e w3 ⟨rfl, rfl⟩
    go_wp2_with fail
    go_ret
    exact ⟨rfl, D1.out⟩
  have hbig' : (Nm.tsize za : Int) ≤ 4096 := by omega
  by_cases hz : d = 0
  · subst hz
    go_enter Try.func3, Try.ntmps3
    go_wp2_with fail
    refine (awake_any _).mono ?_
    rintro e w1 ⟨rfl, hb1⟩
    have D1 := hid hb1
    clear hb1
    go_wp2_with fail
    refine (size_any p n cap za _ HAL.out (by omega) (HA.out.below D1.out (Nat.le_refl _)).2.2.2.1).mono ?_
    rintro e w2 ⟨rfl, rfl⟩
    go_wp2_with fail
    refine (divSmall_zero p n cap za _ (HA.out.below D1.out (Nat.le_refl _)) (by omega)).mono ?_
    rintro e w3 ⟨rfl, rfl⟩
    go_wp2_with fail
    go_ret
    exact ⟨rfl, D1.out⟩
  · have hdz : (d == 0) = false := by rw [beq_eq_false_iff_ne]; omega
    clear hbig
    have hs : Nm.val za < Nm.pw 4096 := (Nm.tsize_le_iff HA.out.2.2.2.2 4096).1 (by omega)
    have HS := hid hs
    clear hs
    go_enter Try.func3, Try.ntmps3
    go_wp2_with fail
    refine (awake_any _).mono ?_
    rintro e w1 ⟨rfl, hb1⟩
    have D1 := hid hb1
    clear hb1
    go_wp2_with fail
    refine (size_any p n cap za _ HAL.out (by omega) (HA.out.below D1.out (Nat.le_refl _)).2.2.2.1).mono ?_
    rintro e w2 ⟨rfl, rfl⟩
    go_wp2_with fail
    refine (divSmall_ok p n cap za d _ (HA.out.below D1.out (Nat.le_refl _)) (by omega) (by omega) hd1).mono ?_
    rintro e w3 ⟨r, os, rest, rfl, hans, ⟨hr0, hr1⟩, E, hb1⟩
    have D3 := hid (chain D1.out hb1 (Nat.le_refl _))
    have A3 := hid hans
    have hos : Nm.val os < Nm.pw 4096 := by
      have e1 := E.out
      have e2 := HS.out
      have e3 := (Nm.val_bd os hans.2.1).1
      have e4 : Nm.val os * 1 ≤ Nm.val os * d := Int.mul_le_mul_of_nonneg_left (by omega) e3
      omega
    have hol := hans.small hos
    have HOS := hid hos
    clear hb1 hans hos
    go_wp2_with fail
    refine (mulAdd_any r os.length os.length os d rest _ (A3.out.arg (by omega)) ((Nm.tsize_le_iff A3.out.2.1 4096).2 HOS.out) hd0 hd1 hr0 (by omega)).mono ?_
    rintro e w4 ⟨h1, -, hb1⟩
    obtain ⟨r2, os2, rfl, hans2⟩ := h1 (by rw [E.out]; exact HS.out)
    rw [E.out] at hans2
    have D4 := hid (chain D3.out hb1 (Nat.le_refl _))
    have A4 := hid hans2
    have hl2 : os2.length = Nm.tsize za := hans2.len HA.out.2.2.2.2 rfl
    clear h1 hb1 hans2
    go_wp2_with fail
    have A4a := hid (A4.out.arg (by omega))
    rw [hl2] at A4a
    refine (cmp_is 0 r2 p _ _ n cap os2 za _ A4a.out (HA.out.below D4.out (Nat.le_refl _)) (cmpI_eq A4.out.2.2.2.1)).mono ?_
    rintro e w5 ⟨rfl, hb1⟩
    have D5 := hid (chain D4.out hb1 (Nat.le_refl _))
    clear hb1
    go_wp2_with fail
    refine (size_any p n cap za _ HAL.out (by omega) (HA.out.below D5.out (Nat.le_refl _)).2.2.2.1).mono ?_
    rintro e w6 ⟨rfl, rfl⟩
    go_wp2_with fail
    go_ret
    exact ⟨rfl, D5.out⟩
end Go.Proofs.Ytamlindelmfbiab
