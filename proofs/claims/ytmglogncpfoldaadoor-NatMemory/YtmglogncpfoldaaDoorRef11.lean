/-
  THE REFERENCE's Mul.
-/
import Derived.Test.YtmglogncpfoldaaDoorRef10
import Derived.Test.YtmglogncpfoldaaDoorShiftAny
namespace Go.Proofs.YtmglogncpfoldaaDoor
open Go.RowKit Go.Deep

/-- A fact that the walk cannot open. -/
structure Shut (p : Prop) : Prop where
  out : p

/-- Where the digits are too many the product is too great. -/
theorem prod_big {x y : Int} {a b : Nat} (hx0 : 0 ≤ x) (hy0 : 0 ≤ y) (hx : Nm.BLen x a) (hy : Nm.BLen y b) (h : 262145 < a + b) (ha : a ≤ 262144) (hb : b ≤ 262144) : Nm.pw 4096 ≤ x * y := by
  have px : 0 < x := by
    rcases (show x = 0 ∨ 0 < x by omega) with h0 | h0
    · have := hx.2.1 h0; omega
    · exact h0
  have py : 0 < y := by
    rcases (show y = 0 ∨ 0 < y by omega) with h0 | h0
    · have := hy.2.1 h0; omega
    · exact h0
  have h1 := (hx.2.2 px).2
  have h2 := (hy.2.2 py).2
  have h3 : (2 : Int) ^ (a - 1) * 2 ^ (b - 1) ≤ x * y := Int.mul_le_mul h1 h2 (by have := Nm.two_pos (b - 1); omega) hx0
  rw [← Nm.two_add] at h3
  have h4 := Nm.two_mono (show 262144 ≤ a - 1 + (b - 1) by omega)
  rw [pw_4096]
  omega

theorem blen_le {x : Int} {a : Nat} (hx : Nm.BLen x a) (h0 : 0 ≤ x) (h : x < Nm.pw 4096) : a ≤ 262144 := by
  rcases (show x = 0 ∨ 0 < x by omega) with h1 | h1
  · have := hx.2.1 h1; omega
  · have h2 := (hx.2.2 h1).2
    rw [pw_4096] at h
    have := two_lt (show (2 : Int) ^ (a - 1) < 2 ^ 262144 by omega)
    omega

set_option maxHeartbeats 1000000 in
theorem refMul_any (p q : Option Addr) (n cap m cap' : Nat) (za zb : List Int) (w : World) (ha : Arg w p n cap za) (hb : Arg w q m cap' zb) :
    Calls Tryd.prog 24 #[.slice p n cap, .slice q m cap'] w fun e w' => Tells (4096 < Nm.tsize za ∨ 4096 < Nm.tsize zb ∨ Nm.pw 4096 ≤ Nm.val za * Nm.val zb) 2 (Nm.val za * Nm.val zb) w e w' := by
  have HA := hid ha
  have HB := hid hb
  by_cases h1 : 4096 < Nm.tsize za
  · have S1 := hid (refBig_is true p n cap za w ha (by simpa using h1))
    have E : Hid (Tells (4096 < Nm.tsize za ∨ 4096 < Nm.tsize zb ∨ Nm.pw 4096 ≤ Nm.val za * Nm.val zb) 2 (Nm.val za * Nm.val zb) w (.returned (.tuple #[.slice none 0 0, .int .i64 2])) w) := Tells.bad (.inl h1) (Below.refl _ _)
    clear ha hb h1 HA HB
    go_enter Tryd.func24, Tryd.ntmps24
    go_wp2_with fail
    refine S1.out.mono ?_
    rintro e w' ⟨rfl, rfl⟩
    go_wp2
    go_ret2
    exact E.out
  have S1 := hid (refBig_is false p n cap za w ha (by simp; omega))
  by_cases h2 : 4096 < Nm.tsize zb
  · have S2 := hid (refBig_is true q m cap' zb w hb (by simpa using h2))
    have E : Hid (Tells (4096 < Nm.tsize za ∨ 4096 < Nm.tsize zb ∨ Nm.pw 4096 ≤ Nm.val za * Nm.val zb) 2 (Nm.val za * Nm.val zb) w (.returned (.tuple #[.slice none 0 0, .int .i64 2])) w) := Tells.bad (.inr (.inl h2)) (Below.refl _ _)
    clear ha hb h1 h2 HA HB
    go_enter Tryd.func24, Tryd.ntmps24
    go_wp2_with fail
    refine S1.out.mono ?_
    rintro e w' ⟨rfl, rfl⟩
    go_wp2_with fail
    refine S2.out.mono ?_
    rintro e w' ⟨rfl, rfl⟩
    go_wp2
    go_ret2
    exact E.out
  have S2 := hid (refBig_is false q m cap' zb w hb (by simp; omega))
  have T1 : Hid (Nm.tsize za ≤ 4096) := by show _ ≤ _; omega
  have T2 : Hid (Nm.tsize zb ≤ 4096) := by show _ ≤ _; omega
  have x0 := hid (Nm.val_bd za ha.2.2.2.2).1
  have y0 := hid (Nm.val_bd zb hb.2.2.2.2).1
  have x1 := Shut.mk ((Nm.tsize_le_iff ha.2.2.2.2 4096).1 T1.out)
  have y1 := Shut.mk ((Nm.tsize_le_iff hb.2.2.2.2 4096).1 T2.out)
  clear ha hb h1 h2
  go_enter Tryd.func24, Tryd.ntmps24
  go_wp2_with fail
  refine S1.out.mono ?_
  rintro e w' ⟨rfl, rfl⟩
  go_wp2_with fail
  refine S2.out.mono ?_
  rintro e w' ⟨rfl, rfl⟩
  go_wp2_with fail
  refine (refBitLen_any p n cap za _ HA.out).mono ?_
  rintro e w2 ⟨⟨a, rfl, BA⟩, rfl⟩
  have HBA := hid BA
  have la := blen_le BA x0.out x1.out
  clear BA
  go_wp2_with fail
  refine (refBitLen_any q m cap' zb _ HB.out).mono ?_
  rintro e w3 ⟨⟨b, rfl, BB⟩, rfl⟩
  have HBB := hid BB
  have lb := blen_le BB y0.out y1.out
  clear BB
  by_cases hab : 262145 < a + b
  · have hab' : (262145 : Int) < (a : Int) + (b : Int) := by omega
    have E : Hid (Tells (4096 < Nm.tsize za ∨ 4096 < Nm.tsize zb ∨ Nm.pw 4096 ≤ Nm.val za * Nm.val zb) 2 (Nm.val za * Nm.val zb) w3 (.returned (.tuple #[.slice none 0 0, .int .i64 2])) w3) := Tells.bad (.inr (.inr (prod_big x0.out y0.out HBA.out HBB.out hab la lb))) (Below.refl _ _)
    clear hab
    go_wp2
    go_ret2
    exact E.out
  · have hab' : ¬ (262145 : Int) < (a : Int) + (b : Int) := by omega
    clear hab
    go_wp2_with fail
    refine (times_any p q n cap m cap' za zb _ HA.out HB.out (by have := T1.out; omega) (by have := T2.out; omega)).mono ?_
    rintro e w1 ⟨r, os, rfl, hA, hb1⟩
    have l1 : os.length ≤ 8192 := by
      have h := (Nm.tsize_le_iff hA.2.1 8192).2 (by
        rw [hA.2.2.2.1, show (8192 : Nat) = 4096 + 4096 from rfl, Nm.pw_add]
        have a1 := x1.out; have a2 := y1.out; have a3 := x0.out; have a4 := y0.out
        have p := Nm.pw_pos 4096
        have h5 : Nm.val za * Nm.val zb ≤ (Nm.pw 4096 - 1) * Nm.pw 4096 := Int.mul_le_mul (by omega) (by omega) a4 (by omega)
        rw [Int.sub_mul] at h5
        omega)
      rw [hA.2.2.1] at h
      exact h
    have TI : Hid (Nm.val za * Nm.val zb < Nm.pw 4096 ↔ Nm.tsize os ≤ 4096) := by rw [Hid, ← hA.2.2.2.1]; exact (Nm.tsize_le_iff hA.2.1 4096).symm
    have AA := hid (hA.arg (by omega))
    have A := hid hA
    have D := hid hb1
    clear hA hb1
    by_cases h3 : 4096 < Nm.tsize os
    · have S3 := hid (refBig_is true r _ _ os w1 AA.out (by simpa using h3))
      have E : Hid (Tells (4096 < Nm.tsize za ∨ 4096 < Nm.tsize zb ∨ Nm.pw 4096 ≤ Nm.val za * Nm.val zb) 2 (Nm.val za * Nm.val zb) w3 (.returned (.tuple #[.slice none 0 0, .int .i64 2])) w1) := Tells.bad (.inr (.inr (by have := TI.out; omega))) D.out
      clear h3
      go_wp2_with fail
      refine S3.out.mono ?_
      rintro e w2 ⟨rfl, rfl⟩
      go_wp2
      go_ret2
      exact E.out
    · have S3 := hid (refBig_is false r _ _ os w1 AA.out (by simp; omega))
      have E : Hid (Tells (4096 < Nm.tsize za ∨ 4096 < Nm.tsize zb ∨ Nm.pw 4096 ≤ Nm.val za * Nm.val zb) 2 (Nm.val za * Nm.val zb) w3 (.returned (.tuple #[.slice r (List.length os) (List.length os), .int .i64 0])) w1) := Tells.good (by have := TI.out; have := T1.out; have := T2.out; omega) A.out D.out
      clear h3
      go_wp2_with fail
      refine S3.out.mono ?_
      rintro e w2 ⟨rfl, rfl⟩
      go_wp2
      go_ret2
      exact E.out
end Go.Proofs.YtmglogncpfoldaaDoor
