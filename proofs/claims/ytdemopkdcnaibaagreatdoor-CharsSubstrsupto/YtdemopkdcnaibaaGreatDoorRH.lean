/-
  Texts put together: XSign, XMulL, XSpecX, XTimesO, XDivL, XSpecM, XOneA, YRef3, YRef4, YRef5, YRef6.
-/
import Derived.Test.YtdemopkdcnaibaaGreatDoorRG
import Derived.Test.YtdemopkdcnaibaaGreatDoorXSpecA
import Derived.Test.YtdemopkdcnaibaaGreatDoorRB
import Derived.Test.YtdemopkdcnaibaaGreatDoorRC
import Derived.Deep.RegionHeld3
/-
  soft: zero, sign (made by mkmul.py).
-/
namespace Go.Proofs.YtdemopkdcnaibaaGreatDoor
open Go Go.RowKit Go.Deep

theorem Ie.sign_two (a b : Int) (a0 : 0 ≤ a) (a1 : a < 18446744073709551616) (b0 : 0 ≤ b) (b1 : b < 18446744073709551616) : bits .and .u64 (bits .xor .u64 a b) 9223372036854775808 = Ie.sb (Ie.ngd a != Ie.ngd b) 0 := by
  obtain ⟨x, rfl⟩ := Int.eq_ofNat_of_zero_le a0
  obtain ⟨y, rfl⟩ := Int.eq_ofNat_of_zero_le b0
  have h := u64_xor_nat x y (by omega) (by omega)
  have hl : x ^^^ y < 2 ^ 64 := Nat.xor_lt_two_pow (by omega) (by omega)
  have hd : (x ^^^ y) / 2 ^ 63 = x / 2 ^ 63 ^^^ y / 2 ^ 63 := Nat.xor_div_two_pow
  rw [show (2 : Nat) ^ 63 = 9223372036854775808 from rfl] at hd
  rw [h]
  have g := Ib.sign_and ((x ^^^ y : Nat) : Int) (by omega) (by omega)
  rw [g]
  rcases (show x / 9223372036854775808 = 0 ∨ x / 9223372036854775808 = 1 by omega) with hx | hx <;> rcases (show y / 9223372036854775808 = 0 ∨ y / 9223372036854775808 = 1 by omega) with hy | hy <;> rw [hx, hy] at hd <;> rw [Ie.ngd, Ie.ngd]
  · rw [decide_eq_false (by omega), decide_eq_false (by omega)]
    have : (x ^^^ y) / 9223372036854775808 = 0 := hd
    simp only [Ie.sb, bne_self_eq_false, Bool.false_eq_true, if_false]; omega
  · rw [decide_eq_false (by omega), decide_eq_true (by omega)]
    have : (x ^^^ y) / 9223372036854775808 = 1 := hd
    simp only [Ie.sb, show (false != true) = true from rfl, if_true]; omega
  · rw [decide_eq_true (by omega), decide_eq_false (by omega)]
    have : (x ^^^ y) / 9223372036854775808 = 1 := hd
    simp only [Ie.sb, show (true != false) = true from rfl, if_true]; omega
  · rw [decide_eq_true (by omega), decide_eq_true (by omega)]
    have : (x ^^^ y) / 9223372036854775808 = 0 := hd
    simp only [Ie.sb, bne_self_eq_false, Bool.false_eq_true, if_false]; omega

theorem Ie.inf_or (n : Bool) : bits .or .u64 9218868437227405312 (Ie.sb n 0) = Ie.sb n 9218868437227405312 := by cases n <;> decide

set_option maxRecDepth 100000 in
theorem softSign_any (a b : Int) (w : World) (a0 : 0 ≤ a) (a1 : a < 18446744073709551616) (b0 : 0 ≤ b) (b1 : b < 18446744073709551616) :
    Calls Tryz.prog 171 #[.int .u64 a, .int .u64 b] w fun e w' => e = .returned (.int .u64 (Ie.sb (Ie.ngd a != Ie.ngd b) 0)) ∧ w' = w := by
  have E := Ie.sign_two a b a0 a1 b0 b1
  generalize Ie.sb (Ie.ngd a != Ie.ngd b) 0 = s at E
  go_enter Tryz.func171, Tryz.ntmps171
  go_wp2
  go_ret
  exact ⟨rfl, rfl⟩

namespace Ie
/-- What mul answers. -/
def MulIs (a b r f : Int) : Prop :=
  if isn a = true ∨ isn b = true then r = 9221120237041090560 ∧ f = 0
  else if (isi a = true ∧ isz b = true) ∨ (isz a = true ∧ isi b = true) then r = 9221120237041090560 ∧ f = 1
  else if isi a = true ∨ isi b = true then r = sb (ngd a != ngd b) 9218868437227405312 ∧ f = 0
  else Res (ngd a != ngd b) (dm a * dm b) (de a + de b) false r f

/-- What div answers. -/
def DivIs (a b r f : Int) : Prop :=
  if isn a = true ∨ isn b = true then r = 9221120237041090560 ∧ f = 0
  else if (isi a = true ∧ isi b = true) ∨ (isz a = true ∧ isz b = true) then r = 9221120237041090560 ∧ f = 1
  else if isi a = true then r = sb (ngd a != ngd b) 9218868437227405312 ∧ f = 0
  else if isi b = true then r = sb (ngd a != ngd b) 0 ∧ f = 0
  else if isz b = true then r = sb (ngd a != ngd b) 9218868437227405312 ∧ f = 2
  else Res (ngd a != ngd b) (dm a * 2 ^ 128 / dm b) (de a - 128 - de b) (decide (dm a * 2 ^ 128 % dm b ≠ 0)) r f

theorem not_iz {d : Int} (h : isi d = true) : isz d = false := by
  rw [isi, decide_eq_true_eq] at h
  rw [isz, h]; rfl
end Ie
end Go.Proofs.YtdemopkdcnaibaaGreatDoor

/-
  soft: mul (made by mkmul.py).
-/
namespace Go.Proofs.YtdemopkdcnaibaaGreatDoor
open Go Go.RowKit Go.Deep

set_option maxRecDepth 100000 in
set_option maxHeartbeats 4000000 in
theorem mul_fin (a b : Int) (w : World) (a0 : 0 ≤ a) (a1 : a < 18446744073709551616) (b0 : 0 ≤ b) (b1 : b < 18446744073709551616) (hT : Tab w) (na : Ie.isn a = false) (ia : Ie.isi a = false) (nb : Ie.isn b = false) (ib : Ie.isi b = false) :
    Calls Tryz.prog 116 #[.int .u64 a, .int .u64 b] w fun e w' => Told2 (Ie.MulIs a b) w e w' := by
  have fa := Ie.fin_of na ia
  have fb := Ie.fin_of nb ib
  have FI : Hid (∀ (r f : Int), Ie.Res (Ie.ngd a != Ie.ngd b) (Ie.dm a * Ie.dm b) (Ie.de a + Ie.de b) false r f → Ie.MulIs a b r f) := by
    intro r f h2
    rw [Ie.MulIs, na, nb, ia, ib]
    simp only [Bool.false_eq_true, or_self, false_and, and_false, if_false]
    exact h2
  have NA := hid (fun (wx : World) => nan_any a wx a0 a1)
  rw [na] at NA
  have NB := hid (fun (wx : World) => nan_any b wx b0 b1)
  rw [nb] at NB
  have IA := hid (fun (wx : World) => infinite_any a wx a0 a1)
  rw [ia] at IA
  have IB := hid (fun (wx : World) => infinite_any b wx b0 b1)
  rw [ib] at IB
  have ZA := hid (fun (wx : World) => zero_any a wx a0 a1)
  have ZB := hid (fun (wx : World) => zero_any b wx b0 b1)
  obtain ⟨⟨da0, da1⟩, ⟨ea0, ea1⟩, -, -⟩ := Ie.dec_f a fa
  obtain ⟨⟨db0, db1⟩, ⟨eb0, eb1⟩, -, dbz⟩ := Ie.dec_f b fb
  have e60 : (2 : Int) ^ 60 = 1152921504606846976 := by decide
  have da2 : Ie.dm a < 2 ^ 60 := by omega
  have db2 : Ie.dm b < 2 ^ 60 := by omega
  have UA := hid (fun (wx : World) => number_any a wx a0 a1 fa)
  have UB := hid (fun (wx : World) => number_any b wx b0 b1 fb)
  have HT := hid hT
  have RU : Hid (∀ (w2 : World) (pa pb : Option Addr) (oa ob : List Int) (B B' : Nat), Ans B w2 pa oa (Ie.dm a) → Ans B' w2 pb ob (Ie.dm b) → Calls Tryz.prog 119 #[exactOf (Ie.ngd a) pa oa.length oa.length (Ie.de a) false, exactOf (Ie.ngd b) pb ob.length ob.length (Ie.de b) false] w2 fun e w' => ∃ p os, e = .returned (exactOf (Ie.ngd a != Ie.ngd b) p (List.length os) (List.length os) (Ie.de a + Ie.de b) false) ∧ Ans w2.heap.size w' p os (Ie.dm a * Ie.dm b) ∧ Below w2.heap.size w2 w') := by
    intro w2 pa pb oa ob B B' A1 A2
    exact times_xany _ _ _ _ _ _ _ _ _ _ oa ob _ _ _ _ w2 (A1.arg (by have := A1.tl da2 (show 60 ≤ 262144 by omega); omega)) (A2.arg (by have := A2.tl db2 (show 60 ≤ 262144 by omega); omega)) A1.2.2.2.1 A2.2.2.2.1 da2 db2 (by omega) (by omega) (by omega) (by omega)
  have vb : Ie.dm a * Ie.dm b < 2 ^ 5000 := by
    have h1 : Ie.dm a * Ie.dm b ≤ Ie.dm a * 2 ^ 60 := Int.mul_le_mul_of_nonneg_left (by omega) da0
    have h2 : Ie.dm a * 2 ^ 60 < 2 ^ 60 * 2 ^ 60 := Int.mul_lt_mul_of_pos_right da2 (Nm.two_pos 60)
    rw [← Nm.two_add] at h2
    have := Nm.two_mono (show 60 + 60 ≤ 5000 by omega)
    omega
  have RO : Hid (∀ (w3 : World) (p : Option Addr) (os : List Int) (B : Nat), Below w.heap.size w w3 → Ans B w3 p os (Ie.dm a * Ie.dm b) → Calls Tryz.prog 121 #[exactOf (Ie.ngd a != Ie.ngd b) p os.length os.length (Ie.de a + Ie.de b) false] w3 fun r w' => RoundedTold (Ie.ngd a != Ie.ngd b) (Ie.dm a * Ie.dm b) (Ie.de a + Ie.de b) false w3 r w') := by
    intro w3 p os B hB A
    exact rounded_any _ _ p _ _ os _ _ w3 (A.arg (by have := A.tl vb (show 5000 ≤ 262144 by omega); omega)) (HT.out.below hB) A.2.2.2.1 A.len0 vb (by omega) (by omega)
  cases hza : Ie.isz a <;> rw [hza] at ZA
  · clear fa fb na nb ia ib hT da0 da1 ea0 ea1 db0 db1 eb0 eb1 dbz e60 da2 db2 vb HT hza
    generalize hV : Ie.dm a * Ie.dm b = V at *
    generalize hE : Ie.de a + Ie.de b = E at *
    clear hV hE
    go_enter Tryz.func116, Tryz.ntmps116
    go_wp2_with fail
    refine (NA.out _).mono ?_
    rintro e wz ⟨rfl, hz⟩
    replace hz := hz.symm
    subst hz
    go_wp2_with fail
    refine (NB.out _).mono ?_
    rintro e wz ⟨rfl, hz⟩
    replace hz := hz.symm
    subst hz
    go_wp2_with fail
    refine (IA.out _).mono ?_
    rintro e wz ⟨rfl, hz⟩
    replace hz := hz.symm
    subst hz
    go_wp2_with fail
    refine (ZA.out _).mono ?_
    rintro e wz ⟨rfl, hz⟩
    replace hz := hz.symm
    subst hz
    go_wp2_with fail
    refine (IA.out _).mono ?_
    rintro e wz ⟨rfl, hz⟩
    replace hz := hz.symm
    subst hz
    go_wp2_with fail
    refine (IB.out _).mono ?_
    rintro e wz ⟨rfl, hz⟩
    replace hz := hz.symm
    subst hz
    go_wp2_with fail
    refine (UA.out _).mono ?_
    rintro e w1 ⟨pa, oa, rfl, A1, hB1⟩
    have H1 := hid (And.intro A1 hB1)
    clear A1 hB1
    simp only [exactOf]
    go_wp2_with fail
    refine (UB.out _).mono ?_
    rintro e w2 ⟨pb, ob, rfl, A2, hB2⟩
    have A1 := H1.out.1.below hB2 (Nat.le_refl _)
    have Bw := H1.out.2.trans (hB2.mono H1.out.2.size)
    have PL := hid (RU.out w2 pa pb oa ob _ _ A1 A2)
    have HB := hid Bw
    simp only [exactOf] at PL ⊢
    clear A1 A2 hB2 Bw H1 RU
    go_wp2_with fail
    refine PL.out.mono ?_
    rintro e w3 ⟨p, os, rfl, A3, hB3⟩
    have Bw := HB.out.trans (hB3.mono HB.out.size)
    have RR := hid (RO.out w3 p os _ Bw A3)
    have HC := hid Bw
    simp only [exactOf] at RR ⊢
    clear A3 hB3 Bw RO PL HB
    go_wp2_with fail
    refine RR.out.mono ?_
    rintro e w4 ⟨d, t, L, rfl, h1, h2, h3, hB4⟩
    have KK : Hid (Told2 (Ie.MulIs a b) w (.returned (.tuple #[.int .u64 (Ie.sg (Ie.ngd a != Ie.ngd b) d), .int .i64 (Ie.flg V E false (Ie.sg (Ie.ngd a != Ie.ngd b) d) t L)])) w4) :=
      ⟨_, _, rfl, FI.out _ _ ⟨d, t, L, rfl, rfl, h1, h2, h3⟩, HC.out.trans (hB4.mono HC.out.size)⟩
    clear h1 h2 h3 hB4 HC RR FI
    go_wp2_with fail
    go_ret2
    exact KK.out
  · clear fa fb na nb ia ib hT da0 da1 ea0 ea1 db0 db1 eb0 eb1 dbz e60 da2 db2 vb HT hza
    generalize hV : Ie.dm a * Ie.dm b = V at *
    generalize hE : Ie.de a + Ie.de b = E at *
    clear hV hE
    go_enter Tryz.func116, Tryz.ntmps116
    go_wp2_with fail
    refine (NA.out _).mono ?_
    rintro e wz ⟨rfl, hz⟩
    replace hz := hz.symm
    subst hz
    go_wp2_with fail
    refine (NB.out _).mono ?_
    rintro e wz ⟨rfl, hz⟩
    replace hz := hz.symm
    subst hz
    go_wp2_with fail
    refine (IA.out _).mono ?_
    rintro e wz ⟨rfl, hz⟩
    replace hz := hz.symm
    subst hz
    go_wp2_with fail
    refine (ZA.out _).mono ?_
    rintro e wz ⟨rfl, hz⟩
    replace hz := hz.symm
    subst hz
    go_wp2_with fail
    refine (IB.out _).mono ?_
    rintro e wz ⟨rfl, hz⟩
    replace hz := hz.symm
    subst hz
    go_wp2_with fail
    refine (IA.out _).mono ?_
    rintro e wz ⟨rfl, hz⟩
    replace hz := hz.symm
    subst hz
    go_wp2_with fail
    refine (IB.out _).mono ?_
    rintro e wz ⟨rfl, hz⟩
    replace hz := hz.symm
    subst hz
    go_wp2_with fail
    refine (UA.out _).mono ?_
    rintro e w1 ⟨pa, oa, rfl, A1, hB1⟩
    have H1 := hid (And.intro A1 hB1)
    clear A1 hB1
    simp only [exactOf]
    go_wp2_with fail
    refine (UB.out _).mono ?_
    rintro e w2 ⟨pb, ob, rfl, A2, hB2⟩
    have A1 := H1.out.1.below hB2 (Nat.le_refl _)
    have Bw := H1.out.2.trans (hB2.mono H1.out.2.size)
    have PL := hid (RU.out w2 pa pb oa ob _ _ A1 A2)
    have HB := hid Bw
    simp only [exactOf] at PL ⊢
    clear A1 A2 hB2 Bw H1 RU
    go_wp2_with fail
    refine PL.out.mono ?_
    rintro e w3 ⟨p, os, rfl, A3, hB3⟩
    have Bw := HB.out.trans (hB3.mono HB.out.size)
    have RR := hid (RO.out w3 p os _ Bw A3)
    have HC := hid Bw
    simp only [exactOf] at RR ⊢
    clear A3 hB3 Bw RO PL HB
    go_wp2_with fail
    refine RR.out.mono ?_
    rintro e w4 ⟨d, t, L, rfl, h1, h2, h3, hB4⟩
    have KK : Hid (Told2 (Ie.MulIs a b) w (.returned (.tuple #[.int .u64 (Ie.sg (Ie.ngd a != Ie.ngd b) d), .int .i64 (Ie.flg V E false (Ie.sg (Ie.ngd a != Ie.ngd b) d) t L)])) w4) :=
      ⟨_, _, rfl, FI.out _ _ ⟨d, t, L, rfl, rfl, h1, h2, h3⟩, HC.out.trans (hB4.mono HC.out.size)⟩
    clear h1 h2 h3 hB4 HC RR FI
    go_wp2_with fail
    go_ret2
    exact KK.out

set_option maxRecDepth 100000 in
set_option maxHeartbeats 4000000 in
theorem mul_any (a b : Int) (w : World) (a0 : 0 ≤ a) (a1 : a < 18446744073709551616) (b0 : 0 ≤ b) (b1 : b < 18446744073709551616) (hT : Tab w) :
    Calls Tryz.prog 116 #[.int .u64 a, .int .u64 b] w fun e w' => Told2 (Ie.MulIs a b) w e w' := by
  have NA := hid (fun (wx : World) => nan_any a wx a0 a1)
  have NB := hid (fun (wx : World) => nan_any b wx b0 b1)
  have IA := hid (fun (wx : World) => infinite_any a wx a0 a1)
  have IB := hid (fun (wx : World) => infinite_any b wx b0 b1)
  have ZA := hid (fun (wx : World) => zero_any a wx a0 a1)
  have ZB := hid (fun (wx : World) => zero_any b wx b0 b1)
  have SG := hid (fun (wx : World) => softSign_any a b wx a0 a1 b0 b1)
  have OR := Ie.inf_or (Ie.ngd a != Ie.ngd b)
  have KK : Hid (∀ (e : Ending) (r f : Int), e = .returned (.tuple #[.int .u64 r, .int .i64 f]) → Ie.MulIs a b r f → Told2 (Ie.MulIs a b) w e w) := fun e r f h1 h2 => ⟨r, f, h1, h2, Below.refl _ _⟩
  cases na : Ie.isn a
  · cases nb : Ie.isn b
    · cases ia : Ie.isi a
      · cases ib : Ie.isi b
        · skip
          cases za : Ie.isz a
          · skip
            cases zb : Ie.isz b
            · skip
              exact mul_fin a b w a0 a1 b0 b1 hT na ia nb ib
            · skip
              exact mul_fin a b w a0 a1 b0 b1 hT na ia nb ib
          · skip
            cases zb : Ie.isz b
            · skip
              exact mul_fin a b w a0 a1 b0 b1 hT na ia nb ib
            · skip
              exact mul_fin a b w a0 a1 b0 b1 hT na ia nb ib
        · skip
          cases za : Ie.isz a
          · skip
            have zb := Ie.not_iz ib
            have SP : Hid (Ie.MulIs a b (Ie.sb (Ie.ngd a != Ie.ngd b) 9218868437227405312) 0) := by rw [Hid, Ie.MulIs, na, nb, ia, ib, za, zb]; simp
            rw [na] at NA
            rw [nb] at NB
            rw [ia] at IA
            rw [ib] at IB
            rw [za] at ZA
            rw [zb] at ZB
            clear na nb ia ib hT za zb
            generalize hI : Ie.sb (Ie.ngd a != Ie.ngd b) 9218868437227405312 = sI at *
            generalize hO : Ie.sb (Ie.ngd a != Ie.ngd b) 0 = sO at *
            clear hI hO
            go_enter Tryz.func116, Tryz.ntmps116
            go_wp2_with fail
            refine (NA.out _).mono ?_
            rintro e wz ⟨rfl, hz⟩
            replace hz := hz.symm
            subst hz
            go_wp2_with fail
            refine (NB.out _).mono ?_
            rintro e wz ⟨rfl, hz⟩
            replace hz := hz.symm
            subst hz
            go_wp2_with fail
            refine (IA.out _).mono ?_
            rintro e wz ⟨rfl, hz⟩
            replace hz := hz.symm
            subst hz
            go_wp2_with fail
            refine (ZA.out _).mono ?_
            rintro e wz ⟨rfl, hz⟩
            replace hz := hz.symm
            subst hz
            go_wp2_with fail
            refine (IA.out _).mono ?_
            rintro e wz ⟨rfl, hz⟩
            replace hz := hz.symm
            subst hz
            go_wp2_with fail
            refine (IB.out _).mono ?_
            rintro e wz ⟨rfl, hz⟩
            replace hz := hz.symm
            subst hz
            go_wp2_with fail
            refine (SG.out _).mono ?_
            rintro e wz ⟨rfl, hz⟩
            replace hz := hz.symm
            subst hz
            go_wp2_with fail
            go_ret2
            exact KK.out _ _ _ rfl SP.out
          · skip
            have zb := Ie.not_iz ib
            have SP : Hid (Ie.MulIs a b 9221120237041090560 1) := by rw [Hid, Ie.MulIs, na, nb, ia, ib, za, zb]; simp
            rw [na] at NA
            rw [nb] at NB
            rw [ia] at IA
            rw [ib] at IB
            rw [za] at ZA
            rw [zb] at ZB
            clear na nb ia ib hT za zb
            go_enter Tryz.func116, Tryz.ntmps116
            go_wp2_with fail
            refine (NA.out _).mono ?_
            rintro e wz ⟨rfl, hz⟩
            replace hz := hz.symm
            subst hz
            go_wp2_with fail
            refine (NB.out _).mono ?_
            rintro e wz ⟨rfl, hz⟩
            replace hz := hz.symm
            subst hz
            go_wp2_with fail
            refine (IA.out _).mono ?_
            rintro e wz ⟨rfl, hz⟩
            replace hz := hz.symm
            subst hz
            go_wp2_with fail
            refine (ZA.out _).mono ?_
            rintro e wz ⟨rfl, hz⟩
            replace hz := hz.symm
            subst hz
            go_wp2_with fail
            refine (IB.out _).mono ?_
            rintro e wz ⟨rfl, hz⟩
            replace hz := hz.symm
            subst hz
            go_wp2_with fail
            go_ret2
            exact KK.out _ _ _ rfl SP.out
      · cases ib : Ie.isi b
        · skip
          have za := Ie.not_iz ia
          cases zb : Ie.isz b
          · skip
            have SP : Hid (Ie.MulIs a b (Ie.sb (Ie.ngd a != Ie.ngd b) 9218868437227405312) 0) := by rw [Hid, Ie.MulIs, na, nb, ia, ib, za, zb]; simp
            rw [na] at NA
            rw [nb] at NB
            rw [ia] at IA
            rw [ib] at IB
            rw [za] at ZA
            rw [zb] at ZB
            clear na nb ia ib hT za zb
            generalize hI : Ie.sb (Ie.ngd a != Ie.ngd b) 9218868437227405312 = sI at *
            generalize hO : Ie.sb (Ie.ngd a != Ie.ngd b) 0 = sO at *
            clear hI hO
            go_enter Tryz.func116, Tryz.ntmps116
            go_wp2_with fail
            refine (NA.out _).mono ?_
            rintro e wz ⟨rfl, hz⟩
            replace hz := hz.symm
            subst hz
            go_wp2_with fail
            refine (NB.out _).mono ?_
            rintro e wz ⟨rfl, hz⟩
            replace hz := hz.symm
            subst hz
            go_wp2_with fail
            refine (IA.out _).mono ?_
            rintro e wz ⟨rfl, hz⟩
            replace hz := hz.symm
            subst hz
            go_wp2_with fail
            refine (ZB.out _).mono ?_
            rintro e wz ⟨rfl, hz⟩
            replace hz := hz.symm
            subst hz
            go_wp2_with fail
            refine (ZA.out _).mono ?_
            rintro e wz ⟨rfl, hz⟩
            replace hz := hz.symm
            subst hz
            go_wp2_with fail
            refine (IA.out _).mono ?_
            rintro e wz ⟨rfl, hz⟩
            replace hz := hz.symm
            subst hz
            go_wp2_with fail
            refine (SG.out _).mono ?_
            rintro e wz ⟨rfl, hz⟩
            replace hz := hz.symm
            subst hz
            go_wp2_with fail
            go_ret2
            exact KK.out _ _ _ rfl SP.out
          · skip
            have SP : Hid (Ie.MulIs a b 9221120237041090560 1) := by rw [Hid, Ie.MulIs, na, nb, ia, ib, za, zb]; simp
            rw [na] at NA
            rw [nb] at NB
            rw [ia] at IA
            rw [ib] at IB
            rw [za] at ZA
            rw [zb] at ZB
            clear na nb ia ib hT za zb
            go_enter Tryz.func116, Tryz.ntmps116
            go_wp2_with fail
            refine (NA.out _).mono ?_
            rintro e wz ⟨rfl, hz⟩
            replace hz := hz.symm
            subst hz
            go_wp2_with fail
            refine (NB.out _).mono ?_
            rintro e wz ⟨rfl, hz⟩
            replace hz := hz.symm
            subst hz
            go_wp2_with fail
            refine (IA.out _).mono ?_
            rintro e wz ⟨rfl, hz⟩
            replace hz := hz.symm
            subst hz
            go_wp2_with fail
            refine (ZB.out _).mono ?_
            rintro e wz ⟨rfl, hz⟩
            replace hz := hz.symm
            subst hz
            go_wp2_with fail
            go_ret2
            exact KK.out _ _ _ rfl SP.out
        · skip
          have za := Ie.not_iz ia
          have zb := Ie.not_iz ib
          have SP : Hid (Ie.MulIs a b (Ie.sb (Ie.ngd a != Ie.ngd b) 9218868437227405312) 0) := by rw [Hid, Ie.MulIs, na, nb, ia, ib, za, zb]; simp
          rw [na] at NA
          rw [nb] at NB
          rw [ia] at IA
          rw [ib] at IB
          rw [za] at ZA
          rw [zb] at ZB
          clear na nb ia ib hT za zb
          generalize hI : Ie.sb (Ie.ngd a != Ie.ngd b) 9218868437227405312 = sI at *
          generalize hO : Ie.sb (Ie.ngd a != Ie.ngd b) 0 = sO at *
          clear hI hO
          go_enter Tryz.func116, Tryz.ntmps116
          go_wp2_with fail
          refine (NA.out _).mono ?_
          rintro e wz ⟨rfl, hz⟩
          replace hz := hz.symm
          subst hz
          go_wp2_with fail
          refine (NB.out _).mono ?_
          rintro e wz ⟨rfl, hz⟩
          replace hz := hz.symm
          subst hz
          go_wp2_with fail
          refine (IA.out _).mono ?_
          rintro e wz ⟨rfl, hz⟩
          replace hz := hz.symm
          subst hz
          go_wp2_with fail
          refine (ZB.out _).mono ?_
          rintro e wz ⟨rfl, hz⟩
          replace hz := hz.symm
          subst hz
          go_wp2_with fail
          refine (ZA.out _).mono ?_
          rintro e wz ⟨rfl, hz⟩
          replace hz := hz.symm
          subst hz
          go_wp2_with fail
          refine (IA.out _).mono ?_
          rintro e wz ⟨rfl, hz⟩
          replace hz := hz.symm
          subst hz
          go_wp2_with fail
          refine (SG.out _).mono ?_
          rintro e wz ⟨rfl, hz⟩
          replace hz := hz.symm
          subst hz
          go_wp2_with fail
          go_ret2
          exact KK.out _ _ _ rfl SP.out
    · have SP : Hid (Ie.MulIs a b 9221120237041090560 0) := by rw [Hid, Ie.MulIs, na, nb]; simp
      rw [na] at NA
      rw [nb] at NB
      clear na nb hT
      go_enter Tryz.func116, Tryz.ntmps116
      go_wp2_with fail
      refine (NA.out _).mono ?_
      rintro e wz ⟨rfl, hz⟩
      replace hz := hz.symm
      subst hz
      go_wp2_with fail
      refine (NB.out _).mono ?_
      rintro e wz ⟨rfl, hz⟩
      replace hz := hz.symm
      subst hz
      go_wp2_with fail
      go_ret2
      exact KK.out _ _ _ rfl SP.out
  · have SP : Hid (Ie.MulIs a b 9221120237041090560 0) := by rw [Hid, Ie.MulIs, na]; simp
    rw [na] at NA
    clear na hT
    go_enter Tryz.func116, Tryz.ntmps116
    go_wp2_with fail
    refine (NA.out _).mono ?_
    rintro e wz ⟨rfl, hz⟩
    replace hz := hz.symm
    subst hz
    go_wp2_with fail
    go_ret2
    exact KK.out _ _ _ rfl SP.out

end Go.Proofs.YtdemopkdcnaibaaGreatDoor

/-
  What mul and div answer of finite doubles, as rounded fractions.
-/
namespace Go.Proofs.YtdemopkdcnaibaaGreatDoor
namespace Ie

theorem MulIs.get {a b r f : Int} (fa : fin a) (fb : fin b) (h : MulIs a b r f) : Res (ngd a != ngd b) (dm a * dm b) (de a + de b) false r f := by
  rw [MulIs, (fin_not fa).1, (fin_not fa).2, (fin_not fb).1, (fin_not fb).2] at h
  simp only [Bool.false_eq_true, or_self, false_and, and_false, if_false] at h
  exact h

theorem prod_at {a b : Int} (fa : fin a) (fb : fin b) (k : Nat) (hk : (k : Int) = de a + de b + 2148) : dm a * dm b * 2 ^ k = un (ab a) * un (ab b) := by
  obtain ⟨_, ⟨ea0, ea1⟩, ga, _⟩ := dec_f a fa
  obtain ⟨_, ⟨eb0, eb1⟩, gb, _⟩ := dec_f b fb
  obtain ⟨ka, hka⟩ : ∃ k : Nat, (k : Int) = de a + 1074 := ⟨(de a + 1074).toNat, by omega⟩
  obtain ⟨kb, hkb⟩ : ∃ k : Nat, (k : Int) = de b + 1074 := ⟨(de b + 1074).toNat, by omega⟩
  rw [← ga ka hka, ← gb kb hkb, show k = ka + kb by omega, Nm.two_add]
  ac_rfl

theorem uv_mul (a b : Int) : uv a * uv b = sn (ngd a != ngd b) (un (ab a) * un (ab b)) := sn_mul _ _ _ _

theorem MulIs.rs {a b r f : Int} (fa : fin a) (fb : fin b) (h : MulIs a b r f) : RS (uv a * uv b) (2 ^ 1074) (ngd a != ngd b) r := by
  obtain ⟨x, t, L, rfl, -, hR, -, -⟩ := h.get fa fb
  obtain ⟨⟨da0, _⟩, ⟨ea0, ea1⟩, _, _⟩ := dec_f a fa
  obtain ⟨⟨db0, _⟩, ⟨eb0, eb1⟩, _, _⟩ := dec_f b fb
  obtain ⟨c, hc⟩ : ∃ k : Nat, (k : Int) = de a + de b + 2148 := ⟨(de a + de b + 2148).toNat, by omega⟩
  exact rs_of hR (Int.mul_nonneg da0 db0) c 1074 (by omega) (by rw [prod_at fa fb c hc]; exact uv_mul a b) rfl (fun _ => rfl)
end Ie
end Go.Proofs.YtdemopkdcnaibaaGreatDoor

/-
  soft: over.
-/
namespace Go.Proofs.YtdemopkdcnaibaaGreatDoor
open Go Go.RowKit Go.Deep

set_option maxRecDepth 100000 in
set_option maxHeartbeats 4000000 in
theorem over_xany (n1 n2 m1 m2 : Bool) (p1 p2 : Option Addr) (l1 c1 l2 c2 : Nat) (z1 z2 : List Int) (e1 e2 V1 V2 : Int) (w : World) (a1 : Arg w p1 l1 c1 z1) (a2 : Arg w p2 l2 c2 z2) (hV1 : Nm.val z1 = V1) (hV2 : Nm.val z2 = V2) (b1 : V1 < 2 ^ 60) (b2 : V2 < 2 ^ 60) (d0 : 0 < V2)
    (q1 : -1100 ≤ e1) (q2 : e1 ≤ 1000) (q3 : -1100 ≤ e2) (q4 : e2 ≤ 1000) :
    Calls Tryz.prog 224 #[exactOf n1 p1 l1 c1 e1 m1, exactOf n2 p2 l2 c2 e2 m2] w fun e w' => OverTold n1 V1 e1 n2 V2 e2 w e w' := by
  have v1 : 0 ≤ V1 := by rw [← hV1]; exact (Nm.val_bd z1 a1.2.2.2.2).1
  have e4096 := pw_4096
  have big := Nm.two_mono (show 188 ≤ 262144 by omega)
  have b60 := Nm.two_mono (show 60 ≤ 188 by omega)
  have pr : V1 * 2 ^ 128 < 2 ^ 188 := by
    have h2 : V1 * 2 ^ 128 < 2 ^ 60 * 2 ^ 128 := Int.mul_lt_mul_of_pos_right b1 (Nm.two_pos 128)
    rw [← Nm.two_add] at h2
    exact h2
  have t1 : Nm.tsize z1 ≤ 4096 := (Nm.tsize_le_iff a1.2.2.2.2 4096).2 (by rw [hV1]; omega)
  have t2 : Nm.tsize z2 ≤ 4096 := (Nm.tsize_le_iff a2.2.2.2.2 4096).2 (by rw [hV2]; omega)
  have t3 : 0 < Nm.tsize z2 := tsize_pos a2.2.2.2.2 (by rw [hV2]; exact d0)
  have S1 : Hid (∀ (wx : World), Below w.heap.size w wx → Calls Tryz.prog 113 #[.slice p1 l1 c1, .int .i64 128] wx fun e w' => ∃ r os, e = .returned (.tuple #[.slice r (List.length os) (List.length os), .int .i64 0]) ∧ Ans wx.heap.size w' r os (V1 * 2 ^ 128) ∧ Below wx.heap.size wx w') := by
    intro wx hx
    have := shl_any p1 l1 c1 z1 128 128 wx (a1.below hx (Nat.le_refl _)) t1 (by omega) (by rw [hV1]; omega)
    rw [hV1] at this
    exact this
  have D1 : Hid (∀ (wx : World) (r : Option Addr) (os : List Int) (B : Nat), Below w.heap.size w wx → Ans B wx r os (V1 * 2 ^ 128) → Calls Tryz.prog 166 #[.slice r os.length os.length, .slice p2 l2 c2] wx fun e w' => ∃ (s : Option Addr) (qs : List Int) (t : Option Addr) (rs : List Int), e = .returned (.tuple #[.slice s (List.length qs) (List.length qs), .slice t (List.length rs) (List.length rs), .int .i64 0]) ∧ Ans wx.heap.size w' s qs (V1 * 2 ^ 128 / V2) ∧ decide (0 < List.length rs) = decide (V1 * 2 ^ 128 % V2 ≠ 0) ∧ Below wx.heap.size wx w') := by
    intro wx r os B hx A
    obtain ⟨g1, g2, g3⟩ := A.tl pr (by omega)
    have := divMod_ok r p2 _ _ l2 c2 os z2 wx (A.arg (by omega)) (a2.below hx (Nat.le_refl _)) g1 t2 t3
    rw [A.2.2.2.1, hV2] at this
    refine this.mono ?_
    rintro e w' ⟨s, qs, t, rs, rfl, A1, A2, hB⟩
    refine ⟨s, qs, t, rs, rfl, A1, ?_, hB⟩
    have h1 := Nm.tsize_zero_iff A2.2.1
    rw [A2.2.2.1, A2.2.2.2.1] at h1
    rw [Bool.eq_iff_iff]
    simp only [decide_eq_true_eq]
    omega
  have B0 := Box.new w (.bool n1) (.slice p1 l1 c1) (.int .i64 e1) (.bool m1) (.bool n2) (.slice p2 l2 c2) (.int .i64 e2) (.bool m2)
  have TT : Hid (∀ (e : Ending) (w' : World), (∃ p os, e = .returned (exactOf (n1 != n2) p (List.length os) (List.length os) (e1 - 128 - e2) (decide (V1 * 2 ^ 128 % V2 ≠ 0))) ∧ Ans w.heap.size w' p os (V1 * 2 ^ 128 / V2) ∧ Below w.heap.size w w') → OverTold n1 V1 e1 n2 V2 e2 w e w') := fun _ _ h => h
  clear hV1 hV2 b1 b2 a1 a2 v1 big b60 pr t1 t2 t3 e4096 d0
  generalize decide (V1 * 2 ^ 128 % V2 ≠ 0) = more at *
  generalize V1 * 2 ^ 128 / V2 = Q at *
  generalize V1 * 2 ^ 128 = X at *
  simp only [exactOf]
  go_enter Tryz.func224, Tryz.ntmps224
  go_wp2_with fail
  refine (S1.out _ B0.2.1).mono ?_
  rintro e wa ⟨r1, o1, rfl, A1, hB1⟩
  have Ba := B0.on hB1
  have s0 := B0.2.2
  obtain ⟨⟨cx0, cx1, cx2⟩, ⟨cy0, cy1, cy2⟩, -⟩ := Ba.cells
  have D2 := hid (D1.out wa r1 o1 _ Ba.2.1 A1)
  have BB := hid Ba
  clear A1 hB1 S1 D1 Ba B0 s0
  go_wp2_with fail
  refine D2.out.mono ?_
  rintro e wb ⟨s, qs, t, rs, rfl, A2, hr, hB2⟩
  have Bb := BB.out.on hB2
  have s1 := BB.out.2.2
  have KF := tell4 (u0 := .bool (n1 != n2)) (u2 := .int .i64 (e1 - 128 - e2)) (u3 := .bool more) Bb ⟨A2.1, A2.2.1, A2.2.2.1, A2.2.2.2.1, fun a h => by have := A2.2.2.2.2 a h; omega⟩
  clear cx0 cx1 cx2 cy0 cy1 cy2
  obtain ⟨⟨cx0, cx1, cx2⟩, ⟨cy0, cy1, cy2⟩, ⟨⟨r0, r1', r2', r3⟩, ⟨f0, f1, f2, f3⟩⟩⟩ := Bb.cells
  have RR := hid Bb.1.2.2
  have KK := hid KF
  clear KF A2 hB2 D2 BB Bb s1
  go_wp2_with fail
  (try simp only [Exit.inBlock, Exit.then])
  refine bodyPost_ret (results_cell_row rfl _ _ (w.heap.size + 2) 114 _ (0, 0) _ rfl (Row4.set RR.out) Tryz.underlying114 rfl (by kernel_rfl)) rfl ?_
  exact TT.out _ _ ⟨s, qs, rfl, KK.out⟩
end Go.Proofs.YtdemopkdcnaibaaGreatDoor

/-
  soft: div (made by mkmul.py).
-/
namespace Go.Proofs.YtdemopkdcnaibaaGreatDoor
open Go Go.RowKit Go.Deep

set_option maxRecDepth 100000 in
set_option maxHeartbeats 4000000 in
theorem div_fin (a b : Int) (w : World) (a0 : 0 ≤ a) (a1 : a < 18446744073709551616) (b0 : 0 ≤ b) (b1 : b < 18446744073709551616) (hT : Tab w) (na : Ie.isn a = false) (ia : Ie.isi a = false) (nb : Ie.isn b = false) (ib : Ie.isi b = false) (zb : Ie.isz b = false) :
    Calls Tryz.prog 189 #[.int .u64 a, .int .u64 b] w fun e w' => Told2 (Ie.DivIs a b) w e w' := by
  have fa := Ie.fin_of na ia
  have fb := Ie.fin_of nb ib
  have FI : Hid (∀ (r f : Int), Ie.Res (Ie.ngd a != Ie.ngd b) (Ie.dm a * 2 ^ 128 / Ie.dm b) (Ie.de a - 128 - Ie.de b) (decide (Ie.dm a * 2 ^ 128 % Ie.dm b ≠ 0)) r f → Ie.DivIs a b r f) := by
    intro r f h2
    rw [Ie.DivIs, na, nb, ia, ib, zb]
    simp only [Bool.false_eq_true, or_self, and_false, if_false]
    exact h2
  have NA := hid (fun (wx : World) => nan_any a wx a0 a1)
  rw [na] at NA
  have NB := hid (fun (wx : World) => nan_any b wx b0 b1)
  rw [nb] at NB
  have IA := hid (fun (wx : World) => infinite_any a wx a0 a1)
  rw [ia] at IA
  have IB := hid (fun (wx : World) => infinite_any b wx b0 b1)
  rw [ib] at IB
  have ZA := hid (fun (wx : World) => zero_any a wx a0 a1)
  have ZB := hid (fun (wx : World) => zero_any b wx b0 b1)
  rw [zb] at ZB
  obtain ⟨⟨da0, da1⟩, ⟨ea0, ea1⟩, -, -⟩ := Ie.dec_f a fa
  obtain ⟨⟨db0, db1⟩, ⟨eb0, eb1⟩, -, dbz⟩ := Ie.dec_f b fb
  have e60 : (2 : Int) ^ 60 = 1152921504606846976 := by decide
  have da2 : Ie.dm a < 2 ^ 60 := by omega
  have db2 : Ie.dm b < 2 ^ 60 := by omega
  have d0 : 0 < Ie.dm b := by
    rw [Ie.isz, decide_eq_false_iff_not] at zb
    omega
  have UA := hid (fun (wx : World) => number_any a wx a0 a1 fa)
  have UB := hid (fun (wx : World) => number_any b wx b0 b1 fb)
  have HT := hid hT
  have RU : Hid (∀ (w2 : World) (pa pb : Option Addr) (oa ob : List Int) (B B' : Nat), Ans B w2 pa oa (Ie.dm a) → Ans B' w2 pb ob (Ie.dm b) → Calls Tryz.prog 224 #[exactOf (Ie.ngd a) pa oa.length oa.length (Ie.de a) false, exactOf (Ie.ngd b) pb ob.length ob.length (Ie.de b) false] w2 fun e w' => ∃ p os, e = .returned (exactOf (Ie.ngd a != Ie.ngd b) p (List.length os) (List.length os) (Ie.de a - 128 - Ie.de b) (decide (Ie.dm a * 2 ^ 128 % Ie.dm b ≠ 0))) ∧ Ans w2.heap.size w' p os (Ie.dm a * 2 ^ 128 / Ie.dm b) ∧ Below w2.heap.size w2 w') := by
    intro w2 pa pb oa ob B B' A1 A2
    exact over_xany _ _ _ _ _ _ _ _ _ _ oa ob _ _ _ _ w2 (A1.arg (by have := A1.tl da2 (show 60 ≤ 262144 by omega); omega)) (A2.arg (by have := A2.tl db2 (show 60 ≤ 262144 by omega); omega)) A1.2.2.2.1 A2.2.2.2.1 da2 db2 d0 (by omega) (by omega) (by omega) (by omega)
  have vb : Ie.dm a * 2 ^ 128 / Ie.dm b < 2 ^ 5000 := by
    have h1 : Ie.dm a * 2 ^ 128 / Ie.dm b ≤ Ie.dm a * 2 ^ 128 := Int.ediv_le_self _ (Int.mul_nonneg da0 (by have := Nm.two_pos 128; omega))
    have h2 : Ie.dm a * 2 ^ 128 < 2 ^ 60 * 2 ^ 128 := Int.mul_lt_mul_of_pos_right da2 (Nm.two_pos 128)
    rw [← Nm.two_add] at h2
    have := Nm.two_mono (show 60 + 128 ≤ 5000 by omega)
    omega
  have RO : Hid (∀ (w3 : World) (p : Option Addr) (os : List Int) (B : Nat), Below w.heap.size w w3 → Ans B w3 p os (Ie.dm a * 2 ^ 128 / Ie.dm b) → Calls Tryz.prog 121 #[exactOf (Ie.ngd a != Ie.ngd b) p os.length os.length (Ie.de a - 128 - Ie.de b) (decide (Ie.dm a * 2 ^ 128 % Ie.dm b ≠ 0))] w3 fun r w' => RoundedTold (Ie.ngd a != Ie.ngd b) (Ie.dm a * 2 ^ 128 / Ie.dm b) (Ie.de a - 128 - Ie.de b) (decide (Ie.dm a * 2 ^ 128 % Ie.dm b ≠ 0)) w3 r w') := by
    intro w3 p os B hB A
    exact rounded_any _ _ p _ _ os _ _ w3 (A.arg (by have := A.tl vb (show 5000 ≤ 262144 by omega); omega)) (HT.out.below hB) A.2.2.2.1 A.len0 vb (by omega) (by omega)
  cases hza : Ie.isz a <;> rw [hza] at ZA
  · clear fa fb na nb ia ib hT da0 da1 ea0 ea1 db0 db1 eb0 eb1 dbz e60 da2 db2 vb HT hza d0 zb
    generalize hV : Ie.dm a * 2 ^ 128 / Ie.dm b = V at *
    generalize hE : Ie.de a - 128 - Ie.de b = E at *
    generalize hM : decide (Ie.dm a * 2 ^ 128 % Ie.dm b ≠ 0) = M at *
    clear hV hE hM
    go_enter Tryz.func189, Tryz.ntmps189
    go_wp2_with fail
    refine (NA.out _).mono ?_
    rintro e wz ⟨rfl, hz⟩
    replace hz := hz.symm
    subst hz
    go_wp2_with fail
    refine (NB.out _).mono ?_
    rintro e wz ⟨rfl, hz⟩
    replace hz := hz.symm
    subst hz
    go_wp2_with fail
    refine (IA.out _).mono ?_
    rintro e wz ⟨rfl, hz⟩
    replace hz := hz.symm
    subst hz
    go_wp2_with fail
    refine (ZA.out _).mono ?_
    rintro e wz ⟨rfl, hz⟩
    replace hz := hz.symm
    subst hz
    go_wp2_with fail
    refine (IA.out _).mono ?_
    rintro e wz ⟨rfl, hz⟩
    replace hz := hz.symm
    subst hz
    go_wp2_with fail
    refine (IB.out _).mono ?_
    rintro e wz ⟨rfl, hz⟩
    replace hz := hz.symm
    subst hz
    go_wp2_with fail
    refine (ZB.out _).mono ?_
    rintro e wz ⟨rfl, hz⟩
    replace hz := hz.symm
    subst hz
    go_wp2_with fail
    refine (UA.out _).mono ?_
    rintro e w1 ⟨pa, oa, rfl, A1, hB1⟩
    have H1 := hid (And.intro A1 hB1)
    clear A1 hB1
    simp only [exactOf]
    go_wp2_with fail
    refine (UB.out _).mono ?_
    rintro e w2 ⟨pb, ob, rfl, A2, hB2⟩
    have A1 := H1.out.1.below hB2 (Nat.le_refl _)
    have Bw := H1.out.2.trans (hB2.mono H1.out.2.size)
    have PL := hid (RU.out w2 pa pb oa ob _ _ A1 A2)
    have HB := hid Bw
    simp only [exactOf] at PL ⊢
    clear A1 A2 hB2 Bw H1 RU
    go_wp2_with fail
    refine PL.out.mono ?_
    rintro e w3 ⟨p, os, rfl, A3, hB3⟩
    have Bw := HB.out.trans (hB3.mono HB.out.size)
    have RR := hid (RO.out w3 p os _ Bw A3)
    have HC := hid Bw
    simp only [exactOf] at RR ⊢
    clear A3 hB3 Bw RO PL HB
    go_wp2_with fail
    refine RR.out.mono ?_
    rintro e w4 ⟨d, t, L, rfl, h1, h2, h3, hB4⟩
    have KK : Hid (Told2 (Ie.DivIs a b) w (.returned (.tuple #[.int .u64 (Ie.sg (Ie.ngd a != Ie.ngd b) d), .int .i64 (Ie.flg V E M (Ie.sg (Ie.ngd a != Ie.ngd b) d) t L)])) w4) :=
      ⟨_, _, rfl, FI.out _ _ ⟨d, t, L, rfl, rfl, h1, h2, h3⟩, HC.out.trans (hB4.mono HC.out.size)⟩
    clear h1 h2 h3 hB4 HC RR FI
    go_wp2_with fail
    go_ret2
    exact KK.out
  · clear fa fb na nb ia ib hT da0 da1 ea0 ea1 db0 db1 eb0 eb1 dbz e60 da2 db2 vb HT hza d0 zb
    generalize hV : Ie.dm a * 2 ^ 128 / Ie.dm b = V at *
    generalize hE : Ie.de a - 128 - Ie.de b = E at *
    generalize hM : decide (Ie.dm a * 2 ^ 128 % Ie.dm b ≠ 0) = M at *
    clear hV hE hM
    go_enter Tryz.func189, Tryz.ntmps189
    go_wp2_with fail
    refine (NA.out _).mono ?_
    rintro e wz ⟨rfl, hz⟩
    replace hz := hz.symm
    subst hz
    go_wp2_with fail
    refine (NB.out _).mono ?_
    rintro e wz ⟨rfl, hz⟩
    replace hz := hz.symm
    subst hz
    go_wp2_with fail
    refine (IA.out _).mono ?_
    rintro e wz ⟨rfl, hz⟩
    replace hz := hz.symm
    subst hz
    go_wp2_with fail
    refine (ZA.out _).mono ?_
    rintro e wz ⟨rfl, hz⟩
    replace hz := hz.symm
    subst hz
    go_wp2_with fail
    refine (ZB.out _).mono ?_
    rintro e wz ⟨rfl, hz⟩
    replace hz := hz.symm
    subst hz
    go_wp2_with fail
    refine (IA.out _).mono ?_
    rintro e wz ⟨rfl, hz⟩
    replace hz := hz.symm
    subst hz
    go_wp2_with fail
    refine (IB.out _).mono ?_
    rintro e wz ⟨rfl, hz⟩
    replace hz := hz.symm
    subst hz
    go_wp2_with fail
    refine (ZB.out _).mono ?_
    rintro e wz ⟨rfl, hz⟩
    replace hz := hz.symm
    subst hz
    go_wp2_with fail
    refine (UA.out _).mono ?_
    rintro e w1 ⟨pa, oa, rfl, A1, hB1⟩
    have H1 := hid (And.intro A1 hB1)
    clear A1 hB1
    simp only [exactOf]
    go_wp2_with fail
    refine (UB.out _).mono ?_
    rintro e w2 ⟨pb, ob, rfl, A2, hB2⟩
    have A1 := H1.out.1.below hB2 (Nat.le_refl _)
    have Bw := H1.out.2.trans (hB2.mono H1.out.2.size)
    have PL := hid (RU.out w2 pa pb oa ob _ _ A1 A2)
    have HB := hid Bw
    simp only [exactOf] at PL ⊢
    clear A1 A2 hB2 Bw H1 RU
    go_wp2_with fail
    refine PL.out.mono ?_
    rintro e w3 ⟨p, os, rfl, A3, hB3⟩
    have Bw := HB.out.trans (hB3.mono HB.out.size)
    have RR := hid (RO.out w3 p os _ Bw A3)
    have HC := hid Bw
    simp only [exactOf] at RR ⊢
    clear A3 hB3 Bw RO PL HB
    go_wp2_with fail
    refine RR.out.mono ?_
    rintro e w4 ⟨d, t, L, rfl, h1, h2, h3, hB4⟩
    have KK : Hid (Told2 (Ie.DivIs a b) w (.returned (.tuple #[.int .u64 (Ie.sg (Ie.ngd a != Ie.ngd b) d), .int .i64 (Ie.flg V E M (Ie.sg (Ie.ngd a != Ie.ngd b) d) t L)])) w4) :=
      ⟨_, _, rfl, FI.out _ _ ⟨d, t, L, rfl, rfl, h1, h2, h3⟩, HC.out.trans (hB4.mono HC.out.size)⟩
    clear h1 h2 h3 hB4 HC RR FI
    go_wp2_with fail
    go_ret2
    exact KK.out

set_option maxRecDepth 100000 in
set_option maxHeartbeats 4000000 in
theorem div_any (a b : Int) (w : World) (a0 : 0 ≤ a) (a1 : a < 18446744073709551616) (b0 : 0 ≤ b) (b1 : b < 18446744073709551616) (hT : Tab w) :
    Calls Tryz.prog 189 #[.int .u64 a, .int .u64 b] w fun e w' => Told2 (Ie.DivIs a b) w e w' := by
  have NA := hid (fun (wx : World) => nan_any a wx a0 a1)
  have NB := hid (fun (wx : World) => nan_any b wx b0 b1)
  have IA := hid (fun (wx : World) => infinite_any a wx a0 a1)
  have IB := hid (fun (wx : World) => infinite_any b wx b0 b1)
  have ZA := hid (fun (wx : World) => zero_any a wx a0 a1)
  have ZB := hid (fun (wx : World) => zero_any b wx b0 b1)
  have SG := hid (fun (wx : World) => softSign_any a b wx a0 a1 b0 b1)
  have OR := Ie.inf_or (Ie.ngd a != Ie.ngd b)
  have KK : Hid (∀ (e : Ending) (r f : Int), e = .returned (.tuple #[.int .u64 r, .int .i64 f]) → Ie.DivIs a b r f → Told2 (Ie.DivIs a b) w e w) := fun e r f h1 h2 => ⟨r, f, h1, h2, Below.refl _ _⟩
  cases na : Ie.isn a
  · cases nb : Ie.isn b
    · cases ia : Ie.isi a
      · cases ib : Ie.isi b
        · skip
          cases za : Ie.isz a
          · skip
            cases zb : Ie.isz b
            · skip
              exact div_fin a b w a0 a1 b0 b1 hT na ia nb ib zb
            · skip
              have SP : Hid (Ie.DivIs a b (Ie.sb (Ie.ngd a != Ie.ngd b) 9218868437227405312) 2) := by rw [Hid, Ie.DivIs, na, nb, ia, ib, za, zb]; simp
              rw [na] at NA
              rw [nb] at NB
              rw [ia] at IA
              rw [ib] at IB
              rw [za] at ZA
              rw [zb] at ZB
              clear na nb ia ib hT za zb
              generalize hI : Ie.sb (Ie.ngd a != Ie.ngd b) 9218868437227405312 = sI at *
              generalize hO : Ie.sb (Ie.ngd a != Ie.ngd b) 0 = sO at *
              clear hI hO
              go_enter Tryz.func189, Tryz.ntmps189
              go_wp2_with fail
              refine (NA.out _).mono ?_
              rintro e wz ⟨rfl, hz⟩
              replace hz := hz.symm
              subst hz
              go_wp2_with fail
              refine (NB.out _).mono ?_
              rintro e wz ⟨rfl, hz⟩
              replace hz := hz.symm
              subst hz
              go_wp2_with fail
              refine (IA.out _).mono ?_
              rintro e wz ⟨rfl, hz⟩
              replace hz := hz.symm
              subst hz
              go_wp2_with fail
              refine (ZA.out _).mono ?_
              rintro e wz ⟨rfl, hz⟩
              replace hz := hz.symm
              subst hz
              go_wp2_with fail
              refine (IA.out _).mono ?_
              rintro e wz ⟨rfl, hz⟩
              replace hz := hz.symm
              subst hz
              go_wp2_with fail
              refine (IB.out _).mono ?_
              rintro e wz ⟨rfl, hz⟩
              replace hz := hz.symm
              subst hz
              go_wp2_with fail
              refine (ZB.out _).mono ?_
              rintro e wz ⟨rfl, hz⟩
              replace hz := hz.symm
              subst hz
              go_wp2_with fail
              refine (SG.out _).mono ?_
              rintro e wz ⟨rfl, hz⟩
              replace hz := hz.symm
              subst hz
              go_wp2_with fail
              go_ret2
              exact KK.out _ _ _ rfl SP.out
          · skip
            cases zb : Ie.isz b
            · skip
              exact div_fin a b w a0 a1 b0 b1 hT na ia nb ib zb
            · skip
              have SP : Hid (Ie.DivIs a b 9221120237041090560 1) := by rw [Hid, Ie.DivIs, na, nb, ia, ib, za, zb]; simp
              rw [na] at NA
              rw [nb] at NB
              rw [ia] at IA
              rw [ib] at IB
              rw [za] at ZA
              rw [zb] at ZB
              clear na nb ia ib hT za zb
              go_enter Tryz.func189, Tryz.ntmps189
              go_wp2_with fail
              refine (NA.out _).mono ?_
              rintro e wz ⟨rfl, hz⟩
              replace hz := hz.symm
              subst hz
              go_wp2_with fail
              refine (NB.out _).mono ?_
              rintro e wz ⟨rfl, hz⟩
              replace hz := hz.symm
              subst hz
              go_wp2_with fail
              refine (IA.out _).mono ?_
              rintro e wz ⟨rfl, hz⟩
              replace hz := hz.symm
              subst hz
              go_wp2_with fail
              refine (ZA.out _).mono ?_
              rintro e wz ⟨rfl, hz⟩
              replace hz := hz.symm
              subst hz
              go_wp2_with fail
              refine (ZB.out _).mono ?_
              rintro e wz ⟨rfl, hz⟩
              replace hz := hz.symm
              subst hz
              go_wp2_with fail
              go_ret2
              exact KK.out _ _ _ rfl SP.out
        · skip
          cases za : Ie.isz a
          · skip
            have zb := Ie.not_iz ib
            have SP : Hid (Ie.DivIs a b (Ie.sb (Ie.ngd a != Ie.ngd b) 0) 0) := by rw [Hid, Ie.DivIs, na, nb, ia, ib, za, zb]; simp
            rw [na] at NA
            rw [nb] at NB
            rw [ia] at IA
            rw [ib] at IB
            rw [za] at ZA
            rw [zb] at ZB
            clear na nb ia ib hT za zb
            generalize hI : Ie.sb (Ie.ngd a != Ie.ngd b) 9218868437227405312 = sI at *
            generalize hO : Ie.sb (Ie.ngd a != Ie.ngd b) 0 = sO at *
            clear hI hO
            go_enter Tryz.func189, Tryz.ntmps189
            go_wp2_with fail
            refine (NA.out _).mono ?_
            rintro e wz ⟨rfl, hz⟩
            replace hz := hz.symm
            subst hz
            go_wp2_with fail
            refine (NB.out _).mono ?_
            rintro e wz ⟨rfl, hz⟩
            replace hz := hz.symm
            subst hz
            go_wp2_with fail
            refine (IA.out _).mono ?_
            rintro e wz ⟨rfl, hz⟩
            replace hz := hz.symm
            subst hz
            go_wp2_with fail
            refine (ZA.out _).mono ?_
            rintro e wz ⟨rfl, hz⟩
            replace hz := hz.symm
            subst hz
            go_wp2_with fail
            refine (IA.out _).mono ?_
            rintro e wz ⟨rfl, hz⟩
            replace hz := hz.symm
            subst hz
            go_wp2_with fail
            refine (IB.out _).mono ?_
            rintro e wz ⟨rfl, hz⟩
            replace hz := hz.symm
            subst hz
            go_wp2_with fail
            refine (SG.out _).mono ?_
            rintro e wz ⟨rfl, hz⟩
            replace hz := hz.symm
            subst hz
            go_wp2_with fail
            go_ret2
            exact KK.out _ _ _ rfl SP.out
          · skip
            have zb := Ie.not_iz ib
            have SP : Hid (Ie.DivIs a b (Ie.sb (Ie.ngd a != Ie.ngd b) 0) 0) := by rw [Hid, Ie.DivIs, na, nb, ia, ib, za, zb]; simp
            rw [na] at NA
            rw [nb] at NB
            rw [ia] at IA
            rw [ib] at IB
            rw [za] at ZA
            rw [zb] at ZB
            clear na nb ia ib hT za zb
            generalize hI : Ie.sb (Ie.ngd a != Ie.ngd b) 9218868437227405312 = sI at *
            generalize hO : Ie.sb (Ie.ngd a != Ie.ngd b) 0 = sO at *
            clear hI hO
            go_enter Tryz.func189, Tryz.ntmps189
            go_wp2_with fail
            refine (NA.out _).mono ?_
            rintro e wz ⟨rfl, hz⟩
            replace hz := hz.symm
            subst hz
            go_wp2_with fail
            refine (NB.out _).mono ?_
            rintro e wz ⟨rfl, hz⟩
            replace hz := hz.symm
            subst hz
            go_wp2_with fail
            refine (IA.out _).mono ?_
            rintro e wz ⟨rfl, hz⟩
            replace hz := hz.symm
            subst hz
            go_wp2_with fail
            refine (ZA.out _).mono ?_
            rintro e wz ⟨rfl, hz⟩
            replace hz := hz.symm
            subst hz
            go_wp2_with fail
            refine (ZB.out _).mono ?_
            rintro e wz ⟨rfl, hz⟩
            replace hz := hz.symm
            subst hz
            go_wp2_with fail
            refine (IA.out _).mono ?_
            rintro e wz ⟨rfl, hz⟩
            replace hz := hz.symm
            subst hz
            go_wp2_with fail
            refine (IB.out _).mono ?_
            rintro e wz ⟨rfl, hz⟩
            replace hz := hz.symm
            subst hz
            go_wp2_with fail
            refine (SG.out _).mono ?_
            rintro e wz ⟨rfl, hz⟩
            replace hz := hz.symm
            subst hz
            go_wp2_with fail
            go_ret2
            exact KK.out _ _ _ rfl SP.out
      · cases ib : Ie.isi b
        · skip
          have za := Ie.not_iz ia
          cases zb : Ie.isz b
          · skip
            have SP : Hid (Ie.DivIs a b (Ie.sb (Ie.ngd a != Ie.ngd b) 9218868437227405312) 0) := by rw [Hid, Ie.DivIs, na, nb, ia, ib, za, zb]; simp
            rw [na] at NA
            rw [nb] at NB
            rw [ia] at IA
            rw [ib] at IB
            rw [za] at ZA
            rw [zb] at ZB
            clear na nb ia ib hT za zb
            generalize hI : Ie.sb (Ie.ngd a != Ie.ngd b) 9218868437227405312 = sI at *
            generalize hO : Ie.sb (Ie.ngd a != Ie.ngd b) 0 = sO at *
            clear hI hO
            go_enter Tryz.func189, Tryz.ntmps189
            go_wp2_with fail
            refine (NA.out _).mono ?_
            rintro e wz ⟨rfl, hz⟩
            replace hz := hz.symm
            subst hz
            go_wp2_with fail
            refine (NB.out _).mono ?_
            rintro e wz ⟨rfl, hz⟩
            replace hz := hz.symm
            subst hz
            go_wp2_with fail
            refine (IA.out _).mono ?_
            rintro e wz ⟨rfl, hz⟩
            replace hz := hz.symm
            subst hz
            go_wp2_with fail
            refine (IB.out _).mono ?_
            rintro e wz ⟨rfl, hz⟩
            replace hz := hz.symm
            subst hz
            go_wp2_with fail
            refine (ZA.out _).mono ?_
            rintro e wz ⟨rfl, hz⟩
            replace hz := hz.symm
            subst hz
            go_wp2_with fail
            refine (IA.out _).mono ?_
            rintro e wz ⟨rfl, hz⟩
            replace hz := hz.symm
            subst hz
            go_wp2_with fail
            refine (SG.out _).mono ?_
            rintro e wz ⟨rfl, hz⟩
            replace hz := hz.symm
            subst hz
            go_wp2_with fail
            go_ret2
            exact KK.out _ _ _ rfl SP.out
          · skip
            have SP : Hid (Ie.DivIs a b (Ie.sb (Ie.ngd a != Ie.ngd b) 9218868437227405312) 0) := by rw [Hid, Ie.DivIs, na, nb, ia, ib, za, zb]; simp
            rw [na] at NA
            rw [nb] at NB
            rw [ia] at IA
            rw [ib] at IB
            rw [za] at ZA
            rw [zb] at ZB
            clear na nb ia ib hT za zb
            generalize hI : Ie.sb (Ie.ngd a != Ie.ngd b) 9218868437227405312 = sI at *
            generalize hO : Ie.sb (Ie.ngd a != Ie.ngd b) 0 = sO at *
            clear hI hO
            go_enter Tryz.func189, Tryz.ntmps189
            go_wp2_with fail
            refine (NA.out _).mono ?_
            rintro e wz ⟨rfl, hz⟩
            replace hz := hz.symm
            subst hz
            go_wp2_with fail
            refine (NB.out _).mono ?_
            rintro e wz ⟨rfl, hz⟩
            replace hz := hz.symm
            subst hz
            go_wp2_with fail
            refine (IA.out _).mono ?_
            rintro e wz ⟨rfl, hz⟩
            replace hz := hz.symm
            subst hz
            go_wp2_with fail
            refine (IB.out _).mono ?_
            rintro e wz ⟨rfl, hz⟩
            replace hz := hz.symm
            subst hz
            go_wp2_with fail
            refine (ZA.out _).mono ?_
            rintro e wz ⟨rfl, hz⟩
            replace hz := hz.symm
            subst hz
            go_wp2_with fail
            refine (IA.out _).mono ?_
            rintro e wz ⟨rfl, hz⟩
            replace hz := hz.symm
            subst hz
            go_wp2_with fail
            refine (SG.out _).mono ?_
            rintro e wz ⟨rfl, hz⟩
            replace hz := hz.symm
            subst hz
            go_wp2_with fail
            go_ret2
            exact KK.out _ _ _ rfl SP.out
        · skip
          have za := Ie.not_iz ia
          have zb := Ie.not_iz ib
          have SP : Hid (Ie.DivIs a b 9221120237041090560 1) := by rw [Hid, Ie.DivIs, na, nb, ia, ib, za, zb]; simp
          rw [na] at NA
          rw [nb] at NB
          rw [ia] at IA
          rw [ib] at IB
          rw [za] at ZA
          rw [zb] at ZB
          clear na nb ia ib hT za zb
          go_enter Tryz.func189, Tryz.ntmps189
          go_wp2_with fail
          refine (NA.out _).mono ?_
          rintro e wz ⟨rfl, hz⟩
          replace hz := hz.symm
          subst hz
          go_wp2_with fail
          refine (NB.out _).mono ?_
          rintro e wz ⟨rfl, hz⟩
          replace hz := hz.symm
          subst hz
          go_wp2_with fail
          refine (IA.out _).mono ?_
          rintro e wz ⟨rfl, hz⟩
          replace hz := hz.symm
          subst hz
          go_wp2_with fail
          refine (IB.out _).mono ?_
          rintro e wz ⟨rfl, hz⟩
          replace hz := hz.symm
          subst hz
          go_wp2_with fail
          go_ret2
          exact KK.out _ _ _ rfl SP.out
    · have SP : Hid (Ie.DivIs a b 9221120237041090560 0) := by rw [Hid, Ie.DivIs, na, nb]; simp
      rw [na] at NA
      rw [nb] at NB
      clear na nb hT
      go_enter Tryz.func189, Tryz.ntmps189
      go_wp2_with fail
      refine (NA.out _).mono ?_
      rintro e wz ⟨rfl, hz⟩
      replace hz := hz.symm
      subst hz
      go_wp2_with fail
      refine (NB.out _).mono ?_
      rintro e wz ⟨rfl, hz⟩
      replace hz := hz.symm
      subst hz
      go_wp2_with fail
      go_ret2
      exact KK.out _ _ _ rfl SP.out
  · have SP : Hid (Ie.DivIs a b 9221120237041090560 0) := by rw [Hid, Ie.DivIs, na]; simp
    rw [na] at NA
    clear na hT
    go_enter Tryz.func189, Tryz.ntmps189
    go_wp2_with fail
    refine (NA.out _).mono ?_
    rintro e wz ⟨rfl, hz⟩
    replace hz := hz.symm
    subst hz
    go_wp2_with fail
    go_ret2
    exact KK.out _ _ _ rfl SP.out

end Go.Proofs.YtdemopkdcnaibaaGreatDoor

/-
  Rounded signed fractions: div.
-/
namespace Go.Proofs.YtdemopkdcnaibaaGreatDoor
namespace Ie


theorem DivIs.get {a b r f : Int} (fa : fin a) (fb : fin b) (hb : ab b ≠ 0) (h : DivIs a b r f) : Res (ngd a != ngd b) (dm a * 2 ^ 128 / dm b) (de a - 128 - de b) (decide (dm a * 2 ^ 128 % dm b ≠ 0)) r f := by
  have zb : isz b = false := by rw [isz, decide_eq_false_iff_not]; exact hb
  rw [DivIs, (fin_not fa).1, (fin_not fa).2, (fin_not fb).1, (fin_not fb).2, zb] at h
  simp only [Bool.false_eq_true, or_self, and_false, if_false] at h
  exact h

theorem near_zero (Q : Int) (hQ : 0 < Q) : Near 0 Q false 0 := by
  refine ⟨⟨by omega, by omega⟩, fun h => absurd h (by omega), fun _ => .inl ?_⟩
  rw [md_zero, Int.one_mul]; exact hQ

/-- A quotient cut at 128 bits and marked is rounded as the fraction. -/
theorem div_near {a b x : Int} (fa : fin a) (fb : fin b) (hb : ab b ≠ 0) (hR : Rnd (dm a * 2 ^ 128 / dm b) 1 (de a - 128 - de b) (decide (dm a * 2 ^ 128 % dm b ≠ 0)) x) : Near (2 * (un (ab a) * 2 ^ 1074)) (un (ab b)) false x := by
  obtain ⟨⟨da0, da1⟩, ⟨ea0, ea1⟩, ga, za⟩ := dec_f a fa
  obtain ⟨⟨db0, db1⟩, ⟨eb0, eb1⟩, gb, zb⟩ := dec_f b fb
  have bp := un_pos (x := ab b) (by have := (ab_bd b).1; omega)
  have dp : 0 < dm b := by omega
  rcases (show dm a = 0 ∨ 0 < dm a by omega) with h | h
  · rw [h, Int.zero_mul, Int.zero_ediv, Int.zero_emod] at hR
    have : x = 0 := hR.one (by omega) (by omega) (rnd_zero 1 (de a - 128 - de b) _ (by omega)) (a := 0) (a' := 0) (by omega) rfl
    subst this
    rw [za.1 h, un_zero, Int.zero_mul]
    exact near_zero _ bp
  · have hq : 18014398509481984 ≤ dm a * 2 ^ 128 / dm b := by
      rw [Int.le_ediv_iff_mul_le dp]
      have h1 : 1 * 2 ^ 128 ≤ dm a * 2 ^ 128 := Int.mul_le_mul_of_nonneg_right (by omega) (by have := Nm.two_pos 128; omega)
      have h2 : (2 : Int) ^ 128 = 340282366920938463463374607431768211456 := by decide
      omega
    have hF := rnd_floor (dm a * 2 ^ 128) (dm b) _ x dp hq hR
    obtain ⟨ka, hka⟩ : ∃ k : Nat, (k : Int) = de a + 1074 := ⟨(de a + 1074).toNat, by omega⟩
    obtain ⟨kb, hkb⟩ : ∃ k : Nat, (k : Int) = de b + 1074 := ⟨(de b + 1074).toNat, by omega⟩
    have hN := hF (ka + 947) kb (by omega)
    rw [gb kb hkb] at hN
    have e : dm a * 2 ^ 128 * 2 ^ (ka + 947) = 2 * (un (ab a) * 2 ^ 1074) := by
      have l : dm a * 2 ^ 128 * 2 ^ (ka + 947) = dm a * 2 ^ (ka + 1075) := by rw [Int.mul_assoc, ← Nm.two_add, show 128 + (ka + 947) = ka + 1075 by omega]
      have r : dm a * 2 ^ (ka + 1075) = 2 * (dm a * 2 ^ ka * 2 ^ 1074) := by
        rw [show ka + 1075 = (ka + 1074) + 1 by omega, Nm.two_succ, Nm.two_add]
        generalize (2 : Int) ^ 1074 = P
        generalize (2 : Int) ^ ka = R
        ac_rfl
      rw [l, r, ga ka hka]
    rw [e] at hN
    exact hN

theorem DivIs.rs {a b r f : Int} (fa : fin a) (fb : fin b) (hb : ab b ≠ 0) (h : DivIs a b r f) : RS (sn (ngd a != ngd b) (un (ab a) * 2 ^ 1074)) (un (ab b)) (ngd a != ngd b) r := by
  obtain ⟨x, t, L, rfl, -, hR, -, -⟩ := h.get fa fb hb
  exact ⟨_, _, x, rfl, rfl, Int.mul_nonneg (un_nn (ab_bd a).1) (by have := Nm.two_pos 1074; omega), div_near fa fb hb hR, fun _ => rfl⟩

end Ie
end Go.Proofs.YtdemopkdcnaibaaGreatDoor

/-
  What add, mul and div answer is one double (without fma).
-/
namespace Go.Proofs.YtdemopkdcnaibaaGreatDoor
open Go Go.RowKit Go.Deep

namespace Ie
theorem kindk (d : Int) : isn d = true ∨ (isn d = false ∧ isi d = true) ∨ (isn d = false ∧ isi d = false ∧ fin d) := by
  cases h : isn d
  · cases k : isi d
    · exact .inr (.inr ⟨rfl, rfl, fin_of h k⟩)
    · exact .inr (.inl ⟨rfl, rfl⟩)
  · exact .inl rfl

theorem AddIs.uniq {a b r r' f f' : Int} (h : AddIs a b r f) (k : AddIs a b r' f') : r' = r := by
  rcases kindk a with ha | ⟨ha, ia⟩ | ⟨ha, ia, fa⟩ <;> rcases kindk b with hb | ⟨hb, ib⟩ | ⟨hb, ib, fb⟩
  case inr.inr.inr.inr => exact (k.rs fa fb).one (by omega) (by omega) (h.rs fa fb) rfl
  case inr.inl.inr.inl =>
    rw [AddIs, ha, hb, ia, ib] at h k
    by_cases e : a = b
    · simp only [e, Bool.false_eq_true, or_self, if_false, ne_eq, not_true_eq_false, and_false, if_true] at h k; omega
    · simp only [e, Bool.false_eq_true, or_self, if_false, ne_eq, not_false_eq_true, and_self, if_true] at h k; omega
  all_goals
    rw [AddIs] at h k
    simp_all
    try omega

theorem Res.uniq {neg more : Bool} {V e r r' f f' : Int} (h : Res neg V e more r f) (k : Res neg V e more r' f') : r' = r := by
  obtain ⟨x, t, L, rfl, _, hR, _⟩ := h
  obtain ⟨y, t', L', rfl, _, hR', _⟩ := k
  obtain ⟨a, b, hab, hN⟩ := hR.at
  have hp : (0 : Int) < 1 * 2 ^ b := by have := Nm.two_pos b; omega
  rw [(hR' a b hab).one hp hp hN rfl]

theorem MulIs.uniq {a b r r' f f' : Int} (h : MulIs a b r f) (k : MulIs a b r' f') : r' = r := by
  unfold MulIs at h k
  split at h
  · rename_i g; rw [if_pos g] at k; rw [h.1, k.1]
  rename_i g; rw [if_neg g] at k
  split at h
  · rename_i g; rw [if_pos g] at k; rw [h.1, k.1]
  rename_i g; rw [if_neg g] at k
  split at h
  · rename_i g; rw [if_pos g] at k; rw [h.1, k.1]
  rename_i g; rw [if_neg g] at k
  exact h.uniq k

theorem DivIs.uniq {a b r r' f f' : Int} (h : DivIs a b r f) (k : DivIs a b r' f') : r' = r := by
  unfold DivIs at h k
  split at h
  · rename_i g; rw [if_pos g] at k; rw [h.1, k.1]
  rename_i g; rw [if_neg g] at k
  split at h
  · rename_i g; rw [if_pos g] at k; rw [h.1, k.1]
  rename_i g; rw [if_neg g] at k
  split at h
  · rename_i g; rw [if_pos g] at k; rw [h.1, k.1]
  rename_i g; rw [if_neg g] at k
  split at h
  · rename_i g; rw [if_pos g] at k; rw [h.1, k.1]
  rename_i g; rw [if_neg g] at k
  split at h
  · rename_i g; rw [if_pos g] at k; rw [h.1, k.1]
  rename_i g; rw [if_neg g] at k
  exact h.uniq k
end Ie
end Go.Proofs.YtdemopkdcnaibaaGreatDoor

namespace Go.Proofs.YtdemopkdcnaibaaGreatDoor
open Go Go.RowKit Go.Deep

namespace Ie
/-- What a division answers, whoever makes it: one double. -/
def DivR (a b r : Int) : Prop :=
  if isn a = true ∨ isn b = true then r = 9221120237041090560
  else if (isi a = true ∧ isi b = true) ∨ (isz a = true ∧ isz b = true) then r = 9221120237041090560
  else if isi a = true then r = sb (ngd a != ngd b) 9218868437227405312
  else if isi b = true then r = sb (ngd a != ngd b) 0
  else if isz b = true then r = sb (ngd a != ngd b) 9218868437227405312
  else RS (sn (ngd a != ngd b) (un (ab a) * 2 ^ 1074)) (un (ab b)) (ngd a != ngd b) r

theorem ydiv_near {a b x : Int} (fa : fin a) (fb : fin b) (hR : Rnd (dm a) (dm b) (de a - de b) false x) : Near (2 * (un (ab a) * 2 ^ 1074)) (un (ab b)) false x := by
  obtain ⟨⟨da0, da1⟩, ⟨ea0, ea1⟩, ga, za⟩ := dec_f a fa
  obtain ⟨⟨db0, db1⟩, ⟨eb0, eb1⟩, gb, zb⟩ := dec_f b fb
  obtain ⟨ka, hka⟩ : ∃ k : Nat, (k : Int) = de a + 1074 := ⟨(de a + 1074).toNat, by omega⟩
  obtain ⟨kb, hkb⟩ : ∃ k : Nat, (k : Int) = de b + 1074 := ⟨(de b + 1074).toNat, by omega⟩
  have hN := hR (ka + 1075) kb (by omega)
  rw [gb kb hkb] at hN
  have r : dm a * 2 ^ (ka + 1075) = 2 * (dm a * 2 ^ ka * 2 ^ 1074) := by
    rw [show ka + 1075 = (ka + 1074) + 1 by omega, Nm.two_succ, Nm.two_add]
    generalize (2 : Int) ^ 1074 = P
    generalize (2 : Int) ^ ka = R
    ac_rfl
  rw [r, ga ka hka] at hN
  exact hN

theorem DivIs.r {a b r f : Int} (h : DivIs a b r f) : DivR a b r := by
  unfold DivR
  unfold DivIs at h
  split
  · rename_i g; rw [if_pos g] at h; exact h.1
  rename_i g1; rw [if_neg g1] at h
  split
  · rename_i g; rw [if_pos g] at h; exact h.1
  rename_i g2; rw [if_neg g2] at h
  split
  · rename_i g; rw [if_pos g] at h; exact h.1
  rename_i g3; rw [if_neg g3] at h
  split
  · rename_i g; rw [if_pos g] at h; exact h.1
  rename_i g4; rw [if_neg g4] at h
  split
  · rename_i g; rw [if_pos g] at h; exact h.1
  rename_i g5; rw [if_neg g5] at h
  have fa : fin a := fin_of (by cases c : isn a; rfl; exact absurd (.inl c) g1) (by cases c : isi a; rfl; exact absurd c g3)
  have fb : fin b := fin_of (by cases c : isn b; rfl; exact absurd (.inr c) g1) (by cases c : isi b; rfl; exact absurd c g4)
  have hb : ab b ≠ 0 := fun c => g5 (by rw [isz, c]; rfl)
  obtain ⟨x, t, L, rfl, -, hR, -, -⟩ := h
  exact ⟨_, _, x, rfl, rfl, Int.mul_nonneg (un_nn (ab_bd a).1) (by have := Nm.two_pos 1074; omega), div_near fa fb hb hR, fun _ => rfl⟩

theorem DivR.one {a b r r' : Int} (h : DivR a b r) (k : DivR a b r') : r = r' := by
  unfold DivR at h k
  split at h
  · rename_i g; rw [if_pos g] at k; rw [h, k]
  rename_i g1; rw [if_neg g1] at k
  split at h
  · rename_i g; rw [if_pos g] at k; rw [h, k]
  rename_i g2; rw [if_neg g2] at k
  split at h
  · rename_i g; rw [if_pos g] at k; rw [h, k]
  rename_i g3; rw [if_neg g3] at k
  split at h
  · rename_i g; rw [if_pos g] at k; rw [h, k]
  rename_i g4; rw [if_neg g4] at k
  split at h
  · rename_i g; rw [if_pos g] at k; rw [h, k]
  rename_i g5; rw [if_neg g5] at k
  have bp := un_pos (x := ab b) (by
    have h1 := (ab_bd b).1
    have h2 : ab b ≠ 0 := fun c => g5 (by rw [isz, c]; rfl)
    omega)
  exact h.one bp bp k rfl
end Ie

def DivTold5 (a b : Int) (w : World) (r : Ending) (w' : World) : Prop := ∃ x, r = .returned (.int .u64 x) ∧ Ie.DivR a b x ∧ Below w.heap.size w w'

set_option maxRecDepth 100000 in
set_option maxHeartbeats 4000000 in
theorem ydivide_any (a b : Int) (w : World) (a0 : 0 ≤ a) (a1 : a < 18446744073709551616) (b0 : 0 ≤ b) (b1 : b < 18446744073709551616) :
    Calls Tryz.prog 180 #[.int .u64 a, .int .u64 b] w fun e w' => DivTold5 a b w e w' := by
  have GA := hid (fun wx => yngd_any a wx)
  have GB := hid (fun wx => yngd_any b wx)
  have AN := hid (fun wx => yanynan_any a b wx a0 a1 b0 b1)
  have IA := hid (fun wx => yinf_any a wx a0 a1)
  have IB := hid (fun wx => yinf_any b wx b0 b1)
  have ZA := hid (fun wx => yzero_any a wx a0 a1)
  have ZB := hid (fun wx => yzero_any b wx b0 b1)
  have SI := hid (fun wx => ysigned_any (Ie.ngd a != Ie.ngd b) 9218868437227405312 wx (by omega) (by omega))
  have SZ := hid (fun wx => ysigned_any (Ie.ngd a != Ie.ngd b) 0 wx (by omega) (by omega))
  have FF : Hid (∀ x w', Ie.DivR a b x → Below w.heap.size w w' → DivTold5 a b w (.returned (.int .u64 x)) w') := fun x w' h k => ⟨x, rfl, h, k⟩
  have BR := hid (Below.refl w.heap.size w)
  have DR : Hid (∀ r, Ie.DivR a b r ↔ Ie.DivR a b r) := fun r => Iff.rfl
  have RA : Hid (Ie.isn a = false → Ie.isi a = false → Ie.isn b = false → Ie.isi b = false → Ie.isz b = false → Calls Tryz.prog 223 #[.int .u64 a, .int .u64 b] w (fun r w' => NumTold5 (Ie.ngd a != Ie.ngd b) (Ie.dm a) (Ie.dm b) (Ie.de a - Ie.de b) w r w') ∧ Ie.fin a ∧ Ie.fin b ∧ 0 < Ie.dm b) := fun h1 h2 h3 h4 h5 => by
    have fa := Ie.fin_of h1 h2
    have fb := Ie.fin_of h3 h4
    obtain ⟨⟨da0, da1⟩, ⟨ea0, ea1⟩, _, _⟩ := Ie.dec_f a fa
    obtain ⟨⟨db0, db1⟩, ⟨eb0, eb1⟩, _, zb⟩ := Ie.dec_f b fb
    refine ⟨yratio_any a b _ _ _ _ _ _ w (fun wx => yof2 a _ _ _ wx a0 a1 rfl rfl rfl da0 da1) (fun wx => yof2 b _ _ _ wx b0 b1 rfl rfl rfl db0 db1) (by omega) (by omega) (by omega) (by omega), fa, fb, ?_⟩
    have : Ie.ab b ≠ 0 := fun c => by rw [Ie.isz, c] at h5; simp at h5
    omega
  have UN : Hid (∀ r, Ie.DivR a b r = (if Ie.isn a = true ∨ Ie.isn b = true then r = 9221120237041090560 else if (Ie.isi a = true ∧ Ie.isi b = true) ∨ (Ie.isz a = true ∧ Ie.isz b = true) then r = 9221120237041090560 else if Ie.isi a = true then r = Ie.sb (Ie.ngd a != Ie.ngd b) 9218868437227405312 else if Ie.isi b = true then r = Ie.sb (Ie.ngd a != Ie.ngd b) 0 else if Ie.isz b = true then r = Ie.sb (Ie.ngd a != Ie.ngd b) 9218868437227405312 else Ie.RS (Ie.sn (Ie.ngd a != Ie.ngd b) (Ie.un (Ie.ab a) * 2 ^ 1074)) (Ie.un (Ie.ab b)) (Ie.ngd a != Ie.ngd b) r)) := fun r => rfl
  clear DR a0 a1 b0 b1
  rw [show Ie.ab 9218868437227405312 = 9218868437227405312 by decide] at SI
  rw [show Ie.ab 0 = 0 by decide] at SZ
  have SI2 : Hid (∀ wx, Calls Tryz.prog 65 #[.bool (!(Ie.ngd a == Ie.ngd b)), .int .u64 9218868437227405312] wx fun e w' => e = .returned (.int .u64 (Ie.sb (Ie.ngd a != Ie.ngd b) 9218868437227405312)) ∧ w' = wx) := SI.out
  have SZ2 : Hid (∀ wx, Calls Tryz.prog 65 #[.bool (!(Ie.ngd a == Ie.ngd b)), .int .u64 0] wx fun e w' => e = .returned (.int .u64 (Ie.sb (Ie.ngd a != Ie.ngd b) 0)) ∧ w' = wx) := SZ.out
  clear SI SZ
  have XA : Ie.isi a = true → Ie.isz a = false := fun h => by simp only [Ie.isi, Ie.isz, decide_eq_true_eq, decide_eq_false_iff_not] at *; omega
  have XB : Ie.isi b = true → Ie.isz b = false := fun h => by simp only [Ie.isi, Ie.isz, decide_eq_true_eq, decide_eq_false_iff_not] at *; omega
  by_cases hn : (Ie.isn a || Ie.isn b) = true
  · have hn2 : Ie.isn a = true ∨ Ie.isn b = true := by simpa using hn
    rw [hn] at AN
    have F := hid (FF.out (9221120237041090560) w (by rw [UN.out]; simp [hn2]) BR.out)
    clear FF UN RA BR
    go_enter Tryz.func180, Tryz.ntmps180
    go_wp2_with (first | (go_at_call 66; first | (with_reducible refine (GA.out _).mono ?_; rintro e w' ⟨rfl, rfl⟩) | (with_reducible refine (GB.out _).mono ?_; rintro e w' ⟨rfl, rfl⟩)) | (go_at_call 62; first | (with_reducible refine (AN.out _).mono ?_; rintro e w' ⟨rfl, rfl⟩)) | (go_at_call 64; first | (with_reducible refine (IA.out _).mono ?_; rintro e w' ⟨rfl, rfl⟩) | (with_reducible refine (IB.out _).mono ?_; rintro e w' ⟨rfl, rfl⟩)) | (go_at_call 73; first | (with_reducible refine (ZA.out _).mono ?_; rintro e w' ⟨rfl, rfl⟩) | (with_reducible refine (ZB.out _).mono ?_; rintro e w' ⟨rfl, rfl⟩)) | (go_at_call 65; first | (with_reducible refine (SI2.out _).mono ?_; rintro e w' ⟨rfl, rfl⟩) | (with_reducible refine (SZ2.out _).mono ?_; rintro e w' ⟨rfl, rfl⟩)))
    go_ret
    exact F.out
  have h1 : Ie.isn a = false := by cases c : Ie.isn a; rfl; simp [c] at hn
  have h2 : Ie.isn b = false := by cases c : Ie.isn b; rfl; simp [c] at hn
  rw [h1, h2] at AN
  clear hn
  cases h3 : Ie.isi a
  · rw [h3] at IA
    cases h4 : Ie.isi b
    · rw [h4] at IB
      cases h5 : Ie.isz a
      · rw [h5] at ZA
        cases h6 : Ie.isz b
        · rw [h6] at ZB
          obtain ⟨RC, fa, fb, dp⟩ := RA.out h1 h3 h2 h4 h6
          have HC := hid RC
          have KK : Hid (∀ x w', Ie.Rnd (Ie.dm a) (Ie.dm b) (Ie.de a - Ie.de b) false x → Below w.heap.size w w' → DivTold5 a b w (.returned (.int .u64 (Ie.sg (Ie.ngd a != Ie.ngd b) x))) w') := fun x w' hR k => FF.out _ w' (by rw [UN.out]; rw [if_neg (by simp [h1, h2]), if_neg (by simp [h3, h6]), if_neg (by simp [h3]), if_neg (by simp [h4]), if_neg (by simp [h6])]; exact ⟨_, _, x, rfl, rfl, Int.mul_nonneg (Ie.un_nn (Ie.ab_bd a).1) (by have := Nm.two_pos 1074; omega), Ie.ydiv_near fa fb hR, fun _ => rfl⟩) k
          have DP := hid dp
          clear RC fa fb dp FF UN RA BR SI2 SZ2
          generalize Ie.dm a = Ma at *
          generalize Ie.dm b = Mb at *
          generalize Ie.de a - Ie.de b = ee at *
          obtain ⟨ng, hng⟩ : ∃ ng, (Ie.ngd a != Ie.ngd b) = ng := ⟨_, rfl⟩
          rw [hng] at HC KK
          clear hng
          go_enter Tryz.func180, Tryz.ntmps180
          go_wp2_with (first | (go_at_call 66; first | (with_reducible refine (GA.out _).mono ?_; rintro e w' ⟨rfl, rfl⟩) | (with_reducible refine (GB.out _).mono ?_; rintro e w' ⟨rfl, rfl⟩)) | (go_at_call 62; first | (with_reducible refine (AN.out _).mono ?_; rintro e w' ⟨rfl, rfl⟩)) | (go_at_call 64; first | (with_reducible refine (IA.out _).mono ?_; rintro e w' ⟨rfl, rfl⟩) | (with_reducible refine (IB.out _).mono ?_; rintro e w' ⟨rfl, rfl⟩)) | (go_at_call 73; first | (with_reducible refine (ZA.out _).mono ?_; rintro e w' ⟨rfl, rfl⟩) | (with_reducible refine (ZB.out _).mono ?_; rintro e w' ⟨rfl, rfl⟩)))
          with_reducible refine HC.out.mono ?_
          rintro r w1 ⟨v, rfl, N, hB⟩
          have YR := hid (yrounded_any N DP.out)
          have HB := hid hB
          clear N hB HC DP
          go_wp2_with fail
          with_reducible refine YR.out.mono ?_
          rintro r w2 ⟨x, rfl, R, hB2⟩
          have F := hid (KK.out x w2 R (bel HB.out hB2))
          clear R hB2 YR KK HB
          go_wp2_with fail
          go_ret
          exact F.out
        · rw [h6] at ZB
          have F := hid (FF.out (Ie.sb (Ie.ngd a != Ie.ngd b) 9218868437227405312) w (by rw [UN.out]; simp [h1, h2, h3, h4, h5, h6]) BR.out)
          clear FF UN RA BR
          go_enter Tryz.func180, Tryz.ntmps180
          go_wp2_with (first | (go_at_call 66; first | (with_reducible refine (GA.out _).mono ?_; rintro e w' ⟨rfl, rfl⟩) | (with_reducible refine (GB.out _).mono ?_; rintro e w' ⟨rfl, rfl⟩)) | (go_at_call 62; first | (with_reducible refine (AN.out _).mono ?_; rintro e w' ⟨rfl, rfl⟩)) | (go_at_call 64; first | (with_reducible refine (IA.out _).mono ?_; rintro e w' ⟨rfl, rfl⟩) | (with_reducible refine (IB.out _).mono ?_; rintro e w' ⟨rfl, rfl⟩)) | (go_at_call 73; first | (with_reducible refine (ZA.out _).mono ?_; rintro e w' ⟨rfl, rfl⟩) | (with_reducible refine (ZB.out _).mono ?_; rintro e w' ⟨rfl, rfl⟩)) | (go_at_call 65; first | (with_reducible refine (SI2.out _).mono ?_; rintro e w' ⟨rfl, rfl⟩) | (with_reducible refine (SZ2.out _).mono ?_; rintro e w' ⟨rfl, rfl⟩)))
          go_ret
          exact F.out
      · rw [h5] at ZA
        cases h6 : Ie.isz b
        · rw [h6] at ZB
          obtain ⟨RC, fa, fb, dp⟩ := RA.out h1 h3 h2 h4 h6
          have HC := hid RC
          have KK : Hid (∀ x w', Ie.Rnd (Ie.dm a) (Ie.dm b) (Ie.de a - Ie.de b) false x → Below w.heap.size w w' → DivTold5 a b w (.returned (.int .u64 (Ie.sg (Ie.ngd a != Ie.ngd b) x))) w') := fun x w' hR k => FF.out _ w' (by rw [UN.out]; rw [if_neg (by simp [h1, h2]), if_neg (by simp [h3, h6]), if_neg (by simp [h3]), if_neg (by simp [h4]), if_neg (by simp [h6])]; exact ⟨_, _, x, rfl, rfl, Int.mul_nonneg (Ie.un_nn (Ie.ab_bd a).1) (by have := Nm.two_pos 1074; omega), Ie.ydiv_near fa fb hR, fun _ => rfl⟩) k
          have DP := hid dp
          clear RC fa fb dp FF UN RA BR SI2 SZ2
          generalize Ie.dm a = Ma at *
          generalize Ie.dm b = Mb at *
          generalize Ie.de a - Ie.de b = ee at *
          obtain ⟨ng, hng⟩ : ∃ ng, (Ie.ngd a != Ie.ngd b) = ng := ⟨_, rfl⟩
          rw [hng] at HC KK
          clear hng
          go_enter Tryz.func180, Tryz.ntmps180
          go_wp2_with (first | (go_at_call 66; first | (with_reducible refine (GA.out _).mono ?_; rintro e w' ⟨rfl, rfl⟩) | (with_reducible refine (GB.out _).mono ?_; rintro e w' ⟨rfl, rfl⟩)) | (go_at_call 62; first | (with_reducible refine (AN.out _).mono ?_; rintro e w' ⟨rfl, rfl⟩)) | (go_at_call 64; first | (with_reducible refine (IA.out _).mono ?_; rintro e w' ⟨rfl, rfl⟩) | (with_reducible refine (IB.out _).mono ?_; rintro e w' ⟨rfl, rfl⟩)) | (go_at_call 73; first | (with_reducible refine (ZA.out _).mono ?_; rintro e w' ⟨rfl, rfl⟩) | (with_reducible refine (ZB.out _).mono ?_; rintro e w' ⟨rfl, rfl⟩)))
          with_reducible refine HC.out.mono ?_
          rintro r w1 ⟨v, rfl, N, hB⟩
          have YR := hid (yrounded_any N DP.out)
          have HB := hid hB
          clear N hB HC DP
          go_wp2_with fail
          with_reducible refine YR.out.mono ?_
          rintro r w2 ⟨x, rfl, R, hB2⟩
          have F := hid (KK.out x w2 R (bel HB.out hB2))
          clear R hB2 YR KK HB
          go_wp2_with fail
          go_ret
          exact F.out
        · rw [h6] at ZB
          have F := hid (FF.out (9221120237041090560) w (by rw [UN.out]; simp [h1, h2, h3, h4, h5, h6]) BR.out)
          clear FF UN RA BR
          go_enter Tryz.func180, Tryz.ntmps180
          go_wp2_with (first | (go_at_call 66; first | (with_reducible refine (GA.out _).mono ?_; rintro e w' ⟨rfl, rfl⟩) | (with_reducible refine (GB.out _).mono ?_; rintro e w' ⟨rfl, rfl⟩)) | (go_at_call 62; first | (with_reducible refine (AN.out _).mono ?_; rintro e w' ⟨rfl, rfl⟩)) | (go_at_call 64; first | (with_reducible refine (IA.out _).mono ?_; rintro e w' ⟨rfl, rfl⟩) | (with_reducible refine (IB.out _).mono ?_; rintro e w' ⟨rfl, rfl⟩)) | (go_at_call 73; first | (with_reducible refine (ZA.out _).mono ?_; rintro e w' ⟨rfl, rfl⟩) | (with_reducible refine (ZB.out _).mono ?_; rintro e w' ⟨rfl, rfl⟩)) | (go_at_call 65; first | (with_reducible refine (SI2.out _).mono ?_; rintro e w' ⟨rfl, rfl⟩) | (with_reducible refine (SZ2.out _).mono ?_; rintro e w' ⟨rfl, rfl⟩)))
          go_ret
          exact F.out
    · rw [h4] at IB
      have h6 := XB h4
      rw [h6] at ZB
      cases h5 : Ie.isz a
      · rw [h5] at ZA
        have F := hid (FF.out (Ie.sb (Ie.ngd a != Ie.ngd b) 0) w (by rw [UN.out]; simp [h1, h2, h3, h4, h5, h6]) BR.out)
        clear FF UN RA BR
        go_enter Tryz.func180, Tryz.ntmps180
        go_wp2_with (first | (go_at_call 66; first | (with_reducible refine (GA.out _).mono ?_; rintro e w' ⟨rfl, rfl⟩) | (with_reducible refine (GB.out _).mono ?_; rintro e w' ⟨rfl, rfl⟩)) | (go_at_call 62; first | (with_reducible refine (AN.out _).mono ?_; rintro e w' ⟨rfl, rfl⟩)) | (go_at_call 64; first | (with_reducible refine (IA.out _).mono ?_; rintro e w' ⟨rfl, rfl⟩) | (with_reducible refine (IB.out _).mono ?_; rintro e w' ⟨rfl, rfl⟩)) | (go_at_call 73; first | (with_reducible refine (ZA.out _).mono ?_; rintro e w' ⟨rfl, rfl⟩) | (with_reducible refine (ZB.out _).mono ?_; rintro e w' ⟨rfl, rfl⟩)) | (go_at_call 65; first | (with_reducible refine (SI2.out _).mono ?_; rintro e w' ⟨rfl, rfl⟩) | (with_reducible refine (SZ2.out _).mono ?_; rintro e w' ⟨rfl, rfl⟩)))
        go_ret
        exact F.out
      · rw [h5] at ZA
        have F := hid (FF.out (Ie.sb (Ie.ngd a != Ie.ngd b) 0) w (by rw [UN.out]; simp [h1, h2, h3, h4, h5, h6]) BR.out)
        clear FF UN RA BR
        go_enter Tryz.func180, Tryz.ntmps180
        go_wp2_with (first | (go_at_call 66; first | (with_reducible refine (GA.out _).mono ?_; rintro e w' ⟨rfl, rfl⟩) | (with_reducible refine (GB.out _).mono ?_; rintro e w' ⟨rfl, rfl⟩)) | (go_at_call 62; first | (with_reducible refine (AN.out _).mono ?_; rintro e w' ⟨rfl, rfl⟩)) | (go_at_call 64; first | (with_reducible refine (IA.out _).mono ?_; rintro e w' ⟨rfl, rfl⟩) | (with_reducible refine (IB.out _).mono ?_; rintro e w' ⟨rfl, rfl⟩)) | (go_at_call 73; first | (with_reducible refine (ZA.out _).mono ?_; rintro e w' ⟨rfl, rfl⟩) | (with_reducible refine (ZB.out _).mono ?_; rintro e w' ⟨rfl, rfl⟩)) | (go_at_call 65; first | (with_reducible refine (SI2.out _).mono ?_; rintro e w' ⟨rfl, rfl⟩) | (with_reducible refine (SZ2.out _).mono ?_; rintro e w' ⟨rfl, rfl⟩)))
        go_ret
        exact F.out
  · rw [h3] at IA
    have h5 := XA h3
    rw [h5] at ZA
    cases h4 : Ie.isi b
    · rw [h4] at IB
      have F := hid (FF.out (Ie.sb (Ie.ngd a != Ie.ngd b) 9218868437227405312) w (by rw [UN.out]; simp [h1, h2, h3, h4, h5]) BR.out)
      clear FF UN RA BR
      go_enter Tryz.func180, Tryz.ntmps180
      go_wp2_with (first | (go_at_call 66; first | (with_reducible refine (GA.out _).mono ?_; rintro e w' ⟨rfl, rfl⟩) | (with_reducible refine (GB.out _).mono ?_; rintro e w' ⟨rfl, rfl⟩)) | (go_at_call 62; first | (with_reducible refine (AN.out _).mono ?_; rintro e w' ⟨rfl, rfl⟩)) | (go_at_call 64; first | (with_reducible refine (IA.out _).mono ?_; rintro e w' ⟨rfl, rfl⟩) | (with_reducible refine (IB.out _).mono ?_; rintro e w' ⟨rfl, rfl⟩)) | (go_at_call 73; first | (with_reducible refine (ZA.out _).mono ?_; rintro e w' ⟨rfl, rfl⟩) | (with_reducible refine (ZB.out _).mono ?_; rintro e w' ⟨rfl, rfl⟩)) | (go_at_call 65; first | (with_reducible refine (SI2.out _).mono ?_; rintro e w' ⟨rfl, rfl⟩) | (with_reducible refine (SZ2.out _).mono ?_; rintro e w' ⟨rfl, rfl⟩)))
      go_ret
      exact F.out
    · rw [h4] at IB
      have F := hid (FF.out (9221120237041090560) w (by rw [UN.out]; simp [h1, h2, h3, h4, h5]) BR.out)
      clear FF UN RA BR
      go_enter Tryz.func180, Tryz.ntmps180
      go_wp2_with (first | (go_at_call 66; first | (with_reducible refine (GA.out _).mono ?_; rintro e w' ⟨rfl, rfl⟩) | (with_reducible refine (GB.out _).mono ?_; rintro e w' ⟨rfl, rfl⟩)) | (go_at_call 62; first | (with_reducible refine (AN.out _).mono ?_; rintro e w' ⟨rfl, rfl⟩)) | (go_at_call 64; first | (with_reducible refine (IA.out _).mono ?_; rintro e w' ⟨rfl, rfl⟩) | (with_reducible refine (IB.out _).mono ?_; rintro e w' ⟨rfl, rfl⟩)) | (go_at_call 73; first | (with_reducible refine (ZA.out _).mono ?_; rintro e w' ⟨rfl, rfl⟩) | (with_reducible refine (ZB.out _).mono ?_; rintro e w' ⟨rfl, rfl⟩)) | (go_at_call 65; first | (with_reducible refine (SI2.out _).mono ?_; rintro e w' ⟨rfl, rfl⟩) | (with_reducible refine (SZ2.out _).mono ?_; rintro e w' ⟨rfl, rfl⟩)))
      go_ret
      exact F.out
end Go.Proofs.YtdemopkdcnaibaaGreatDoor

namespace Go.Proofs.YtdemopkdcnaibaaGreatDoor
open Go Go.RowKit Go.Deep

/-- Two numbers in their boxes and the room for a third. -/
def R3B (w wx : World) (x0 x1 x2 x3 y0 y1 y2 y3 : Value) : Prop :=
  Below w.heap.size w wx ∧ Row4 wx w.heap.size 83 x0 x1 x2 x3 ∧ Row4 wx (w.heap.size + 1) 83 y0 y1 y2 y3 ∧ Row4 wx (w.heap.size + 1 + 1) 83 (.bool false) (.slice none 0 0) (.slice none 0 0) (.int .i64 0)
theorem R3B.new (w : World) (x0 x1 x2 x3 y0 y1 y2 y3 : Value) : R3B w (((w.alloc (.cells #[x0, x1, x2, x3] 83)).alloc (.cells #[y0, y1, y2, y3] 83)).alloc (.cells #[.bool false, .slice none 0 0, .slice none 0 0, .int .i64 0] 83)) x0 x1 x2 x3 y0 y1 y2 y3 := by
  refine ⟨bel (bel (alloc_b _ _) (alloc_b _ _)) (alloc_b _ _), ?_, al1 _ _ _ _, al2 _ _ _ _⟩
  have h := Row4.new w 83 x0 x1 x2 x3
  have h2 := h.below (alloc_b _ (.cells #[y0, y1, y2, y3] 83)) h.lt
  exact h2.below (alloc_b _ _) h2.lt
theorem R3B.on {w wx wy : World} {x0 x1 x2 x3 y0 y1 y2 y3 : Value} (h : R3B w wx x0 x1 x2 x3 y0 y1 y2 y3) (k : Below wx.heap.size wx wy) : R3B w wy x0 x1 x2 x3 y0 y1 y2 y3 :=
  ⟨bel h.1 k, h.2.1.below k h.2.1.lt, h.2.2.1.below k h.2.2.1.lt, h.2.2.2.below k h.2.2.2.lt⟩
theorem R3B.drew {w wx : World} {x0 x1 x2 x3 y0 y1 y2 y3 : Value} (h : R3B w wx x0 x1 x2 x3 y0 y1 y2 y3) : R3B w wx.drew x0 x1 x2 x3 y0 y1 y2 y3 := ⟨drew_b h.1, h.2.1, h.2.2.1, h.2.2.2⟩
theorem R3B.flat {w wx : World} {x0 x1 x2 x3 y0 y1 y2 y3 : Value} (h : R3B w wx x0 x1 x2 x3 y0 y1 y2 y3) :
    (wx.cell? ⟨w.heap.size, 0, none⟩ = some x0 ∧ wx.cell? ⟨w.heap.size, 1, none⟩ = some x1 ∧ wx.cell? ⟨w.heap.size, 2, none⟩ = some x2 ∧ wx.cell? ⟨w.heap.size, 3, none⟩ = some x3) ∧
    wx.cell? ⟨w.heap.size + 1, 0, none⟩ = some y0 ∧ wx.cell? ⟨w.heap.size + 1, 1, none⟩ = some y1 ∧ wx.cell? ⟨w.heap.size + 1, 2, none⟩ = some y2 ∧ wx.cell? ⟨w.heap.size + 1, 3, none⟩ = some y3 := ⟨h.2.1.cells.1, h.2.2.1.cells.1⟩
theorem R3B.room {w wx : World} {x0 x1 x2 x3 y0 y1 y2 y3 : Value} (h : R3B w wx x0 x1 x2 x3 y0 y1 y2 y3) :
    (wx.cell? ⟨w.heap.size + 1 + 1, 0, none⟩ = some (.bool false) ∧ wx.cell? ⟨w.heap.size + 1 + 1, 1, none⟩ = some (.slice none 0 0) ∧ wx.cell? ⟨w.heap.size + 1 + 1, 2, none⟩ = some (.slice none 0 0) ∧ wx.cell? ⟨w.heap.size + 1 + 1, 3, none⟩ = some (.int .i64 0)) ∧
    (wx.frozen? ⟨w.heap.size + 1 + 1, 0, none⟩ = false ∧ wx.frozen? ⟨w.heap.size + 1 + 1, 1, none⟩ = false ∧ wx.frozen? ⟨w.heap.size + 1 + 1, 2, none⟩ = false ∧ wx.frozen? ⟨w.heap.size + 1 + 1, 3, none⟩ = false) := h.2.2.2.cells
theorem far4 {w : World} {b b' o : Nat} {u0 u1 u2 u3 : Value} (h : b' ≠ b) : ((((w.setCell ⟨b', 0, none⟩ u0).setCell ⟨b', 1, none⟩ u1).setCell ⟨b', 2, none⟩ u2).setCell ⟨b', 3, none⟩ u3).cell? ⟨b, o, none⟩ = w.cell? ⟨b, o, none⟩ := by
  rw [cell_far h, cell_far h, cell_far h, cell_far h]
theorem R3B.flatP {w wx : World} {x0 x1 x2 x3 y0 y1 y2 y3 : Value} (h : R3B w wx x0 x1 x2 x3 y0 y1 y2 y3) (u0 u1 u2 u3 : Value) :
    (((((wx.setCell ⟨w.heap.size + 1 + 1, 0, none⟩ u0).setCell ⟨w.heap.size + 1 + 1, 1, none⟩ u1).setCell ⟨w.heap.size + 1 + 1, 2, none⟩ u2).setCell ⟨w.heap.size + 1 + 1, 3, none⟩ u3).cell? ⟨w.heap.size, 0, none⟩ = some x0 ∧ ((((wx.setCell ⟨w.heap.size + 1 + 1, 0, none⟩ u0).setCell ⟨w.heap.size + 1 + 1, 1, none⟩ u1).setCell ⟨w.heap.size + 1 + 1, 2, none⟩ u2).setCell ⟨w.heap.size + 1 + 1, 3, none⟩ u3).cell? ⟨w.heap.size, 1, none⟩ = some x1 ∧ ((((wx.setCell ⟨w.heap.size + 1 + 1, 0, none⟩ u0).setCell ⟨w.heap.size + 1 + 1, 1, none⟩ u1).setCell ⟨w.heap.size + 1 + 1, 2, none⟩ u2).setCell ⟨w.heap.size + 1 + 1, 3, none⟩ u3).cell? ⟨w.heap.size, 2, none⟩ = some x2 ∧ ((((wx.setCell ⟨w.heap.size + 1 + 1, 0, none⟩ u0).setCell ⟨w.heap.size + 1 + 1, 1, none⟩ u1).setCell ⟨w.heap.size + 1 + 1, 2, none⟩ u2).setCell ⟨w.heap.size + 1 + 1, 3, none⟩ u3).cell? ⟨w.heap.size, 3, none⟩ = some x3) ∧ ((((wx.setCell ⟨w.heap.size + 1 + 1, 0, none⟩ u0).setCell ⟨w.heap.size + 1 + 1, 1, none⟩ u1).setCell ⟨w.heap.size + 1 + 1, 2, none⟩ u2).setCell ⟨w.heap.size + 1 + 1, 3, none⟩ u3).cell? ⟨w.heap.size + 1, 0, none⟩ = some y0 ∧ ((((wx.setCell ⟨w.heap.size + 1 + 1, 0, none⟩ u0).setCell ⟨w.heap.size + 1 + 1, 1, none⟩ u1).setCell ⟨w.heap.size + 1 + 1, 2, none⟩ u2).setCell ⟨w.heap.size + 1 + 1, 3, none⟩ u3).cell? ⟨w.heap.size + 1, 1, none⟩ = some y1 ∧ ((((wx.setCell ⟨w.heap.size + 1 + 1, 0, none⟩ u0).setCell ⟨w.heap.size + 1 + 1, 1, none⟩ u1).setCell ⟨w.heap.size + 1 + 1, 2, none⟩ u2).setCell ⟨w.heap.size + 1 + 1, 3, none⟩ u3).cell? ⟨w.heap.size + 1, 2, none⟩ = some y2 ∧ ((((wx.setCell ⟨w.heap.size + 1 + 1, 0, none⟩ u0).setCell ⟨w.heap.size + 1 + 1, 1, none⟩ u1).setCell ⟨w.heap.size + 1 + 1, 2, none⟩ u2).setCell ⟨w.heap.size + 1 + 1, 3, none⟩ u3).cell? ⟨w.heap.size + 1, 3, none⟩ = some y3 := by
  obtain ⟨⟨a0, a1, a2, a3⟩, b0, b1, b2, b3⟩ := h.flat
  have n1 : w.heap.size + 1 + 1 ≠ w.heap.size := by omega
  have n2 : w.heap.size + 1 + 1 ≠ w.heap.size + 1 := by omega
  exact ⟨⟨by rw [far4 n1]; exact a0, by rw [far4 n1]; exact a1, by rw [far4 n1]; exact a2, by rw [far4 n1]; exact a3⟩, by rw [far4 n2]; exact b0, by rw [far4 n2]; exact b1, by rw [far4 n2]; exact b2, by rw [far4 n2]; exact b3⟩
theorem R3B.put {w wx : World} {x0 x1 x2 x3 y0 y1 y2 y3 : Value} (h : R3B w wx x0 x1 x2 x3 y0 y1 y2 y3) (u0 u1 u2 u3 : Value) :
    Row4 ((((wx.setCell ⟨w.heap.size + 1 + 1, 0, none⟩ u0).setCell ⟨w.heap.size + 1 + 1, 1, none⟩ u1).setCell ⟨w.heap.size + 1 + 1, 2, none⟩ u2).setCell ⟨w.heap.size + 1 + 1, 3, none⟩ u3) (w.heap.size + 1 + 1) 83 u0 u1 u2 u3 ∧
    Below w.heap.size w ((((wx.setCell ⟨w.heap.size + 1 + 1, 0, none⟩ u0).setCell ⟨w.heap.size + 1 + 1, 1, none⟩ u1).setCell ⟨w.heap.size + 1 + 1, 2, none⟩ u2).setCell ⟨w.heap.size + 1 + 1, 3, none⟩ u3) :=
  ⟨h.2.2.2.set, (((h.1.setCell (p := ⟨w.heap.size + 1 + 1, 0, none⟩) (by simp only; omega) _).setCell (p := ⟨w.heap.size + 1 + 1, 1, none⟩) (by simp only; omega) _).setCell (p := ⟨w.heap.size + 1 + 1, 2, none⟩) (by simp only; omega) _).setCell (p := ⟨w.heap.size + 1 + 1, 3, none⟩) (by simp only; omega) _⟩

theorem far_arg {w : World} {b' : Nat} {u0 u1 u2 u3 : Value} {p : Option Addr} {n c : Nat} {zs : List Int} (a : Arg w p n c zs) (hp : ∀ x, p = some x → x.block ≠ b') :
    Arg ((((w.setCell ⟨b', 0, none⟩ u0).setCell ⟨b', 1, none⟩ u1).setCell ⟨b', 2, none⟩ u2).setCell ⟨b', 3, none⟩ u3) p n c zs := by
  refine ⟨a.1, a.2.1, a.2.2.1, ?_, a.2.2.2.2⟩
  rcases a.2.2.2.1 with g | ⟨b, off, rfl, g⟩
  · exact .inl g
  · refine .inr ⟨b, off, rfl, fun i hi => ?_⟩
    rw [far4 (Ne.symm (hp _ rfl))]
    exact g i hi

set_option maxRecDepth 100000 in
set_option maxHeartbeats 4000000 in
theorem yproduct_any {B : Nat} {w : World} {vx vy : Value} {na nb : Bool} {Va Vb ea eb : Int} (hx : RN B w vx na Va 1 ea) (hy : RN B w vy nb Vb 1 eb) (hB0 : B ≤ w.heap.size) (a1 : Va < 9007199254740992) (b1 : Vb < 9007199254740992) (e0 : -2000 ≤ ea) (e1 : ea ≤ 2000) (f0 : -2000 ≤ eb) (f1 : eb ≤ 2000) :
    Calls Tryz.prog 71 #[vx, vy] w fun r w' => ∃ v, r = .returned v ∧ RN B w' v (na != nb) (Va * Vb) 1 (ea + eb) ∧ Below w.heap.size w w' := by
  obtain ⟨p, n, c, q, m, d, zs, ys, rfl, h2, h3, h4, h5, h6, h7, h8, h9⟩ := hx
  obtain ⟨p', n', c', q', m', d', zs', ys', rfl, k2, k3, k4, _⟩ := hy
  have Z := hid (R3B.new w (.bool na) (.slice p n c) (.slice q m d) (.int .i64 ea) (.bool nb) (.slice p' n' c') (.slice q' m' d') (.int .i64 eb))
  have TM : Hid (∀ wx, Below w.heap.size w wx → Calls Tryz.prog 128 #[.slice p n c, .slice p' n' c'] wx fun e w' => ∃ r os, e = .returned (.slice r (List.length os) (List.length os)) ∧ Ans wx.heap.size w' r os (Va * Vb) ∧ Below wx.heap.size wx w') := fun wx b => by
    have h := times_any p p' n c n' c' zs zs' wx (h2.below b (Nat.le_refl _)) (k2.below b (Nat.le_refl _)) (by omega) (by omega)
    rw [h3, k3] at h
    exact h
  have v0 : 0 ≤ Va := by rw [← h3]; exact (Nm.val_bd zs h2.2.2.2.2).1
  have w0 : 0 ≤ Vb := by rw [← k3]; exact (Nm.val_bd zs' k2.2.2.2.2).1
  have big : Hid (Va * Vb < Nm.pw 4096) := by
    have g : Va * Vb ≤ 9007199254740992 * 9007199254740992 := Int.mul_le_mul (by omega) (by omega) w0 (by omega)
    have k := Nm.pw_mono (show 2 ≤ 4096 by omega)
    have e : Nm.pw 2 = 340282366920938463463374607431768211456 := by simp [Nm.pw]
    rw [Hid]
    generalize Nm.pw 4096 = y at *
    omega
  have qlt : ∀ x, q = some x → x.block < w.heap.size := by
    have hl : 0 < ys.length := by
      rcases Nat.eq_zero_or_pos ys.length with g | g
      · rw [List.length_eq_zero_iff.1 g] at h6; simp [Nm.val] at h6
      · exact g
    exact h5.2.2.2.1.lt hl
  have Q5 := hid (And.intro h5 (And.intro h6 (And.intro h7 (And.intro h9 qlt))))
  have WK : IntKind.i64.wrap (ea + eb) = ea + eb := by rw [IntKind.wrap_i64]; omega
  have HB0 := hid hB0
  clear h2 h3 h4 h5 h6 h7 h8 h9 k2 k3 k4 qlt v0 w0 a1 b1 hB0
  go_enter Tryz.func71, Tryz.ntmps71
  go_upto_region 1 with fail
  generalize (((w.alloc (.cells #[.bool na, .slice p n c, .slice q m d, .int .i64 ea] 83)).alloc (.cells #[.bool nb, .slice p' n' c', .slice q' m' d', .int .i64 eb] 83)).alloc (.cells #[.bool false, .slice none 0 0, .slice none 0 0, .int .i64 0] 83)) = wz at *
  have ZD := hid Z.out.drew
  have zb := ZD.out.1
  obtain ⟨⟨c0, c1, c2, c3⟩, d0, d1, d2, d3⟩ := ZD.out.flat
  go_region_held3 (fun wx => (wx.cell? ⟨w.heap.size, 0, none⟩ = some (.bool na) ∧ wx.cell? ⟨w.heap.size, 1, none⟩ = some (.slice p n c) ∧ wx.cell? ⟨w.heap.size, 2, none⟩ = some (.slice q m d) ∧ wx.cell? ⟨w.heap.size, 3, none⟩ = some (.int .i64 ea)) ∧ wx.cell? ⟨w.heap.size + 1, 0, none⟩ = some (.bool nb) ∧ wx.cell? ⟨w.heap.size + 1, 1, none⟩ = some (.slice p' n' c') ∧ wx.cell? ⟨w.heap.size + 1, 2, none⟩ = some (.slice q' m' d') ∧ wx.cell? ⟨w.heap.size + 1, 3, none⟩ = some (.int .i64 eb)) (first | (with_reducible exact T1.out.flatP _ _ _ _) | (with_reducible exact T1.out.flat) | (with_reducible exact ZD.out.flat)) (first
    | (go_at_call 128; with_reducible refine (TM.out _ zb).mono ?_; rintro r w2 ⟨pr, os, rfl, A2, hB2⟩; have T1 := hid (ZD.out.on hB2); have AA := hid A2; have HB2 := hid hB2; obtain ⟨⟨g0, g1, g2, g3⟩, k0, k1, k2, k3⟩ := T1.out.room; clear A2 hB2))
  all_goals go_wp2_with fail
  all_goals (try simp only [Exit.inBlock, Exit.then])
  refine bodyPost_ret (results_cell_row rfl _ _ (w.heap.size + 1 + 1) 83 _ (0, 0) _ rfl (T1.out.put _ _ _ _).1 Tryz.underlying83 rfl (by kernel_rfl)) rfl ?_
  have an : Ans wz.drew.heap.size w2 pr os (Va * Vb) := AA.out
  have ln := ans_small an 4096 big.out
  have ag := an.arg (by omega)
  have ts : Nm.tsize os ≤ 4096 := by rw [an.2.2.1]; exact ln
  have ltw := ZD.out.2.2.2.lt
  have prf : ∀ x, pr = some x → w.heap.size + 1 + 1 < x.block := fun x hx => by
    have h := an.2.2.2.2 x hx
    omega
  have nq : ∀ x, q = some x → x.block ≠ w.heap.size + 1 + 1 := fun x hx => by have := Q5.out.2.2.2.2 x hx; omega
  refine ⟨_, rfl, ⟨_, _, _, _, _, _, os, ys, rfl, ?_, an.2.2.2.1, ts, ?_, Q5.out.2.1, Q5.out.2.2.1, fun x hx => by have := prf x hx; have := HB0.out; omega, Q5.out.2.2.2.1⟩, (T1.out.put _ _ _ _).2⟩
  · exact far_arg ag (fun x hx => Nat.ne_of_gt (prf x hx))
  · exact far_arg (Q5.out.1.below T1.out.1 (Nat.le_refl _)) nq
end Go.Proofs.YtdemopkdcnaibaaGreatDoor

namespace Go.Proofs.YtdemopkdcnaibaaGreatDoor
open Go Go.RowKit Go.Deep

namespace Ie
/-- What a product answers, whoever makes it: one double. -/
def MulR (a b r : Int) : Prop :=
  if isn a = true ∨ isn b = true then r = 9221120237041090560
  else if (isi a = true ∧ isz b = true) ∨ (isz a = true ∧ isi b = true) then r = 9221120237041090560
  else if isi a = true ∨ isi b = true then r = sb (ngd a != ngd b) 9218868437227405312
  else RS (uv a * uv b) (2 ^ 1074) (ngd a != ngd b) r

theorem ymul_rs {a b x : Int} (fa : fin a) (fb : fin b) (hR : Rnd (dm a * dm b) 1 (de a + de b) false x) : RS (uv a * uv b) (2 ^ 1074) (ngd a != ngd b) (sg (ngd a != ngd b) x) := by
  obtain ⟨⟨da0, _⟩, ⟨ea0, ea1⟩, _, _⟩ := dec_f a fa
  obtain ⟨⟨db0, _⟩, ⟨eb0, eb1⟩, _, _⟩ := dec_f b fb
  obtain ⟨c, hc⟩ : ∃ k : Nat, (k : Int) = de a + de b + 2148 := ⟨(de a + de b + 2148).toNat, by omega⟩
  exact rs_of hR (Int.mul_nonneg da0 db0) c 1074 (by omega) (by rw [prod_at fa fb c hc]; exact uv_mul a b) rfl (fun _ => rfl)

theorem MulIs.r {a b r f : Int} (h : MulIs a b r f) : MulR a b r := by
  have h0 := h
  unfold MulR
  unfold MulIs at h
  split
  · rename_i g; rw [if_pos g] at h; exact h.1
  rename_i g1; rw [if_neg g1] at h
  split
  · rename_i g; rw [if_pos g] at h; exact h.1
  rename_i g2; rw [if_neg g2] at h
  split
  · rename_i g; rw [if_pos g] at h; exact h.1
  rename_i g3
  have fa : fin a := fin_of (by cases c : isn a; rfl; exact absurd (.inl c) g1) (by cases c : isi a; rfl; exact absurd (.inl c) g3)
  have fb : fin b := fin_of (by cases c : isn b; rfl; exact absurd (.inr c) g1) (by cases c : isi b; rfl; exact absurd (.inr c) g3)
  exact h0.rs fa fb

theorem MulR.one {a b r r' : Int} (h : MulR a b r) (k : MulR a b r') : r = r' := by
  unfold MulR at h k
  split at h
  · rename_i g; rw [if_pos g] at k; rw [h, k]
  rename_i g1; rw [if_neg g1] at k
  split at h
  · rename_i g; rw [if_pos g] at k; rw [h, k]
  rename_i g2; rw [if_neg g2] at k
  split at h
  · rename_i g; rw [if_pos g] at k; rw [h, k]
  rename_i g3; rw [if_neg g3] at k
  exact h.one (Nm.two_pos 1074) (Nm.two_pos 1074) k rfl
end Ie

theorem RN.lower {B B' : Nat} {w : World} {v : Value} {neg : Bool} {V D e : Int} (h : RN B w v neg V D e) (k : B' ≤ B) : RN B' w v neg V D e := by
  obtain ⟨p, n, c, q, m, d, zs, ys, h1, h2, h3, h4, h5, h6, h7, h8, h9⟩ := h
  exact ⟨p, n, c, q, m, d, zs, ys, h1, h2, h3, h4, h5, h6, h7, fun x hx => Nat.le_trans k (h8 x hx), fun x hx => Nat.le_trans k (h9 x hx)⟩

def MulTold5 (a b : Int) (w : World) (r : Ending) (w' : World) : Prop := ∃ x, r = .returned (.int .u64 x) ∧ Ie.MulR a b x ∧ Below w.heap.size w w'

set_option maxRecDepth 100000 in
set_option maxHeartbeats 4000000 in
theorem ymultiply_any (a b : Int) (w : World) (a0 : 0 ≤ a) (a1 : a < 18446744073709551616) (b0 : 0 ≤ b) (b1 : b < 18446744073709551616) :
    Calls Tryz.prog 67 #[.int .u64 a, .int .u64 b] w fun e w' => MulTold5 a b w e w' := by
  have GA := hid (fun wx => yngd_any a wx)
  have GB := hid (fun wx => yngd_any b wx)
  have AN := hid (fun wx => yanynan_any a b wx a0 a1 b0 b1)
  have IA := hid (fun wx => yinf_any a wx a0 a1)
  have IB := hid (fun wx => yinf_any b wx b0 b1)
  have ZA := hid (fun wx => yzero_any a wx a0 a1)
  have ZB := hid (fun wx => yzero_any b wx b0 b1)
  have SI := hid (fun wx => ysigned_any (Ie.ngd a != Ie.ngd b) 9218868437227405312 wx (by omega) (by omega))
  have FF : Hid (∀ x w', Ie.MulR a b x → Below w.heap.size w w' → MulTold5 a b w (.returned (.int .u64 x)) w') := fun x w' h k => ⟨x, rfl, h, k⟩
  have BR := hid (Below.refl w.heap.size w)
  have RA : Hid (Ie.isn a = false → Ie.isi a = false → Ie.isn b = false → Ie.isi b = false → (∀ wx, Calls Tryz.prog 72 #[.int .u64 a] wx (fun r w' => NumTold5 (Ie.ngd a) (Ie.dm a) 1 (Ie.de a) wx r w')) ∧ (∀ wx, Calls Tryz.prog 72 #[.int .u64 b] wx (fun r w' => NumTold5 (Ie.ngd b) (Ie.dm b) 1 (Ie.de b) wx r w')) ∧ Ie.fin a ∧ Ie.fin b ∧ (Ie.dm a < 9007199254740992 ∧ Ie.dm b < 9007199254740992) ∧ (-2000 ≤ Ie.de a ∧ Ie.de a ≤ 2000) ∧ (-2000 ≤ Ie.de b ∧ Ie.de b ≤ 2000)) := fun h1 h2 h3 h4 => by
    have fa := Ie.fin_of h1 h2
    have fb := Ie.fin_of h3 h4
    obtain ⟨⟨da0, da1⟩, ⟨ea0, ea1⟩, _, _⟩ := Ie.dec_f a fa
    obtain ⟨⟨db0, db1⟩, ⟨eb0, eb1⟩, _, _⟩ := Ie.dec_f b fb
    exact ⟨fun wx => yof2 a _ _ _ wx a0 a1 rfl rfl rfl da0 da1, fun wx => yof2 b _ _ _ wx b0 b1 rfl rfl rfl db0 db1, fa, fb, ⟨da1, db1⟩, ⟨by omega, by omega⟩, by omega, by omega⟩
  have UN : Hid (∀ r, Ie.MulR a b r = (if Ie.isn a = true ∨ Ie.isn b = true then r = 9221120237041090560 else if (Ie.isi a = true ∧ Ie.isz b = true) ∨ (Ie.isz a = true ∧ Ie.isi b = true) then r = 9221120237041090560 else if Ie.isi a = true ∨ Ie.isi b = true then r = Ie.sb (Ie.ngd a != Ie.ngd b) 9218868437227405312 else Ie.RS (Ie.uv a * Ie.uv b) (2 ^ 1074) (Ie.ngd a != Ie.ngd b) r)) := fun r => rfl
  clear a0 a1 b0 b1
  rw [show Ie.ab 9218868437227405312 = 9218868437227405312 by decide] at SI
  have SI2 : Hid (∀ wx, Calls Tryz.prog 65 #[.bool (!(Ie.ngd a == Ie.ngd b)), .int .u64 9218868437227405312] wx fun e w' => e = .returned (.int .u64 (Ie.sb (Ie.ngd a != Ie.ngd b) 9218868437227405312)) ∧ w' = wx) := SI.out
  clear SI
  have XA : Ie.isi a = true → Ie.isz a = false := fun h => by simp only [Ie.isi, Ie.isz, decide_eq_true_eq, decide_eq_false_iff_not] at *; omega
  by_cases hn : (Ie.isn a || Ie.isn b) = true
  · have hn2 : Ie.isn a = true ∨ Ie.isn b = true := by simpa using hn
    rw [hn] at AN
    have F := hid (FF.out (9221120237041090560) w (by rw [UN.out]; simp [hn2]) BR.out)
    clear FF UN RA BR
    go_enter Tryz.func67, Tryz.ntmps67
    go_wp2_with (first | (go_at_call 66; first | (with_reducible refine (GA.out _).mono ?_; rintro e w' ⟨rfl, rfl⟩) | (with_reducible refine (GB.out _).mono ?_; rintro e w' ⟨rfl, rfl⟩)) | (go_at_call 62; first | (with_reducible refine (AN.out _).mono ?_; rintro e w' ⟨rfl, rfl⟩)) | (go_at_call 64; first | (with_reducible refine (IA.out _).mono ?_; rintro e w' ⟨rfl, rfl⟩) | (with_reducible refine (IB.out _).mono ?_; rintro e w' ⟨rfl, rfl⟩)) | (go_at_call 73; first | (with_reducible refine (ZA.out _).mono ?_; rintro e w' ⟨rfl, rfl⟩) | (with_reducible refine (ZB.out _).mono ?_; rintro e w' ⟨rfl, rfl⟩)) | (go_at_call 65; first | (with_reducible refine (SI2.out _).mono ?_; rintro e w' ⟨rfl, rfl⟩)))
    go_ret
    exact F.out
  have h1 : Ie.isn a = false := by cases c : Ie.isn a; rfl; simp [c] at hn
  have h2 : Ie.isn b = false := by cases c : Ie.isn b; rfl; simp [c] at hn
  rw [h1, h2] at AN
  clear hn
  cases h3 : Ie.isi a
  · rw [h3] at IA
    cases h5 : Ie.isz a
    · rw [h5] at ZA
      cases h4 : Ie.isi b
      · rw [h4] at IB
        obtain ⟨OA, OB, fa, fb, ⟨ma, mb⟩, ⟨ea0, ea1⟩, eb0, eb1⟩ := RA.out h1 h3 h2 h4
        have HA := hid OA
        have HB := hid OB
        have KK : Hid (∀ x w', Ie.Rnd (Ie.dm a * Ie.dm b) 1 (Ie.de a + Ie.de b) false x → Below w.heap.size w w' → MulTold5 a b w (.returned (.int .u64 (Ie.sg (Ie.ngd a != Ie.ngd b) x))) w') := fun x w' hR k => FF.out _ w' (by rw [UN.out]; rw [if_neg (by simp [h1, h2]), if_neg (by simp [h3, h4]), if_neg (by simp [h3, h4])]; exact Ie.ymul_rs fa fb hR) k
        clear OA OB fa fb FF UN RA BR SI2
        go_enter Tryz.func67, Tryz.ntmps67
        go_wp2_with (first | (go_at_call 66; first | (with_reducible refine (GA.out _).mono ?_; rintro e w' ⟨rfl, rfl⟩) | (with_reducible refine (GB.out _).mono ?_; rintro e w' ⟨rfl, rfl⟩)) | (go_at_call 62; first | (with_reducible refine (AN.out _).mono ?_; rintro e w' ⟨rfl, rfl⟩)) | (go_at_call 64; first | (with_reducible refine (IA.out _).mono ?_; rintro e w' ⟨rfl, rfl⟩) | (with_reducible refine (IB.out _).mono ?_; rintro e w' ⟨rfl, rfl⟩)) | (go_at_call 73; first | (with_reducible refine (ZA.out _).mono ?_; rintro e w' ⟨rfl, rfl⟩) | (with_reducible refine (ZB.out _).mono ?_; rintro e w' ⟨rfl, rfl⟩)))
        with_reducible refine (HA.out _).mono ?_
        rintro r w1 ⟨v1, rfl, N1, hB1⟩
        go_wp2_with fail
        with_reducible refine (HB.out _).mono ?_
        rintro r w2 ⟨v2, rfl, N2, hB2⟩
        have PR := hid (yproduct_any (N1.on hB2) (N2.lower hB1.size) (Nat.le_trans hB1.size hB2.size) ma mb ea0 ea1 eb0 eb1)
        have B2 := hid (bel hB1 hB2)
        clear N1 N2 hB1 hB2 HA HB
        go_wp2_with fail
        with_reducible refine PR.out.mono ?_
        rintro r w3 ⟨v3, rfl, N3, hB3⟩
        have YR := hid (yrounded_any N3 (by omega))
        have B3 := hid (bel B2.out hB3)
        clear N3 hB3 PR B2
        go_wp2_with fail
        with_reducible refine YR.out.mono ?_
        rintro r w4 ⟨x, rfl, R, hB4⟩
        have F := hid (KK.out x w4 R (bel B3.out hB4))
        clear R hB4 YR KK B3
        go_wp2_with fail
        go_ret
        exact F.out
      · rw [h4] at IB
        have F := hid (FF.out (Ie.sb (Ie.ngd a != Ie.ngd b) 9218868437227405312) w (by rw [UN.out]; simp [h1, h2, h3, h4, h5]) BR.out)
        clear FF UN RA BR
        go_enter Tryz.func67, Tryz.ntmps67
        go_wp2_with (first | (go_at_call 66; first | (with_reducible refine (GA.out _).mono ?_; rintro e w' ⟨rfl, rfl⟩) | (with_reducible refine (GB.out _).mono ?_; rintro e w' ⟨rfl, rfl⟩)) | (go_at_call 62; first | (with_reducible refine (AN.out _).mono ?_; rintro e w' ⟨rfl, rfl⟩)) | (go_at_call 64; first | (with_reducible refine (IA.out _).mono ?_; rintro e w' ⟨rfl, rfl⟩) | (with_reducible refine (IB.out _).mono ?_; rintro e w' ⟨rfl, rfl⟩)) | (go_at_call 73; first | (with_reducible refine (ZA.out _).mono ?_; rintro e w' ⟨rfl, rfl⟩) | (with_reducible refine (ZB.out _).mono ?_; rintro e w' ⟨rfl, rfl⟩)) | (go_at_call 65; first | (with_reducible refine (SI2.out _).mono ?_; rintro e w' ⟨rfl, rfl⟩)))
        go_ret
        exact F.out
    · rw [h5] at ZA
      cases h4 : Ie.isi b
      · rw [h4] at IB
        obtain ⟨OA, OB, fa, fb, ⟨ma, mb⟩, ⟨ea0, ea1⟩, eb0, eb1⟩ := RA.out h1 h3 h2 h4
        have HA := hid OA
        have HB := hid OB
        have KK : Hid (∀ x w', Ie.Rnd (Ie.dm a * Ie.dm b) 1 (Ie.de a + Ie.de b) false x → Below w.heap.size w w' → MulTold5 a b w (.returned (.int .u64 (Ie.sg (Ie.ngd a != Ie.ngd b) x))) w') := fun x w' hR k => FF.out _ w' (by rw [UN.out]; rw [if_neg (by simp [h1, h2]), if_neg (by simp [h3, h4]), if_neg (by simp [h3, h4])]; exact Ie.ymul_rs fa fb hR) k
        clear OA OB fa fb FF UN RA BR SI2
        go_enter Tryz.func67, Tryz.ntmps67
        go_wp2_with (first | (go_at_call 66; first | (with_reducible refine (GA.out _).mono ?_; rintro e w' ⟨rfl, rfl⟩) | (with_reducible refine (GB.out _).mono ?_; rintro e w' ⟨rfl, rfl⟩)) | (go_at_call 62; first | (with_reducible refine (AN.out _).mono ?_; rintro e w' ⟨rfl, rfl⟩)) | (go_at_call 64; first | (with_reducible refine (IA.out _).mono ?_; rintro e w' ⟨rfl, rfl⟩) | (with_reducible refine (IB.out _).mono ?_; rintro e w' ⟨rfl, rfl⟩)) | (go_at_call 73; first | (with_reducible refine (ZA.out _).mono ?_; rintro e w' ⟨rfl, rfl⟩) | (with_reducible refine (ZB.out _).mono ?_; rintro e w' ⟨rfl, rfl⟩)))
        with_reducible refine (HA.out _).mono ?_
        rintro r w1 ⟨v1, rfl, N1, hB1⟩
        go_wp2_with fail
        with_reducible refine (HB.out _).mono ?_
        rintro r w2 ⟨v2, rfl, N2, hB2⟩
        have PR := hid (yproduct_any (N1.on hB2) (N2.lower hB1.size) (Nat.le_trans hB1.size hB2.size) ma mb ea0 ea1 eb0 eb1)
        have B2 := hid (bel hB1 hB2)
        clear N1 N2 hB1 hB2 HA HB
        go_wp2_with fail
        with_reducible refine PR.out.mono ?_
        rintro r w3 ⟨v3, rfl, N3, hB3⟩
        have YR := hid (yrounded_any N3 (by omega))
        have B3 := hid (bel B2.out hB3)
        clear N3 hB3 PR B2
        go_wp2_with fail
        with_reducible refine YR.out.mono ?_
        rintro r w4 ⟨x, rfl, R, hB4⟩
        have F := hid (KK.out x w4 R (bel B3.out hB4))
        clear R hB4 YR KK B3
        go_wp2_with fail
        go_ret
        exact F.out
      · rw [h4] at IB
        have F := hid (FF.out (9221120237041090560) w (by rw [UN.out]; simp [h1, h2, h3, h4, h5]) BR.out)
        clear FF UN RA BR
        go_enter Tryz.func67, Tryz.ntmps67
        go_wp2_with (first | (go_at_call 66; first | (with_reducible refine (GA.out _).mono ?_; rintro e w' ⟨rfl, rfl⟩) | (with_reducible refine (GB.out _).mono ?_; rintro e w' ⟨rfl, rfl⟩)) | (go_at_call 62; first | (with_reducible refine (AN.out _).mono ?_; rintro e w' ⟨rfl, rfl⟩)) | (go_at_call 64; first | (with_reducible refine (IA.out _).mono ?_; rintro e w' ⟨rfl, rfl⟩) | (with_reducible refine (IB.out _).mono ?_; rintro e w' ⟨rfl, rfl⟩)) | (go_at_call 73; first | (with_reducible refine (ZA.out _).mono ?_; rintro e w' ⟨rfl, rfl⟩) | (with_reducible refine (ZB.out _).mono ?_; rintro e w' ⟨rfl, rfl⟩)) | (go_at_call 65; first | (with_reducible refine (SI2.out _).mono ?_; rintro e w' ⟨rfl, rfl⟩)))
        go_ret
        exact F.out
  · rw [h3] at IA
    have h5 := XA h3
    rw [h5] at ZA
    cases h6 : Ie.isz b
    · rw [h6] at ZB
      have F := hid (FF.out (Ie.sb (Ie.ngd a != Ie.ngd b) 9218868437227405312) w (by rw [UN.out]; simp [h1, h2, h3, h5, h6]) BR.out)
      clear FF UN RA BR
      go_enter Tryz.func67, Tryz.ntmps67
      go_wp2_with (first | (go_at_call 66; first | (with_reducible refine (GA.out _).mono ?_; rintro e w' ⟨rfl, rfl⟩) | (with_reducible refine (GB.out _).mono ?_; rintro e w' ⟨rfl, rfl⟩)) | (go_at_call 62; first | (with_reducible refine (AN.out _).mono ?_; rintro e w' ⟨rfl, rfl⟩)) | (go_at_call 64; first | (with_reducible refine (IA.out _).mono ?_; rintro e w' ⟨rfl, rfl⟩) | (with_reducible refine (IB.out _).mono ?_; rintro e w' ⟨rfl, rfl⟩)) | (go_at_call 73; first | (with_reducible refine (ZA.out _).mono ?_; rintro e w' ⟨rfl, rfl⟩) | (with_reducible refine (ZB.out _).mono ?_; rintro e w' ⟨rfl, rfl⟩)) | (go_at_call 65; first | (with_reducible refine (SI2.out _).mono ?_; rintro e w' ⟨rfl, rfl⟩)))
      go_ret
      exact F.out
    · rw [h6] at ZB
      have F := hid (FF.out (9221120237041090560) w (by rw [UN.out]; simp [h1, h2, h3, h6]) BR.out)
      clear FF UN RA BR
      go_enter Tryz.func67, Tryz.ntmps67
      go_wp2_with (first | (go_at_call 66; first | (with_reducible refine (GA.out _).mono ?_; rintro e w' ⟨rfl, rfl⟩) | (with_reducible refine (GB.out _).mono ?_; rintro e w' ⟨rfl, rfl⟩)) | (go_at_call 62; first | (with_reducible refine (AN.out _).mono ?_; rintro e w' ⟨rfl, rfl⟩)) | (go_at_call 64; first | (with_reducible refine (IA.out _).mono ?_; rintro e w' ⟨rfl, rfl⟩) | (with_reducible refine (IB.out _).mono ?_; rintro e w' ⟨rfl, rfl⟩)) | (go_at_call 73; first | (with_reducible refine (ZA.out _).mono ?_; rintro e w' ⟨rfl, rfl⟩) | (with_reducible refine (ZB.out _).mono ?_; rintro e w' ⟨rfl, rfl⟩)) | (go_at_call 65; first | (with_reducible refine (SI2.out _).mono ?_; rintro e w' ⟨rfl, rfl⟩)))
      go_ret
      exact F.out
end Go.Proofs.YtdemopkdcnaibaaGreatDoor

namespace Go.Proofs.YtdemopkdcnaibaaGreatDoor
open Go Go.RowKit Go.Deep

/-- The sum, told: a number with that sign. -/
def SumTold5 (B : Nat) (n1 : Bool) (V1 e1 : Int) (n2 : Bool) (V2 e2 : Int) (w : World) (r : Ending) (w' : World) : Prop :=
  ∃ v neg V m, r = .returned v ∧ RN B w' v neg V 1 m ∧ Ie.SumIs n1 V1 e1 n2 V2 e2 neg V m ∧ Below w.heap.size w w'

theorem sum_zeros (n1 n2 : Bool) (e1 e2 : Int) : Ie.SumIs n1 0 e1 n2 0 e2 (n1 && n2) 0 0 :=
  ⟨.inr ⟨rfl, rfl⟩, fun _ => rfl, ⟨by omega, Nm.two_pos 5000⟩, fun B a b c _ _ _ => by rw [Ie.sn_zero, Ie.sn_zero, Ie.sn_zero]; simp⟩

theorem none_far (B : Nat) : ∀ x : Addr, (none : Option Addr) = some x → B ≤ x.block := fun x h => by cases h

theorem nil_arg (w : World) : Arg w none 0 0 [] := ⟨rfl, Nat.le_refl _, by omega, Lies.nil _ _, Nm.Limbs.nil⟩

set_option maxRecDepth 100000 in
set_option maxHeartbeats 4000000 in
theorem ysum_none {B : Nat} {w : World} {vx vy : Value} {n1 n2 : Bool} {e1 e2 : Int} (hx : RN B w vx n1 0 1 e1) (hy : RN B w vy n2 0 1 e2) :
    Calls Tryz.prog 70 #[vx, vy] w fun r w' => SumTold5 B n1 0 e1 n2 0 e2 w r w' := by
  have HX := hid hx
  have HY := hid hy
  obtain ⟨p, n, c, q, m, d, zs, ys, rfl, h2, h3, h4, h5, h6, h7, h8, h9⟩ := hx
  obtain ⟨p', n', c', q', m', d', zs', ys', rfl, k2, k3, k4, _⟩ := hy
  have Z := hid (R3B.new w (.bool n1) (.slice p n c) (.slice q m d) (.int .i64 e1) (.bool n2) (.slice p' n' c') (.slice q' m' d') (.int .i64 e2))
  have NX := hid (fun wx (b : Below w.heap.size w wx) => ynone_any (HX.out.on b))
  have NY := hid (fun wx (b : Below w.heap.size w wx) => ynone_any (HY.out.on b))
  rw [show decide ((0 : Int) = 0) = true from rfl] at NX NY
  have qlt : ∀ x, q = some x → x.block < w.heap.size := by
    have hl : 0 < ys.length := by
      rcases Nat.eq_zero_or_pos ys.length with g | g
      · rw [List.length_eq_zero_iff.1 g] at h6; simp [Nm.val] at h6
      · exact g
    exact h5.2.2.2.1.lt hl
  have Q5 := hid (And.intro h5 (And.intro h6 (And.intro h7 (And.intro h9 qlt))))
  clear h2 h3 h4 h5 h6 h7 h8 h9 k2 k3 k4 qlt HX HY
  go_enter Tryz.func70, Tryz.ntmps70
  go_upto_region 1 with fail
  generalize (((w.alloc (.cells #[.bool n1, .slice p n c, .slice q m d, .int .i64 e1] 83)).alloc (.cells #[.bool n2, .slice p' n' c', .slice q' m' d', .int .i64 e2] 83)).alloc (.cells #[.bool false, .slice none 0 0, .slice none 0 0, .int .i64 0] 83)) = wz at *
  have zb := Z.out.1
  obtain ⟨⟨c0, c1, c2, c3⟩, d0, d1, d2, d3⟩ := Z.out.flat
  go_wp2_with fail
  with_reducible refine (NX.out _ zb).mono ?_
  rintro r w1 ⟨rfl, hB1⟩
  have Z1 := hid (Z.out.on hB1)
  have z1 := Z1.out.1
  clear zb hB1 Z NX c0 c1 c2 c3 d0 d1 d2 d3
  obtain ⟨⟨c0, c1, c2, c3⟩, d0, d1, d2, d3⟩ := Z1.out.flat
  go_wp2_with fail
  with_reducible refine (NY.out _ z1).mono ?_
  rintro r w2 ⟨rfl, hB2⟩
  have Z2 := hid (Z1.out.on hB2)
  clear z1 hB2 Z1 NY c0 c1 c2 c3 d0 d1 d2 d3
  obtain ⟨⟨c0, c1, c2, c3⟩, d0, d1, d2, d3⟩ := Z2.out.flat
  obtain ⟨⟨g0, g1, g2, g3⟩, k0, k1, k2, k3⟩ := Z2.out.room
  have nq : ∀ x, q = some x → x.block ≠ w.heap.size + 1 + 1 := fun x hx => by have := Q5.out.2.2.2.2 x hx; omega
  have NQ := hid nq
  clear nq
  cases n1 <;> cases n2
  all_goals go_wp2_with fail
  all_goals (try simp only [Exit.inBlock, Exit.then])
  all_goals refine bodyPost_ret (results_cell_row rfl _ _ (w.heap.size + 1 + 1) 83 _ (0, 0) _ rfl (Z2.out.put _ _ _ _).1 Tryz.underlying83 rfl (by kernel_rfl)) rfl ?_
  all_goals exact ⟨_, _, 0, 0, rfl, ⟨_, _, _, _, _, _, [], ys, rfl, nil_arg _, rfl, by simp [Nm.tsize], far_arg (Q5.out.1.below Z2.out.1 (Nat.le_refl _)) NQ.out, Q5.out.2.1, Q5.out.2.2.1, none_far B, Q5.out.2.2.2.1⟩, sum_zeros _ _ _ _, (Z2.out.put _ _ _ _).2⟩
end Go.Proofs.YtdemopkdcnaibaaGreatDoor
