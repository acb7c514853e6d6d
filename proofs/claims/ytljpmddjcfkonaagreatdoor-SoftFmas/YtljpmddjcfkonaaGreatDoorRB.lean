/-
  Texts put together: ZAgainst, ZRatio, ZRatioA, YRef1, ZPlus, ZLess, YRef2, XSpecA.
-/
import Derived.Test.YtljpmddjcfkonaaGreatDoorINum2
import Derived.Test.YtljpmddjcfkonaaGreatDoorIWalk1C
import Derived.Test.YtljpmddjcfkonaaGreatDoorRA
import Derived.Test.YtljpmddjcfkonaaGreatDoorZRef3
import Derived.Deep.Cut
import Derived.Test.YtljpmddjcfkonaaGreatDoorXDef
import Derived.Test.YtljpmddjcfkonaaGreatDoorIWalk1B
/-
  The document's against: how a double, or the middle above it, lies against a fraction.
-/
namespace Go.Proofs.YtljpmddjcfkonaaGreatDoor
open Go Go.RowKit Go.Deep

/-- The double's mantissa, doubled, and one more for the middle. -/
def Ie.mm (x : Int) (middle : Bool) : Int := if middle = true then 2 * Ie.man x + 1 else 2 * Ie.man x

set_option maxRecDepth 100000 in
set_option maxHeartbeats 8000000 in
theorem against_any (x : Int) (middle : Bool) (p q : Option Addr) (n cap n' cap' : Nat) (zs ys : List Int) (w : World) (ha : Arg w p n cap zs) (hb : Arg w q n' cap' ys) (tz : Nm.tsize zs ≤ 4096) (ty : Nm.tsize ys ≤ 4096) (x0 : 0 ≤ x) (x1 : x ≤ 9218868437227405312)
    (e : Int) (e0 : -1048576 ≤ e) (e1 : e ≤ 1048576) (V D : Int) (hV : Nm.val zs = V) (hD : Nm.val ys = D) (s t : Nat) (hst : (s : Int) - t = (Ie.ex x : Int) - 1075 - e) (h0 : s = 0 ∨ t = 0) :
    Calls Tryz.prog 77 #[.int .u64 x, .bool middle, .slice p n cap, .slice q n' cap', .int .i64 e] w fun r w' => r = .returned (.int .i64 (cmpI (D * Ie.mm x middle * 2 ^ s) (V * 2 ^ t))) ∧ Below w.heap.size w w' := by
  obtain ⟨m, hm⟩ : ∃ m, Ie.mm x middle = m := ⟨_, rfl⟩
  obtain ⟨k, hk⟩ : ∃ k, (Ie.ex x : Int) - 1075 = k := ⟨_, rfl⟩
  have mb := Ie.man_nn x x0
  have m0 : 0 ≤ m ∧ m < 18446744073709551616 := by rw [← hm, Ie.mm]; split <;> omega
  have kb : -1075 ≤ k ∧ k ≤ 972 := by rw [← hk]; have : (Ie.ex x : Int) ≤ 2046 := by simp only [Ie.ex]; omega
                                      omega
  have d0 : 0 ≤ D := by rw [← hD]; exact (Nm.val_bd ys hb.2.2.2.2).1
  have d1 : D < Nm.pw 4096 := by rw [← hD]; exact (Nm.tsize_le_iff hb.2.2.2.2 4096).1 ty
  have v1 : V < Nm.pw 4096 := by rw [← hV]; exact (Nm.tsize_le_iff ha.2.2.2.2 4096).1 tz
  have dm : D * m < Nm.pw 4097 := by
    have g1 : D * m ≤ D * 18446744073709551616 := Int.mul_le_mul_of_nonneg_left (by omega) d0
    have e2 : Nm.pw 4097 = 18446744073709551616 * Nm.pw 4096 := Nm.pw_succ 4096
    omega
  -- the product
  have MU : Hid (∀ g : Obj, g = .cells #[.int .u64 m] 23 → Calls Tryz.prog 45 #[.slice q n' cap', .slice (some ⟨w.heap.size, 0, none⟩) 1 1] (w.alloc g) fun e w' => ∃ r os, e = .returned (.slice r (List.length os) (List.length os)) ∧ (Arg w' r os.length os.length os ∧ Nm.val os = D * m ∧ Nm.tsize os ≤ 1099511627776) ∧ Below w.heap.size w w') := by
    intro g hg
    subst hg
    have hB := alloc_below w (.cells #[.int .u64 m] 23)
    have hmv : Nm.val [m] = m := by simp [Nm.val]
    have := times_any q (some ⟨w.heap.size, 0, none⟩) n' cap' 1 1 ys [m] _ (hb.below hB (Nat.le_refl _)) (arg_z (heap_alloc_new w _) m0.1 m0.2) (by omega) (by have := Nm.tsize_le [m]; simp at this; omega)
    rw [hD, hmv] at this
    refine this.mono ?_
    rintro e w' ⟨r, os, rfl, A, hB2⟩
    have l := ans_small A 4097 dm
    exact ⟨r, os, rfl, ⟨A.arg (by omega), A.2.2.2.1, by rw [A.2.2.1]; omega⟩, hB.trans (hB2.mono hB.size)⟩
  have LI : Hid (∀ (wx : World) (r : Option Addr) (n1 c1 : Nat) (os : List Int) (v kk : Int) (j : Nat), Arg wx r n1 c1 os → Nm.val os = v → Nm.tsize os ≤ 1099511627776 → kk = (j : Int) → j ≤ 4194304 → v < Nm.pw 4097 → Calls Tryz.prog 25 #[.slice r n1 c1, .int .i64 kk] wx fun e w' => ∃ r os, e = .returned (.slice r (List.length os) (List.length os)) ∧ (Arg w' r os.length os.length os ∧ Nm.val os = v * 2 ^ j) ∧ Below wx.heap.size wx w') := by
    intro wx r n1 c1 os v kk j A hv hs hkk hj hvb
    have := lift_any r n1 c1 os kk j wx A hs hkk hj
    rw [hv] at this
    refine this.mono ?_
    rintro e w' ⟨r', os', rfl, A', hB2⟩
    have hb2 : v * 2 ^ j < Nm.pw 100000 := by
      have g1 : v * 2 ^ j < Nm.pw 4097 * 2 ^ j := Int.mul_lt_mul_of_pos_right hvb (Nm.two_pos j)
      have g2 : Nm.pw 4097 * 2 ^ j ≤ Nm.pw 100000 := by rw [Nm.pw_two, Nm.pw_two, ← Nm.two_add]; exact Nm.two_mono (by omega)
      exact Int.lt_of_lt_of_le g1 g2
    have l := ans_small A' 100000 hb2
    exact ⟨r', os', rfl, ⟨A'.arg (by omega), A'.2.2.2.1⟩, hB2⟩
  have CM := hid (fun (wx : World) (r r' : Option Addr) (n1 c1 n2 c2 : Nat) (os os' : List Int) (A : Arg wx r n1 c1 os) (A' : Arg wx r' n2 c2 os') => refCmp_any r r' n1 c1 n2 c2 os os' wx A A')
  have HA := hid ha
  have HV := hid hV
  have TZ := hid tz
  have V1 : Hid (V < Nm.pw 4097) := by
    have e2 : Nm.pw 4097 = 18446744073709551616 * Nm.pw 4096 := Nm.pw_succ 4096
    have := Nm.pw_pos 4096
    rw [Hid]; omega
  have DM := hid dm
  rw [hk] at hst
  have HST := hid hst
  have HM : Hid (Ie.mm x middle = m) := hm
  have MX : (x < 4503599627370496 ∧ Ie.man x = x ∧ k = -1075) ∨ (4503599627370496 ≤ x ∧ Ie.man x = x % 4503599627370496 + 4503599627370496 ∧ k = x / 4503599627370496 - 1076) := by
    by_cases h : x < 4503599627370496
    · left; refine ⟨h, by rw [Ie.man, if_pos h], ?_⟩; rw [← hk, Ie.ex]; omega
    · right; refine ⟨by omega, by rw [Ie.man, if_neg h]; omega, ?_⟩; rw [← hk, Ie.ex]; omega
  obtain ⟨kb0, kb1⟩ := kb
  have MM : Hid (m = if middle = true then 2 * Ie.man x + 1 else 2 * Ie.man x) := by rw [Hid, ← hm, Ie.mm]
  rw [hm]
  clear ha hb tz ty hV hD d0 d1 v1 dm hst hm hk mb m0
  rcases MX with ⟨hx, hmx, hkx⟩ | ⟨hx, hmx, hkx⟩ <;> cases middle <;> rcases (show e ≤ k ∨ k < e by omega) with hke | hke
  · have hM : m = 2 * x := by rw [MM.out, hmx]; rfl
    have HMM := hid hM
    have HKX := hid hkx
    clear hmx hM MM
    have hz : t = 0 := by have := HST.out; omega
    subst hz
    rw [Int.pow_zero, Int.mul_one]
    have c1 : ¬ (-1075) < e := by have := HKX.out; omega
    clear hkx hke
    go_enter Tryz.func77, Tryz.ntmps77
    go_wp2_with fail
    have EM := HMM.out
    refine (MU.out _ (by rw [EM])).mono ?_
    rintro e' w1 ⟨r, os, rfl, A, hB1⟩
    have AA := hid A
    have HB1 := hid hB1
    clear A hB1 MU EM
    go_wp2_with fail
    refine (LI.out _ r _ _ os _ _ s AA.out.1 AA.out.2.1 AA.out.2.2 (by have := HST.out; have := HKX.out; omega) (by have := HST.out; omega) DM.out).mono ?_
    rintro e' w2 ⟨r2, o2, rfl, A2, hB2⟩
    have HB2 := hid (HB1.out.trans (hB2.mono HB1.out.size))
    have C1 := CM.out w2 r2 p _ _ n cap o2 zs A2.1 (HA.out.below HB2.out (Nat.le_refl _))
    rw [A2.2, HV.out] at C1
    have CC := hid C1
    clear A2 hB2 C1 LI
    go_wp2_with fail
    refine CC.out.mono ?_
    rintro e' w3 ⟨rfl, hB3⟩
    have HB3 := hid (HB2.out.trans (hB3.mono HB2.out.size))
    clear hB3
    go_wp2_with fail
    go_ret
    exact ⟨rfl, HB3.out⟩
  · have hM : m = 2 * x := by rw [MM.out, hmx]; rfl
    have HMM := hid hM
    have HKX := hid hkx
    clear hmx hM MM
    have hz : s = 0 := by have := HST.out; omega
    subst hz
    rw [Int.pow_zero, Int.mul_one]
    have c1 : (-1075) < e := by have := HKX.out; omega
    clear hkx hke
    go_enter Tryz.func77, Tryz.ntmps77
    go_wp2_with fail
    have EM := HMM.out
    refine (MU.out _ (by rw [EM])).mono ?_
    rintro e' w1 ⟨r, os, rfl, A, hB1⟩
    have AA := hid A
    have HB1 := hid hB1
    clear A hB1 MU EM
    go_wp2_with fail
    refine (LI.out _ p n cap zs V _ t (HA.out.below HB1.out (Nat.le_refl _)) HV.out (by have := TZ.out; omega) (by have := HST.out; have := HKX.out; omega) (by have := HST.out; omega) V1.out).mono ?_
    rintro e' w2 ⟨r2, o2, rfl, A2, hB2⟩
    have HB2 := hid (HB1.out.trans (hB2.mono HB1.out.size))
    have C1 := CM.out w2 r r2 _ _ _ _ os o2 (AA.out.1.below hB2 (Nat.le_refl _)) A2.1
    rw [A2.2, AA.out.2.1] at C1
    have CC := hid C1
    clear A2 hB2 C1 LI
    go_wp2_with fail
    refine CC.out.mono ?_
    rintro e' w3 ⟨rfl, hB3⟩
    have HB3 := hid (HB2.out.trans (hB3.mono HB2.out.size))
    clear hB3
    go_wp2_with fail
    go_ret
    exact ⟨rfl, HB3.out⟩
  · have hM : m = 2 * x + 1 := by rw [MM.out, hmx]; rfl
    have HMM := hid hM
    have HKX := hid hkx
    clear hmx hM MM
    have hz : t = 0 := by have := HST.out; omega
    subst hz
    rw [Int.pow_zero, Int.mul_one]
    have c1 : ¬ (-1075) < e := by have := HKX.out; omega
    clear hkx hke
    go_enter Tryz.func77, Tryz.ntmps77
    go_wp2_with fail
    have EM := HMM.out
    refine (MU.out _ (by rw [EM])).mono ?_
    rintro e' w1 ⟨r, os, rfl, A, hB1⟩
    have AA := hid A
    have HB1 := hid hB1
    clear A hB1 MU EM
    go_wp2_with fail
    refine (LI.out _ r _ _ os _ _ s AA.out.1 AA.out.2.1 AA.out.2.2 (by have := HST.out; have := HKX.out; omega) (by have := HST.out; omega) DM.out).mono ?_
    rintro e' w2 ⟨r2, o2, rfl, A2, hB2⟩
    have HB2 := hid (HB1.out.trans (hB2.mono HB1.out.size))
    have C1 := CM.out w2 r2 p _ _ n cap o2 zs A2.1 (HA.out.below HB2.out (Nat.le_refl _))
    rw [A2.2, HV.out] at C1
    have CC := hid C1
    clear A2 hB2 C1 LI
    go_wp2_with fail
    refine CC.out.mono ?_
    rintro e' w3 ⟨rfl, hB3⟩
    have HB3 := hid (HB2.out.trans (hB3.mono HB2.out.size))
    clear hB3
    go_wp2_with fail
    go_ret
    exact ⟨rfl, HB3.out⟩
  · have hM : m = 2 * x + 1 := by rw [MM.out, hmx]; rfl
    have HMM := hid hM
    have HKX := hid hkx
    clear hmx hM MM
    have hz : s = 0 := by have := HST.out; omega
    subst hz
    rw [Int.pow_zero, Int.mul_one]
    have c1 : (-1075) < e := by have := HKX.out; omega
    clear hkx hke
    go_enter Tryz.func77, Tryz.ntmps77
    go_wp2_with fail
    have EM := HMM.out
    refine (MU.out _ (by rw [EM])).mono ?_
    rintro e' w1 ⟨r, os, rfl, A, hB1⟩
    have AA := hid A
    have HB1 := hid hB1
    clear A hB1 MU EM
    go_wp2_with fail
    refine (LI.out _ p n cap zs V _ t (HA.out.below HB1.out (Nat.le_refl _)) HV.out (by have := TZ.out; omega) (by have := HST.out; have := HKX.out; omega) (by have := HST.out; omega) V1.out).mono ?_
    rintro e' w2 ⟨r2, o2, rfl, A2, hB2⟩
    have HB2 := hid (HB1.out.trans (hB2.mono HB1.out.size))
    have C1 := CM.out w2 r r2 _ _ _ _ os o2 (AA.out.1.below hB2 (Nat.le_refl _)) A2.1
    rw [A2.2, AA.out.2.1] at C1
    have CC := hid C1
    clear A2 hB2 C1 LI
    go_wp2_with fail
    refine CC.out.mono ?_
    rintro e' w3 ⟨rfl, hB3⟩
    have HB3 := hid (HB2.out.trans (hB3.mono HB2.out.size))
    clear hB3
    go_wp2_with fail
    go_ret
    exact ⟨rfl, HB3.out⟩
  · have hM : m = 2 * (x % 4503599627370496 + 4503599627370496) := by rw [MM.out, hmx]; rfl
    have y1 : x % 4503599627370496 < 4503599627370496 := by omega
    have y0 : 0 ≤ x % 4503599627370496 := by omega
    have f0 : 0 ≤ x / 4503599627370496 := by omega
    have f1 : x / 4503599627370496 ≤ 2047 := by omega
    have HMM := hid hM
    have HKX := hid hkx
    clear hmx hM MM
    have hz : t = 0 := by have := HST.out; omega
    subst hz
    rw [Int.pow_zero, Int.mul_one]
    have c1 : ¬ (x / 4503599627370496 - 1076) < e := by have := HKX.out; omega
    clear hkx hke
    go_enter Tryz.func77, Tryz.ntmps77
    go_wp2_with fail
    have EM := HMM.out
    refine (MU.out _ (by rw [EM])).mono ?_
    rintro e' w1 ⟨r, os, rfl, A, hB1⟩
    have AA := hid A
    have HB1 := hid hB1
    clear A hB1 MU EM
    go_wp2_with fail
    refine (LI.out _ r _ _ os _ _ s AA.out.1 AA.out.2.1 AA.out.2.2 (by have := HST.out; have := HKX.out; omega) (by have := HST.out; omega) DM.out).mono ?_
    rintro e' w2 ⟨r2, o2, rfl, A2, hB2⟩
    have HB2 := hid (HB1.out.trans (hB2.mono HB1.out.size))
    have C1 := CM.out w2 r2 p _ _ n cap o2 zs A2.1 (HA.out.below HB2.out (Nat.le_refl _))
    rw [A2.2, HV.out] at C1
    have CC := hid C1
    clear A2 hB2 C1 LI
    go_wp2_with fail
    refine CC.out.mono ?_
    rintro e' w3 ⟨rfl, hB3⟩
    have HB3 := hid (HB2.out.trans (hB3.mono HB2.out.size))
    clear hB3
    go_wp2_with fail
    go_ret
    exact ⟨rfl, HB3.out⟩
  · have hM : m = 2 * (x % 4503599627370496 + 4503599627370496) := by rw [MM.out, hmx]; rfl
    have y1 : x % 4503599627370496 < 4503599627370496 := by omega
    have y0 : 0 ≤ x % 4503599627370496 := by omega
    have f0 : 0 ≤ x / 4503599627370496 := by omega
    have f1 : x / 4503599627370496 ≤ 2047 := by omega
    have HMM := hid hM
    have HKX := hid hkx
    clear hmx hM MM
    have hz : s = 0 := by have := HST.out; omega
    subst hz
    rw [Int.pow_zero, Int.mul_one]
    have c1 : (x / 4503599627370496 - 1076) < e := by have := HKX.out; omega
    clear hkx hke
    go_enter Tryz.func77, Tryz.ntmps77
    go_wp2_with fail
    have EM := HMM.out
    refine (MU.out _ (by rw [EM])).mono ?_
    rintro e' w1 ⟨r, os, rfl, A, hB1⟩
    have AA := hid A
    have HB1 := hid hB1
    clear A hB1 MU EM
    go_wp2_with fail
    refine (LI.out _ p n cap zs V _ t (HA.out.below HB1.out (Nat.le_refl _)) HV.out (by have := TZ.out; omega) (by have := HST.out; have := HKX.out; omega) (by have := HST.out; omega) V1.out).mono ?_
    rintro e' w2 ⟨r2, o2, rfl, A2, hB2⟩
    have HB2 := hid (HB1.out.trans (hB2.mono HB1.out.size))
    have C1 := CM.out w2 r r2 _ _ _ _ os o2 (AA.out.1.below hB2 (Nat.le_refl _)) A2.1
    rw [A2.2, AA.out.2.1] at C1
    have CC := hid C1
    clear A2 hB2 C1 LI
    go_wp2_with fail
    refine CC.out.mono ?_
    rintro e' w3 ⟨rfl, hB3⟩
    have HB3 := hid (HB2.out.trans (hB3.mono HB2.out.size))
    clear hB3
    go_wp2_with fail
    go_ret
    exact ⟨rfl, HB3.out⟩
  · have hM : m = 2 * (x % 4503599627370496 + 4503599627370496) + 1 := by rw [MM.out, hmx]; rfl
    have y1 : x % 4503599627370496 < 4503599627370496 := by omega
    have y0 : 0 ≤ x % 4503599627370496 := by omega
    have f0 : 0 ≤ x / 4503599627370496 := by omega
    have f1 : x / 4503599627370496 ≤ 2047 := by omega
    have HMM := hid hM
    have HKX := hid hkx
    clear hmx hM MM
    have hz : t = 0 := by have := HST.out; omega
    subst hz
    rw [Int.pow_zero, Int.mul_one]
    have c1 : ¬ (x / 4503599627370496 - 1076) < e := by have := HKX.out; omega
    clear hkx hke
    go_enter Tryz.func77, Tryz.ntmps77
    go_wp2_with fail
    have EM := HMM.out
    refine (MU.out _ (by rw [EM])).mono ?_
    rintro e' w1 ⟨r, os, rfl, A, hB1⟩
    have AA := hid A
    have HB1 := hid hB1
    clear A hB1 MU EM
    go_wp2_with fail
    refine (LI.out _ r _ _ os _ _ s AA.out.1 AA.out.2.1 AA.out.2.2 (by have := HST.out; have := HKX.out; omega) (by have := HST.out; omega) DM.out).mono ?_
    rintro e' w2 ⟨r2, o2, rfl, A2, hB2⟩
    have HB2 := hid (HB1.out.trans (hB2.mono HB1.out.size))
    have C1 := CM.out w2 r2 p _ _ n cap o2 zs A2.1 (HA.out.below HB2.out (Nat.le_refl _))
    rw [A2.2, HV.out] at C1
    have CC := hid C1
    clear A2 hB2 C1 LI
    go_wp2_with fail
    refine CC.out.mono ?_
    rintro e' w3 ⟨rfl, hB3⟩
    have HB3 := hid (HB2.out.trans (hB3.mono HB2.out.size))
    clear hB3
    go_wp2_with fail
    go_ret
    exact ⟨rfl, HB3.out⟩
  · have hM : m = 2 * (x % 4503599627370496 + 4503599627370496) + 1 := by rw [MM.out, hmx]; rfl
    have y1 : x % 4503599627370496 < 4503599627370496 := by omega
    have y0 : 0 ≤ x % 4503599627370496 := by omega
    have f0 : 0 ≤ x / 4503599627370496 := by omega
    have f1 : x / 4503599627370496 ≤ 2047 := by omega
    have HMM := hid hM
    have HKX := hid hkx
    clear hmx hM MM
    have hz : s = 0 := by have := HST.out; omega
    subst hz
    rw [Int.pow_zero, Int.mul_one]
    have c1 : (x / 4503599627370496 - 1076) < e := by have := HKX.out; omega
    clear hkx hke
    go_enter Tryz.func77, Tryz.ntmps77
    go_wp2_with fail
    have EM := HMM.out
    refine (MU.out _ (by rw [EM])).mono ?_
    rintro e' w1 ⟨r, os, rfl, A, hB1⟩
    have AA := hid A
    have HB1 := hid hB1
    clear A hB1 MU EM
    go_wp2_with fail
    refine (LI.out _ p n cap zs V _ t (HA.out.below HB1.out (Nat.le_refl _)) HV.out (by have := TZ.out; omega) (by have := HST.out; have := HKX.out; omega) (by have := HST.out; omega) V1.out).mono ?_
    rintro e' w2 ⟨r2, o2, rfl, A2, hB2⟩
    have HB2 := hid (HB1.out.trans (hB2.mono HB1.out.size))
    have C1 := CM.out w2 r r2 _ _ _ _ os o2 (AA.out.1.below hB2 (Nat.le_refl _)) A2.1
    rw [A2.2, AA.out.2.1] at C1
    have CC := hid C1
    clear A2 hB2 C1 LI
    go_wp2_with fail
    refine CC.out.mono ?_
    rintro e' w3 ⟨rfl, hB3⟩
    have HB3 := hid (HB2.out.trans (hB3.mono HB2.out.size))
    clear hB3
    go_wp2_with fail
    go_ret
    exact ⟨rfl, HB3.out⟩
end Go.Proofs.YtljpmddjcfkonaaGreatDoor

/-
  The document's RoundRatio (made by mkzratio.py).
-/
namespace Go.Proofs.YtljpmddjcfkonaaGreatDoor
open Go Go.RowKit Go.Deep

namespace Ie
/-- One comparison, said at another scale. -/
theorem scale_cmp (D M V Y e : Int) (E s t a b : Nat) (hY : Y = M * 2 ^ E) (hst : (s : Int) - t = (E : Int) - 1075 - e) (hab : (a : Int) - b = e + 1075) :
    (D * M * 2 ^ s < V * 2 ^ t ↔ Y * (D * 2 ^ b) < V * 2 ^ a) ∧ (D * M * 2 ^ s = V * 2 ^ t ↔ Y * (D * 2 ^ b) = V * 2 ^ a) := by
  have p1 := Nm.two_pos (E + b)
  have p2 := Nm.two_pos s
  have e1 : D * M * 2 ^ s * 2 ^ (E + b) = Y * (D * 2 ^ b) * 2 ^ s := by rw [hY, Nm.two_add]; ac_rfl
  have e2 : V * 2 ^ t * 2 ^ (E + b) = V * 2 ^ a * 2 ^ s := by
    rw [Int.mul_assoc, Int.mul_assoc, ← Nm.two_add, ← Nm.two_add]; congr 2; omega
  refine ⟨⟨fun h => ?_, fun h => ?_⟩, ⟨fun h => ?_, fun h => ?_⟩⟩
  · have := Int.mul_lt_mul_of_pos_right h p1
    rw [e1, e2] at this
    exact Int.lt_of_mul_lt_mul_right this (Int.le_of_lt p2)
  · have := Int.mul_lt_mul_of_pos_right h p2
    rw [← e1, ← e2] at this
    exact Int.lt_of_mul_lt_mul_right this (Int.le_of_lt p1)
  · have : Y * (D * 2 ^ b) * 2 ^ s = V * 2 ^ a * 2 ^ s := by rw [← e1, ← e2, h]
    exact Int.eq_of_mul_eq_mul_right (by omega) this
  · have : D * M * 2 ^ s * 2 ^ (E + b) = V * 2 ^ t * 2 ^ (E + b) := by rw [e1, e2, h]
    exact Int.eq_of_mul_eq_mul_right (by omega) this

/-- The search's end. -/
theorem near_search (P Q lo x : Int) (hQ : 0 < Q) (h0 : 0 ≤ lo) (h1 : lo ≤ 9218868437227405312) (hlo : vl lo * Q ≤ P) (hhi : lo < 9218868437227405312 → P < vl (lo + 1) * Q)
    (hx : (lo = 9218868437227405312 ∧ x = lo) ∨ (lo < 9218868437227405312 ∧ x = lo + 1 ∧ (md lo * Q < P ∨ (md lo * Q = P ∧ lo % 2 = 1))) ∨ (lo < 9218868437227405312 ∧ x = lo ∧ (P < md lo * Q ∨ (md lo * Q = P ∧ lo % 2 = 0)))) : Near P Q false x := by
  rcases hx with ⟨h, rfl⟩ | ⟨h, rfl, hm⟩ | ⟨h, rfl, hm⟩
  · refine ⟨⟨h0, h1⟩, fun hp => .inl ?_, fun hc => by omega⟩
    have g := md_lt_vl (x - 1) (by omega)
    rw [show x - 1 + 1 = x by omega] at g
    have := Int.mul_lt_mul_of_pos_right g hQ
    omega
  · refine ⟨⟨by omega, by omega⟩, fun _ => ?_, fun hc => .inl ?_⟩
    · rw [show lo + 1 - 1 = lo by omega]
      rcases hm with g | ⟨g, g'⟩
      · exact .inl g
      · exact .inr ⟨g, .inl (by omega)⟩
    · have := Int.mul_lt_mul_of_pos_right (vl_lt_md (lo + 1)) hQ
      have := hhi h
      omega
  · refine ⟨⟨h0, h1⟩, fun hp => .inl ?_, fun _ => ?_⟩
    · have g := md_lt_vl (x - 1) (by omega)
      rw [show x - 1 + 1 = x by omega] at g
      have := Int.mul_lt_mul_of_pos_right g hQ
      omega
    · rcases hm with g | ⟨g, g'⟩
      · exact .inl g
      · exact .inr ⟨g.symm, g', rfl⟩
end Ie

theorem ret_sg0 {a b : Int} (h : a = b) : Ending.returned (.tuple #[.int .u64 a, .int .i64 0]) = .returned (.tuple #[.int .u64 b, .int .i64 0]) := by rw [h]

theorem split_nat' (z : Int) : ∃ s t : Nat, (s : Int) - t = z ∧ (s = 0 ∨ t = 0) := ⟨z.toNat, (-z).toNat, by omega, by omega⟩

/-- What the search asks. -/
theorem against_vl (p q : Option Addr) (n cap n' cap' : Nat) (zs ys : List Int) (w : World) (ha : Arg w p n cap zs) (hb : Arg w q n' cap' ys) (tz : Nm.tsize zs ≤ 4096) (ty : Nm.tsize ys ≤ 4096) (e : Int) (e0 : -1048576 ≤ e) (e1 : e ≤ 1048576) (V D : Int) (hV : Nm.val zs = V) (hD : Nm.val ys = D)
    (a b : Nat) (hab : (a : Int) - b = e + 1075) (x : Int) (x0 : 0 ≤ x) (x1 : x ≤ 9218868437227405312) (middle : Bool) :
    ∃ c, (c < 0 ↔ (if middle = true then Ie.md x else Ie.vl x) * (D * 2 ^ b) < V * 2 ^ a) ∧ (c = 0 ↔ (if middle = true then Ie.md x else Ie.vl x) * (D * 2 ^ b) = V * 2 ^ a) ∧ (c = -1 ∨ c = 0 ∨ c = 1) ∧
      Calls Tryz.prog 77 #[.int .u64 x, .bool middle, .slice p n cap, .slice q n' cap', .int .i64 e] w fun r w' => r = .returned (.int .i64 c) ∧ Below w.heap.size w w' := by
  obtain ⟨s, t, hst, h0⟩ := split_nat' ((Ie.ex x : Int) - 1075 - e)
  have C := against_any x middle p q n cap n' cap' zs ys w ha hb tz ty x0 x1 e e0 e1 V D hV hD s t hst h0
  have hY : (if middle = true then Ie.md x else Ie.vl x) = Ie.mm x middle * 2 ^ Ie.ex x := by cases middle <;> rfl
  obtain ⟨S1, S2⟩ := Ie.scale_cmp D (Ie.mm x middle) V _ e (Ie.ex x) s t a b hY hst hab
  refine ⟨_, ?_, ?_, ?_, C⟩
  · rw [← S1, cmpI]
    constructor
    · intro h
      by_cases g : D * Ie.mm x middle * 2 ^ s < V * 2 ^ t
      · exact g
      · rw [if_neg g] at h
        by_cases g2 : D * Ie.mm x middle * 2 ^ s = V * 2 ^ t
        · rw [if_pos g2] at h; omega
        · rw [if_neg g2] at h; omega
    · intro h; rw [if_pos h]; omega
  · rw [← S2, cmpI]
    constructor
    · intro h
      by_cases g : D * Ie.mm x middle * 2 ^ s < V * 2 ^ t
      · rw [if_pos g] at h; omega
      · rw [if_neg g] at h
        by_cases g2 : D * Ie.mm x middle * 2 ^ s = V * 2 ^ t
        · exact g2
        · rw [if_neg g2] at h; omega
    · intro h; rw [if_neg (by omega), if_pos h]
  · rw [cmpI]
    split
    · omega
    · split <;> omega

set_option maxRecDepth 100000 in
set_option maxHeartbeats 8000000 in
theorem zratio_any (neg : Bool) (p q : Option Addr) (n cap n' cap' : Nat) (zs ys : List Int) (w : World) (ha : Arg w p n cap zs) (hb : Arg w q n' cap' ys) (tz : Nm.tsize zs ≤ 4096) (ty : Nm.tsize ys ≤ 4096) (V D e : Int) (hV : Nm.val zs = V) (hD : Nm.val ys = D) (hd : 0 < D) (hv : 0 < V) (e0 : -1048576 ≤ e) (e1 : e ≤ 1048576) :
    Calls Tryz.prog 40 #[.bool neg, .slice p n cap, .slice q n' cap', .int .i64 e] w fun r w' => ∃ x, r = .returned (.tuple #[.int .u64 (Ie.sg neg x), .int .i64 0]) ∧ Ie.Rnd V D e false x ∧ Below w.heap.size w w' := by
  obtain ⟨a, b, hab⟩ : ∃ a b : Nat, (a : Int) - b = e + 1075 := ⟨(e + 1075).toNat, (-(e + 1075)).toNat, by omega⟩
  have dpos := Int.mul_pos hd (Nm.two_pos b)
  have AG := hid (fun (wx : World) (hx : Below w.heap.size w wx) (x : Int) (x0 : 0 ≤ x) (x1 : x ≤ 9218868437227405312) (middle : Bool) => against_vl p q n cap n' cap' zs ys wx (ha.below hx (Nat.le_refl _)) (hb.below hx (Nat.le_refl _)) tz ty e e0 e1 V D hV hD a b hab x x0 x1 middle)
  have FIN : Hid (∀ lo x : Int, 0 ≤ lo → lo ≤ 9218868437227405312 → Ie.vl lo * (D * 2 ^ b) ≤ V * 2 ^ a → (lo < 9218868437227405312 → V * 2 ^ a < Ie.vl (lo + 1) * (D * 2 ^ b)) →
      ((lo = 9218868437227405312 ∧ x = lo) ∨ (lo < 9218868437227405312 ∧ x = lo + 1 ∧ (Ie.md lo * (D * 2 ^ b) < V * 2 ^ a ∨ (Ie.md lo * (D * 2 ^ b) = V * 2 ^ a ∧ lo % 2 = 1))) ∨ (lo < 9218868437227405312 ∧ x = lo ∧ (V * 2 ^ a < Ie.md lo * (D * 2 ^ b) ∨ (Ie.md lo * (D * 2 ^ b) = V * 2 ^ a ∧ lo % 2 = 0)))) → Ie.Rnd V D e false x) :=
    fun lo x h0 h1 h2 h3 h4 => Ie.Rnd.of hab (Ie.near_search _ _ lo x dpos h0 h1 h2 h3 h4)
  have B1 := hid (refBig_is false p n cap zs w ha (by simp; omega))
  have B2 := hid (refBig_is false q n' cap' ys w hb (by simp; omega))
  have tp : 0 < Nm.tsize zs := by
    rcases Nat.eq_zero_or_pos (Nm.tsize zs) with h | h
    · have := (Nm.tsize_zero_iff ha.2.2.2.2).1 h; omega
    · exact h
  have tq : 0 < Nm.tsize ys := by
    rcases Nat.eq_zero_or_pos (Nm.tsize ys) with h | h
    · have := (Nm.tsize_zero_iff hb.2.2.2.2).1 h; omega
    · exact h
  obtain ⟨S1, hS1⟩ : ∃ S, Nm.tsize zs = S := ⟨_, rfl⟩
  obtain ⟨S2, hS2⟩ : ∃ S, Nm.tsize ys = S := ⟨_, rfl⟩
  have Z1 := refSize_any p n cap zs w ha.1 (by have := ha.2.1; have := ha.2.2.1; omega) ha.2.2.2.1
  have Z2 := refSize_any q n' cap' ys w hb.1 (by have := hb.2.1; have := hb.2.2.1; omega) hb.2.2.2.1
  rw [hS1] at Z1 tp
  rw [hS2] at Z2 tq
  have Z1 := hid Z1
  have Z2 := hid Z2
  have s1 : ((S1 : Int) == 0) = false := by rw [beq_eq_false_iff_ne]; omega
  have s2 : ((S2 : Int) == 0) = false := by rw [beq_eq_false_iff_ne]; omega
  have l3 : ¬ e < -1048576 := by omega
  have l4 : ¬ 1048576 < e := by omega
  have V0 : Hid (Ie.vl 0 * (D * 2 ^ b) ≤ V * 2 ^ a) := by
    rw [Hid, Ie.vl_zero, Int.zero_mul]
    exact Int.mul_nonneg (by omega) (Int.le_of_lt (Nm.two_pos a))
  generalize D * 2 ^ b = Q at *
  generalize V * 2 ^ a = PP at *
  clear ha hb tz ty hV hD hd hv hab tp tq hS1 hS2 dpos
  go_enter Tryz.func40, Tryz.ntmps40
  go_wp2_with fail
  refine B1.out.mono ?_
  rintro e' w' ⟨rfl, rfl⟩
  go_wp2_with fail
  refine B2.out.mono ?_
  rintro e' w' ⟨rfl, rfl⟩
  go_wp2_with fail
  refine Z2.out.mono ?_
  rintro e' w' ⟨rfl, rfl⟩
  go_wp2_with fail
  refine Z1.out.mono ?_
  rintro e' w0 ⟨rfl, rfl⟩
  go_wp2_with fail
  go_loopw [10, 11, 12] (fun s t _ wr => ∃ lo hi : Int, s = .int .u64 lo ∧ t = .int .u64 hi ∧ 0 ≤ lo ∧ lo ≤ hi ∧ hi ≤ 9218868437227405312 ∧ Hid (Ie.vl lo * Q ≤ PP ∧ (hi < 9218868437227405312 → PP < Ie.vl (hi + 1) * Q)) ∧ Hid (Below w0.heap.size w0 wr)) (fun s t _ _ => (intOf t - intOf s).toNat)
  case atStart => exact ⟨0, _, rfl, rfl, by omega, by omega, by omega, ⟨V0.out, fun h => by omega⟩, Below.refl _ _⟩
  case round =>
    obtain ⟨lo, hi, rfl, rfl, h0, h1, h2, I, HB⟩ := hrel
    rcases (show lo < hi ∨ lo = hi by omega) with hlt | heq
    · obtain ⟨m, hm⟩ : ∃ m, lo + (hi - lo + 1) / 2 = m := ⟨_, rfl⟩
      have m1 : lo < m := by omega
      have m2 : m ≤ hi := by omega
      obtain ⟨c, c1, c2, c3, hc⟩ := AG.out wr HB.out m (by omega) (by omega) false
      simp only [Bool.false_eq_true, if_false] at c1 c2
      have C1 := hid c1
      have C2 := hid c2
      have HC := hid hc
      clear c1 c2 hc
      rcases (show c ≤ 0 ∨ 0 < c by omega) with hc0 | hc0
      · have L1 : Hid (Ie.vl m * Q ≤ PP) := by
          rcases (show c < 0 ∨ c = 0 by omega) with g | g
          · have := C1.out.1 g; rw [Hid]; omega
          · have := C2.out.1 g; rw [Hid]; omega
        clear C1 C2
        go_wp2_with fail
        refine HC.out.mono ?_
        rintro e' w2 ⟨rfl, hB2⟩
        have HB2 := hid (HB.out.trans (hB2.mono HB.out.size))
        clear hB2
        go_wp2_with fail
        go_roundw
        case measure => simp only [intOf]; omega
        case rel => exact ⟨_, _, rfl, rfl, by omega, by omega, by omega, ⟨L1.out, I.out.2⟩, HB2⟩
      · have L1 : Hid (PP < Ie.vl m * Q) := by
          have g1 : ¬ Ie.vl m * Q < PP := fun g => by have := C1.out.2 g; omega
          have g2 : ¬ Ie.vl m * Q = PP := fun g => by have := C2.out.2 g; omega
          rw [Hid]; omega
        have c4 : ¬ c ≤ 0 := by omega
        clear C1 C2
        go_wp2_with fail
        refine HC.out.mono ?_
        rintro e' w2 ⟨rfl, hB2⟩
        have HB2 := hid (HB.out.trans (hB2.mono HB.out.size))
        clear hB2
        go_wp2_with fail
        go_roundw
        case measure => simp only [intOf]; omega
        case rel => exact ⟨_, _, rfl, rfl, by omega, by omega, by omega, ⟨I.out.1, fun _ => by rw [show m - 1 + 1 = m by omega]; exact L1.out⟩, HB2⟩
    · subst heq
      have FF := hid (fun (x : Int) => FIN.out lo x h0 h2 I.out.1 I.out.2)
      clear FIN
      rcases (show lo = 9218868437227405312 ∨ lo < 9218868437227405312 by omega) with hi' | hi'
      · have R := hid (FF.out lo (.inl ⟨hi', rfl⟩))
        subst hi'
        clear I FF AG
        cases neg
        · go_wp2_with fail
          go_ret2
          exact ⟨_, ret_sg0 rfl, R.out, HB.out⟩
        · go_wp2_with fail
          go_ret2
          exact ⟨_, ret_sg0 rfl, R.out, HB.out⟩
      · obtain ⟨c, c1, c2, c3, hc⟩ := AG.out wr HB.out lo h0 h2 true
        simp only [if_true] at c1 c2
        have C1 := hid c1
        have C2 := hid c2
        have HC := hid hc
        have par : lo % 2 = 0 ∨ lo % 2 = 1 := by omega
        clear c1 c2 hc AG I
        rcases c3 with rfl | rfl | rfl
        · have R := hid (FF.out _ (.inr (.inl ⟨hi', rfl, .inl (C1.out.1 (by omega))⟩)))
          clear FF C1 C2
          cases neg
          · go_wp2_with fail
            refine HC.out.mono ?_
            rintro e' w2 ⟨rfl, hB2⟩
            have HB2 := hid (HB.out.trans (hB2.mono HB.out.size))
            clear hB2
            go_wp2_with fail
            go_ret2
            exact ⟨_, ret_sg0 rfl, R.out, HB2.out⟩
          · go_wp2_with fail
            refine HC.out.mono ?_
            rintro e' w2 ⟨rfl, hB2⟩
            have HB2 := hid (HB.out.trans (hB2.mono HB.out.size))
            clear hB2
            go_wp2_with fail
            go_ret2
            exact ⟨_, ret_sg0 rfl, R.out, HB2.out⟩
        · rcases par with hp | hp
          · have R := hid (FF.out _ (.inr (.inr ⟨hi', rfl, .inr ⟨C2.out.1 rfl, hp⟩⟩)))
            clear FF C1 C2
            cases neg
            · go_wp2_with fail
              refine HC.out.mono ?_
              rintro e' w2 ⟨rfl, hB2⟩
              have HB2 := hid (HB.out.trans (hB2.mono HB.out.size))
              clear hB2
              go_wp2_with fail
              go_ret2
              exact ⟨_, ret_sg0 rfl, R.out, HB2.out⟩
            · go_wp2_with fail
              refine HC.out.mono ?_
              rintro e' w2 ⟨rfl, hB2⟩
              have HB2 := hid (HB.out.trans (hB2.mono HB.out.size))
              clear hB2
              go_wp2_with fail
              go_ret2
              exact ⟨_, ret_sg0 rfl, R.out, HB2.out⟩
          · have R := hid (FF.out _ (.inr (.inl ⟨hi', rfl, .inr ⟨C2.out.1 rfl, hp⟩⟩)))
            clear FF C1 C2
            cases neg
            · go_wp2_with fail
              refine HC.out.mono ?_
              rintro e' w2 ⟨rfl, hB2⟩
              have HB2 := hid (HB.out.trans (hB2.mono HB.out.size))
              clear hB2
              go_wp2_with fail
              go_ret2
              exact ⟨_, ret_sg0 rfl, R.out, HB2.out⟩
            · go_wp2_with fail
              refine HC.out.mono ?_
              rintro e' w2 ⟨rfl, hB2⟩
              have HB2 := hid (HB.out.trans (hB2.mono HB.out.size))
              clear hB2
              go_wp2_with fail
              go_ret2
              exact ⟨_, ret_sg0 rfl, R.out, HB2.out⟩
        · have lt : PP < Ie.md lo * Q := by
            have g1 : ¬ Ie.md lo * Q < PP := fun g => by have := C1.out.2 g; omega
            have g2 : ¬ Ie.md lo * Q = PP := fun g => by have := C2.out.2 g; omega
            omega
          have R := hid (FF.out _ (.inr (.inr ⟨hi', rfl, .inl lt⟩)))
          clear FF C1 C2 lt
          cases neg
          · go_wp2_with fail
            refine HC.out.mono ?_
            rintro e' w2 ⟨rfl, hB2⟩
            have HB2 := hid (HB.out.trans (hB2.mono HB.out.size))
            clear hB2
            go_wp2_with fail
            go_ret2
            exact ⟨_, ret_sg0 rfl, R.out, HB2.out⟩
          · go_wp2_with fail
            refine HC.out.mono ?_
            rintro e' w2 ⟨rfl, hB2⟩
            have HB2 := hid (HB.out.trans (hB2.mono HB.out.size))
            clear hB2
            go_wp2_with fail
            go_ret2
            exact ⟨_, ret_sg0 rfl, R.out, HB2.out⟩
end Go.Proofs.YtljpmddjcfkonaaGreatDoor

/-
  The document's RoundRatio at any exponent.
-/
namespace Go.Proofs.YtljpmddjcfkonaaGreatDoor
open Go Go.RowKit Go.Deep

set_option maxRecDepth 100000 in
set_option maxHeartbeats 4000000 in
/-- The document's RoundRatio, at any exponent. -/
theorem zratio_all (neg : Bool) (p q : Option Addr) (n cap n' cap' : Nat) (zs ys : List Int) (w : World) (ha : Arg w p n cap zs) (hb : Arg w q n' cap' ys) (tz : Nm.tsize zs ≤ 4096) (ty : Nm.tsize ys ≤ 4096) (V D e : Int) (hV : Nm.val zs = V) (hD : Nm.val ys = D) (hd : 0 < D) :
    Calls Tryz.prog 40 #[.bool neg, .slice p n cap, .slice q n' cap', .int .i64 e] w fun r w' => ∃ x, r = .returned (.tuple #[.int .u64 (Ie.sg neg x), .int .i64 0]) ∧ Ie.Rnd V D e false x ∧ Below w.heap.size w w' := by
  have v0 : 0 ≤ V := by rw [← hV]; exact (Nm.val_bd zs ha.2.2.2.2).1
  by_cases hin : 0 < V ∧ -1048576 ≤ e ∧ e ≤ 1048576
  · exact zratio_any neg p q n cap n' cap' zs ys w ha hb tz ty V D e hV hD hd hin.1 hin.2.1 hin.2.2
  · obtain ⟨L, hL, BL, hl, _⟩ := blen_is zs ha.2.2.2.2
    obtain ⟨M, hM, BM, hm, _⟩ := blen_is ys hb.2.2.2.2
    rw [hV] at BL
    rw [hD] at BM
    have B1 := hid (refBig_is false p n cap zs w ha (by simp; omega))
    have B2 := hid (refBig_is false q n' cap' ys w hb (by simp; omega))
    obtain ⟨S1, hS1⟩ : ∃ S, Nm.tsize zs = S := ⟨_, rfl⟩
    obtain ⟨S2, hS2⟩ : ∃ S, Nm.tsize ys = S := ⟨_, rfl⟩
    have tq : 0 < Nm.tsize ys := by
      rcases Nat.eq_zero_or_pos (Nm.tsize ys) with h | h
      · have := (Nm.tsize_zero_iff hb.2.2.2.2).1 h; omega
      · exact h
    have Z1 := refSize_any p n cap zs w ha.1 (by have := ha.2.1; have := ha.2.2.1; omega) ha.2.2.2.1
    have Z2 := refSize_any q n' cap' ys w hb.1 (by have := hb.2.1; have := hb.2.2.1; omega) hb.2.2.2.1
    have tz0 := Nm.tsize_zero_iff ha.2.2.2.2
    rw [hS1, hV] at tz0
    rw [hS1] at Z1
    rw [hS2] at Z2 tq
    have Z1 := hid Z1
    have Z2 := hid Z2
    have s2 : ((S2 : Int) == 0) = false := by rw [beq_eq_false_iff_ne]; omega
    have PZ := hid (zput_any neg 0 0 w (by omega) (by omega) (by omega) (by omega) (by omega))
    have PI := hid (zput_any neg 2047 0 w (by omega) (by omega) (by omega) (by omega) (by omega))
    have R0 : V = 0 ∨ e < -1048576 → Ie.Rnd V D e false 0 := by
      rintro (h | h)
      · rw [h]; exact Ie.rnd_zero D e false hd
      · exact Ie.rnd_small V D e L 0 false BL.1 (by rw [Int.pow_zero]; omega) (by omega)
    have RI : 0 < V → 1048576 < e → Ie.Rnd V D e false 9218868437227405312 := fun h h' => Ie.rnd_inf V D e 0 M false (by rw [Int.pow_zero]; omega) (by have := BM.1; omega) (by omega)
    by_cases c0 : V = 0
    · have hs0 : S1 = 0 := tz0.2 c0
      have R := hid (R0 (.inl c0))
      subst hs0
      clear ha hb tz ty hV hD hd v0 hin hL hM BL BM hl hm hS1 hS2 tq tz0 R0 RI PI
      go_enter Tryz.func40, Tryz.ntmps40
      go_wp2_with fail
      refine B1.out.mono ?_
      rintro e' w' ⟨rfl, rfl⟩
      go_wp2_with fail
      refine B2.out.mono ?_
      rintro e' w' ⟨rfl, rfl⟩
      go_wp2_with fail
      refine Z2.out.mono ?_
      rintro e' w' ⟨rfl, rfl⟩
      go_wp2_with fail
      refine Z1.out.mono ?_
      rintro e' w' ⟨rfl, rfl⟩
      go_wp2_with fail
      refine PZ.out.mono ?_
      rintro e' w' ⟨rfl, rfl⟩
      go_wp2_with fail
      go_ret2
      exact ⟨0, ret_sg (by simp), R.out, Below.refl _ _⟩
    · have s1 : ((S1 : Int) == 0) = false := by
        rw [beq_eq_false_iff_ne]
        intro hh
        exact c0 (tz0.1 (by omega))
      by_cases c1 : e < -1048576
      · have R := hid (R0 (.inr c1))
        clear ha hb tz ty hV hD hd v0 hin hL hM BL BM hl hm hS1 hS2 tq tz0 R0 RI PI c0
        go_enter Tryz.func40, Tryz.ntmps40
        go_wp2_with fail
        refine B1.out.mono ?_
        rintro e' w' ⟨rfl, rfl⟩
        go_wp2_with fail
        refine B2.out.mono ?_
        rintro e' w' ⟨rfl, rfl⟩
        go_wp2_with fail
        refine Z2.out.mono ?_
        rintro e' w' ⟨rfl, rfl⟩
        go_wp2_with fail
        refine Z1.out.mono ?_
        rintro e' w' ⟨rfl, rfl⟩
        go_wp2_with fail
        refine PZ.out.mono ?_
        rintro e' w' ⟨rfl, rfl⟩
        go_wp2_with fail
        go_ret2
        exact ⟨0, ret_sg (by simp), R.out, Below.refl _ _⟩
      · have c2 : 1048576 < e := by omega
        have R := hid (RI (by omega) c2)
        clear ha hb tz ty hV hD hd v0 hin hL hM BL BM hl hm hS1 hS2 tq tz0 R0 RI PZ c0
        go_enter Tryz.func40, Tryz.ntmps40
        go_wp2_with fail
        refine B1.out.mono ?_
        rintro e' w' ⟨rfl, rfl⟩
        go_wp2_with fail
        refine B2.out.mono ?_
        rintro e' w' ⟨rfl, rfl⟩
        go_wp2_with fail
        refine Z2.out.mono ?_
        rintro e' w' ⟨rfl, rfl⟩
        go_wp2_with fail
        refine Z1.out.mono ?_
        rintro e' w' ⟨rfl, rfl⟩
        go_wp2_with fail
        refine PI.out.mono ?_
        rintro e' w' ⟨rfl, rfl⟩
        go_wp2_with fail
        go_ret2
        exact ⟨_, ret_sg (by simp), R.out, Below.refl _ _⟩

end Go.Proofs.YtljpmddjcfkonaaGreatDoor

namespace Go.Proofs.YtljpmddjcfkonaaGreatDoor
open Go Go.RowKit Go.Deep

theorem yabs_any (d : Int) (w : World) (h0 : 0 ≤ d) (h1 : d < 18446744073709551616) :
    Calls Tryz.prog 39 #[.int .u64 d] w fun e w' => e = .returned (.int .u64 (Ie.ab d)) ∧ w' = w := by
  unfold Ie.ab
  go_enter Tryz.func39, Tryz.ntmps39
  go_wp2
  go_ret
  exact ⟨rfl, rfl⟩

theorem yneg_any (d : Int) (w : World) (h0 : 0 ≤ d) (h1 : d < 18446744073709551616) :
    Calls Tryz.prog 108 #[.int .u64 d] w fun e w' => e = .returned (.int .u64 (Ie.ng d)) ∧ w' = w := by
  by_cases h : 9223372036854775808 ≤ d
  · have E : Hid (Ie.ng d = d - 9223372036854775808) := by rw [Hid, Ie.ng, if_neg (by omega)]
    go_enter Tryz.func108, Tryz.ntmps108
    go_wp2
    go_ret
    exact ⟨i_retU E.out.symm, rfl⟩
  · have E : Hid (Ie.ng d = d + 9223372036854775808) := by rw [Hid, Ie.ng, if_pos (by omega)]
    go_enter Tryz.func108, Tryz.ntmps108
    go_wp2
    go_ret
    exact ⟨i_retU E.out.symm, rfl⟩

theorem ynan_any (d : Int) (w : World) (h0 : 0 ≤ d) (h1 : d < 18446744073709551616) :
    Calls Tryz.prog 13 #[.int .u64 d] w fun e w' => e = .returned (.bool (Ie.isn d)) ∧ w' = w := by
  have A := hid (yabs_any d w h0 h1)
  unfold Ie.isn
  go_enter Tryz.func13, Tryz.ntmps13
  go_wp2_with fail
  refine A.out.mono ?_
  rintro e w' ⟨rfl, rfl⟩
  go_wp2_with fail
  go_ret
  exact ⟨rfl, rfl⟩

theorem yret_b {a b : Bool} (h : a = b) : Ending.returned (.bool a) = .returned (.bool b) := by rw [h]

theorem yngd_any (d : Int) (w : World) :
    Calls Tryz.prog 16 #[.int .u64 d] w fun e w' => e = .returned (.bool (Ie.ngd d)) ∧ w' = w := by
  unfold Ie.ngd
  go_enter Tryz.func16, Tryz.ntmps16
  go_wp2
  go_ret
  exact ⟨rfl, rfl⟩

theorem yinf_any (d : Int) (w : World) (h0 : 0 ≤ d) (h1 : d < 18446744073709551616) :
    Calls Tryz.prog 14 #[.int .u64 d] w fun e w' => e = .returned (.bool (Ie.isi d)) ∧ w' = w := by
  have A := hid (yabs_any d w h0 h1)
  have E : Hid ((Ie.ab d == 9218868437227405312) = Ie.isi d) := by rw [Hid, Ie.isi, Bool.eq_iff_iff]; simp
  go_enter Tryz.func14, Tryz.ntmps14
  go_wp2_with fail
  refine A.out.mono ?_
  rintro e w' ⟨rfl, rfl⟩
  go_wp2_with fail
  go_ret
  exact ⟨yret_b E.out, rfl⟩

theorem yzero_any (d : Int) (w : World) (h0 : 0 ≤ d) (h1 : d < 18446744073709551616) :
    Calls Tryz.prog 23 #[.int .u64 d] w fun e w' => e = .returned (.bool (Ie.isz d)) ∧ w' = w := by
  have A := hid (yabs_any d w h0 h1)
  have E : Hid ((Ie.ab d == 0) = Ie.isz d) := by rw [Hid, Ie.isz, Bool.eq_iff_iff]; simp
  go_enter Tryz.func23, Tryz.ntmps23
  go_wp2_with fail
  refine A.out.mono ?_
  rintro e w' ⟨rfl, rfl⟩
  go_wp2_with fail
  go_ret
  exact ⟨yret_b E.out, rfl⟩

set_option maxRecDepth 100000 in
theorem yanynan_any (a b : Int) (w : World) (a0 : 0 ≤ a) (a1 : a < 18446744073709551616) (b0 : 0 ≤ b) (b1 : b < 18446744073709551616) :
    Calls Tryz.prog 12 #[.int .u64 a, .int .u64 b] w fun e w' => e = .returned (.bool (Ie.isn a || Ie.isn b)) ∧ w' = w := by
  have A := hid (ynan_any a w a0 a1)
  have B := hid (ynan_any b w b0 b1)
  cases ha : Ie.isn a
  · rw [ha] at A
    go_enter Tryz.func12, Tryz.ntmps12
    go_wp2_with fail
    refine A.out.mono ?_
    rintro e w' ⟨rfl, rfl⟩
    go_wp2_with fail
    refine B.out.mono ?_
    rintro e w' ⟨rfl, rfl⟩
    go_wp2_with fail
    go_ret
    exact ⟨yret_b (by simp), rfl⟩
  · rw [ha] at A
    go_enter Tryz.func12, Tryz.ntmps12
    go_wp2_with fail
    refine A.out.mono ?_
    rintro e w' ⟨rfl, rfl⟩
    go_wp2_with fail
    go_ret
    exact ⟨yret_b (by simp), rfl⟩

theorem ysigned_any (neg : Bool) (d : Int) (w : World) (h0 : 0 ≤ d) (h1 : d < 18446744073709551616) :
    Calls Tryz.prog 15 #[.bool neg, .int .u64 d] w fun e w' => e = .returned (.int .u64 (Ie.sb neg (Ie.ab d))) ∧ w' = w := by
  have A := hid (yabs_any d w h0 h1)
  have b : 0 ≤ Ie.ab d ∧ Ie.ab d < 9223372036854775808 := by unfold Ie.ab; omega
  obtain ⟨b0, b1⟩ := b
  generalize Ie.ab d = x at *
  cases neg
  · unfold Ie.sb
    go_enter Tryz.func15, Tryz.ntmps15
    go_wp2_with fail
    refine A.out.mono ?_
    rintro e w' ⟨rfl, rfl⟩
    go_wp2_with fail
    go_ret
    exact ⟨rfl, rfl⟩
  · unfold Ie.sb
    go_enter Tryz.func15, Tryz.ntmps15
    go_wp2_with fail
    refine A.out.mono ?_
    rintro e w' ⟨rfl, rfl⟩
    go_wp2_with fail
    go_ret
    exact ⟨rfl, rfl⟩

/-- A value is the number V / D * 2^e with that sign; its lists lie from block B on. -/
def RN (B : Nat) (w : World) (v : Value) (neg : Bool) (V D e : Int) : Prop :=
  ∃ p n c q m d zs ys, v = .agg #[.bool neg, .slice p n c, .slice q m d, .int .i64 e] ∧ Arg w p n c zs ∧ Nm.val zs = V ∧ Nm.tsize zs ≤ 4096 ∧ Arg w q m d ys ∧ Nm.val ys = D ∧ Nm.tsize ys ≤ 4096 ∧ (∀ x, p = some x → B ≤ x.block) ∧ (∀ x, q = some x → B ≤ x.block)
theorem RN.on {w w' : World} {v : Value} {neg : Bool} {V D e : Int} {B : Nat} (h : RN B w v neg V D e) (b : Below w.heap.size w w') : RN B w' v neg V D e := by
  obtain ⟨p, n, c, q, m, d, zs, ys, h1, h2, h3, h4, h5, h6, h7, h8⟩ := h
  exact ⟨p, n, c, q, m, d, zs, ys, h1, h2.below b (Nat.le_refl _), h3, h4, h5.below b (Nat.le_refl _), h6, h7, h8⟩

set_option maxRecDepth 100000 in
set_option maxHeartbeats 1000000 in
theorem ynone_any {w : World} {v : Value} {neg : Bool} {V D e : Int} {B : Nat} (h : RN B w v neg V D e) :
    Calls Tryz.prog 41 #[v] w fun r w' => r = .returned (.bool (decide (V = 0))) ∧ Below w.heap.size w w' := by
  obtain ⟨p, n, c, q, m, d, zs, ys, rfl, h2, h3, h4, h5, h6, h7, _⟩ := h
  have SZ := hid (fun wx (b : Below w.heap.size w wx) => refSize_any p n c zs wx h2.1 (by have := h2.2.1; have := h2.2.2.1; omega) (h2.below b (Nat.le_refl _)).2.2.2.1)
  have BA := hid (alloc_b w (.cells #[.bool neg, .slice p n c, .slice q m d, .int .i64 e] 41))
  have E : Hid (((Nm.tsize zs : Int) == 0) = decide (V = 0)) := by
    rw [Hid, Bool.eq_iff_iff]
    have := Nm.tsize_zero_iff h2.2.2.2.2
    simp
    rw [← h3]
    omega
  clear h2 h3 h4 h5 h6 h7
  go_enter Tryz.func41, Tryz.ntmps41
  go_wp2_with fail
  refine (SZ.out _ BA.out).mono ?_
  rintro r w' ⟨rfl, rfl⟩
  generalize Nm.tsize zs = t at *
  go_wp2_with fail
  go_ret
  exact ⟨yret_b E.out, BA.out⟩

set_option maxRecDepth 100000 in
set_option maxHeartbeats 1000000 in
theorem yrounded_any {w : World} {v : Value} {neg : Bool} {V D e : Int} {B : Nat} (h : RN B w v neg V D e) (hD : 0 < D) :
    Calls Tryz.prog 19 #[v] w fun r w' => ∃ x, r = .returned (.int .u64 (Ie.sg neg x)) ∧ Ie.Rnd V D e false x ∧ Below w.heap.size w w' := by
  obtain ⟨p, n, c, q, m, d, zs, ys, rfl, h2, h3, h4, h5, h6, h7, _⟩ := h
  have BA := hid (alloc_b w (.cells #[.bool neg, .slice p n c, .slice q m d, .int .i64 e] 41))
  have RR := hid (zratio_all neg p q n c m d zs ys (w.alloc (.cells #[.bool neg, .slice p n c, .slice q m d, .int .i64 e] 41)) (h2.below BA.out (Nat.le_refl _)) (h5.below BA.out (Nat.le_refl _)) h4 h7 V D e h3 h6 hD)
  clear h2 h3 h4 h5 h6 h7 hD
  go_enter Tryz.func19, Tryz.ntmps19
  go_wp2_with fail
  refine RR.out.mono ?_
  rintro r w' ⟨x, rfl, R, hB⟩
  have F := hid (And.intro R (BA.out.trans (hB.mono BA.out.size)))
  clear R hB RR
  go_wp2_with fail
  go_ret
  exact ⟨x, rfl, F.out⟩

/-- A new number is answered. -/
def NumTold5 (neg : Bool) (V D e : Int) (w : World) (r : Ending) (w' : World) : Prop := ∃ v, r = .returned v ∧ RN w.heap.size w' v neg V D e ∧ Below w.heap.size w w'
end Go.Proofs.YtljpmddjcfkonaaGreatDoor

namespace Go.Proofs.YtljpmddjcfkonaaGreatDoor
open Go.RowKit Go.Deep

set_option maxRecDepth 20000 in
set_option maxHeartbeats 4000000 in
theorem plus_any (p q : Option Addr) (n cap m cap' : Nat) (za zb : List Int) (w : World) (ha : Arg w p n cap za) (hb : Arg w q m cap' zb) (hn : Nm.tsize za ≤ 1099511627776) (hm : Nm.tsize zb ≤ 1099511627776) :
    Calls Tryz.prog 43 #[.slice p n cap, .slice q m cap'] w fun e w' => ∃ r os, e = .returned (.slice r (List.length os) (List.length os)) ∧ Ans w.heap.size w' r os (Nm.val za + Nm.val zb) ∧ Below w.heap.size w w' := by
  have HA := hid ha
  have HB0 := hid hb
  clear ha hb
  go_enter Tryz.func43, Tryz.ntmps43
  go_wp2_with fail
  refine (halves_any p n cap za _ HA.out (by have := HA.out.2.1; have := HA.out.2.2.1; omega)).mono ?_
  rintro e w1 ⟨xs, rfl, lx, hx, vx, kx, bx⟩
  have HB1 := hid (HB0.out.below bx (Nat.le_refl _))
  have D1 := hid bx
  obtain ⟨l1, LX⟩ : ∃ l1, Hid (xs.length = l1) := ⟨_, rfl⟩
  have LX0 := hid lx
  have HX := hid hx
  have VX := hid vx
  have kx1 : l1 ≤ 2 * Nm.tsize za := by have := LX.out; omega
  rw [LX.out]
  clear lx hx vx kx bx HB0
  go_wp2_with fail
  refine (halves_any q m cap' zb _ HB1.out (by have := HB1.out.2.1; have := HB1.out.2.2.1; omega)).mono ?_
  rintro e w2 ⟨ys, rfl, ly, hy, vy, ky, by_⟩
  have D2 := hid (chain D1.out by_ (Nat.le_refl _))
  obtain ⟨l2, LY⟩ : ∃ l2, Hid (ys.length = l2) := ⟨_, rfl⟩
  have HY := hid hy
  have VY := hid vy
  have ky1 : l2 ≤ 2 * Nm.tsize zb := by have := LY.out; omega
  obtain ⟨g1, G1⟩ : ∃ g1, w.heap.size = g1 := ⟨_, rfl⟩
  obtain ⟨g2, G2⟩ : ∃ g2, w1.heap.size = g2 := ⟨_, rfl⟩
  have LX2 := LX0.out.below by_ (Nat.le_refl _)
  rw [G1] at LX2
  have ly2 := ly
  rw [G2] at ly2
  have CX : Hid (∀ i, i < l1 → w2.cell? ⟨g1, i, none⟩ = some (.int .u64 (xs.getD i 0))) := fun i hi => by have := LX2.cells i (by have := LX.out; omega); rwa [Nat.zero_add] at this
  have CY : Hid (∀ i, i < l2 → w2.cell? ⟨g2, i, none⟩ = some (.int .u64 (ys.getD i 0))) := fun i hi => by have := ly2.cells i (by have := LY.out; omega); rwa [Nat.zero_add] at this
  obtain ⟨g, Gg⟩ : ∃ g, Hid (w2.heap.size = g) := ⟨_, rfl⟩
  have BX : Hid (∀ {j : Nat}, j < l1 → g1 < g) := fun {j} hj => by rw [← Gg.out]; exact cell_lt (CX.out j hj)
  have BY : Hid (∀ {j : Nat}, j < l2 → g2 < g) := fun {j} hj => by rw [← Gg.out]; exact cell_lt (CY.out j hj)
  rw [LY.out, G1, G2]
  clear ly hy vy ky by_ LX0 LX2 ly2 HB1 D1 G2
  obtain ⟨C, HC⟩ : ∃ C, Hid (l1 + l2 + 1 = C) := ⟨_, rfl⟩
  have hmk := make64_room (l1 + l2 + 1) (by omega) w2
  rw [show ((l1 + l2 + 1 : Nat) : Int) = (l1 : Int) + (l2 : Int) + 1 by omega, HC.out, Gg.out] at hmk
  have bm := hid ((Below.refl w2.heap.size w2).alloc (Nat.le_refl _) (.cells (madeCells #[.int .u64 0] C) 23))
  have gm := hid (Grown.made w2 C)
  rw [Gg.out] at bm gm
  generalize w2.alloc (.cells (madeCells #[.int .u64 0] C) 23) = wm at hmk bm gm
  have hCb : C ≤ 35184372088832 := by have := HC.out; omega
  go_wp2
  clear hmk
  go_loopw [7, 8, 9] (fun a c i wr => ∃ (j : Nat) (cc : Int) (ss : List Int), j ≤ l1 + l2 ∧ j + 1 ≤ C ∧ i = .int .i64 j ∧ a = .slice (some ⟨g, 0, none⟩) j C ∧ c = .int .u64 cc ∧ 0 ≤ cc ∧ cc ≤ 1 ∧ Hid (Grown wr g ss (C - j)) ∧ Hid (ss.length = j) ∧ Hid (Nm.Halves ss) ∧ Hid (Nm.v32 ss + Nm.p32 j * cc = Nm.v32 (xs.take j) + Nm.v32 (ys.take j)) ∧ Below g w2 wr) (fun _ _ i _ => l1 + l2 - (intOf i).toNat)
  case atStart => exact ⟨0, 0, [], Nat.zero_le _, by have := HC.out; omega, rfl, rfl, rfl, by omega, by omega, gm.out, rfl, Nm.Halves.nil, rfl, bm.out⟩
  case round =>
    obtain ⟨j, cc, ss, hj, hjC, rfl, rfl, rfl, hc0, hc1, G, L, HS, V, hB⟩ := hrel
    have G' := G.out
    rw [show C - j = (C - j - 1) + 1 by omega] at G'
    by_cases h1 : j < l1
    · have hj2 : j + 1 ≤ l1 + l2 := by omega
      have hj3 : j + 1 + 1 ≤ C := by have := HC.out; omega
      by_cases h2 : j < l2
      · skip
        obtain ⟨x, hx, X⟩ : ∃ x, wr.cell? ⟨g1, j, none⟩ = some (.int .u64 x) ∧ Hid (x = xs.getD j 0) := ⟨_, (hB.cell (p := ⟨g1, j, none⟩) (BX.out h1)).trans (CX.out j h1), rfl⟩
        have hx0 : 0 ≤ x := by have := HX.out.at j; have := X.out; omega
        have hx1 : x < 4294967296 := by have := HX.out.at j; have := X.out; omega
        have h1' : (j : Int) < (l1 : Int) := by omega
        obtain ⟨y, hy, Y⟩ : ∃ y, wr.cell? ⟨g2, j, none⟩ = some (.int .u64 y) ∧ Hid (y = ys.getD j 0) := ⟨_, (hB.cell (p := ⟨g2, j, none⟩) (BY.out h2)).trans (CY.out j h2), rfl⟩
        have hy0 : 0 ≤ y := by have := HY.out.at j; have := Y.out; omega
        have hy1 : y < 4294967296 := by have := HY.out.at j; have := Y.out; omega
        have h2' : (j : Int) < (l2 : Int) := by omega
        obtain ⟨c1, hc1, C1⟩ : ∃ c1, IntKind.u64.wrap (cc + x) = c1 ∧ Hid (c1 = cc + x) := ⟨_, by rw [IntKind.wrap_u64, Int.emod_eq_of_lt (by omega) (by omega)], rfl⟩
        have hc10 : 0 ≤ c1 := by have := C1.out; omega
        have hc11 : c1 ≤ 4294967296 := by have := C1.out; omega
        obtain ⟨c2, hc2, C2⟩ : ∃ c2, IntKind.u64.wrap (c1 + y) = c2 ∧ Hid (c2 = c1 + y) := ⟨_, by rw [IntKind.wrap_u64, Int.emod_eq_of_lt (by omega) (by omega)], rfl⟩
        have hc20 : 0 ≤ c2 := by have := C2.out; omega
        have hc21 : c2 ≤ 8589934592 := by have := C2.out; omega
        have TOT : Hid (c2 = cc + x + y) := by have := C1.out; have := C2.out; show _ = _; omega
        obtain ⟨lo, hlo, LO⟩ : ∃ lo, bits .and .u64 c2 4294967295 = lo ∧ Hid (lo = c2 % 4294967296) := ⟨_, r_mask32 c2 (by omega) (by omega), rfl⟩
        obtain ⟨hi, hhi, HI⟩ : ∃ hi, c2 / 4294967296 = hi ∧ Hid (hi = c2 / 4294967296) := ⟨_, rfl, rfl⟩
        have hi0 : 0 ≤ hi := by omega
        have hi1 : hi ≤ 1 := by have := TOT.out; have := HX.out.at j; have := HY.out.at j; have := X.out; have := Y.out; omega
        obtain ⟨w2, ap, gr, be, sz⟩ := push64 g j (C - j - 1) C ss lo wr L.out (by omega) G'
        have AP := hid ap
        have GR := hid gr
        have BE := hid (hB.trans be)
        have BLO : Hid (0 ≤ lo ∧ lo < 4294967296) := by have := LO.out; show _ ∧ _; omega
        clear ap gr be sz hB G G'
        go_wp2_with (at_builtin; refine wpList_append_row rfl _ _ rfl AP.out (by rfl) (by rfl) ?_; clear AP)
        go_roundw
        case rel =>
          refine ⟨j + 1, hi, ss ++ [lo], by omega, by omega, by go_num, rfl, rfl, hi0, hi1, GR.out, ?_, HS.out.snoc BLO.out.1 BLO.out.2, ?_, BE.out⟩
          · have := L.out; simp only [Hid, List.length_append, List.length_cons, List.length_nil]; omega
          · exact Nm.plus_step L.out V.out (by rw [← X.out, ← Y.out, ← TOT.out, LO.out, HI.out]; omega)
        case measure => simp [intOf]; omega
      · skip
        obtain ⟨x, hx, X⟩ : ∃ x, wr.cell? ⟨g1, j, none⟩ = some (.int .u64 x) ∧ Hid (x = xs.getD j 0) := ⟨_, (hB.cell (p := ⟨g1, j, none⟩) (BX.out h1)).trans (CX.out j h1), rfl⟩
        have hx0 : 0 ≤ x := by have := HX.out.at j; have := X.out; omega
        have hx1 : x < 4294967296 := by have := HX.out.at j; have := X.out; omega
        have h1' : (j : Int) < (l1 : Int) := by omega
        obtain ⟨y, hy0, Y⟩ : ∃ y : Int, y = 0 ∧ Hid (y = ys.getD j 0) := ⟨0, rfl, by simp [Hid, List.getD, List.getElem?_eq_none (show ys.length ≤ j by have := LY.out; omega)]⟩
        have h2' : ¬ (j : Int) < (l2 : Int) := by omega
        obtain ⟨c1, hc1, C1⟩ : ∃ c1, IntKind.u64.wrap (cc + x) = c1 ∧ Hid (c1 = cc + x) := ⟨_, by rw [IntKind.wrap_u64, Int.emod_eq_of_lt (by omega) (by omega)], rfl⟩
        have hc10 : 0 ≤ c1 := by have := C1.out; omega
        have hc11 : c1 ≤ 4294967296 := by have := C1.out; omega
        have TOT : Hid (c1 = cc + x + y) := by have := C1.out; show _ = _; omega
        obtain ⟨lo, hlo, LO⟩ : ∃ lo, bits .and .u64 c1 4294967295 = lo ∧ Hid (lo = c1 % 4294967296) := ⟨_, r_mask32 c1 (by omega) (by omega), rfl⟩
        obtain ⟨hi, hhi, HI⟩ : ∃ hi, c1 / 4294967296 = hi ∧ Hid (hi = c1 / 4294967296) := ⟨_, rfl, rfl⟩
        have hi0 : 0 ≤ hi := by omega
        have hi1 : hi ≤ 1 := by have := TOT.out; have := HX.out.at j; have := HY.out.at j; have := X.out; have := Y.out; omega
        obtain ⟨w2, ap, gr, be, sz⟩ := push64 g j (C - j - 1) C ss lo wr L.out (by omega) G'
        have AP := hid ap
        have GR := hid gr
        have BE := hid (hB.trans be)
        have BLO : Hid (0 ≤ lo ∧ lo < 4294967296) := by have := LO.out; show _ ∧ _; omega
        clear ap gr be sz hB G G'
        go_wp2_with (at_builtin; refine wpList_append_row rfl _ _ rfl AP.out (by rfl) (by rfl) ?_; clear AP)
        go_roundw
        case rel =>
          refine ⟨j + 1, hi, ss ++ [lo], by omega, by omega, by go_num, rfl, rfl, hi0, hi1, GR.out, ?_, HS.out.snoc BLO.out.1 BLO.out.2, ?_, BE.out⟩
          · have := L.out; simp only [Hid, List.length_append, List.length_cons, List.length_nil]; omega
          · exact Nm.plus_step L.out V.out (by rw [← X.out, ← Y.out, ← TOT.out, LO.out, HI.out]; omega)
        case measure => simp [intOf]; omega
    · by_cases h2 : j < l2
      · have hj2 : j + 1 ≤ l1 + l2 := by omega
        have hj3 : j + 1 + 1 ≤ C := by have := HC.out; omega
        obtain ⟨x, hx0, X⟩ : ∃ x : Int, x = 0 ∧ Hid (x = xs.getD j 0) := ⟨0, rfl, by simp [Hid, List.getD, List.getElem?_eq_none (show xs.length ≤ j by have := LX.out; omega)]⟩
        have h1' : ¬ (j : Int) < (l1 : Int) := by omega
        obtain ⟨y, hy, Y⟩ : ∃ y, wr.cell? ⟨g2, j, none⟩ = some (.int .u64 y) ∧ Hid (y = ys.getD j 0) := ⟨_, (hB.cell (p := ⟨g2, j, none⟩) (BY.out h2)).trans (CY.out j h2), rfl⟩
        have hy0 : 0 ≤ y := by have := HY.out.at j; have := Y.out; omega
        have hy1 : y < 4294967296 := by have := HY.out.at j; have := Y.out; omega
        have h2' : (j : Int) < (l2 : Int) := by omega
        obtain ⟨c2, hc2, C2⟩ : ∃ c2, IntKind.u64.wrap (cc + y) = c2 ∧ Hid (c2 = cc + y) := ⟨_, by rw [IntKind.wrap_u64, Int.emod_eq_of_lt (by omega) (by omega)], rfl⟩
        have hc20 : 0 ≤ c2 := by have := C2.out; omega
        have hc21 : c2 ≤ 8589934592 := by have := C2.out; omega
        have TOT : Hid (c2 = cc + x + y) := by have := C2.out; show _ = _; omega
        obtain ⟨lo, hlo, LO⟩ : ∃ lo, bits .and .u64 c2 4294967295 = lo ∧ Hid (lo = c2 % 4294967296) := ⟨_, r_mask32 c2 (by omega) (by omega), rfl⟩
        obtain ⟨hi, hhi, HI⟩ : ∃ hi, c2 / 4294967296 = hi ∧ Hid (hi = c2 / 4294967296) := ⟨_, rfl, rfl⟩
        have hi0 : 0 ≤ hi := by omega
        have hi1 : hi ≤ 1 := by have := TOT.out; have := HX.out.at j; have := HY.out.at j; have := X.out; have := Y.out; omega
        obtain ⟨w2, ap, gr, be, sz⟩ := push64 g j (C - j - 1) C ss lo wr L.out (by omega) G'
        have AP := hid ap
        have GR := hid gr
        have BE := hid (hB.trans be)
        have BLO : Hid (0 ≤ lo ∧ lo < 4294967296) := by have := LO.out; show _ ∧ _; omega
        clear ap gr be sz hB G G'
        go_wp2_with (at_builtin; refine wpList_append_row rfl _ _ rfl AP.out (by rfl) (by rfl) ?_; clear AP)
        go_roundw
        case rel =>
          refine ⟨j + 1, hi, ss ++ [lo], by omega, by omega, by go_num, rfl, rfl, hi0, hi1, GR.out, ?_, HS.out.snoc BLO.out.1 BLO.out.2, ?_, BE.out⟩
          · have := L.out; simp only [Hid, List.length_append, List.length_cons, List.length_nil]; omega
          · exact Nm.plus_step L.out V.out (by rw [← X.out, ← Y.out, ← TOT.out, LO.out, HI.out]; omega)
        case measure => simp [intOf]; omega
      · have h1' : ¬ (j : Int) < (l1 : Int) := by omega
        have h2' : ¬ (j : Int) < (l2 : Int) := by omega
        obtain ⟨w3, ap, gr, be, sz⟩ := push64 g j (C - j - 1) C ss cc wr L.out (by omega) G'
        have AP := hid ap
        have D3 := hid (chain D2.out (by rw [Gg.out]; exact hB.trans be) (Nat.le_refl _))
        have VV : Hid (Nm.v32 (ss ++ [cc]) = Nm.val za + Nm.val zb) := by
          have := V.out
          rw [List.take_of_length_le (by have := LX.out; omega), List.take_of_length_le (by have := LY.out; omega), VX.out, VY.out] at this
          rw [Hid, Nm.v32_snoc, L.out]
          exact this
        have HS2 := hid (HS.out.snoc hc0 (by omega : cc < 4294967296))
        have AG : Hid (Arg w3 (some ⟨g, 0, none⟩) (j + 1) C (ss ++ [cc])) := ⟨by simp [L.out], by omega, by have := HC.out; omega, gr.lies, HS2.out.limbs⟩
        have hw3 : Hid (w.heap.size ≤ w3.heap.size) := D3.out.size
        clear ap gr be sz hB G G'
        go_wp2_with (at_builtin; refine wpList_append_row rfl _ _ rfl AP.out (by rfl) (by rfl) ?_; clear AP)
        refine (rlimbs_any _ (j + 1) C (ss ++ [cc]) _ AG.out HS2.out).mono ?_
        rintro e w4 ⟨r, os, rfl, hA, hb⟩
        rw [VV.out] at hA
        have A4 := hid (hA.mono hw3.out)
        have D4 := hid (chain D3.out hb (Nat.le_refl _))
        clear hA hb
        go_wp2
        go_ret
        exact ⟨r, os, rfl, A4.out, D4.out⟩
end Go.Proofs.YtljpmddjcfkonaaGreatDoor

namespace Go.Proofs.YtljpmddjcfkonaaGreatDoor
open Go.RowKit Go.Deep

namespace Nm
theorem v32_lt : ∀ zs : List Int, Halves zs → v32 zs < p32 zs.length
  | [], _ => by simp [v32, p32]
  | z :: zs, h => by
    have h1 := v32_lt zs (fun x hx => h x (List.mem_cons_of_mem _ hx))
    have h2 := h z List.mem_cons_self
    simp only [v32, List.length_cons, p32]
    omega

theorem v32_split : ∀ (zs : List Int) (k : Nat), v32 zs = v32 (zs.take k) + p32 k * v32 (zs.drop k)
  | zs, 0 => by simp [v32, p32]
  | [], k + 1 => by simp [v32]
  | z :: zs, k + 1 => by
    have := v32_split zs k
    simp only [List.take_succ_cons, List.drop_succ_cons, v32, p32]
    rw [Int.mul_assoc]
    omega

theorem Halves.drop {zs : List Int} (h : Halves zs) (k : Nat) : Halves (zs.drop k) := fun z hz => h z (List.mem_of_mem_drop hz)

theorem less_step {ss xs ys : List Int} {j : Nat} {c c' lo : Int} (hl : ss.length = j) (h : v32 ss + p32 j * (-c) = v32 (xs.take j) - v32 (ys.take j)) (hs : lo + 4294967296 * (-c') = (-c) + xs.getD j 0 + (-ys.getD j 0)) :
    v32 (ss ++ [lo]) + p32 (j + 1) * (-c') = v32 (xs.take (j + 1)) - v32 (ys.take (j + 1)) := by
  rw [v32_snoc, v32_take_next, v32_take_next, hl]
  have e : p32 j * (lo + 4294967296 * (-c')) = p32 j * ((-c) + xs.getD j 0 + (-ys.getD j 0)) := by rw [hs]
  rw [Int.mul_add, Int.mul_add, Int.mul_add, Int.mul_neg (p32 j) (ys.getD j 0)] at e
  have e2 : p32 (j + 1) * (-c') = p32 j * (4294967296 * (-c')) := by simp only [p32]; rw [Int.mul_comm 4294967296 (p32 j), Int.mul_assoc]
  omega

theorem less_end {ss xs ys : List Int} {l : Nat} {c A B : Int} (hl : ss.length = l) (hx : xs.length = l) (hs : Halves ss) (hy : Halves ys) (vx : v32 xs = A) (vy : v32 ys = B) (hc : 0 ≤ c) (hle : B ≤ A) (h : v32 ss + p32 l * (-c) = v32 (xs.take l) - v32 (ys.take l)) : v32 ss = A - B := by
  rw [List.take_of_length_le (by omega), vx] at h
  have h1 := v32_split ys l
  have h2 := v32_lt ss hs
  have h3 := v32_nonneg _ (hy.drop l)
  have h4 := p32_pos l
  rw [hl] at h2
  rw [vy] at h1
  rw [Int.mul_neg] at h
  obtain ⟨r, hr⟩ : ∃ r, v32 (ys.drop l) = r := ⟨_, rfl⟩
  rw [hr] at h1 h3
  have e : p32 l * (c + r) = p32 l * c + p32 l * r := Int.mul_add _ _ _
  have h5 : c + r = 0 := by
    rcases (show c + r = 0 ∨ 1 ≤ c + r by omega) with h6 | h6
    · exact h6
    · have h7 : p32 l * 1 ≤ p32 l * (c + r) := Int.mul_le_mul_of_nonneg_left h6 (by omega)
      omega
  rw [h5, Int.mul_zero] at e
  omega
end Nm

set_option maxRecDepth 20000 in
set_option maxHeartbeats 4000000 in
theorem less_any (p q : Option Addr) (n cap m cap' : Nat) (za zb : List Int) (w : World) (ha : Arg w p n cap za) (hb : Arg w q m cap' zb) (hn : Nm.tsize za ≤ 1099511627776) (hle : Nm.val zb ≤ Nm.val za) :
    Calls Tryz.prog 44 #[.slice p n cap, .slice q m cap'] w fun e w' => ∃ r os, e = .returned (.slice r (List.length os) (List.length os)) ∧ Ans w.heap.size w' r os (Nm.val za - Nm.val zb) ∧ Below w.heap.size w w' := by
  have LE := hid hle
  clear hle
  have HA := hid ha
  have HB0 := hid hb
  clear ha hb
  go_enter Tryz.func44, Tryz.ntmps44
  go_wp2_with fail
  refine (halves_any p n cap za _ HA.out (by have := HA.out.2.1; have := HA.out.2.2.1; omega)).mono ?_
  rintro e w1 ⟨xs, rfl, lx, hx, vx, kx, bx⟩
  have HB1 := hid (HB0.out.below bx (Nat.le_refl _))
  have D1 := hid bx
  obtain ⟨l1, LX⟩ : ∃ l1, Hid (xs.length = l1) := ⟨_, rfl⟩
  have LX0 := hid lx
  have HX := hid hx
  have VX := hid vx
  have kx1 : l1 ≤ 2 * Nm.tsize za := by have := LX.out; omega
  rw [LX.out]
  clear lx hx vx kx bx HB0
  go_wp2_with fail
  refine (halves_any q m cap' zb _ HB1.out (by have := HB1.out.2.1; have := HB1.out.2.2.1; omega)).mono ?_
  rintro e w2 ⟨ys, rfl, ly, hy, vy, ky, by_⟩
  have D2 := hid (chain D1.out by_ (Nat.le_refl _))
  obtain ⟨l2, LY⟩ : ∃ l2, Hid (ys.length = l2) := ⟨_, rfl⟩
  have HY := hid hy
  have VY := hid vy
  have ky1 : l2 ≤ 2 * Nm.tsize zb := by have := LY.out; omega
  obtain ⟨g1, G1⟩ : ∃ g1, w.heap.size = g1 := ⟨_, rfl⟩
  obtain ⟨g2, G2⟩ : ∃ g2, w1.heap.size = g2 := ⟨_, rfl⟩
  have LX2 := LX0.out.below by_ (Nat.le_refl _)
  rw [G1] at LX2
  have ly2 := ly
  rw [G2] at ly2
  have CX : Hid (∀ i, i < l1 → w2.cell? ⟨g1, i, none⟩ = some (.int .u64 (xs.getD i 0))) := fun i hi => by have := LX2.cells i (by have := LX.out; omega); rwa [Nat.zero_add] at this
  have CY : Hid (∀ i, i < l2 → w2.cell? ⟨g2, i, none⟩ = some (.int .u64 (ys.getD i 0))) := fun i hi => by have := ly2.cells i (by have := LY.out; omega); rwa [Nat.zero_add] at this
  obtain ⟨g, Gg⟩ : ∃ g, Hid (w2.heap.size = g) := ⟨_, rfl⟩
  have BX : Hid (∀ {j : Nat}, j < l1 → g1 < g) := fun {j} hj => by rw [← Gg.out]; exact cell_lt (CX.out j hj)
  have BY : Hid (∀ {j : Nat}, j < l2 → g2 < g) := fun {j} hj => by rw [← Gg.out]; exact cell_lt (CY.out j hj)
  rw [LY.out, G1, G2]
  clear ly hy vy ky by_ LX0 LX2 ly2 HB1 D1 G2
  have hmk := make64_room l1 (by omega) w2
  rw [Gg.out] at hmk
  have bm := hid ((Below.refl w2.heap.size w2).alloc (Nat.le_refl _) (.cells (madeCells #[.int .u64 0] l1) 23))
  have gm := hid (Grown.made w2 l1)
  rw [Gg.out] at bm gm
  generalize w2.alloc (.cells (madeCells #[.int .u64 0] l1) 23) = wm at hmk bm gm
  go_wp2
  clear hmk
  go_loopw [7, 8, 9] (fun a c i wr => ∃ (j : Nat) (cc : Int) (ss : List Int), j ≤ l1 ∧ i = .int .i64 j ∧ a = .slice (some ⟨g, 0, none⟩) j l1 ∧ c = .int .u64 cc ∧ 0 ≤ cc ∧ cc ≤ 1 ∧ Hid (Grown wr g ss (l1 - j)) ∧ Hid (ss.length = j) ∧ Hid (Nm.Halves ss) ∧ Hid (Nm.v32 ss + Nm.p32 j * (-cc) = Nm.v32 (xs.take j) - Nm.v32 (ys.take j)) ∧ Below g w2 wr) (fun _ _ i _ => l1 - (intOf i).toNat)
  case atStart => exact ⟨0, 0, [], Nat.zero_le _, rfl, rfl, rfl, by omega, by omega, gm.out, rfl, Nm.Halves.nil, rfl, bm.out⟩
  case round =>
    obtain ⟨j, cc, ss, hj, rfl, rfl, rfl, hc0, hc1, G, L, HS, V, hB⟩ := hrel
    by_cases h1 : j < l1
    · obtain ⟨x, hx, X⟩ : ∃ x, wr.cell? ⟨g1, j, none⟩ = some (.int .u64 x) ∧ Hid (x = xs.getD j 0) := ⟨_, (hB.cell (p := ⟨g1, j, none⟩) (BX.out h1)).trans (CX.out j h1), rfl⟩
      have hx0 : 0 ≤ x := by have := HX.out.at j; have := X.out; omega
      have hx1 : x < 4294967296 := by have := HX.out.at j; have := X.out; omega
      have h1' : (j : Int) < (l1 : Int) := by omega
      have G' := G.out
      rw [show l1 - j = (l1 - j - 1) + 1 by omega] at G'
      by_cases h2 : j < l2
      · skip
        obtain ⟨y, hy, Y⟩ : ∃ y, wr.cell? ⟨g2, j, none⟩ = some (.int .u64 y) ∧ Hid (y = ys.getD j 0) := ⟨_, (hB.cell (p := ⟨g2, j, none⟩) (BY.out h2)).trans (CY.out j h2), rfl⟩
        have hy0 : 0 ≤ y := by have := HY.out.at j; have := Y.out; omega
        have hy1 : y < 4294967296 := by have := HY.out.at j; have := Y.out; omega
        have h2' : (j : Int) < (l2 : Int) := by omega
        obtain ⟨o, ho, O⟩ : ∃ o, IntKind.u64.wrap (cc + y) = o ∧ Hid (o = cc + y) := ⟨_, by rw [IntKind.wrap_u64, Int.emod_eq_of_lt (by omega) (by omega)], rfl⟩
        have ho0 : 0 ≤ o := by have := O.out; omega
        have ho1 : o ≤ 4294967296 := by have := O.out; omega
        by_cases hd : x < o
        · skip
          obtain ⟨d, hd1, DD⟩ : ∃ d, IntKind.u64.wrap (x + 4294967296) = d ∧ Hid (d = x + 4294967296) := ⟨_, by rw [IntKind.wrap_u64, Int.emod_eq_of_lt (by omega) (by omega)], rfl⟩
          have hd2 : 4294967296 ≤ d := by have := DD.out; omega
          have hd3 : d < 8589934592 := by have := DD.out; omega
          obtain ⟨z, hz, Z⟩ : ∃ z, IntKind.u64.wrap (d - o) = z ∧ Hid (z = d - o) := ⟨_, by rw [IntKind.wrap_u64, Int.emod_eq_of_lt (by omega) (by omega)], rfl⟩
          have BZ : Hid (0 ≤ z ∧ z < 4294967296) := by have := Z.out; have := DD.out; show _ ∧ _; omega
          have ST : Hid (z + 4294967296 * (-1) = (-cc) + x + (-y)) := by have := Z.out; have := DD.out; have := O.out; show _ = _; omega
          obtain ⟨w2, ap, gr, be, sz⟩ := push64 g j (l1 - j - 1) l1 ss z wr L.out (by omega) G'
          have AP := hid ap
          have GR := hid gr
          have BE := hid (hB.trans be)
          clear ap gr be sz hB G G'
          go_wp2_with (at_builtin; refine wpList_append_row rfl _ _ rfl AP.out (by rfl) (by rfl) ?_; clear AP)
          go_roundw
          case rel =>
            refine ⟨j + 1, 1, ss ++ [z], by omega, by go_num, rfl, rfl, by omega, by omega, GR.out, ?_, HS.out.snoc BZ.out.1 BZ.out.2, ?_, BE.out⟩
            · have := L.out; simp only [Hid, List.length_append, List.length_cons, List.length_nil]; omega
            · exact Nm.less_step L.out V.out (by rw [← X.out, ← Y.out]; exact ST.out)
          case measure => simp [intOf]; omega
        · skip
          obtain ⟨z, hz, Z⟩ : ∃ z, IntKind.u64.wrap (x - o) = z ∧ Hid (z = x - o) := ⟨_, by rw [IntKind.wrap_u64, Int.emod_eq_of_lt (by omega) (by omega)], rfl⟩
          have BZ : Hid (0 ≤ z ∧ z < 4294967296) := by have := Z.out; show _ ∧ _; omega
          have ST : Hid (z + 4294967296 * (-0) = (-cc) + x + (-y)) := by have := Z.out; have := O.out; show _ = _; omega
          obtain ⟨w2, ap, gr, be, sz⟩ := push64 g j (l1 - j - 1) l1 ss z wr L.out (by omega) G'
          have AP := hid ap
          have GR := hid gr
          have BE := hid (hB.trans be)
          clear ap gr be sz hB G G'
          go_wp2_with (at_builtin; refine wpList_append_row rfl _ _ rfl AP.out (by rfl) (by rfl) ?_; clear AP)
          go_roundw
          case rel =>
            refine ⟨j + 1, 0, ss ++ [z], by omega, by go_num, rfl, rfl, by omega, by omega, GR.out, ?_, HS.out.snoc BZ.out.1 BZ.out.2, ?_, BE.out⟩
            · have := L.out; simp only [Hid, List.length_append, List.length_cons, List.length_nil]; omega
            · exact Nm.less_step L.out V.out (by rw [← X.out, ← Y.out]; exact ST.out)
          case measure => simp [intOf]; omega
      · skip
        obtain ⟨y, hy0, Y⟩ : ∃ y : Int, y = 0 ∧ Hid (y = ys.getD j 0) := ⟨0, rfl, by simp [Hid, List.getD, List.getElem?_eq_none (show ys.length ≤ j by have := LY.out; omega)]⟩
        have h2' : ¬ (j : Int) < (l2 : Int) := by omega
        have O : Hid (cc = cc + y) := by show _ = _; omega
        by_cases hd : x < cc
        · skip
          obtain ⟨d, hd1, DD⟩ : ∃ d, IntKind.u64.wrap (x + 4294967296) = d ∧ Hid (d = x + 4294967296) := ⟨_, by rw [IntKind.wrap_u64, Int.emod_eq_of_lt (by omega) (by omega)], rfl⟩
          have hd2 : 4294967296 ≤ d := by have := DD.out; omega
          have hd3 : d < 8589934592 := by have := DD.out; omega
          obtain ⟨z, hz, Z⟩ : ∃ z, IntKind.u64.wrap (d - cc) = z ∧ Hid (z = d - cc) := ⟨_, by rw [IntKind.wrap_u64, Int.emod_eq_of_lt (by omega) (by omega)], rfl⟩
          have BZ : Hid (0 ≤ z ∧ z < 4294967296) := by have := Z.out; have := DD.out; show _ ∧ _; omega
          have ST : Hid (z + 4294967296 * (-1) = (-cc) + x + (-y)) := by have := Z.out; have := DD.out; have := O.out; show _ = _; omega
          obtain ⟨w2, ap, gr, be, sz⟩ := push64 g j (l1 - j - 1) l1 ss z wr L.out (by omega) G'
          have AP := hid ap
          have GR := hid gr
          have BE := hid (hB.trans be)
          clear ap gr be sz hB G G'
          go_wp2_with (at_builtin; refine wpList_append_row rfl _ _ rfl AP.out (by rfl) (by rfl) ?_; clear AP)
          go_roundw
          case rel =>
            refine ⟨j + 1, 1, ss ++ [z], by omega, by go_num, rfl, rfl, by omega, by omega, GR.out, ?_, HS.out.snoc BZ.out.1 BZ.out.2, ?_, BE.out⟩
            · have := L.out; simp only [Hid, List.length_append, List.length_cons, List.length_nil]; omega
            · exact Nm.less_step L.out V.out (by rw [← X.out, ← Y.out]; exact ST.out)
          case measure => simp [intOf]; omega
        · skip
          obtain ⟨z, hz, Z⟩ : ∃ z, IntKind.u64.wrap (x - cc) = z ∧ Hid (z = x - cc) := ⟨_, by rw [IntKind.wrap_u64, Int.emod_eq_of_lt (by omega) (by omega)], rfl⟩
          have BZ : Hid (0 ≤ z ∧ z < 4294967296) := by have := Z.out; show _ ∧ _; omega
          have ST : Hid (z + 4294967296 * (-0) = (-cc) + x + (-y)) := by have := Z.out; have := O.out; show _ = _; omega
          obtain ⟨w2, ap, gr, be, sz⟩ := push64 g j (l1 - j - 1) l1 ss z wr L.out (by omega) G'
          have AP := hid ap
          have GR := hid gr
          have BE := hid (hB.trans be)
          clear ap gr be sz hB G G'
          go_wp2_with (at_builtin; refine wpList_append_row rfl _ _ rfl AP.out (by rfl) (by rfl) ?_; clear AP)
          go_roundw
          case rel =>
            refine ⟨j + 1, 0, ss ++ [z], by omega, by go_num, rfl, rfl, by omega, by omega, GR.out, ?_, HS.out.snoc BZ.out.1 BZ.out.2, ?_, BE.out⟩
            · have := L.out; simp only [Hid, List.length_append, List.length_cons, List.length_nil]; omega
            · exact Nm.less_step L.out V.out (by rw [← X.out, ← Y.out]; exact ST.out)
          case measure => simp [intOf]; omega
    · have h1' : ¬ (j : Int) < (l1 : Int) := by omega
      obtain rfl : j = l1 := by omega
      have D3 := hid (chain D2.out (by rw [Gg.out]; exact hB) (Nat.le_refl _))
      have VV : Hid (Nm.v32 ss = Nm.val za - Nm.val zb) := Nm.less_end L.out LX.out HS.out HY.out VX.out VY.out hc0 LE.out V.out
      have AG : Hid (Arg wr (some ⟨g, 0, none⟩) j j ss) := ⟨L.out, Nat.le_refl _, by omega, G.out.lies, HS.out.limbs⟩
      have hw3 : Hid (w.heap.size ≤ wr.heap.size) := D3.out.size
      clear hB G
      go_wp2_with fail
      refine (rlimbs_any _ j j ss _ AG.out HS.out).mono ?_
      rintro e w4 ⟨r, os, rfl, hA, hb⟩
      rw [VV.out] at hA
      have A4 := hid (hA.mono hw3.out)
      have D4 := hid (chain D3.out hb (Nat.le_refl _))
      clear hA hb
      go_wp2
      go_ret
      exact ⟨r, os, rfl, A4.out, D4.out⟩
end Go.Proofs.YtljpmddjcfkonaaGreatDoor

namespace Go.Proofs.YtljpmddjcfkonaaGreatDoor
open Go Go.RowKit Go.Deep

theorem bel {a b c : World} (h : Below a.heap.size a b) (k : Below b.heap.size b c) : Below a.heap.size a c := h.trans (k.mono h.size)

/-- The room for an answer. -/
def RT (w wx : World) (v0 v1 v2 v3 : Value) : Prop := Below w.heap.size w wx ∧ Row4 wx w.heap.size 41 v0 v1 v2 v3
theorem RT.new (w : World) (v0 v1 v2 v3 : Value) : RT w (w.alloc (.cells #[v0, v1, v2, v3] 41)) v0 v1 v2 v3 := ⟨alloc_b _ _, Row4.new _ _ _ _ _ _⟩
theorem RT.on {w wx wy : World} {v0 v1 v2 v3 : Value} (h : RT w wx v0 v1 v2 v3) (k : Below wx.heap.size wx wy) : RT w wy v0 v1 v2 v3 := ⟨bel h.1 k, h.2.below k h.2.lt⟩
theorem RT.put {w wx : World} {v0 v1 v2 v3 : Value} (h : RT w wx v0 v1 v2 v3) (u0 u1 u2 u3 : Value) : RT w ((((wx.setCell ⟨w.heap.size, 0, none⟩ u0).setCell ⟨w.heap.size, 1, none⟩ u1).setCell ⟨w.heap.size, 2, none⟩ u2).setCell ⟨w.heap.size, 3, none⟩ u3) u0 u1 u2 u3 :=
  ⟨(((h.1.setCell (p := ⟨w.heap.size, 0, none⟩) (Nat.le_refl _) _).setCell (p := ⟨w.heap.size, 1, none⟩) (Nat.le_refl _) _).setCell (p := ⟨w.heap.size, 2, none⟩) (Nat.le_refl _) _).setCell (p := ⟨w.heap.size, 3, none⟩) (Nat.le_refl _) _, h.2.set⟩
theorem al1 (w : World) (A B C : Obj) : (((w.alloc A).alloc B).alloc C).heap[w.heap.size + 1]? = some B := by
  have h := heap_alloc2_old (w.alloc A) B C
  rwa [show (w.alloc A).heap.size = w.heap.size + 1 from Array.size_push _] at h
theorem al2 (w : World) (A B C : Obj) : (((w.alloc A).alloc B).alloc C).heap[w.heap.size + 1 + 1]? = some C := by
  have h := heap_alloc2_new (w.alloc A) B C
  rwa [show (w.alloc A).heap.size = w.heap.size + 1 from Array.size_push _] at h

theorem cell_far {w : World} {b b' o o' : Nat} {v : Value} (h : b' ≠ b) : (w.setCell ⟨b', o', none⟩ v).cell? ⟨b, o, none⟩ = w.cell? ⟨b, o, none⟩ := by
  simp only [World.cell?, World.setCell, Array.getElem?_modify]
  rw [if_neg h]

theorem put_arg {w wx : World} (u0 u1 u2 u3 : Value) {p : Option Addr} {n c : Nat} {zs : List Int} (a : Arg wx p n c zs) (hp : ∀ x, p = some x → x.block ≠ w.heap.size) :
    Arg ((((wx.setCell ⟨w.heap.size, 0, none⟩ u0).setCell ⟨w.heap.size, 1, none⟩ u1).setCell ⟨w.heap.size, 2, none⟩ u2).setCell ⟨w.heap.size, 3, none⟩ u3) p n c zs := by
  refine ⟨a.1, a.2.1, a.2.2.1, ?_, a.2.2.2.2⟩
  rcases a.2.2.2.1 with g | ⟨b, off, rfl, g⟩
  · exact .inl g
  · refine .inr ⟨b, off, rfl, fun i hi => ?_⟩
    have ne : b ≠ w.heap.size := hp _ rfl
    rw [cell_far (Ne.symm ne), cell_far (Ne.symm ne), cell_far (Ne.symm ne), cell_far (Ne.symm ne)]
    exact g i hi

set_option maxRecDepth 100000 in
set_option maxHeartbeats 1000000 in
theorem yof_any (d : Int) (w : World) (h0 : 0 ≤ d) (h1 : d < 18446744073709551616) (hm : 0 ≤ Ie.dm d ∧ Ie.dm d < 9007199254740992) :
    Calls Tryz.prog 22 #[.int .u64 d] w fun r w' => NumTold5 (Ie.ngd d) (Ie.dm d) 1 (Ie.de d) w r w' := by
  have Z := hid (RT.new w (.bool false) (.slice none 0 0) (.slice none 0 0) (.int .i64 0))
  have DC := hid (fun wx => zdecode_any d wx h0 h1)
  rw [show decide (9223372036854775808 ≤ d) = Ie.ngd d from rfl] at DC
  unfold partsOf at DC
  obtain ⟨m0, m1⟩ := hm
  obtain ⟨M, hM⟩ : ∃ M, Ie.dm d = M := ⟨_, rfl⟩
  obtain ⟨ee, hE⟩ : ∃ ee, Ie.de d = ee := ⟨_, rfl⟩
  obtain ⟨ng, hN⟩ : ∃ ng, Ie.ngd d = ng := ⟨_, rfl⟩
  obtain ⟨cc, hC⟩ : ∃ cc, Ie.cls d = cc := ⟨_, rfl⟩
  rw [hM, hE, hN, hC] at DC
  rw [hM] at m0 m1
  have HH := hid (And.intro hM (And.intro hE hN))
  clear hM hE hN hC
  go_enter Tryz.func22, Tryz.ntmps22
  go_wp2_with fail
  refine (DC.out _).mono ?_
  rintro r w1 ⟨rfl, hB⟩
  have Z1 := hid (Z.out.on hB)
  clear hB Z DC
  have Z3 := hid (Z1.out.on (bel (bel (alloc_b w1 (.cells #[.bool ng, .int .i64 cc, .int .u64 M, .int .i64 ee] 64)) (alloc_b _ (.cells #[.int .u64 M] 23))) (alloc_b _ (.cells #[.int .u64 1] 23))))
  obtain ⟨⟨p0, p1, p2, p3⟩, q0, q1, q2, q3⟩ := Z3.out.2.cells
  have lt := Z1.out.2.lt
  have A1 : Hid (Arg (((w1.alloc (.cells #[.bool ng, .int .i64 cc, .int .u64 M, .int .i64 ee] 64)).alloc (.cells #[.int .u64 M] 23)).alloc (.cells #[.int .u64 1] 23)) (some ⟨w1.heap.size + 1, 0, none⟩) 1 1 [M]) := arg_z (al1 _ _ _ _) m0 (by omega)
  have A2 : Hid (Arg (((w1.alloc (.cells #[.bool ng, .int .i64 cc, .int .u64 M, .int .i64 ee] 64)).alloc (.cells #[.int .u64 M] 23)).alloc (.cells #[.int .u64 1] 23)) (some ⟨w1.heap.size + 1 + 1, 0, none⟩) 1 1 [1]) := arg_z (al2 _ _ _ _) (by omega) (by omega)
  have ne1 : w1.heap.size + 1 ≠ w.heap.size := by omega
  have ne2 : w1.heap.size + 1 + 1 ≠ w.heap.size := by omega
  go_wp2_with fail
  (try simp only [Exit.inBlock, Exit.then])
  refine bodyPost_ret (results_cell_row rfl _ _ w.heap.size 41 _ (0, 0) _ rfl (Z3.out.put _ _ _ _).2 Tryz.underlying41 rfl (by kernel_rfl)) rfl ?_
  refine ⟨_, rfl, ?_, (Z3.out.put _ _ _ _).1⟩
  rw [HH.out.1, HH.out.2.1, HH.out.2.2]
  exact ⟨_, _, _, _, _, _, [M], [1], rfl, put_arg _ _ _ _ A1.out (fun x hx => by cases hx; exact ne1), by simp [Nm.val], Nat.le_trans (Nm.tsize_le _) (by simp), put_arg _ _ _ _ A2.out (fun x hx => by cases hx; exact ne2), by simp [Nm.val], Nat.le_trans (Nm.tsize_le _) (by simp), fun x hx => by cases hx; simp only; omega, fun x hx => by cases hx; simp only; omega⟩

theorem Arg.far {w : World} {p : Option Addr} {n c : Nat} {zs : List Int} (a : Arg w p n c zs) {wx : World} (b : Below w.heap.size w wx) (u0 u1 u2 u3 : Value) :
    Arg ((((wx.setCell ⟨w.heap.size, 0, none⟩ u0).setCell ⟨w.heap.size, 1, none⟩ u1).setCell ⟨w.heap.size, 2, none⟩ u2).setCell ⟨w.heap.size, 3, none⟩ u3) p n c zs := by
  have bb : Below w.heap.size w ((((wx.setCell ⟨w.heap.size, 0, none⟩ u0).setCell ⟨w.heap.size, 1, none⟩ u1).setCell ⟨w.heap.size, 2, none⟩ u2).setCell ⟨w.heap.size, 3, none⟩ u3) := (((b.setCell (p := ⟨w.heap.size, 0, none⟩) (Nat.le_refl _) _).setCell (p := ⟨w.heap.size, 1, none⟩) (Nat.le_refl _) _).setCell (p := ⟨w.heap.size, 2, none⟩) (Nat.le_refl _) _).setCell (p := ⟨w.heap.size, 3, none⟩) (Nat.le_refl _) _
  exact a.below bb (Nat.le_refl _)

theorem yof2 (d : Int) (ng : Bool) (M ee : Int) (w : World) (h0 : 0 ≤ d) (h1 : d < 18446744073709551616) (hN : Ie.ngd d = ng) (hM : Ie.dm d = M) (hE : Ie.de d = ee) (m0 : 0 ≤ M) (m1 : M < 9007199254740992) :
    Calls Tryz.prog 22 #[.int .u64 d] w fun r w' => NumTold5 ng M 1 ee w r w' := by
  subst hN hM hE
  exact yof_any d w h0 h1 ⟨m0, m1⟩

set_option maxRecDepth 100000 in
set_option maxHeartbeats 2000000 in
theorem yratio_any (a b : Int) (na nb : Bool) (Ma Mb ea eb : Int) (w : World)
    (OA : ∀ wx, Calls Tryz.prog 22 #[.int .u64 a] wx fun r w' => NumTold5 na Ma 1 ea wx r w') (OB : ∀ wx, Calls Tryz.prog 22 #[.int .u64 b] wx fun r w' => NumTold5 nb Mb 1 eb wx r w')
    (e0 : -2000 ≤ ea) (e1 : ea ≤ 2000) (f0 : -2000 ≤ eb) (f1 : eb ≤ 2000) :
    Calls Tryz.prog 109 #[.int .u64 a, .int .u64 b] w fun r w' => NumTold5 (na != nb) Ma Mb (ea - eb) w r w' := by
  have Z := hid (RT.new w (.bool false) (.slice none 0 0) (.slice none 0 0) (.int .i64 0))
  have HA := hid OA
  have HB := hid OB
  clear OA OB
  go_enter Tryz.func109, Tryz.ntmps109
  go_wp2_with fail
  refine (HA.out _).mono ?_
  rintro r w1 ⟨v, rfl, ⟨p, n, c, q, m, d, zs, ys, rfl, h2, h3, h4, h5, h6, h7, h8, h9⟩, hB⟩
  have Z1 := hid (Z.out.on hB)
  have Z2 := hid (Z1.out.on (alloc_b w1 (.cells #[.bool na, .slice p n c, .slice q m d, .int .i64 ea] 41)))
  have R2 := hid (Row4.new w1 41 (.bool na) (.slice p n c) (.slice q m d) (.int .i64 ea))
  have l1 := Z1.out.2.lt
  have AA := hid (And.intro (h2.below (alloc_b w1 (.cells #[.bool na, .slice p n c, .slice q m d, .int .i64 ea] 41)) (Nat.le_refl _)) (And.intro h3 h4))
  have PB : Hid (∀ x, p = some x → w.heap.size < x.block) := fun x hx => by
    have h := h8 x hx
    have k := Z.out.2.lt
    omega
  have BB := hid Z.out.2.lt
  clear hB h2 h3 h4 h5 h6 h7 h8 h9 Z Z1 HA
  go_upto_region 2 with fail
  generalize (w1.alloc (.cells #[.bool na, .slice p n c, .slice q m d, .int .i64 ea] 41)) = w2 at *
  generalize w1.heap.size = g1 at *
  go_wp2_with fail
  refine (HB.out _).mono ?_
  rintro r w3 ⟨v, rfl, ⟨p', n', c', q', m', d', zs', ys', rfl, h2, h3, h4, h5, h6, h7, h8, h9⟩, hB⟩
  have l2 := R2.out.lt
  have Z3 := hid ((Z2.out.on hB).on (alloc_b w3 (.cells #[.bool nb, .slice p' n' c', .slice q' m' d', .int .i64 eb] 41)))
  have R3 := hid ((R2.out.below hB l2).below (alloc_b w3 (.cells #[.bool nb, .slice p' n' c', .slice q' m' d', .int .i64 eb] 41)) (Nat.lt_of_lt_of_le l2 hB.size))
  have A3 := hid (And.intro ((AA.out.1.below hB (Nat.le_refl _)).below (alloc_b w3 (.cells #[.bool nb, .slice p' n' c', .slice q' m' d', .int .i64 eb] 41)) (Nat.le_refl _)) AA.out.2)
  have A4 := hid (And.intro (h2.below (alloc_b w3 (.cells #[.bool nb, .slice p' n' c', .slice q' m' d', .int .i64 eb] 41)) (Nat.le_refl _)) (And.intro h3 h4))
  have PC : Hid (∀ x, p' = some x → w.heap.size < x.block) := fun x hx => by
    have h := h8 x hx
    have k := Z2.out.2.lt
    omega
  obtain ⟨⟨p0, p1, p2, p3⟩, q0, q1, q2, q3⟩ := Z3.out.2.cells
  obtain ⟨⟨s0, s1, s2, s3⟩, -⟩ := R3.out.cells
  clear h2 h3 h4 h5 h6 h7 h8 h9 AA Z2 R2 HB
  go_wp2_with fail
  (try simp only [Exit.inBlock, Exit.then])
  refine bodyPost_ret (results_cell_row rfl _ _ w.heap.size 41 _ (0, 0) _ rfl (Z3.out.put _ _ _ _).2 Tryz.underlying41 rfl (by kernel_rfl)) rfl ?_
  exact ⟨_, rfl, ⟨_, _, _, _, _, _, zs, zs', rfl, put_arg _ _ _ _ A3.out.1 (fun x hx => Nat.ne_of_gt (PB.out x hx)), A3.out.2.1, A3.out.2.2, put_arg _ _ _ _ A4.out.1 (fun x hx => Nat.ne_of_gt (PC.out x hx)), A4.out.2.1, A4.out.2.2, fun x hx => Nat.le_of_lt (PB.out x hx), fun x hx => Nat.le_of_lt (PC.out x hx)⟩, (Z3.out.put _ _ _ _).1⟩
end Go.Proofs.YtljpmddjcfkonaaGreatDoor

/-
  Rounded signed fractions: the value of a double, closed ones.
-/
namespace Go.Proofs.YtljpmddjcfkonaaGreatDoor
namespace Ie

/-- The value of a double that is no NaN, in units of 2^-1074. -/
def uv (d : Int) : Int := sn (ngd d) (un (ab d))

theorem rs_of {neg : Bool} {V e x S Q : Int} {z : Bool} (hR : Rnd V 1 e false x) (hV : 0 ≤ V) (c q : Nat) (hc : (c : Int) - q = e + 1074) (hS : S = sn neg (V * 2 ^ c)) (hQ : Q = 2 ^ q) (hz : S = 0 → neg = z) : RS S Q z (sg neg x) := by
  refine ⟨neg, V * 2 ^ c, x, rfl, hS, Int.mul_nonneg hV (by have := Nm.two_pos c; omega), ?_, hz⟩
  have h := hR (c + 1) q (by omega)
  rw [Int.one_mul] at h
  rw [hQ, show 2 * (V * 2 ^ c) = V * 2 ^ (c + 1) by rw [Nm.two_succ]; ac_rfl]
  exact h

theorem sn_eq_zero {neg : Bool} {V : Int} (h : sn neg V = 0) : V = 0 := by
  cases neg <;> simp only [sn, Bool.false_eq_true, if_true, if_false] at h <;> omega

theorem fin_not {d : Int} (h : fin d) : isn d = false ∧ isi d = false := by
  rw [fin] at h
  exact ⟨by rw [isn, decide_eq_false_iff_not]; omega, by rw [isi, decide_eq_false_iff_not]; omega⟩

theorem un_lit {x m : Int} {E : Nat} (h1 : man x = m) (h2 : ex x = E) : un x = m * 2 ^ E := by rw [un, h1, h2]

theorem p1022 : (2 : Int) ^ 1023 = 2 * 2 ^ 1022 ∧ (2 : Int) ^ 1024 = 4 * 2 ^ 1022 ∧ (2 : Int) ^ 1025 = 8 * 2 ^ 1022 := by
  refine ⟨Nm.two_succ 1022, ?_, ?_⟩
  · rw [show 1024 = 2 + 1022 by rfl, Nm.two_add]; rfl
  · rw [show 1025 = 3 + 1022 by rfl, Nm.two_add]; rfl

theorem un_1 : un 4607182418800017408 = 4503599627370496 * 2 ^ 1022 := un_lit (by decide) (by decide)
theorem un_2 : un 4611686018427387904 = 4503599627370496 * 2 ^ 1023 := un_lit (by decide) (by decide)
theorem un_3 : un 4613937818241073152 = 6755399441055744 * 2 ^ 1023 := un_lit (by decide) (by decide)
theorem un_6 : un 4618441417868443648 = 6755399441055744 * 2 ^ 1024 := un_lit (by decide) (by decide)
theorem un_9 : un 4621256167635550208 = 5066549580791808 * 2 ^ 1025 := un_lit (by decide) (by decide)

theorem uv_pos {x : Int} (h0 : 0 ≤ x) (h1 : x < 9223372036854775808) : uv x = un x := by
  have h := ab_sb false x h0 h1
  rw [show sb false x = x from rfl] at h
  rw [uv, h.1, h.2]; rfl
theorem uv_neg {x : Int} (h0 : 0 ≤ x) (h1 : x < 9223372036854775808) : uv (x + 9223372036854775808) = -un x := by
  have h := ab_sb true x h0 h1
  rw [show sb true x = x + 9223372036854775808 from rfl] at h
  rw [uv, h.1, h.2]; rfl

/-- An exact answer above nothing. -/
theorem RS.lit {S Q : Int} {z : Bool} {r : Int} (hQ : 0 < Q) (h : RS S Q z r) (y : Int) (y0 : 0 < y) (y1 : y < 9218868437227405312) (e : S = un y * Q) : r = y := by
  have p := Int.mul_pos (un_pos y0) hQ
  obtain ⟨neg, rfl, hS, -⟩ := h.exact hQ y (by omega) y1 (by rw [e]; rcases (show 0 ≤ un y * Q by omega) with h; simp only [az]; split <;> omega)
  cases neg
  · rfl
  · exfalso
    rw [sn_true] at hS
    omega

end Ie
end Go.Proofs.YtljpmddjcfkonaaGreatDoor
