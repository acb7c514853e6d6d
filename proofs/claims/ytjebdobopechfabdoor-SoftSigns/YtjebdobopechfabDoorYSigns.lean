import Derived.Test.YtjebdobopechfabDoorYSW
import Derived.Test.YtjebdobopechfabDoorXSigns
/-
  SoftSigns (made by mksigns.py).
-/
namespace Go.Proofs.YtjebdobopechfabDoor
open Go Go.RowKit Go.Deep

theorem Ie.xor_ng (d : Int) (h0 : 0 ≤ d) (h1 : d < 18446744073709551616) : bits .xor .u64 d 9223372036854775808 = Ie.ng d := Ib.sign_xor d h0 h1

set_option maxRecDepth 100000 in
theorem zn_false (d : Int) (w : World) (h0 : 0 ≤ d) (h1 : d < 18446744073709551616) (hz : Ie.ab d ≠ 0) (hm : Ie.ab d ≤ 9218868437227405312) :
    Calls Tryd.prog 29 #[.int .u64 d] w fun e w' => e = .returned (.bool false) ∧ w' = w := by
  have B := Ib.sign_andNot d h0 h1
  rw [← Ie.ab] at B
  generalize Ie.ab d = x at *
  have z' : (x == 0) = false := by rw [beq_eq_false_iff_ne]; exact hz
  have d' : decide (9218868437227405312 < x) = false := by simp; omega
  go_enter Tryd.func29, Tryd.ntmps29
  go_wp2
  go_ret
  exact ⟨rfl, rfl⟩

set_option maxRecDepth 100000 in
theorem zn_true (d : Int) (w : World) (h0 : 0 ≤ d) (h1 : d < 18446744073709551616) (h : Ie.ab d = 0 ∨ 9218868437227405312 < Ie.ab d) :
    Calls Tryd.prog 29 #[.int .u64 d] w fun e w' => e = .returned (.bool true) ∧ w' = w := by
  have B := Ib.sign_andNot d h0 h1
  rw [← Ie.ab] at B
  generalize Ie.ab d = x at *
  rcases h with rfl | h
  · go_enter Tryd.func29, Tryd.ntmps29
    go_wp2
    go_ret
    exact ⟨rfl, rfl⟩
  · have z' : (x == 0) = false := by rw [beq_eq_false_iff_ne]; omega
    go_enter Tryd.func29, Tryd.ntmps29
    go_wp2
    go_ret
    exact ⟨rfl, rfl⟩

set_option maxRecDepth 100000 in
set_option maxHeartbeats 8000000 in
theorem signs_any (a b c : Int) (w : World) (a0 : 0 ≤ a) (a1 : a < 18446744073709551616) (b0 : 0 ≤ b) (b1 : b < 18446744073709551616) (c0 : 0 ≤ c) (c1 : c < 18446744073709551616) (hT : Tab w) :
    Calls Tryd.prog 7 #[.int .u64 a, .int .u64 b, .int .u64 c] w fun e w' => e = .returned (.bool true) ∧ Below w.heap.size w w' := by
  have AL : Hid (Calls Tryd.prog 19 #[] w fun e w' => e = .returned (.bool true) ∧ Below w.heap.size w w') := adds_any w hT
  have ML := hid (fun (wx : World) (hx : Below w.heap.size w wx) => softMul_any 4613937818241073152 4611686018427387904 wx (by omega) (by omega) (by omega) (by omega) (hT.below hx))
  have DL := hid (fun (wx : World) (hx : Below w.heap.size w wx) => softDiv_any 4618441417868443648 4611686018427387904 wx (by omega) (by omega) (by omega) (by omega) (hT.below hx))
  have FL := hid (fun (wx : World) (hx : Below w.heap.size w wx) => softFma_any 4611686018427387904 4613937818241073152 4613937818241073152 wx (by omega) (by omega) (by omega) (by omega) (by omega) (by omega) (hT.below hx))
  have AD := hid (fun (x y : Int) (wx : World) (hx : Below w.heap.size w wx) (x0 : 0 ≤ x) (x1 : x < 18446744073709551616) (y0 : 0 ≤ y) (y1 : y < 18446744073709551616) => softAdd_any x y wx x0 x1 y0 y1 (hT.below hx))
  have SD := hid (fun (x y : Int) (wx : World) (hx : Below w.heap.size w wx) (x0 : 0 ≤ x) (x1 : x < 18446744073709551616) (y0 : 0 ≤ y) (y1 : y < 18446744073709551616) => softSub_any x y wx x0 x1 y0 y1 (hT.below hx))
  have MD := hid (fun (x y : Int) (wx : World) (hx : Below w.heap.size w wx) (x0 : 0 ≤ x) (x1 : x < 18446744073709551616) (y0 : 0 ≤ y) (y1 : y < 18446744073709551616) => softMul_any x y wx x0 x1 y0 y1 (hT.below hx))
  have VD := hid (fun (x y : Int) (wx : World) (hx : Below w.heap.size w wx) (x0 : 0 ≤ x) (x1 : x < 18446744073709551616) (y0 : 0 ≤ y) (y1 : y < 18446744073709551616) => softDiv_any x y wx x0 x1 y0 y1 (hT.below hx))
  have FD := hid (fun (x y z : Int) (wx : World) (hx : Below w.heap.size w wx) (x0 : 0 ≤ x) (x1 : x < 18446744073709551616) (y0 : 0 ≤ y) (y1 : y < 18446744073709551616) (z0 : 0 ≤ z) (z1 : z < 18446744073709551616) => softFma_any x y z wx x0 x1 y0 y1 z0 z1 (hT.below hx))
  have XA := Ie.xor_ng a a0 a1
  have XB := Ie.xor_ng b b0 b1
  obtain ⟨na0, na1⟩ := (Ie.ng_uv a a0 a1).2.2.2
  obtain ⟨nb0, nb1⟩ := (Ie.ng_uv b b0 b1).2.2.2
  clear hT
  go_enter Tryd.func7, Tryd.ntmps7
  go_wp2_with fail
  refine AL.out.mono ?_
  rintro e w1 ⟨rfl, hB1⟩
  have HB := hid hB1
  clear hB1 AL
  go_wp2_with fail
  refine (ML.out _ HB.out).mono ?_
  rintro e w2 ⟨r, f, rfl, hr, hB⟩
  have HN := hid (HB.out.trans (hB.mono HB.out.size))
  obtain rfl := Ie.mul_32 hr
  clear hB HB hr ML
  have HB := HN
  clear HN
  go_wp2_with fail
  refine (DL.out _ HB.out).mono ?_
  rintro e w3 ⟨r, f, rfl, hr, hB⟩
  have HN := hid (HB.out.trans (hB.mono HB.out.size))
  obtain rfl := Ie.div_62 hr
  clear hB HB hr DL
  have HB := HN
  clear HN
  go_wp2_with fail
  refine (FL.out _ HB.out).mono ?_
  rintro e w4 ⟨r, f, rfl, hr, hB⟩
  have HN := hid (HB.out.trans (hB.mono HB.out.size))
  obtain rfl := Ie.fma_233 hr
  clear hB HB hr FL
  have HB := HN
  clear HN
  go_wp2_with fail
  refine (AD.out a b _ HB.out a0 a1 b0 b1).mono ?_
  rintro e w5 ⟨s, fs, rfl, hr, hB⟩
  have HN := hid (HB.out.trans (hB.mono HB.out.size))
  obtain ⟨s0, s1⟩ := Ie.AddIs.bd a0 a1 b0 b1 hr
  have sH := hid hr
  clear hB HB hr
  have HB := HN
  clear HN
  go_wp2_with fail
  refine (MD.out a b _ HB.out a0 a1 b0 b1).mono ?_
  rintro e w6 ⟨p, fp, rfl, hr, hB⟩
  have HN := hid (HB.out.trans (hB.mono HB.out.size))
  obtain ⟨p0, p1⟩ := Ie.MulIs.bd hr
  have pH := hid hr
  clear hB HB hr
  have HB := HN
  clear HN
  go_wp2_with fail
  refine (VD.out a b _ HB.out a0 a1 b0 b1).mono ?_
  rintro e w7 ⟨q, fq, rfl, hr, hB⟩
  have HN := hid (HB.out.trans (hB.mono HB.out.size))
  obtain ⟨q0, q1⟩ := Ie.DivIs.bd hr
  have qH := hid hr
  clear hB HB hr
  have HB := HN
  clear HN
  go_wp2_with fail
  refine (AD.out b a _ HB.out b0 b1 a0 a1).mono ?_
  rintro e w8 ⟨r, f, rfl, hr, hB⟩
  have HN := hid (HB.out.trans (hB.mono HB.out.size))
  have e1 := (Ie.AddIs.comm sH.out hr).symm
  subst e1
  clear hB HB hr
  have HB := HN
  clear HN
  go_wp2_with fail
  refine (MD.out b a _ HB.out b0 b1 a0 a1).mono ?_
  rintro e w9 ⟨r, f, rfl, hr, hB⟩
  have HN := hid (HB.out.trans (hB.mono HB.out.size))
  have e1 := (Ie.MulIs.comm pH.out hr).symm
  subst e1
  clear hB HB hr
  have HB := HN
  clear HN
  go_wp2_with fail
  refine (FD.out a b c _ HB.out a0 a1 b0 b1 c0 c1).mono ?_
  rintro e w10 ⟨t, ft, rfl, hr, hB⟩
  have HN := hid (HB.out.trans (hB.mono HB.out.size))
  obtain ⟨t0, t1⟩ := Ie.FmaIs.bd c0 c1 hr
  have tH := hid hr
  clear hB HB hr
  have HB := HN
  clear HN
  go_wp2_with fail
  refine (FD.out b a c _ HB.out b0 b1 a0 a1 c0 c1).mono ?_
  rintro e w11 ⟨r, f, rfl, hr, hB⟩
  have HN := hid (HB.out.trans (hB.mono HB.out.size))
  have e1 := (Ie.FmaIs.comm tH.out hr).symm
  subst e1
  clear hB HB hr
  have HB := HN
  clear HN
  go_wp2_with fail
  refine (SD.out a b _ HB.out a0 a1 b0 b1).mono ?_
  rintro e w12 ⟨u, fu, rfl, hr, hB⟩
  have HN := hid (HB.out.trans (hB.mono HB.out.size))
  obtain ⟨u0, u1⟩ := Ie.AddIs.bd a0 a1 nb0 nb1 hr
  have uH := hid hr
  clear hB HB hr
  have HB := HN
  clear HN
  go_wp2_with fail
  refine (AD.out a (Ie.ng b) _ HB.out a0 a1 nb0 nb1).mono ?_
  rintro e w13 ⟨r, f, rfl, hr, hB⟩
  have HN := hid (HB.out.trans (hB.mono HB.out.size))
  have e1 := (Ie.AddIs.one uH.out hr).symm
  subst e1
  clear hB HB hr
  have HB := HN
  clear HN
  go_wp2_with fail
  refine (FD.out a 4607182418800017408 b _ HB.out a0 a1 (by omega) (by omega) b0 b1).mono ?_
  rintro e w14 ⟨r, f, rfl, hr, hB⟩
  have HN := hid (HB.out.trans (hB.mono HB.out.size))
  have e1 := (Ie.fma_one a0 a1 hr sH.out).symm
  subst e1
  clear hB HB hr
  have HB := HN
  clear HN
  go_wp2_with fail
  refine (FD.out a b 9223372036854775808 _ HB.out a0 a1 b0 b1 (by omega) (by omega)).mono ?_
  rintro e w15 ⟨r, f, rfl, hr, hB⟩
  have HN := hid (HB.out.trans (hB.mono HB.out.size))
  have e1 := (Ie.fma_nz hr pH.out).symm
  subst e1
  clear hB HB hr
  have HB := HN
  clear HN
  clear tH uH FD t0 t1 u0 u1
  have XS := Ie.xor_ng s s0 s1
  have XP := Ie.xor_ng p p0 p1
  have XQ := Ie.xor_ng q q0 q1
  by_cases hs : Ie.ab s ≠ 0 ∧ Ie.ab s ≤ 9218868437227405312
  · have ZN1 := hid (fun (wx : World) => zn_false s wx s0 s1 hs.1 hs.2)
    go_wp2_with fail
    refine (ZN1.out _).mono ?_
    rintro e wz ⟨rfl, hz⟩
    replace hz := hz.symm
    subst hz
    go_wp2_with fail
    refine (AD.out (Ie.ng a) (Ie.ng b) _ HB.out na0 na1 nb0 nb1).mono ?_
    rintro e w16 ⟨r, f, rfl, hr, hB⟩
    have HN := hid (HB.out.trans (hB.mono HB.out.size))
    have e1 := (Ie.AddIs.ngs a0 a1 b0 b1 sH.out hr hs.1 hs.2).symm
    subst e1
    clear hB HB hr
    have HB := HN
    clear HN
    by_cases hp : p = 9221120237041090560
    · subst hp
      by_cases hq : q = 9221120237041090560
      · subst hq
        cases hna : Ie.isn a
        · have ANT := Ib.sign_andNot a a0 a1
          rw [← Ie.ab] at ANT
          have le : ¬ 9218868437227405312 < Ie.ab a := by
            rw [Ie.isn, decide_eq_false_iff_not] at hna
            exact hna
          generalize hab : Ie.ab a = xa at *
          clear hab
          go_wp2_with fail
          refine (MD.out a 4607182418800017408 _ HB.out a0 a1 (by omega) (by omega)).mono ?_
          rintro e w17 ⟨r, f, rfl, hr, hB⟩
          have HN := hid (HB.out.trans (hB.mono HB.out.size))
          have e1 := (Ie.mul_1 a0 a1 hna hr).symm
          subst e1
          clear hB HB hr
          have HB := HN
          clear HN
          go_wp2_with fail
          refine (VD.out a 4607182418800017408 _ HB.out a0 a1 (by omega) (by omega)).mono ?_
          rintro e w18 ⟨r, f, rfl, hr, hB⟩
          have HN := hid (HB.out.trans (hB.mono HB.out.size))
          have e1 := (Ie.div_1 a0 a1 hna hr).symm
          subst e1
          clear hB HB hr
          have HB := HN
          clear HN
          go_wp2_with fail
          refine (SD.out a 0 _ HB.out a0 a1 (by omega) (by omega)).mono ?_
          rintro e w19 ⟨r, f, rfl, hr, hB⟩
          have HN := hid (HB.out.trans (hB.mono HB.out.size))
          have e1 := (Ie.add_nz a0 a1 hna (show Ie.AddIs a 9223372036854775808 r f from hr)).symm
          subst e1
          clear hB HB hr
          have HB := HN
          clear HN
          go_wp2_with fail
          refine (AD.out a 9223372036854775808 _ HB.out a0 a1 (by omega) (by omega)).mono ?_
          rintro e w20 ⟨r, f, rfl, hr, hB⟩
          have HN := hid (HB.out.trans (hB.mono HB.out.size))
          have e1 := (Ie.add_nz a0 a1 hna hr).symm
          subst e1
          clear hB HB hr
          have HB := HN
          clear HN
          go_wp2_with fail
          go_ret
          exact ⟨rfl, HB.out⟩
        · have ANT := Ib.sign_andNot a a0 a1
          rw [← Ie.ab] at ANT
          have le : 9218868437227405312 < Ie.ab a := by
            rw [Ie.isn, decide_eq_true_eq] at hna
            exact hna
          generalize hab : Ie.ab a = xa at *
          clear hab
          go_wp2_with fail
          go_ret
          exact ⟨rfl, HB.out⟩
      · have hq' : (q == 9221120237041090560) = false := by rw [beq_eq_false_iff_ne]; exact hq
        go_wp2_with fail
        refine (VD.out (Ie.ng a) b _ HB.out na0 na1 b0 b1).mono ?_
        rintro e w21 ⟨r, f, rfl, hr, hB⟩
        have HN := hid (HB.out.trans (hB.mono HB.out.size))
        have e1 := (Ie.DivIs.ng1 a0 a1 qH.out hr hq).symm
        subst e1
        clear hB HB hr
        have HB := HN
        clear HN
        go_wp2_with fail
        refine (VD.out a (Ie.ng b) _ HB.out a0 a1 nb0 nb1).mono ?_
        rintro e w22 ⟨r, f, rfl, hr, hB⟩
        have HN := hid (HB.out.trans (hB.mono HB.out.size))
        have e1 := (Ie.DivIs.ng2 b0 b1 qH.out hr hq).symm
        subst e1
        clear hB HB hr
        have HB := HN
        clear HN
        cases hna : Ie.isn a
        · have ANT := Ib.sign_andNot a a0 a1
          rw [← Ie.ab] at ANT
          have le : ¬ 9218868437227405312 < Ie.ab a := by
            rw [Ie.isn, decide_eq_false_iff_not] at hna
            exact hna
          generalize hab : Ie.ab a = xa at *
          clear hab
          go_wp2_with fail
          refine (MD.out a 4607182418800017408 _ HB.out a0 a1 (by omega) (by omega)).mono ?_
          rintro e w23 ⟨r, f, rfl, hr, hB⟩
          have HN := hid (HB.out.trans (hB.mono HB.out.size))
          have e1 := (Ie.mul_1 a0 a1 hna hr).symm
          subst e1
          clear hB HB hr
          have HB := HN
          clear HN
          go_wp2_with fail
          refine (VD.out a 4607182418800017408 _ HB.out a0 a1 (by omega) (by omega)).mono ?_
          rintro e w24 ⟨r, f, rfl, hr, hB⟩
          have HN := hid (HB.out.trans (hB.mono HB.out.size))
          have e1 := (Ie.div_1 a0 a1 hna hr).symm
          subst e1
          clear hB HB hr
          have HB := HN
          clear HN
          go_wp2_with fail
          refine (SD.out a 0 _ HB.out a0 a1 (by omega) (by omega)).mono ?_
          rintro e w25 ⟨r, f, rfl, hr, hB⟩
          have HN := hid (HB.out.trans (hB.mono HB.out.size))
          have e1 := (Ie.add_nz a0 a1 hna (show Ie.AddIs a 9223372036854775808 r f from hr)).symm
          subst e1
          clear hB HB hr
          have HB := HN
          clear HN
          go_wp2_with fail
          refine (AD.out a 9223372036854775808 _ HB.out a0 a1 (by omega) (by omega)).mono ?_
          rintro e w26 ⟨r, f, rfl, hr, hB⟩
          have HN := hid (HB.out.trans (hB.mono HB.out.size))
          have e1 := (Ie.add_nz a0 a1 hna hr).symm
          subst e1
          clear hB HB hr
          have HB := HN
          clear HN
          go_wp2_with fail
          go_ret
          exact ⟨rfl, HB.out⟩
        · have ANT := Ib.sign_andNot a a0 a1
          rw [← Ie.ab] at ANT
          have le : 9218868437227405312 < Ie.ab a := by
            rw [Ie.isn, decide_eq_true_eq] at hna
            exact hna
          generalize hab : Ie.ab a = xa at *
          clear hab
          go_wp2_with fail
          go_ret
          exact ⟨rfl, HB.out⟩
    · have hp' : (p == 9221120237041090560) = false := by rw [beq_eq_false_iff_ne]; exact hp
      go_wp2_with fail
      refine (MD.out (Ie.ng a) b _ HB.out na0 na1 b0 b1).mono ?_
      rintro e w27 ⟨r, f, rfl, hr, hB⟩
      have HN := hid (HB.out.trans (hB.mono HB.out.size))
      have e1 := (Ie.MulIs.ng1 a0 a1 pH.out hr hp).symm
      subst e1
      clear hB HB hr
      have HB := HN
      clear HN
      go_wp2_with fail
      refine (MD.out a (Ie.ng b) _ HB.out a0 a1 nb0 nb1).mono ?_
      rintro e w28 ⟨r, f, rfl, hr, hB⟩
      have HN := hid (HB.out.trans (hB.mono HB.out.size))
      have e1 := (Ie.MulIs.ng2 b0 b1 pH.out hr hp).symm
      subst e1
      clear hB HB hr
      have HB := HN
      clear HN
      by_cases hq : q = 9221120237041090560
      · subst hq
        cases hna : Ie.isn a
        · have ANT := Ib.sign_andNot a a0 a1
          rw [← Ie.ab] at ANT
          have le : ¬ 9218868437227405312 < Ie.ab a := by
            rw [Ie.isn, decide_eq_false_iff_not] at hna
            exact hna
          generalize hab : Ie.ab a = xa at *
          clear hab
          go_wp2_with fail
          refine (MD.out a 4607182418800017408 _ HB.out a0 a1 (by omega) (by omega)).mono ?_
          rintro e w29 ⟨r, f, rfl, hr, hB⟩
          have HN := hid (HB.out.trans (hB.mono HB.out.size))
          have e1 := (Ie.mul_1 a0 a1 hna hr).symm
          subst e1
          clear hB HB hr
          have HB := HN
          clear HN
          go_wp2_with fail
          refine (VD.out a 4607182418800017408 _ HB.out a0 a1 (by omega) (by omega)).mono ?_
          rintro e w30 ⟨r, f, rfl, hr, hB⟩
          have HN := hid (HB.out.trans (hB.mono HB.out.size))
          have e1 := (Ie.div_1 a0 a1 hna hr).symm
          subst e1
          clear hB HB hr
          have HB := HN
          clear HN
          go_wp2_with fail
          refine (SD.out a 0 _ HB.out a0 a1 (by omega) (by omega)).mono ?_
          rintro e w31 ⟨r, f, rfl, hr, hB⟩
          have HN := hid (HB.out.trans (hB.mono HB.out.size))
          have e1 := (Ie.add_nz a0 a1 hna (show Ie.AddIs a 9223372036854775808 r f from hr)).symm
          subst e1
          clear hB HB hr
          have HB := HN
          clear HN
          go_wp2_with fail
          refine (AD.out a 9223372036854775808 _ HB.out a0 a1 (by omega) (by omega)).mono ?_
          rintro e w32 ⟨r, f, rfl, hr, hB⟩
          have HN := hid (HB.out.trans (hB.mono HB.out.size))
          have e1 := (Ie.add_nz a0 a1 hna hr).symm
          subst e1
          clear hB HB hr
          have HB := HN
          clear HN
          go_wp2_with fail
          go_ret
          exact ⟨rfl, HB.out⟩
        · have ANT := Ib.sign_andNot a a0 a1
          rw [← Ie.ab] at ANT
          have le : 9218868437227405312 < Ie.ab a := by
            rw [Ie.isn, decide_eq_true_eq] at hna
            exact hna
          generalize hab : Ie.ab a = xa at *
          clear hab
          go_wp2_with fail
          go_ret
          exact ⟨rfl, HB.out⟩
      · have hq' : (q == 9221120237041090560) = false := by rw [beq_eq_false_iff_ne]; exact hq
        go_wp2_with fail
        refine (VD.out (Ie.ng a) b _ HB.out na0 na1 b0 b1).mono ?_
        rintro e w33 ⟨r, f, rfl, hr, hB⟩
        have HN := hid (HB.out.trans (hB.mono HB.out.size))
        have e1 := (Ie.DivIs.ng1 a0 a1 qH.out hr hq).symm
        subst e1
        clear hB HB hr
        have HB := HN
        clear HN
        go_wp2_with fail
        refine (VD.out a (Ie.ng b) _ HB.out a0 a1 nb0 nb1).mono ?_
        rintro e w34 ⟨r, f, rfl, hr, hB⟩
        have HN := hid (HB.out.trans (hB.mono HB.out.size))
        have e1 := (Ie.DivIs.ng2 b0 b1 qH.out hr hq).symm
        subst e1
        clear hB HB hr
        have HB := HN
        clear HN
        cases hna : Ie.isn a
        · have ANT := Ib.sign_andNot a a0 a1
          rw [← Ie.ab] at ANT
          have le : ¬ 9218868437227405312 < Ie.ab a := by
            rw [Ie.isn, decide_eq_false_iff_not] at hna
            exact hna
          generalize hab : Ie.ab a = xa at *
          clear hab
          go_wp2_with fail
          refine (MD.out a 4607182418800017408 _ HB.out a0 a1 (by omega) (by omega)).mono ?_
          rintro e w35 ⟨r, f, rfl, hr, hB⟩
          have HN := hid (HB.out.trans (hB.mono HB.out.size))
          have e1 := (Ie.mul_1 a0 a1 hna hr).symm
          subst e1
          clear hB HB hr
          have HB := HN
          clear HN
          go_wp2_with fail
          refine (VD.out a 4607182418800017408 _ HB.out a0 a1 (by omega) (by omega)).mono ?_
          rintro e w36 ⟨r, f, rfl, hr, hB⟩
          have HN := hid (HB.out.trans (hB.mono HB.out.size))
          have e1 := (Ie.div_1 a0 a1 hna hr).symm
          subst e1
          clear hB HB hr
          have HB := HN
          clear HN
          go_wp2_with fail
          refine (SD.out a 0 _ HB.out a0 a1 (by omega) (by omega)).mono ?_
          rintro e w37 ⟨r, f, rfl, hr, hB⟩
          have HN := hid (HB.out.trans (hB.mono HB.out.size))
          have e1 := (Ie.add_nz a0 a1 hna (show Ie.AddIs a 9223372036854775808 r f from hr)).symm
          subst e1
          clear hB HB hr
          have HB := HN
          clear HN
          go_wp2_with fail
          refine (AD.out a 9223372036854775808 _ HB.out a0 a1 (by omega) (by omega)).mono ?_
          rintro e w38 ⟨r, f, rfl, hr, hB⟩
          have HN := hid (HB.out.trans (hB.mono HB.out.size))
          have e1 := (Ie.add_nz a0 a1 hna hr).symm
          subst e1
          clear hB HB hr
          have HB := HN
          clear HN
          go_wp2_with fail
          go_ret
          exact ⟨rfl, HB.out⟩
        · have ANT := Ib.sign_andNot a a0 a1
          rw [← Ie.ab] at ANT
          have le : 9218868437227405312 < Ie.ab a := by
            rw [Ie.isn, decide_eq_true_eq] at hna
            exact hna
          generalize hab : Ie.ab a = xa at *
          clear hab
          go_wp2_with fail
          go_ret
          exact ⟨rfl, HB.out⟩
  · have ZN1 := hid (fun (wx : World) => zn_true s wx s0 s1 (by omega))
    go_wp2_with fail
    refine (ZN1.out _).mono ?_
    rintro e wz ⟨rfl, hz⟩
    replace hz := hz.symm
    subst hz
    by_cases hp : p = 9221120237041090560
    · subst hp
      by_cases hq : q = 9221120237041090560
      · subst hq
        cases hna : Ie.isn a
        · have ANT := Ib.sign_andNot a a0 a1
          rw [← Ie.ab] at ANT
          have le : ¬ 9218868437227405312 < Ie.ab a := by
            rw [Ie.isn, decide_eq_false_iff_not] at hna
            exact hna
          generalize hab : Ie.ab a = xa at *
          clear hab
          go_wp2_with fail
          refine (MD.out a 4607182418800017408 _ HB.out a0 a1 (by omega) (by omega)).mono ?_
          rintro e w39 ⟨r, f, rfl, hr, hB⟩
          have HN := hid (HB.out.trans (hB.mono HB.out.size))
          have e1 := (Ie.mul_1 a0 a1 hna hr).symm
          subst e1
          clear hB HB hr
          have HB := HN
          clear HN
          go_wp2_with fail
          refine (VD.out a 4607182418800017408 _ HB.out a0 a1 (by omega) (by omega)).mono ?_
          rintro e w40 ⟨r, f, rfl, hr, hB⟩
          have HN := hid (HB.out.trans (hB.mono HB.out.size))
          have e1 := (Ie.div_1 a0 a1 hna hr).symm
          subst e1
          clear hB HB hr
          have HB := HN
          clear HN
          go_wp2_with fail
          refine (SD.out a 0 _ HB.out a0 a1 (by omega) (by omega)).mono ?_
          rintro e w41 ⟨r, f, rfl, hr, hB⟩
          have HN := hid (HB.out.trans (hB.mono HB.out.size))
          have e1 := (Ie.add_nz a0 a1 hna (show Ie.AddIs a 9223372036854775808 r f from hr)).symm
          subst e1
          clear hB HB hr
          have HB := HN
          clear HN
          go_wp2_with fail
          refine (AD.out a 9223372036854775808 _ HB.out a0 a1 (by omega) (by omega)).mono ?_
          rintro e w42 ⟨r, f, rfl, hr, hB⟩
          have HN := hid (HB.out.trans (hB.mono HB.out.size))
          have e1 := (Ie.add_nz a0 a1 hna hr).symm
          subst e1
          clear hB HB hr
          have HB := HN
          clear HN
          go_wp2_with fail
          go_ret
          exact ⟨rfl, HB.out⟩
        · have ANT := Ib.sign_andNot a a0 a1
          rw [← Ie.ab] at ANT
          have le : 9218868437227405312 < Ie.ab a := by
            rw [Ie.isn, decide_eq_true_eq] at hna
            exact hna
          generalize hab : Ie.ab a = xa at *
          clear hab
          go_wp2_with fail
          go_ret
          exact ⟨rfl, HB.out⟩
      · have hq' : (q == 9221120237041090560) = false := by rw [beq_eq_false_iff_ne]; exact hq
        go_wp2_with fail
        refine (VD.out (Ie.ng a) b _ HB.out na0 na1 b0 b1).mono ?_
        rintro e w43 ⟨r, f, rfl, hr, hB⟩
        have HN := hid (HB.out.trans (hB.mono HB.out.size))
        have e1 := (Ie.DivIs.ng1 a0 a1 qH.out hr hq).symm
        subst e1
        clear hB HB hr
        have HB := HN
        clear HN
        go_wp2_with fail
        refine (VD.out a (Ie.ng b) _ HB.out a0 a1 nb0 nb1).mono ?_
        rintro e w44 ⟨r, f, rfl, hr, hB⟩
        have HN := hid (HB.out.trans (hB.mono HB.out.size))
        have e1 := (Ie.DivIs.ng2 b0 b1 qH.out hr hq).symm
        subst e1
        clear hB HB hr
        have HB := HN
        clear HN
        cases hna : Ie.isn a
        · have ANT := Ib.sign_andNot a a0 a1
          rw [← Ie.ab] at ANT
          have le : ¬ 9218868437227405312 < Ie.ab a := by
            rw [Ie.isn, decide_eq_false_iff_not] at hna
            exact hna
          generalize hab : Ie.ab a = xa at *
          clear hab
          go_wp2_with fail
          refine (MD.out a 4607182418800017408 _ HB.out a0 a1 (by omega) (by omega)).mono ?_
          rintro e w45 ⟨r, f, rfl, hr, hB⟩
          have HN := hid (HB.out.trans (hB.mono HB.out.size))
          have e1 := (Ie.mul_1 a0 a1 hna hr).symm
          subst e1
          clear hB HB hr
          have HB := HN
          clear HN
          go_wp2_with fail
          refine (VD.out a 4607182418800017408 _ HB.out a0 a1 (by omega) (by omega)).mono ?_
          rintro e w46 ⟨r, f, rfl, hr, hB⟩
          have HN := hid (HB.out.trans (hB.mono HB.out.size))
          have e1 := (Ie.div_1 a0 a1 hna hr).symm
          subst e1
          clear hB HB hr
          have HB := HN
          clear HN
          go_wp2_with fail
          refine (SD.out a 0 _ HB.out a0 a1 (by omega) (by omega)).mono ?_
          rintro e w47 ⟨r, f, rfl, hr, hB⟩
          have HN := hid (HB.out.trans (hB.mono HB.out.size))
          have e1 := (Ie.add_nz a0 a1 hna (show Ie.AddIs a 9223372036854775808 r f from hr)).symm
          subst e1
          clear hB HB hr
          have HB := HN
          clear HN
          go_wp2_with fail
          refine (AD.out a 9223372036854775808 _ HB.out a0 a1 (by omega) (by omega)).mono ?_
          rintro e w48 ⟨r, f, rfl, hr, hB⟩
          have HN := hid (HB.out.trans (hB.mono HB.out.size))
          have e1 := (Ie.add_nz a0 a1 hna hr).symm
          subst e1
          clear hB HB hr
          have HB := HN
          clear HN
          go_wp2_with fail
          go_ret
          exact ⟨rfl, HB.out⟩
        · have ANT := Ib.sign_andNot a a0 a1
          rw [← Ie.ab] at ANT
          have le : 9218868437227405312 < Ie.ab a := by
            rw [Ie.isn, decide_eq_true_eq] at hna
            exact hna
          generalize hab : Ie.ab a = xa at *
          clear hab
          go_wp2_with fail
          go_ret
          exact ⟨rfl, HB.out⟩
    · have hp' : (p == 9221120237041090560) = false := by rw [beq_eq_false_iff_ne]; exact hp
      go_wp2_with fail
      refine (MD.out (Ie.ng a) b _ HB.out na0 na1 b0 b1).mono ?_
      rintro e w49 ⟨r, f, rfl, hr, hB⟩
      have HN := hid (HB.out.trans (hB.mono HB.out.size))
      have e1 := (Ie.MulIs.ng1 a0 a1 pH.out hr hp).symm
      subst e1
      clear hB HB hr
      have HB := HN
      clear HN
      go_wp2_with fail
      refine (MD.out a (Ie.ng b) _ HB.out a0 a1 nb0 nb1).mono ?_
      rintro e w50 ⟨r, f, rfl, hr, hB⟩
      have HN := hid (HB.out.trans (hB.mono HB.out.size))
      have e1 := (Ie.MulIs.ng2 b0 b1 pH.out hr hp).symm
      subst e1
      clear hB HB hr
      have HB := HN
      clear HN
      by_cases hq : q = 9221120237041090560
      · subst hq
        cases hna : Ie.isn a
        · have ANT := Ib.sign_andNot a a0 a1
          rw [← Ie.ab] at ANT
          have le : ¬ 9218868437227405312 < Ie.ab a := by
            rw [Ie.isn, decide_eq_false_iff_not] at hna
            exact hna
          generalize hab : Ie.ab a = xa at *
          clear hab
          go_wp2_with fail
          refine (MD.out a 4607182418800017408 _ HB.out a0 a1 (by omega) (by omega)).mono ?_
          rintro e w51 ⟨r, f, rfl, hr, hB⟩
          have HN := hid (HB.out.trans (hB.mono HB.out.size))
          have e1 := (Ie.mul_1 a0 a1 hna hr).symm
          subst e1
          clear hB HB hr
          have HB := HN
          clear HN
          go_wp2_with fail
          refine (VD.out a 4607182418800017408 _ HB.out a0 a1 (by omega) (by omega)).mono ?_
          rintro e w52 ⟨r, f, rfl, hr, hB⟩
          have HN := hid (HB.out.trans (hB.mono HB.out.size))
          have e1 := (Ie.div_1 a0 a1 hna hr).symm
          subst e1
          clear hB HB hr
          have HB := HN
          clear HN
          go_wp2_with fail
          refine (SD.out a 0 _ HB.out a0 a1 (by omega) (by omega)).mono ?_
          rintro e w53 ⟨r, f, rfl, hr, hB⟩
          have HN := hid (HB.out.trans (hB.mono HB.out.size))
          have e1 := (Ie.add_nz a0 a1 hna (show Ie.AddIs a 9223372036854775808 r f from hr)).symm
          subst e1
          clear hB HB hr
          have HB := HN
          clear HN
          go_wp2_with fail
          refine (AD.out a 9223372036854775808 _ HB.out a0 a1 (by omega) (by omega)).mono ?_
          rintro e w54 ⟨r, f, rfl, hr, hB⟩
          have HN := hid (HB.out.trans (hB.mono HB.out.size))
          have e1 := (Ie.add_nz a0 a1 hna hr).symm
          subst e1
          clear hB HB hr
          have HB := HN
          clear HN
          go_wp2_with fail
          go_ret
          exact ⟨rfl, HB.out⟩
        · have ANT := Ib.sign_andNot a a0 a1
          rw [← Ie.ab] at ANT
          have le : 9218868437227405312 < Ie.ab a := by
            rw [Ie.isn, decide_eq_true_eq] at hna
            exact hna
          generalize hab : Ie.ab a = xa at *
          clear hab
          go_wp2_with fail
          go_ret
          exact ⟨rfl, HB.out⟩
      · have hq' : (q == 9221120237041090560) = false := by rw [beq_eq_false_iff_ne]; exact hq
        go_wp2_with fail
        refine (VD.out (Ie.ng a) b _ HB.out na0 na1 b0 b1).mono ?_
        rintro e w55 ⟨r, f, rfl, hr, hB⟩
        have HN := hid (HB.out.trans (hB.mono HB.out.size))
        have e1 := (Ie.DivIs.ng1 a0 a1 qH.out hr hq).symm
        subst e1
        clear hB HB hr
        have HB := HN
        clear HN
        go_wp2_with fail
        refine (VD.out a (Ie.ng b) _ HB.out a0 a1 nb0 nb1).mono ?_
        rintro e w56 ⟨r, f, rfl, hr, hB⟩
        have HN := hid (HB.out.trans (hB.mono HB.out.size))
        have e1 := (Ie.DivIs.ng2 b0 b1 qH.out hr hq).symm
        subst e1
        clear hB HB hr
        have HB := HN
        clear HN
        cases hna : Ie.isn a
        · have ANT := Ib.sign_andNot a a0 a1
          rw [← Ie.ab] at ANT
          have le : ¬ 9218868437227405312 < Ie.ab a := by
            rw [Ie.isn, decide_eq_false_iff_not] at hna
            exact hna
          generalize hab : Ie.ab a = xa at *
          clear hab
          go_wp2_with fail
          refine (MD.out a 4607182418800017408 _ HB.out a0 a1 (by omega) (by omega)).mono ?_
          rintro e w57 ⟨r, f, rfl, hr, hB⟩
          have HN := hid (HB.out.trans (hB.mono HB.out.size))
          have e1 := (Ie.mul_1 a0 a1 hna hr).symm
          subst e1
          clear hB HB hr
          have HB := HN
          clear HN
          go_wp2_with fail
          refine (VD.out a 4607182418800017408 _ HB.out a0 a1 (by omega) (by omega)).mono ?_
          rintro e w58 ⟨r, f, rfl, hr, hB⟩
          have HN := hid (HB.out.trans (hB.mono HB.out.size))
          have e1 := (Ie.div_1 a0 a1 hna hr).symm
          subst e1
          clear hB HB hr
          have HB := HN
          clear HN
          go_wp2_with fail
          refine (SD.out a 0 _ HB.out a0 a1 (by omega) (by omega)).mono ?_
          rintro e w59 ⟨r, f, rfl, hr, hB⟩
          have HN := hid (HB.out.trans (hB.mono HB.out.size))
          have e1 := (Ie.add_nz a0 a1 hna (show Ie.AddIs a 9223372036854775808 r f from hr)).symm
          subst e1
          clear hB HB hr
          have HB := HN
          clear HN
          go_wp2_with fail
          refine (AD.out a 9223372036854775808 _ HB.out a0 a1 (by omega) (by omega)).mono ?_
          rintro e w60 ⟨r, f, rfl, hr, hB⟩
          have HN := hid (HB.out.trans (hB.mono HB.out.size))
          have e1 := (Ie.add_nz a0 a1 hna hr).symm
          subst e1
          clear hB HB hr
          have HB := HN
          clear HN
          go_wp2_with fail
          go_ret
          exact ⟨rfl, HB.out⟩
        · have ANT := Ib.sign_andNot a a0 a1
          rw [← Ie.ab] at ANT
          have le : 9218868437227405312 < Ie.ab a := by
            rw [Ie.isn, decide_eq_true_eq] at hna
            exact hna
          generalize hab : Ie.ab a = xa at *
          clear hab
          go_wp2_with fail
          go_ret
          exact ⟨rfl, HB.out⟩
end Go.Proofs.YtjebdobopechfabDoor
