import Derived.Test.YtjebdobopechfaaDoorXOps
import Derived.Test.YtjebdobopechfaaDoorYSLW
import Derived.Test.YtjebdobopechfaaDoorYNear
/-
  SoftNearQuotient (made by mkyquot.py).
-/
namespace Go.Proofs.YtjebdobopechfaaDoor
open Go Go.RowKit Go.Deep

set_option maxRecDepth 100000 in
theorem ysome_any (d : Int) (w : World) (h0 : 0 ≤ d) (h1 : d < 18446744073709551616) :
    Calls Tryd.prog 25 #[.int .u64 d] w fun e w' => e = .returned (.bool (decide (Ie.ab d < 9218868437227405312) && !(Ie.ab d == 0))) ∧ w' = w := by
  have B := Ib.sign_andNot d h0 h1
  have F := hid (yfinite_any d w h0 h1)
  rw [← Ie.ab] at B
  generalize Ie.ab d = x at *
  by_cases h : x < 9218868437227405312
  · rw [decide_eq_true h] at F ⊢
    clear h
    go_enter Tryd.func25, Tryd.ntmps25
    go_wp2_with fail
    refine F.out.mono ?_
    rintro e w' ⟨rfl, rfl⟩
    go_wp2_with fail
    go_ret
    exact ⟨by simp <;> rfl, rfl⟩
  · rw [decide_eq_false h] at F ⊢
    clear h
    go_enter Tryd.func25, Tryd.ntmps25
    go_wp2_with fail
    refine F.out.mono ?_
    rintro e w' ⟨rfl, rfl⟩
    go_wp2_with fail
    go_ret
    exact ⟨by simp, rfl⟩

theorem Ie.az_turn (na nb : Bool) (X Y t : Int) : Ie.az (Ie.sn na X - t * Ie.sn nb Y) = Ie.az (Ie.sn (na != nb) X - t * Y) := by
  cases nb
  · cases na <;> rfl
  · have : Ie.sn na X - t * Ie.sn true Y = -(Ie.sn (na != true) X - t * Y) := by
      cases na <;> simp only [Ie.sn, Int.mul_neg, Bool.false_eq_true, if_true, if_false, show (false != true) = true from rfl, show (true != true) = false from rfl] <;> omega
    rw [this, Ie.az_neg]

set_option maxRecDepth 100000 in
set_option maxHeartbeats 8000000 in
theorem nearQuot_any (a b : Int) (w : World) (a0 : 0 ≤ a) (a1 : a < 18446744073709551616) (b0 : 0 ≤ b) (b1 : b < 18446744073709551616) (hT : Tab w) :
    Calls Tryd.prog 6 #[.int .u64 a, .int .u64 b] w fun e w' => e = .returned (.bool true) ∧ Below w.heap.size w w' := by
  have WK := hid (fun (wx : World) => works_any wx)
  have DL := hid (fun (wx : World) (hx : Below w.heap.size w wx) => softDiv_any 4618441417868443648 4611686018427387904 wx (by omega) (by omega) (by omega) (by omega) (hT.below hx))
  have FA := hid (fun (wx : World) => yfinite_any a wx a0 a1)
  have FB := hid (fun (wx : World) => ysome_any b wx b0 b1)
  by_cases fa : Ie.ab a < 9218868437227405312
  · rw [decide_eq_true fa] at FA
    by_cases fb : Ie.ab b < 9218868437227405312 ∧ Ie.ab b ≠ 0
    · obtain ⟨fb, zb⟩ := fb
      have eb : (decide (Ie.ab b < 9218868437227405312) && !(Ie.ab b == 0)) = true := by simp [fb, zb]
      rw [eb] at FB
      have UA := hid (fun (wx : World) => units_any a wx a0 a1 (Ie.fin_not fa).1)
      have UB := hid (fun (wx : World) => units_any b wx b0 b1 (Ie.fin_not fb).1)
      have DV := hid (fun (wx : World) (hx : Below w.heap.size w wx) => softDiv_any a b wx a0 a1 b0 b1 (hT.below hx))
      have ua := Ie.un_lt_inf (Ie.ab_bd a).1 (Int.le_of_lt fa)
      have ub := Ie.un_lt_inf (Ie.ab_bd b).1 (Int.le_of_lt fb)
      have ubp : 0 < Ie.un (Ie.ab b) := Ie.un_pos (by have := (Ie.ab_bd b).1; omega)
      have m45 := Nm.two_mono (show 2099 ≤ 4500 by omega)
      have e21 : (2 : Int) ^ 2100 = 2 * 2 ^ 2099 := Nm.two_succ 2099
      have p21 := Nm.two_pos 2099
      have vb : Ie.un (Ie.ab a) * 2 ^ 1074 < 2 ^ 9000 := by
        have h1 : Ie.un (Ie.ab a) * 2 ^ 1074 < 2 ^ 2099 * 2 ^ 1074 := Int.mul_lt_mul_of_pos_right ua (Nm.two_pos 1074)
        rw [← Nm.two_add] at h1
        have := Nm.two_mono (show 2099 + 1074 ≤ 9000 by omega)
        omega
      have LI : Hid (∀ (wx : World) (p : Option Addr) (os : List Int) (B : Nat), Ans B wx p os (Ie.un (Ie.ab a)) → Calls Tryd.prog 23 #[numOf (Ie.ngd a) p os.length os.length, .int .i64 1074] wx fun e w' => NumAt (Ie.ngd a) (Ie.un (Ie.ab a) * 2 ^ 1074) wx e w') := by
        intro wx p os B A
        exact lifted_any _ p os _ 1074 1074 B wx A (by omega) rfl (by omega)
      have NE : Hid (∀ (wx : World) (p q : Option Addr) (os qs : List Int) (r f : Int) (B B' : Nat), Ans B wx p os (Ie.un (Ie.ab a) * 2 ^ 1074) → Ans B' wx q qs (Ie.un (Ie.ab b)) → Ie.DivIs a b r f → Calls Tryd.prog 18 #[numOf (Ie.ngd a) p os.length os.length, .int .u64 r, numOf (Ie.ngd b) q qs.length qs.length] wx fun e w' => e = .returned (.bool true) ∧ Below wx.heap.size wx w') := by
        intro wx p q os qs r f B B' A1 A2 hD
        obtain ⟨h1, h2, ⟨h3, h4⟩, h5, h6, h7⟩ := (hD.rs fa fb zb).near ubp
        refine nearest_true _ _ p q os qs _ _ B B' r wx A1 A2 vb (by omega) h3 h4 h5 h6 h7 ?_ ?_
        · rw [Ie.az_turn, Ie.az_turn]; exact h1
        · rw [Ie.az_turn, Ie.az_turn]; exact h2
      simp only [numOf] at LI NE
      clear ua ub ubp m45 e21 p21 vb fa fb zb eb hT
      generalize Ie.un (Ie.ab a) * 2 ^ 1074 = X at *
      go_enter Tryd.func6, Tryd.ntmps6
      go_wp2_with fail
      refine (WK.out _).mono ?_
      rintro e w1 ⟨rfl, hB1⟩
      have HB1 := hid hB1
      clear hB1 WK
      go_wp2_with fail
      refine (DL.out w1 HB1.out).mono ?_
      rintro e w2 ⟨r, f, rfl, hr, hB2⟩
      obtain rfl := Ie.div_62 hr
      have HB3 := hid (HB1.out.trans (hB2.mono HB1.out.size))
      clear hr hB2 DL HB1
      go_wp2_with fail
      refine (FA.out _).mono ?_
      rintro e wz ⟨rfl, hz⟩
      replace hz := hz.symm
      subst hz
      go_wp2_with fail
      refine (FB.out _).mono ?_
      rintro e wz ⟨rfl, hz⟩
      replace hz := hz.symm
      subst hz
      go_wp2_with fail
      refine (UA.out _).mono ?_
      rintro e w4 ⟨pa, oa, rfl, A1, hB4⟩
      have HB4 := hid (HB3.out.trans (hB4.mono HB3.out.size))
      have LI1 := hid (LI.out w4 pa oa _ A1)
      simp only [numOf]
      clear A1 hB4 HB3 UA FA FB LI
      go_wp2_with fail
      refine LI1.out.mono ?_
      rintro e w5 ⟨p5, o5, rfl, A5, hB5⟩
      have HB5 := hid (HB4.out.trans (hB5.mono HB4.out.size))
      have HA5 := hid A5
      simp only [numOf]
      clear A5 hB5 HB4 LI1
      go_wp2_with fail
      refine (DV.out _ HB5.out).mono ?_
      rintro e w6 ⟨r, f, rfl, hr, hB6⟩
      have HB6 := hid (HB5.out.trans (hB6.mono HB5.out.size))
      have HA6 := hid (HA5.out.below hB6 (Nat.le_refl _))
      have HR := hid hr
      clear hr hB6 HB5 HA5 DV
      go_wp2_with fail
      refine (UB.out _).mono ?_
      rintro e w7 ⟨pb, ob, rfl, A7, hB7⟩
      have HB7 := hid (HB6.out.trans (hB7.mono HB6.out.size))
      have N1 := hid (NE.out w7 p5 pb o5 ob r f _ _ (HA6.out.below hB7 (Nat.le_refl _)) A7 HR.out)
      simp only [numOf]
      clear A7 hB7 HB6 HA6 HR NE UB
      go_wp2_with fail
      refine N1.out.mono ?_
      rintro e w8 ⟨rfl, hB8⟩
      have HB8 := hid (HB7.out.trans (hB8.mono HB7.out.size))
      clear hB8 N1 HB7
      go_wp2_with fail
      go_ret
      exact ⟨rfl, HB8.out⟩
    · have eb : (decide (Ie.ab b < 9218868437227405312) && !(Ie.ab b == 0)) = false := by
        rcases (show ¬ Ie.ab b < 9218868437227405312 ∨ Ie.ab b = 0 by omega) with h | h
        · simp [h]
        · simp [h]
      rw [eb] at FB
      clear fa fb eb hT
      go_enter Tryd.func6, Tryd.ntmps6
      go_wp2_with fail
      refine (WK.out _).mono ?_
      rintro e w1 ⟨rfl, hB1⟩
      have HB1 := hid hB1
      clear hB1 WK
      go_wp2_with fail
      refine (DL.out w1 HB1.out).mono ?_
      rintro e w2 ⟨r, f, rfl, hr, hB2⟩
      obtain rfl := Ie.div_62 hr
      have HB3 := hid (HB1.out.trans (hB2.mono HB1.out.size))
      clear hr hB2 DL HB1
      go_wp2_with fail
      refine (FA.out _).mono ?_
      rintro e wz ⟨rfl, hz⟩
      replace hz := hz.symm
      subst hz
      go_wp2_with fail
      refine (FB.out _).mono ?_
      rintro e wz ⟨rfl, hz⟩
      replace hz := hz.symm
      subst hz
      go_wp2_with fail
      go_ret
      exact ⟨rfl, HB3.out⟩
  · rw [decide_eq_false fa] at FA
    clear fa hT
    go_enter Tryd.func6, Tryd.ntmps6
    go_wp2_with fail
    refine (WK.out _).mono ?_
    rintro e w1 ⟨rfl, hB1⟩
    have HB1 := hid hB1
    clear hB1 WK
    go_wp2_with fail
    refine (DL.out w1 HB1.out).mono ?_
    rintro e w2 ⟨r, f, rfl, hr, hB2⟩
    obtain rfl := Ie.div_62 hr
    have HB3 := hid (HB1.out.trans (hB2.mono HB1.out.size))
    clear hr hB2 DL HB1
    go_wp2_with fail
    refine (FA.out _).mono ?_
    rintro e wz ⟨rfl, hz⟩
    replace hz := hz.symm
    subst hz
    go_wp2_with fail
    go_ret
    exact ⟨rfl, HB3.out⟩
end Go.Proofs.YtjebdobopechfaaDoor
