import Derived.Test.YtjebdobopechfaaDoorXSL
import Derived.Test.YtjebdobopechfaaDoorYSpec
import Derived.Test.YtjebdobopechfaaDoorYNear
import Derived.Test.YtjebdobopechfaaDoorYLO
import Derived.Test.YtjebdobopechfaaDoorYWorks
/-
  SoftNearSum (made by mkysum.py).
-/
namespace Go.Proofs.YtjebdobopechfaaDoor
open Go Go.RowKit Go.Deep

theorem Ie.uv_us (d : Int) : Ie.uv d = Ie.us d := rfl

theorem Ie.us_ng (d : Int) (h0 : 0 ≤ d) (h1 : d < 18446744073709551616) : Ie.us (Ie.ng d) = -Ie.us d ∧ Ie.ab (Ie.ng d) = Ie.ab d := by
  have hd := Ie.sb_ab d h0 h1
  have b := Ie.ab_bd d
  have e : Ie.ng d = Ie.sb (!Ie.ngd d) (Ie.ab d) := by
    rcases (show d < 9223372036854775808 ∨ 9223372036854775808 ≤ d by omega) with h | h
    · rw [Ie.ng, if_pos h, Ie.ngd, decide_eq_false (by omega), Ie.ab]; simp only [Ie.sb, Bool.not_false, if_true]; omega
    · rw [Ie.ng, if_neg (by omega), Ie.ngd, decide_eq_true (by omega), Ie.ab]; simp only [Ie.sb, Bool.not_true, Bool.false_eq_true, if_false]; omega
  have g := Ie.ab_sb (!Ie.ngd d) (Ie.ab d) b.1 b.2
  rw [← e] at g
  exact ⟨by rw [Ie.us, g.1, g.2, Ie.sn_not, ← Ie.us], g.1⟩

set_option maxRecDepth 100000 in
set_option maxHeartbeats 8000000 in
theorem nearSum_any (a b : Int) (w : World) (a0 : 0 ≤ a) (a1 : a < 18446744073709551616) (b0 : 0 ≤ b) (b1 : b < 18446744073709551616) (hT : Tab w) :
    Calls Tryd.prog 4 #[.int .u64 a, .int .u64 b] w fun e w' => e = .returned (.bool true) ∧ Below w.heap.size w w' := by
  have WK := hid (fun (wx : World) => works_any wx)
  have AL := hid (fun (wx : World) (hx : Below w.heap.size w wx) => softAdd_any 4607182418800017408 4611686018427387904 wx (by omega) (by omega) (by omega) (by omega) (hT.below hx))
  have SL := hid (fun (wx : World) (hx : Below w.heap.size w wx) => softSub_any 4613937818241073152 4611686018427387904 wx (by omega) (by omega) (by omega) (by omega) (hT.below hx))
  have FA := hid (fun (wx : World) => yfinite_any a wx a0 a1)
  have FB := hid (fun (wx : World) => yfinite_any b wx b0 b1)
  by_cases fa : Ie.ab a < 9218868437227405312
  · rw [decide_eq_true fa] at FA
    by_cases fb : Ie.ab b < 9218868437227405312
    · rw [decide_eq_true fb] at FB
      have UA := hid (fun (wx : World) => units_any a wx a0 a1 (Ie.fin_not fa).1)
      have UB := hid (fun (wx : World) => units_any b wx b0 b1 (Ie.fin_not fb).1)
      have AD := hid (fun (wx : World) (hx : Below w.heap.size w wx) => softAdd_any a b wx a0 a1 b0 b1 (hT.below hx))
      have SD := hid (fun (wx : World) (hx : Below w.heap.size w wx) => softSub_any a b wx a0 a1 b0 b1 (hT.below hx))
      have ON := hid (fun (wx : World) => one_any wx)
      have ua := Ie.un_lt_inf (Ie.ab_bd a).1 (Int.le_of_lt fa)
      have ub := Ie.un_lt_inf (Ie.ab_bd b).1 (Int.le_of_lt fb)
      have ua0 := Ie.un_nn (Ie.ab_bd a).1
      have ub0 := Ie.un_nn (Ie.ab_bd b).1
      have m9 := Nm.two_mono (show 2100 ≤ 9000 by omega)
      have e21 : (2 : Int) ^ 2100 = 2 * 2 ^ 2099 := Nm.two_succ 2099
      have p21 := Nm.two_pos 2099
      have PL : Hid (∀ (wx : World) (n2 : Bool) (pa pb : Option Addr) (oa ob : List Int) (B B' : Nat), Ans B wx pa oa (Ie.un (Ie.ab a)) → Ans B' wx pb ob (Ie.un (Ie.ab b)) → Calls Tryd.prog 19 #[numOf (Ie.ngd a) pa oa.length oa.length, numOf n2 pb ob.length ob.length] wx fun e w' => NumIs (Ie.us a + Ie.sn n2 (Ie.un (Ie.ab b))) wx e w') := by
        intro wx n2 pa pb oa ob B B' A1 A2
        exact yplus_any _ n2 pa pb oa ob _ _ B B' wx A1 A2 (by omega) (by omega)
      have NE : Hid (∀ (wx : World) (n : Bool) (p q : Option Addr) (os qs : List Int) (V S r : Int) (z : Bool) (B B' : Nat), Ans B wx p os V → Ans B' wx q qs 1 → Ie.sn n V = S → 0 ≤ V → (S = Ie.us a + Ie.us b ∨ S = Ie.us a - Ie.us b) → Ie.RS S 1 z r → Calls Tryd.prog 18 #[numOf n p os.length os.length, .int .u64 r, numOf false q qs.length qs.length] wx fun e w' => e = .returned (.bool true) ∧ Below wx.heap.size wx w') := by
        intro wx n p q os qs V S r z B B' A1 A2 hz v0 hS hR
        have vb : V < 2 ^ 9000 := by
          have h1 := Ie.az_sn n V v0
          rw [hz] at h1
          rw [Ie.us, Ie.us] at hS
          generalize Ie.un (Ie.ab a) = X at *
          generalize Ie.un (Ie.ab b) = Y at *
          have : V ≤ X + Y := by
            rw [← h1]
            cases Ie.ngd a <;> cases Ie.ngd b <;> simp [Ie.sn, Ie.az] at hS ⊢ <;> split <;> rcases hS with hS | hS <;> omega
          omega
        obtain ⟨h1, h2, ⟨h3, h4⟩, h5, h6, h7⟩ := hR.near (by omega)
        refine nearest_true n false p q os qs V 1 B B' r wx A1 A2 vb (by have := Nm.two_mono (show 1 ≤ 2100 by omega); have e : (2 : Int) ^ 1 = 2 := rfl; omega) h3 h4 h5 h6 h7 ?_ ?_
        · rw [hz]; exact h1
        · rw [hz]; exact h2
      have R1 : Hid (∀ r f, Ie.AddIs a b r f → ∃ z, Ie.RS (Ie.us a + Ie.us b) 1 z r) := fun r f h => ⟨_, h.rs fa fb⟩
      have R2 : Hid (∀ r f, Ie.AddIs a (Ie.ng b) r f → ∃ z, Ie.RS (Ie.us a - Ie.us b) 1 z r) := by
        intro r f h
        obtain ⟨g1, g2⟩ := Ie.us_ng b b0 b1
        have := h.rs fa (by rw [Ie.fin, g2]; exact fb)
        rw [Ie.uv_us, Ie.uv_us, g1, ← Int.sub_eq_add_neg] at this
        exact ⟨_, this⟩
      have EB := hid (show Ie.sn (Ie.ngd b) (Ie.un (Ie.ab b)) = Ie.us b from rfl)
      have EN : Hid (Ie.us a + Ie.sn (!Ie.ngd b) (Ie.un (Ie.ab b)) = Ie.us a - Ie.us b) := by
        rw [Hid, Ie.sn_not, ← Ie.us]; omega
      simp only [numOf] at PL NE
      clear ua ub ua0 ub0 m9 e21 p21 fa fb hT
      go_enter Tryd.func4, Tryd.ntmps4
      go_wp2_with fail
      refine (WK.out _).mono ?_
      rintro e w1 ⟨rfl, hB1⟩
      have HB1 := hid hB1
      clear hB1 WK
      go_wp2_with fail
      refine (AL.out w1 HB1.out).mono ?_
      rintro e w2 ⟨r, f, rfl, hr, hB2⟩
      obtain rfl := Ie.add_12 hr
      have HB2 := hid (HB1.out.trans (hB2.mono HB1.out.size))
      clear hr hB2 AL HB1
      go_wp2_with fail
      refine (SL.out w2 HB2.out).mono ?_
      rintro e w3 ⟨r, f, rfl, hr, hB3⟩
      obtain rfl := Ie.sub_32 hr
      have HB3 := hid (HB2.out.trans (hB3.mono HB2.out.size))
      clear hr hB3 SL HB2
      go_wp2_with fail
      refine (FA.out _).mono ?_
      rintro e wz ⟨rfl, hz⟩
      replace hz := hz.symm
      subst hz
      go_wp2_with fail
      refine (FB.out _).mono ?_
      rintro e wz ⟨rfl, hz⟩
      replace hz := hz.symm
      subst hz
      go_wp2_with fail
      refine (UA.out _).mono ?_
      rintro e w4 ⟨pa, oa, rfl, A1, hB4⟩
      have HB4 := hid (HB3.out.trans (hB4.mono HB3.out.size))
      have HA1 := hid A1
      simp only [numOf]
      clear A1 hB4 HB3 UA FA FB
      go_wp2_with fail
      have h5 := alloc_b w4 (.cells #[.bool (Ie.ngd a), .slice pa oa.length oa.length] 32)
      have X5 := Row2.new w4 32 (.bool (Ie.ngd a)) (.slice pa oa.length oa.length)
      have HB5 := hid (HB4.out.trans (h5.mono HB4.out.size))
      have HA5 := hid (HA1.out.below h5 (Nat.le_refl _))
      have HX5 := hid X5
      clear h5 X5 HB4 HA1
      generalize w4.alloc (.cells #[.bool (Ie.ngd a), .slice pa oa.length oa.length] 32) = w5 at *
      refine (UB.out _).mono ?_
      rintro e w6 ⟨pb, ob, rfl, A2, hB6⟩
      have HB6 := hid (HB5.out.trans (hB6.mono HB5.out.size))
      have HA6 := hid (HA5.out.below hB6 (Nat.le_refl _))
      have HX6 := hid (HX5.out.below hB6 HX5.out.lt)
      have HA2 := hid A2
      simp only [numOf]
      have lt6 := Nat.lt_of_lt_of_le HX5.out.lt hB6.size
      obtain ⟨⟨x0, x1⟩, -⟩ := HX6.out.cells
      clear A2 hB6 HB5 HA5 HX5 UB
      go_wp2_with fail
      have h7 := alloc_b w6 (.cells #[.bool (Ie.ngd b), .slice pb ob.length ob.length] 32)
      have Y7 := Row2.new w6 32 (.bool (Ie.ngd b)) (.slice pb ob.length ob.length)
      have HB7 := hid (HB6.out.trans (h7.mono HB6.out.size))
      have HA7 := hid (HA6.out.below h7 (Nat.le_refl _))
      have HC7 := hid (HA2.out.below h7 (Nat.le_refl _))
      have HX7 := hid (HX6.out.below h7 HX6.out.lt)
      have HY7 := hid Y7
      clear h7 Y7 HB6 HA6 HX6 HA2 lt6 x0 x1
      generalize w6.alloc (.cells #[.bool (Ie.ngd b), .slice pb ob.length ob.length] 32) = w7 at *
      obtain ⟨⟨x0, x1⟩, -⟩ := HX7.out.cells
      obtain ⟨⟨y0, y1⟩, -⟩ := HY7.out.cells
      refine (PL.out _ _ _ _ _ _ _ _ HA7.out HC7.out).mono ?_
      rintro e w8 ⟨n8, p8, o8, V8, rfl, A8, z8, v8, hB8⟩
      rw [EB.out] at z8
      have HB8 := hid (HB7.out.trans (hB8.mono HB7.out.size))
      have HD8 := hid hB8
      have HA8 := hid (And.intro A8 (And.intro z8 v8))
      simp only [numOf]
      clear A8 z8 v8 hB8
      go_wp2_with fail
      refine (AD.out _ HB8.out).mono ?_
      rintro e w9 ⟨r, f, rfl, hr, hB9⟩
      have HB9 := hid (HB8.out.trans (hB9.mono HB8.out.size))
      have HD9 := hid (HD8.out.trans (hB9.mono HD8.out.size))
      have HA9 := hid (And.intro (HA8.out.1.below hB9 (Nat.le_refl _)) HA8.out.2)
      have HR9 := hid (R1.out r f hr)
      clear hr hB9 HB8 HD8 HA8 AD R1
      go_wp2_with fail
      refine (ON.out _).mono ?_
      rintro e wa ⟨q, qs, rfl, AQ, hBa⟩
      have HBa := hid (HB9.out.trans (hBa.mono HB9.out.size))
      have HDa := hid (HD9.out.trans (hBa.mono HD9.out.size))
      obtain ⟨zz, hRS⟩ := HR9.out
      have N1 := hid (NE.out wa n8 p8 q o8 qs V8 _ r zz _ _ (HA9.out.1.below hBa (Nat.le_refl _)) AQ HA9.out.2.1 HA9.out.2.2 (.inl rfl) hRS)
      simp only [numOf]
      clear AQ hBa HB9 HD9 HA9 HR9 hRS
      go_wp2_with fail
      refine N1.out.mono ?_
      rintro e wb ⟨rfl, hBb⟩
      have HBb := hid (HBa.out.trans (hBb.mono HBa.out.size))
      have hd := HDa.out.trans (hBb.mono HDa.out.size)
      have HXb := hid (HX7.out.below hd HX7.out.lt)
      have HYb := hid (HY7.out.below hd HY7.out.lt)
      have HAb := hid (HA7.out.below hd (Nat.le_refl _))
      have HCb := hid (HC7.out.below hd (Nat.le_refl _))
      clear hBb hd N1 HBa HDa HX7 HY7 HA7 HC7 HB7 x0 x1 y0 y1
      obtain ⟨⟨x0, x1⟩, -⟩ := HXb.out.cells
      obtain ⟨⟨y0, y1⟩, -⟩ := HYb.out.cells
      go_wp2_with fail
      refine (PL.out _ _ _ _ _ _ _ _ HAb.out HCb.out).mono ?_
      rintro e wc ⟨n8, p8, o8, V8, rfl, A8, z8, v8, hB8⟩
      rw [EN.out] at z8
      have HBc := hid (HBb.out.trans (hB8.mono HBb.out.size))
      have HA8 := hid (And.intro A8 (And.intro z8 v8))
      simp only [numOf]
      clear A8 z8 v8 hB8 HBb HXb HYb HAb HCb PL x0 x1 y0 y1
      go_wp2_with fail
      refine (SD.out _ HBc.out).mono ?_
      rintro e wd ⟨r', f', rfl, hr, hB9⟩
      have HBd := hid (HBc.out.trans (hB9.mono HBc.out.size))
      have HA9 := hid (And.intro (HA8.out.1.below hB9 (Nat.le_refl _)) HA8.out.2)
      have HR9 := hid (R2.out r' f' hr)
      clear hr hB9 HA8 SD R2 HBc
      go_wp2_with fail
      refine (ON.out _).mono ?_
      rintro e we ⟨q', qs', rfl, AQ, hBe⟩
      have HBe := hid (HBd.out.trans (hBe.mono HBd.out.size))
      obtain ⟨zz', hRS⟩ := HR9.out
      have N2 := hid (NE.out we n8 p8 q' o8 qs' V8 _ r' zz' _ _ (HA9.out.1.below hBe (Nat.le_refl _)) AQ HA9.out.2.1 HA9.out.2.2 (.inr rfl) hRS)
      simp only [numOf]
      clear AQ hBe HBd HA9 HR9 hRS NE ON
      go_wp2_with fail
      refine N2.out.mono ?_
      rintro e wf ⟨rfl, hBf⟩
      have HBf := hid (HBe.out.trans (hBf.mono HBe.out.size))
      clear hBf N2 HBe
      go_wp2_with fail
      go_ret
      exact ⟨rfl, HBf.out⟩
    · rw [decide_eq_false fb] at FB
      clear fa fb hT
      go_enter Tryd.func4, Tryd.ntmps4
      go_wp2_with fail
      refine (WK.out _).mono ?_
      rintro e w1 ⟨rfl, hB1⟩
      have HB1 := hid hB1
      clear hB1 WK
      go_wp2_with fail
      refine (AL.out w1 HB1.out).mono ?_
      rintro e w2 ⟨r, f, rfl, hr, hB2⟩
      obtain rfl := Ie.add_12 hr
      have HB2 := hid (HB1.out.trans (hB2.mono HB1.out.size))
      clear hr hB2 AL HB1
      go_wp2_with fail
      refine (SL.out w2 HB2.out).mono ?_
      rintro e w3 ⟨r, f, rfl, hr, hB3⟩
      obtain rfl := Ie.sub_32 hr
      have HB3 := hid (HB2.out.trans (hB3.mono HB2.out.size))
      clear hr hB3 SL HB2
      go_wp2_with fail
      refine (FA.out _).mono ?_
      rintro e wz ⟨rfl, hz⟩
      replace hz := hz.symm
      subst hz
      go_wp2_with fail
      refine (FB.out _).mono ?_
      rintro e wz ⟨rfl, hz⟩
      replace hz := hz.symm
      subst hz
      go_wp2_with fail
      go_ret
      exact ⟨rfl, HB3.out⟩
  · rw [decide_eq_false fa] at FA
    clear fa hT
    go_enter Tryd.func4, Tryd.ntmps4
    go_wp2_with fail
    refine (WK.out _).mono ?_
    rintro e w1 ⟨rfl, hB1⟩
    have HB1 := hid hB1
    clear hB1 WK
    go_wp2_with fail
    refine (AL.out w1 HB1.out).mono ?_
    rintro e w2 ⟨r, f, rfl, hr, hB2⟩
    obtain rfl := Ie.add_12 hr
    have HB2 := hid (HB1.out.trans (hB2.mono HB1.out.size))
    clear hr hB2 AL HB1
    go_wp2_with fail
    refine (SL.out w2 HB2.out).mono ?_
    rintro e w3 ⟨r, f, rfl, hr, hB3⟩
    obtain rfl := Ie.sub_32 hr
    have HB3 := hid (HB2.out.trans (hB3.mono HB2.out.size))
    clear hr hB3 SL HB2
    go_wp2_with fail
    refine (FA.out _).mono ?_
    rintro e wz ⟨rfl, hz⟩
    replace hz := hz.symm
    subst hz
    go_wp2_with fail
    go_ret
    exact ⟨rfl, HB3.out⟩
end Go.Proofs.YtjebdobopechfaaDoor
