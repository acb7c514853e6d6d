import Derived.Test.YtjebdobopechfabDoorYSW
import Derived.Test.YtjebdobopechfabDoorXTwos
/-
  SoftTwoSum (made by mktwosum.py).
-/
namespace Go.Proofs.YtjebdobopechfabDoor
open Go Go.RowKit Go.Deep

theorem Ie.us_az (d : Int) : Ie.az (Ie.us d) = Ie.un (Ie.ab d) := Ie.az_sn _ _ (Ie.un_nn (Ie.ab_bd d).1)

theorem Ie.us_sum {n : Bool} {V p q : Int} (h : Ie.sn n V = Ie.us p + Ie.us q) (v : 0 ≤ V) (fp : Ie.fin p) (fq : Ie.fin q) : V < 2 ^ 2100 := by
  have u1 := Ie.un_lt_inf (Ie.ab_bd p).1 (Int.le_of_lt fp)
  have u2 := Ie.un_lt_inf (Ie.ab_bd q).1 (Int.le_of_lt fq)
  have g := Ie.az_sn n V v
  rw [h] at g
  have a1 := Ie.us_az p
  have a2 := Ie.us_az q
  have e21 : (2 : Int) ^ 2100 = 2 * 2 ^ 2099 := Nm.two_succ 2099
  simp only [Ie.az] at g a1 a2
  split at g <;> split at a1 <;> split at a2 <;> omega

set_option maxRecDepth 100000 in
set_option maxHeartbeats 8000000 in
theorem twoSum_any (a b : Int) (w : World) (a0 : 0 ≤ a) (a1 : a < 18446744073709551616) (b0 : 0 ≤ b) (b1 : b < 18446744073709551616) (hT : Tab w) :
    Calls Tryd.prog 5 #[.int .u64 a, .int .u64 b] w fun e w' => e = .returned (.bool true) ∧ Below w.heap.size w w' := by
  have WK := hid (fun (wx : World) => works_any wx)
  have AL := hid (fun (wx : World) (hx : Below w.heap.size w wx) => adds_any wx (hT.below hx))
  have MA := hid (fun (wx : World) => modest_any a wx a0 a1)
  have MB := hid (fun (wx : World) => modest_any b wx b0 b1)
  have U := hid (fun (d : Int) (wx : World) (d0 : 0 ≤ d) (d1 : d < 18446744073709551616) (hd : Ie.fin d) => units_any d wx d0 d1 (Ie.fin_not hd).1)
  have AD := hid (fun (x y : Int) (wx : World) (hx : Below w.heap.size w wx) (x0 : 0 ≤ x) (x1 : x < 18446744073709551616) (y0 : 0 ≤ y) (y1 : y < 18446744073709551616) => softAdd_any x y wx x0 x1 y0 y1 (hT.below hx))
  have SD := hid (fun (x y : Int) (wx : World) (hx : Below w.heap.size w wx) (x0 : 0 ≤ x) (x1 : x < 18446744073709551616) (y0 : 0 ≤ y) (y1 : y < 18446744073709551616) => softSub_any x y wx x0 x1 y0 y1 (hT.below hx))
  have P : Hid (∀ (x y : Int) (wx : World) (px py : Option Addr) (ox oy : List Int) (B B' : Nat), Ans B wx px ox (Ie.un (Ie.ab x)) → Ans B' wx py oy (Ie.un (Ie.ab y)) → Ie.fin x → Ie.fin y → Calls Tryd.prog 14 #[numOf (Ie.ngd x) px ox.length ox.length, numOf (Ie.ngd y) py oy.length oy.length] wx fun e w' => NumIs (Ie.us x + Ie.us y) wx e w') := by
    intro x y wx px py ox oy B B' A1 A2 fx fy
    have u1 := Ie.un_lt_inf (Ie.ab_bd x).1 (Int.le_of_lt fx)
    have u2 := Ie.un_lt_inf (Ie.ab_bd y).1 (Int.le_of_lt fy)
    have m9 := Nm.two_mono (show 2099 ≤ 9000 by omega)
    exact yplus_any _ _ px py ox oy _ _ B B' wx A1 A2 (by omega) (by omega)
  have FI : Hid (∀ (d : Int) (wx : World), 0 ≤ d → d < 18446744073709551616 → Ie.fin d → Calls Tryd.prog 11 #[.int .u64 d] wx fun e w' => e = .returned (.bool true) ∧ w' = wx) := by
    intro d wx d0 d1 hd
    have := yfinite_any d wx d0 d1
    rw [decide_eq_true (show Ie.ab d < 9218868437227405312 from hd)] at this
    exact this
  have SM : Hid (∀ (x y z t : Int) (wx : World) (n1 n2 : Bool) (px py : Option Addr) (ox oy : List Int) (V1 V2 : Int) (B B' : Nat), Ans B wx px ox V1 → Ans B' wx py oy V2 → Ie.sn n1 V1 = Ie.us x + Ie.us y → Ie.sn n2 V2 = Ie.us z + Ie.us t → 0 ≤ V1 → 0 ≤ V2 → Ie.fin x → Ie.fin y → Ie.fin z → Ie.fin t → Ie.us x + Ie.us y = Ie.us z + Ie.us t →
      Calls Tryd.prog 21 #[numOf n1 px ox.length ox.length, numOf n2 py oy.length oy.length] wx fun e w' => e = .returned (.bool true) ∧ Below wx.heap.size wx w') := by
    intro x y z t wx n1 n2 px py ox oy V1 V2 B B' A1 A2 h1 h2 v1 v2 fx fy fz ft he
    have m21 := Nm.two_mono (show 2100 ≤ 9000 by omega)
    have c1 := Ie.us_sum h1 v1 fx fy
    have c2 := Ie.us_sum h2 v2 fz ft
    have := same_any n1 n2 px py ox oy V1 V2 B B' wx A1 A2 (by omega) (by omega)
    rw [h1, h2, decide_eq_true he] at this
    exact this
  have TS : Hid (∀ (s bb t da db ee f1 f2 f3 f4 f5 f6 : Int), Ie.ab a < 9209861237972664320 → Ie.ab b < 9209861237972664320 → (0 ≤ bb ∧ bb < 18446744073709551616) → (0 ≤ t ∧ t < 18446744073709551616) → Ie.AddIs a b s f1 → Ie.AddIs s (Ie.ng a) bb f2 → Ie.AddIs s (Ie.ng bb) t f3 → Ie.AddIs a (Ie.ng t) da f4 → Ie.AddIs b (Ie.ng bb) db f5 → Ie.AddIs da db ee f6 → Ie.fin s ∧ Ie.fin ee ∧ Ie.us a + Ie.us b = Ie.us s + Ie.us ee) := by
    intro s bb t da db ee f1 f2 f3 f4 f5 f6 ma mb x1 x2 h1 h2 h3 h4 h5 h6
    exact Ie.twoSum a0 a1 ma mb x1 x2 h1 h2 h3 h4 h5 h6
  simp only [numOf] at P SM
  clear hT
  by_cases ma : Ie.ab a < 9209861237972664320
  · rw [decide_eq_true ma] at MA
    by_cases mb : Ie.ab b < 9209861237972664320
    · rw [decide_eq_true mb] at MB
      have aF : Hid (Ie.fin a) := by rw [Hid, Ie.fin]; omega
      have bF : Hid (Ie.fin b) := by rw [Hid, Ie.fin]; omega
      have HM := hid (And.intro ma mb)
      clear ma mb
      go_enter Tryd.func5, Tryd.ntmps5
      go_wp2_with fail
      refine (WK.out _).mono ?_
      rintro e w1 ⟨rfl, hB1⟩
      have HB1 := hid hB1
      clear hB1 WK
      go_wp2_with fail
      refine (AL.out w1 HB1.out).mono ?_
      rintro e w2 ⟨rfl, hB2⟩
      have HB := hid (HB1.out.trans (hB2.mono HB1.out.size))
      clear hB2 AL HB1
      go_wp2_with fail
      refine (MA.out _).mono ?_
      rintro e wz ⟨rfl, hz⟩
      replace hz := hz.symm
      subst hz
      go_wp2_with fail
      refine (MB.out _).mono ?_
      rintro e wz ⟨rfl, hz⟩
      replace hz := hz.symm
      subst hz
      go_wp2_with fail
      refine (AD.out a b _ HB.out a0 a1 b0 b1).mono ?_
      rintro e w3 ⟨s, fs, rfl, hr, hB⟩
      have HN := hid (HB.out.trans (hB.mono HB.out.size))
      obtain ⟨s0, s1⟩ := Ie.AddIs.bd a0 a1 b0 b1 hr
      have sH := hid hr
      clear hB HB hr
      have HB := HN
      clear HN
      go_wp2_with fail
      refine (SD.out s a _ HB.out s0 s1 a0 a1).mono ?_
      rintro e w4 ⟨bb, fbb, rfl, hr, hB⟩
      have HN := hid (HB.out.trans (hB.mono HB.out.size))
      obtain ⟨bb0, bb1⟩ := Ie.AddIs.bd s0 s1 (Ie.ng_uv a a0 a1).2.2.2.1 (Ie.ng_uv a a0 a1).2.2.2.2 hr
      have bbH := hid hr
      clear hB HB hr
      have HB := HN
      clear HN
      go_wp2_with fail
      refine (SD.out s bb _ HB.out s0 s1 bb0 bb1).mono ?_
      rintro e w5 ⟨t, ft, rfl, hr, hB⟩
      have HN := hid (HB.out.trans (hB.mono HB.out.size))
      obtain ⟨t0, t1⟩ := Ie.AddIs.bd s0 s1 (Ie.ng_uv bb bb0 bb1).2.2.2.1 (Ie.ng_uv bb bb0 bb1).2.2.2.2 hr
      have tH := hid hr
      clear hB HB hr
      have HB := HN
      clear HN
      go_wp2_with fail
      refine (SD.out a t _ HB.out a0 a1 t0 t1).mono ?_
      rintro e w6 ⟨da, fda, rfl, hr, hB⟩
      have HN := hid (HB.out.trans (hB.mono HB.out.size))
      obtain ⟨da0, da1⟩ := Ie.AddIs.bd a0 a1 (Ie.ng_uv t t0 t1).2.2.2.1 (Ie.ng_uv t t0 t1).2.2.2.2 hr
      have daH := hid hr
      clear hB HB hr
      have HB := HN
      clear HN
      go_wp2_with fail
      refine (SD.out b bb _ HB.out b0 b1 bb0 bb1).mono ?_
      rintro e w7 ⟨db, fdb, rfl, hr, hB⟩
      have HN := hid (HB.out.trans (hB.mono HB.out.size))
      obtain ⟨db0, db1⟩ := Ie.AddIs.bd b0 b1 (Ie.ng_uv bb bb0 bb1).2.2.2.1 (Ie.ng_uv bb bb0 bb1).2.2.2.2 hr
      have dbH := hid hr
      clear hB HB hr
      have HB := HN
      clear HN
      go_wp2_with fail
      refine (AD.out da db _ HB.out da0 da1 db0 db1).mono ?_
      rintro e w8 ⟨ee, fee, rfl, hr, hB⟩
      have HN := hid (HB.out.trans (hB.mono HB.out.size))
      obtain ⟨ee0, ee1⟩ := Ie.AddIs.bd da0 da1 db0 db1 hr
      have eeH := hid hr
      clear hB HB hr
      have HB := HN
      clear HN
      obtain ⟨q1, q2, q3⟩ := TS.out s bb t da db ee fs fbb ft fda fdb fee HM.out.1 HM.out.2 ⟨bb0, bb1⟩ ⟨t0, t1⟩ sH.out bbH.out tH.out daH.out dbH.out eeH.out
      have sF := hid q1
      have eeF := hid q2
      have EQ := hid q3
      clear q1 q2 q3 TS HM sH bbH tH daH dbH eeH AD SD MA MB
      go_wp2_with fail
      refine (FI.out s _ s0 s1 sF.out).mono ?_
      rintro e wz ⟨rfl, hz⟩
      replace hz := hz.symm
      subst hz
      go_wp2_with fail
      refine (FI.out ee _ ee0 ee1 eeF.out).mono ?_
      rintro e wz ⟨rfl, hz⟩
      replace hz := hz.symm
      subst hz
      go_wp2_with fail
      refine (U.out a _ a0 a1 aF.out).mono ?_
      rintro e w9 ⟨pa, oa, rfl, Aa, hB⟩
      have HN := hid (HB.out.trans (hB.mono HB.out.size))
      have Ka := hid Aa
      clear hB HB Aa
      have HB := HN
      clear HN
      simp only [numOf]
      go_wp2_with fail
      refine (U.out b _ b0 b1 bF.out).mono ?_
      rintro e wa ⟨pb, ob, rfl, Ab, hB⟩
      have HN := hid (HB.out.trans (hB.mono HB.out.size))
      have LKa := hid (Ka.out.below hB (Nat.le_refl _))
      have Kb := hid Ab
      clear hB HB Ab
      clear Ka
      have Ka := LKa
      clear LKa
      have HB := HN
      clear HN
      simp only [numOf]
      go_wp2_with fail
      refine (P.out a b _ _ _ _ _ _ _ Ka.out Kb.out aF.out bF.out).mono ?_
      rintro e wb ⟨sx, px, ox, Vx, rfl, Ax, zx, vx, hB⟩
      have HN := hid (HB.out.trans (hB.mono HB.out.size))
      have Kx := hid (And.intro Ax (And.intro zx vx))
      clear hB HB Ax zx vx Ka Kb
      have HB := HN
      clear HN
      simp only [numOf]
      go_wp2_with fail
      refine (U.out s _ s0 s1 sF.out).mono ?_
      rintro e wc ⟨ps, os, rfl, As, hB⟩
      have HN := hid (HB.out.trans (hB.mono HB.out.size))
      have LKx := hid (And.intro (Kx.out.1.below hB (Nat.le_refl _)) Kx.out.2)
      have Ks := hid As
      clear hB HB As
      clear Kx
      have Kx := LKx
      clear LKx
      have HB := HN
      clear HN
      simp only [numOf]
      go_wp2_with fail
      refine (U.out ee _ ee0 ee1 eeF.out).mono ?_
      rintro e wd ⟨pe, oe, rfl, Ae, hB⟩
      have HN := hid (HB.out.trans (hB.mono HB.out.size))
      have LKx := hid (And.intro (Kx.out.1.below hB (Nat.le_refl _)) Kx.out.2)
      have LKs := hid (Ks.out.below hB (Nat.le_refl _))
      have Ke := hid Ae
      clear hB HB Ae
      clear Kx
      have Kx := LKx
      clear LKx
      clear Ks
      have Ks := LKs
      clear LKs
      have HB := HN
      clear HN
      simp only [numOf]
      go_wp2_with fail
      refine (P.out s ee _ _ _ _ _ _ _ Ks.out Ke.out sF.out eeF.out).mono ?_
      rintro e we ⟨sy, py, oy, Vy, rfl, Ay, zy, vy, hB⟩
      have HN := hid (HB.out.trans (hB.mono HB.out.size))
      have LKx := hid (And.intro (Kx.out.1.below hB (Nat.le_refl _)) Kx.out.2)
      have Ky := hid (And.intro Ay (And.intro zy vy))
      clear hB HB Ay zy vy Ks Ke
      clear Kx
      have Kx := LKx
      clear LKx
      have HB := HN
      clear HN
      simp only [numOf]
      go_wp2_with fail
      refine (SM.out a b s ee _ _ _ _ _ _ _ _ _ _ _ Kx.out.1 Ky.out.1 Kx.out.2.1 Ky.out.2.1 Kx.out.2.2 Ky.out.2.2 aF.out bF.out sF.out eeF.out EQ.out).mono ?_
      rintro e wf ⟨rfl, hB⟩
      have HN := hid (HB.out.trans (hB.mono HB.out.size))
      clear hB HB Kx Ky SM
      have HB := HN
      clear HN
      go_wp2_with fail
      go_ret
      exact ⟨rfl, HB.out⟩
    · rw [decide_eq_false mb] at MB
      clear ma mb
      go_enter Tryd.func5, Tryd.ntmps5
      go_wp2_with fail
      refine (WK.out _).mono ?_
      rintro e w1 ⟨rfl, hB1⟩
      have HB1 := hid hB1
      clear hB1 WK
      go_wp2_with fail
      refine (AL.out w1 HB1.out).mono ?_
      rintro e w2 ⟨rfl, hB2⟩
      have HB := hid (HB1.out.trans (hB2.mono HB1.out.size))
      clear hB2 AL HB1
      go_wp2_with fail
      refine (MA.out _).mono ?_
      rintro e wz ⟨rfl, hz⟩
      replace hz := hz.symm
      subst hz
      go_wp2_with fail
      refine (MB.out _).mono ?_
      rintro e wz ⟨rfl, hz⟩
      replace hz := hz.symm
      subst hz
      go_wp2_with fail
      go_ret
      exact ⟨rfl, HB.out⟩
  · rw [decide_eq_false ma] at MA
    clear ma
    go_enter Tryd.func5, Tryd.ntmps5
    go_wp2_with fail
    refine (WK.out _).mono ?_
    rintro e w1 ⟨rfl, hB1⟩
    have HB1 := hid hB1
    clear hB1 WK
    go_wp2_with fail
    refine (AL.out w1 HB1.out).mono ?_
    rintro e w2 ⟨rfl, hB2⟩
    have HB := hid (HB1.out.trans (hB2.mono HB1.out.size))
    clear hB2 AL HB1
    go_wp2_with fail
    refine (MA.out _).mono ?_
    rintro e wz ⟨rfl, hz⟩
    replace hz := hz.symm
    subst hz
    go_wp2_with fail
    go_ret
    exact ⟨rfl, HB.out⟩
end Go.Proofs.YtjebdobopechfabDoor
