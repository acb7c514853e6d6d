import Derived.Test.YtjebdobopechfabDoorYSX
import Derived.Test.YtjebdobopechfabDoorXTwos
/-
  SoftTwoProduct (made by mktwoprod.py).
-/
namespace Go.Proofs.YtjebdobopechfabDoor
open Go Go.RowKit Go.Deep

theorem Ie.us_az (d : Int) : Ie.az (Ie.us d) = Ie.un (Ie.ab d) := Ie.az_sn _ _ (Ie.un_nn (Ie.ab_bd d).1)

theorem Ie.us_sum {n : Bool} {V p q : Int} (h : Ie.sn n V = Ie.us p + Ie.us q) (v : 0 ≤ V) (fp : Ie.fin p) (fq : Ie.fin q) : V < 2 ^ 2100 := by
  have u1 := Ie.un_lt_inf (Ie.ab_bd p).1 (Int.le_of_lt fp)
  have u2 := Ie.un_lt_inf (Ie.ab_bd q).1 (Int.le_of_lt fq)
  have g := Ie.az_sn n V v
  rw [h] at g
  have a1 := Ie.us_az p
  have a2 := Ie.us_az q
  have e21 : (2 : Int) ^ 2100 = 2 * 2 ^ 2099 := Nm.two_succ 2099
  simp only [Ie.az] at g a1 a2
  split at g <;> split at a1 <;> split at a2 <;> omega

set_option maxRecDepth 100000 in
set_option maxHeartbeats 8000000 in
theorem twoProd_any (a b : Int) (w : World) (a0 : 0 ≤ a) (a1 : a < 18446744073709551616) (b0 : 0 ≤ b) (b1 : b < 18446744073709551616) (hT : Tab w) :
    Calls Tryd.prog 6 #[.int .u64 a, .int .u64 b] w fun e w' => e = .returned (.bool true) ∧ Below w.heap.size w w' := by
  have WK := hid (fun (wx : World) => works_any wx)
  have ML := hid (fun (wx : World) (hx : Below w.heap.size w wx) => softMul_any 4613937818241073152 4611686018427387904 wx (by omega) (by omega) (by omega) (by omega) (hT.below hx))
  have FL := hid (fun (wx : World) (hx : Below w.heap.size w wx) => softFma_any 4611686018427387904 4613937818241073152 4613937818241073152 wx (by omega) (by omega) (by omega) (by omega) (by omega) (by omega) (hT.below hx))
  have FA := hid (fun (wx : World) => yfinite_any a wx a0 a1)
  have FB := hid (fun (wx : World) => yfinite_any b wx b0 b1)
  have NG := hid (fun (d : Int) (wx : World) (d0 : 0 ≤ d) (d1 : d < 18446744073709551616) => neg_any d wx d0 d1)
  have U := hid (fun (d : Int) (wx : World) (d0 : 0 ≤ d) (d1 : d < 18446744073709551616) (hd : Ie.fin d) => units_any d wx d0 d1 (Ie.fin_not hd).1)
  have MD := hid (fun (x y : Int) (wx : World) (hx : Below w.heap.size w wx) (x0 : 0 ≤ x) (x1 : x < 18446744073709551616) (y0 : 0 ≤ y) (y1 : y < 18446744073709551616) => softMul_any x y wx x0 x1 y0 y1 (hT.below hx))
  have FD := hid (fun (x y z : Int) (wx : World) (hx : Below w.heap.size w wx) (x0 : 0 ≤ x) (x1 : x < 18446744073709551616) (y0 : 0 ≤ y) (y1 : y < 18446744073709551616) (z0 : 0 ≤ z) (z1 : z < 18446744073709551616) => softFma_any x y z wx x0 x1 y0 y1 z0 z1 (hT.below hx))
  have P : Hid (∀ (x y : Int) (wx : World) (px py : Option Addr) (ox oy : List Int) (B B' : Nat), Ans B wx px ox (Ie.un (Ie.ab x)) → Ans B' wx py oy (Ie.un (Ie.ab y)) → Ie.fin x → Ie.fin y → Calls Tryd.prog 14 #[numOf (Ie.ngd x) px ox.length ox.length, numOf (Ie.ngd y) py oy.length oy.length] wx fun e w' => NumIs (Ie.us x + Ie.us y) wx e w') := by
    intro x y wx px py ox oy B B' A1 A2 fx fy
    have u1 := Ie.un_lt_inf (Ie.ab_bd x).1 (Int.le_of_lt fx)
    have u2 := Ie.un_lt_inf (Ie.ab_bd y).1 (Int.le_of_lt fy)
    have m9 := Nm.two_mono (show 2099 ≤ 9000 by omega)
    exact yplus_any _ _ px py ox oy _ _ B B' wx A1 A2 (by omega) (by omega)
  have FI : Hid (∀ (d : Int) (wx : World), 0 ≤ d → d < 18446744073709551616 → Ie.fin d → Calls Tryd.prog 11 #[.int .u64 d] wx fun e w' => e = .returned (.bool true) ∧ w' = wx) := by
    intro d wx d0 d1 hd
    have := yfinite_any d wx d0 d1
    rw [decide_eq_true (show Ie.ab d < 9218868437227405312 from hd)] at this
    exact this
  by_cases fa : Ie.ab a < 9218868437227405312
  · rw [decide_eq_true fa] at FA
    by_cases fb : Ie.ab b < 9218868437227405312
    · rw [decide_eq_true fb] at FB
      have DA := hid (fun (wx : World) => decode_any a wx a0 a1)
      have DB := hid (fun (wx : World) => decode_any b wx b0 b1)
      obtain ⟨-, ⟨ea0, ea1⟩, -, -⟩ := Ie.dec_f a fa
      obtain ⟨-, ⟨eb0, eb1⟩, -, -⟩ := Ie.dec_f b fb
      have T : Hid (∀ (wx : World) (px py : Option Addr) (ox oy : List Int) (B B' : Nat), Ans B wx px ox (Ie.un (Ie.ab a)) → Ans B' wx py oy (Ie.un (Ie.ab b)) → Calls Tryd.prog 18 #[numOf (Ie.ngd a) px ox.length ox.length, numOf (Ie.ngd b) py oy.length oy.length] wx fun e w' => NumIs (Ie.us a * Ie.us b) wx e w') := by
        intro wx px py ox oy B B' A1 A2
        have u1 := Ie.un_lt_inf (Ie.ab_bd a).1 (Int.le_of_lt fa)
        have u2 := Ie.un_lt_inf (Ie.ab_bd b).1 (Int.le_of_lt fb)
        have m9 := Nm.two_mono (show 2099 ≤ 4500 by omega)
        exact ytimes_any _ _ px py ox oy _ _ B B' wx A1 A2 (by omega) (by omega)
      have LI : Hid (∀ (x y : Int) (wx : World) (n : Bool) (p : Option Addr) (os : List Int) (V : Int) (B : Nat), Ans B wx p os V → Ie.sn n V = Ie.us x + Ie.us y → 0 ≤ V → Ie.fin x → Ie.fin y → Calls Tryd.prog 12 #[numOf n p os.length os.length, .int .i64 1074] wx fun e w' => NumAt n (V * 2 ^ 1074) wx e w') := by
        intro x y wx n p os V B A h v fx fy
        have c1 := Ie.us_sum h v fx fy
        have m21 := Nm.two_mono (show 2100 ≤ 4500 by omega)
        exact lifted_any n p os V 1074 1074 B wx A (by omega) rfl (by omega)
      have SM : Hid (∀ (x y : Int) (wx : World) (n1 n2 : Bool) (px py : Option Addr) (ox oy : List Int) (V1 V2 : Int) (B B' : Nat), Ans B wx px ox V1 → Ans B' wx py oy (V2 * 2 ^ 1074) → Ie.sn n1 V1 = Ie.us a * Ie.us b → Ie.sn n2 V2 = Ie.us x + Ie.us y → 0 ≤ V1 → 0 ≤ V2 → Ie.fin x → Ie.fin y → Ie.us a * Ie.us b = (Ie.us x + Ie.us y) * 2 ^ 1074 →
          Calls Tryd.prog 21 #[numOf n1 px ox.length ox.length, numOf n2 py oy.length oy.length] wx fun e w' => e = .returned (.bool true) ∧ Below wx.heap.size wx w') := by
        intro x y wx n1 n2 px py ox oy V1 V2 B B' A1 A2 h1 h2 v1 v2 fx fy he
        have c2 := Ie.us_sum h2 v2 fx fy
        have b2 : V2 * 2 ^ 1074 < 2 ^ 9000 := by
          have g : V2 * 2 ^ 1074 < 2 ^ 2100 * 2 ^ 1074 := Int.mul_lt_mul_of_pos_right c2 (Nm.two_pos 1074)
          rw [← Nm.two_add] at g
          have := Nm.two_mono (show 2100 + 1074 ≤ 9000 by omega)
          omega
        have e2 : Ie.sn n2 (V2 * 2 ^ 1074) = Ie.us a * Ie.us b := by rw [← Ie.sn_mul_right, h2, he]
        have b1 : V1 = V2 * 2 ^ 1074 := by
          have g1 := Ie.az_sn n1 V1 v1
          have g2 := Ie.az_sn n2 (V2 * 2 ^ 1074) (Int.mul_nonneg v2 (by have := Nm.two_pos 1074; omega))
          rw [h1] at g1
          rw [e2] at g2
          omega
        have := same_any n1 n2 px py ox oy V1 _ B B' wx A1 A2 (by omega) b2
        rw [h1, e2, decide_eq_true rfl] at this
        exact this
      have TP : -1074 ≤ Ie.de a + Ie.de b → Hid (∀ (p ee f1 f2 : Int), (0 ≤ p ∧ p < 18446744073709551616) → Ie.ab p ≠ 9218868437227405312 → Ie.MulIs a b p f1 → Ie.FmaIs a b (Ie.ng p) ee f2 → Ie.fin p ∧ Ie.fin ee ∧ Ie.us a * Ie.us b = (Ie.us p + Ie.us ee) * 2 ^ 1074) := by
        intro hx p ee f1 f2 hp hi h1 h2
        exact Ie.twoProd hp fa fb hi hx h1 h2
      simp only [numOf] at P SM T LI
      simp only [partsOf] at DA DB
      have aF := hid (show Ie.fin a from fa)
      have bF := hid (show Ie.fin b from fb)
      clear hT fa fb
      generalize Ie.de a = ea at *
      generalize Ie.de b = eb at *
      generalize decide (9223372036854775808 ≤ a) = sa at DA
      generalize decide (9223372036854775808 ≤ b) = sb at DB
      generalize Ie.cls a = ca at DA
      generalize Ie.cls b = cb at DB
      generalize Ie.dm a = ma at DA
      generalize Ie.dm b = mb at DB
      have FX : ∀ wx : World, (Instr.field 38 (.agg #[.bool sa, .int .i64 ca, .int .u64 ma, .int .i64 ea]) 3).run Tryd.prog wx = .ok (.int .i64 ea) wx := fun _ => by kernel_rfl
      have FY : ∀ wx : World, (Instr.field 38 (.agg #[.bool sb, .int .i64 cb, .int .u64 mb, .int .i64 eb]) 3).run Tryd.prog wx = .ok (.int .i64 eb) wx := fun _ => by kernel_rfl
      have WR : IntKind.i64.wrap (ea + eb) = ea + eb := by rw [IntKind.wrap_i64]; omega
      by_cases hx : ea + eb < -1074
      · clear TP
        go_enter Tryd.func6, Tryd.ntmps6
        go_wp2_with fail
        refine (WK.out _).mono ?_
        rintro e w1 ⟨rfl, hB1⟩
        have HB1 := hid hB1
        clear hB1 WK
        go_wp2_with fail
        refine (ML.out w1 HB1.out).mono ?_
        rintro e w2 ⟨r, f, rfl, hr, hB2⟩
        obtain rfl := Ie.mul_32 hr
        have HB2 := hid (HB1.out.trans (hB2.mono HB1.out.size))
        clear hr hB2 ML HB1
        go_wp2_with fail
        refine (FL.out w2 HB2.out).mono ?_
        rintro e w3 ⟨r, f, rfl, hr, hB3⟩
        obtain rfl := Ie.fma_233 hr
        have HB := hid (HB2.out.trans (hB3.mono HB2.out.size))
        clear hr hB3 FL HB2
        go_wp2_with fail
        refine (FA.out _).mono ?_
        rintro e wz ⟨rfl, hz⟩
        replace hz := hz.symm
        subst hz
        go_wp2_with fail
        refine (FB.out _).mono ?_
        rintro e wz ⟨rfl, hz⟩
        replace hz := hz.symm
        subst hz
        go_wp2_with fail
        refine (DA.out _).mono ?_
        rintro e w4 ⟨rfl, hB⟩
        have HN := hid (HB.out.trans (hB.mono HB.out.size))
        clear hB HB
        have HB := HN
        clear HN
        go_wp2_with fail
        refine (DB.out _).mono ?_
        rintro e w5 ⟨rfl, hB⟩
        have HN := hid (HB.out.trans (hB.mono HB.out.size))
        clear hB HB
        have HB := HN
        clear HN
        go_wp2_with fail
        go_ret
        exact ⟨rfl, HB.out⟩
      · replace TP := TP (by omega)
        go_enter Tryd.func6, Tryd.ntmps6
        go_wp2_with fail
        refine (WK.out _).mono ?_
        rintro e w1 ⟨rfl, hB1⟩
        have HB1 := hid hB1
        clear hB1 WK
        go_wp2_with fail
        refine (ML.out w1 HB1.out).mono ?_
        rintro e w2 ⟨r, f, rfl, hr, hB2⟩
        obtain rfl := Ie.mul_32 hr
        have HB2 := hid (HB1.out.trans (hB2.mono HB1.out.size))
        clear hr hB2 ML HB1
        go_wp2_with fail
        refine (FL.out w2 HB2.out).mono ?_
        rintro e w3 ⟨r, f, rfl, hr, hB3⟩
        obtain rfl := Ie.fma_233 hr
        have HB := hid (HB2.out.trans (hB3.mono HB2.out.size))
        clear hr hB3 FL HB2
        go_wp2_with fail
        refine (FA.out _).mono ?_
        rintro e wz ⟨rfl, hz⟩
        replace hz := hz.symm
        subst hz
        go_wp2_with fail
        refine (FB.out _).mono ?_
        rintro e wz ⟨rfl, hz⟩
        replace hz := hz.symm
        subst hz
        go_wp2_with fail
        refine (DA.out _).mono ?_
        rintro e w4 ⟨rfl, hB⟩
        have HN := hid (HB.out.trans (hB.mono HB.out.size))
        clear hB HB
        have HB := HN
        clear HN
        go_wp2_with fail
        refine (DB.out _).mono ?_
        rintro e w5 ⟨rfl, hB⟩
        have HN := hid (HB.out.trans (hB.mono HB.out.size))
        clear hB HB
        have HB := HN
        clear HN
        go_wp2_with fail
        refine (MD.out a b _ HB.out a0 a1 b0 b1).mono ?_
        rintro e w6 ⟨p, fp, rfl, hr, hB⟩
        have HN := hid (HB.out.trans (hB.mono HB.out.size))
        obtain ⟨p0, p1⟩ := Ie.MulIs.bd hr
        have pH := hid hr
        clear hB HB hr
        have HB := HN
        clear HN
        have ANT := Ib.sign_andNot p p0 p1
        rw [← Ie.ab] at ANT
        by_cases hp : Ie.ab p = 9218868437227405312
        · rw [hp] at ANT
          clear hp
          go_wp2_with fail
          go_ret
          exact ⟨rfl, HB.out⟩
        · have hp' : (Ie.ab p == 9218868437227405312) = false := by rw [beq_eq_false_iff_ne]; exact hp
          have HP := hid hp
          clear hp
          go_wp2_with fail
          refine (NG.out p _ p0 p1).mono ?_
          rintro e wz ⟨rfl, hz⟩
          replace hz := hz.symm
          subst hz
          go_wp2_with fail
          refine (FD.out a b (Ie.ng p) _ HB.out a0 a1 b0 b1 (Ie.ng_uv p p0 p1).2.2.2.1 (Ie.ng_uv p p0 p1).2.2.2.2).mono ?_
          rintro e w7 ⟨ee, fee, rfl, hr, hB⟩
          have HN := hid (HB.out.trans (hB.mono HB.out.size))
          obtain ⟨ee0, ee1⟩ := Ie.FmaIs.bd (Ie.ng_uv p p0 p1).2.2.2.1 (Ie.ng_uv p p0 p1).2.2.2.2 hr
          have eeH := hid hr
          clear hB HB hr
          have HB := HN
          clear HN
          obtain ⟨q1, q2, q3⟩ := TP.out p ee fp fee ⟨p0, p1⟩ HP.out pH.out eeH.out
          have pF := hid q1
          have eeF := hid q2
          have EQ := hid q3
          clear q1 q2 q3 TP HP pH eeH MD FD FA FB DA DB NG ANT hp'
          go_wp2_with fail
          refine (FI.out p _ p0 p1 pF.out).mono ?_
          rintro e wz ⟨rfl, hz⟩
          replace hz := hz.symm
          subst hz
          go_wp2_with fail
          refine (FI.out ee _ ee0 ee1 eeF.out).mono ?_
          rintro e wz ⟨rfl, hz⟩
          replace hz := hz.symm
          subst hz
          go_wp2_with fail
          refine (U.out a _ a0 a1 aF.out).mono ?_
          rintro e w9 ⟨pa, oa, rfl, Aa, hB⟩
          have HN := hid (HB.out.trans (hB.mono HB.out.size))
          have Ka := hid Aa
          clear hB HB Aa
          have HB := HN
          clear HN
          simp only [numOf]
          go_wp2_with fail
          refine (U.out b _ b0 b1 bF.out).mono ?_
          rintro e wa ⟨pb, ob, rfl, Ab, hB⟩
          have HN := hid (HB.out.trans (hB.mono HB.out.size))
          have LKa := hid (Ka.out.below hB (Nat.le_refl _))
          have Kb := hid Ab
          clear hB HB Ab
          clear Ka
          have Ka := LKa
          clear LKa
          have HB := HN
          clear HN
          simp only [numOf]
          go_wp2_with fail
          refine (T.out _ _ _ _ _ _ _ Ka.out Kb.out).mono ?_
          rintro e wb ⟨sx, px, ox, Vx, rfl, Ax, zx, vx, hB⟩
          have HN := hid (HB.out.trans (hB.mono HB.out.size))
          have Kx := hid (And.intro Ax (And.intro zx vx))
          clear hB HB Ax zx vx Ka Kb
          have HB := HN
          clear HN
          simp only [numOf]
          go_wp2_with fail
          refine (U.out p _ p0 p1 pF.out).mono ?_
          rintro e wc ⟨pp, op, rfl, Ap, hB⟩
          have HN := hid (HB.out.trans (hB.mono HB.out.size))
          have LKx := hid (And.intro (Kx.out.1.below hB (Nat.le_refl _)) Kx.out.2)
          have Kp := hid Ap
          clear hB HB Ap
          clear Kx
          have Kx := LKx
          clear LKx
          have HB := HN
          clear HN
          simp only [numOf]
          go_wp2_with fail
          refine (U.out ee _ ee0 ee1 eeF.out).mono ?_
          rintro e wd ⟨pe, oe, rfl, Ae, hB⟩
          have HN := hid (HB.out.trans (hB.mono HB.out.size))
          have LKx := hid (And.intro (Kx.out.1.below hB (Nat.le_refl _)) Kx.out.2)
          have LKp := hid (Kp.out.below hB (Nat.le_refl _))
          have Ke := hid Ae
          clear hB HB Ae
          clear Kx
          have Kx := LKx
          clear LKx
          clear Kp
          have Kp := LKp
          clear LKp
          have HB := HN
          clear HN
          simp only [numOf]
          go_wp2_with fail
          refine (P.out p ee _ _ _ _ _ _ _ Kp.out Ke.out pF.out eeF.out).mono ?_
          rintro e we ⟨sy, py, oy, Vy, rfl, Ay, zy, vy, hB⟩
          have HN := hid (HB.out.trans (hB.mono HB.out.size))
          have LKx := hid (And.intro (Kx.out.1.below hB (Nat.le_refl _)) Kx.out.2)
          have Ky := hid (And.intro Ay (And.intro zy vy))
          clear hB HB Ay zy vy Kp Ke
          clear Kx
          have Kx := LKx
          clear LKx
          have HB := HN
          clear HN
          simp only [numOf]
          go_wp2_with fail
          refine (LI.out p ee _ _ _ _ _ _ Ky.out.1 Ky.out.2.1 Ky.out.2.2 pF.out eeF.out).mono ?_
          rintro e wf ⟨pz, oz, rfl, Az, hB⟩
          have HN := hid (HB.out.trans (hB.mono HB.out.size))
          have LKx := hid (And.intro (Kx.out.1.below hB (Nat.le_refl _)) Kx.out.2)
          have Kz := hid (And.intro Az Ky.out.2)
          clear hB HB Az Ky
          clear Kx
          have Kx := LKx
          clear LKx
          have HB := HN
          clear HN
          simp only [numOf]
          go_wp2_with fail
          refine (SM.out p ee _ _ _ _ _ _ _ _ _ _ _ Kx.out.1 Kz.out.1 Kx.out.2.1 Kz.out.2.1 Kx.out.2.2 Kz.out.2.2 pF.out eeF.out EQ.out).mono ?_
          rintro e wg ⟨rfl, hB⟩
          have HN := hid (HB.out.trans (hB.mono HB.out.size))
          clear hB HB Kx Kz SM
          have HB := HN
          clear HN
          go_wp2_with fail
          go_ret
          exact ⟨rfl, HB.out⟩
    · rw [decide_eq_false fb] at FB
      clear fa fb hT
      go_enter Tryd.func6, Tryd.ntmps6
      go_wp2_with fail
      refine (WK.out _).mono ?_
      rintro e w1 ⟨rfl, hB1⟩
      have HB1 := hid hB1
      clear hB1 WK
      go_wp2_with fail
      refine (ML.out w1 HB1.out).mono ?_
      rintro e w2 ⟨r, f, rfl, hr, hB2⟩
      obtain rfl := Ie.mul_32 hr
      have HB2 := hid (HB1.out.trans (hB2.mono HB1.out.size))
      clear hr hB2 ML HB1
      go_wp2_with fail
      refine (FL.out w2 HB2.out).mono ?_
      rintro e w3 ⟨r, f, rfl, hr, hB3⟩
      obtain rfl := Ie.fma_233 hr
      have HB := hid (HB2.out.trans (hB3.mono HB2.out.size))
      clear hr hB3 FL HB2
      go_wp2_with fail
      refine (FA.out _).mono ?_
      rintro e wz ⟨rfl, hz⟩
      replace hz := hz.symm
      subst hz
      go_wp2_with fail
      refine (FB.out _).mono ?_
      rintro e wz ⟨rfl, hz⟩
      replace hz := hz.symm
      subst hz
      go_wp2_with fail
      go_ret
      exact ⟨rfl, HB.out⟩
  · rw [decide_eq_false fa] at FA
    clear fa hT
    go_enter Tryd.func6, Tryd.ntmps6
    go_wp2_with fail
    refine (WK.out _).mono ?_
    rintro e w1 ⟨rfl, hB1⟩
    have HB1 := hid hB1
    clear hB1 WK
    go_wp2_with fail
    refine (ML.out w1 HB1.out).mono ?_
    rintro e w2 ⟨r, f, rfl, hr, hB2⟩
    obtain rfl := Ie.mul_32 hr
    have HB2 := hid (HB1.out.trans (hB2.mono HB1.out.size))
    clear hr hB2 ML HB1
    go_wp2_with fail
    refine (FL.out w2 HB2.out).mono ?_
    rintro e w3 ⟨r, f, rfl, hr, hB3⟩
    obtain rfl := Ie.fma_233 hr
    have HB := hid (HB2.out.trans (hB3.mono HB2.out.size))
    clear hr hB3 FL HB2
    go_wp2_with fail
    refine (FA.out _).mono ?_
    rintro e wz ⟨rfl, hz⟩
    replace hz := hz.symm
    subst hz
    go_wp2_with fail
    go_ret
    exact ⟨rfl, HB.out⟩
end Go.Proofs.YtjebdobopechfabDoor
