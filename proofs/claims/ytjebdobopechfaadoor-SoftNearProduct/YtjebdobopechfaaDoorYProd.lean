import Derived.Test.YtjebdobopechfaaDoorXOps
import Derived.Test.YtjebdobopechfaaDoorYSLP
import Derived.Test.YtjebdobopechfaaDoorYNear
/-
  SoftNearProduct (made by mkyprod.py).
-/
namespace Go.Proofs.YtjebdobopechfaaDoor
open Go Go.RowKit Go.Deep

/-- The product in its box. -/
def NP1 (w wx : World) (bp : Nat) (np : Bool) (pp : Option Addr) (op : List Int) (VP : Int) : Prop :=
  Below w.heap.size w wx ∧ Row2 wx bp 32 (.bool np) (.slice pp op.length op.length) ∧ ∃ B, Ans B wx pp op VP

theorem NP1.on {w wx w' : World} {bp : Nat} {np : Bool} {pp : Option Addr} {op : List Int} {VP : Int} (h : NP1 w wx bp np pp op VP) (hB : Below wx.heap.size wx w') : NP1 w w' bp np pp op VP := by
  obtain ⟨h1, h2, B, h3⟩ := h
  exact ⟨h1.trans (hB.mono h1.size), h2.below hB h2.lt, B, h3.below hB (Nat.le_refl _)⟩

theorem NP1.drew {w wx : World} {bp : Nat} {np : Bool} {pp : Option Addr} {op : List Int} {VP : Int} (h : NP1 w wx bp np pp op VP) : NP1 w wx.drew bp np pp op VP := h.on (drew_refl wx)

/-- The sum in its box, too. -/
def NP3 (w wx : World) (bp g : Nat) (np : Bool) (pp : Option Addr) (op : List Int) (VP : Int) (nv : Bool) (pv : Option Addr) (ov : List Int) (VV S : Int) : Prop :=
  NP1 w wx bp np pp op VP ∧ Row2 wx g 32 (.bool nv) (.slice pv ov.length ov.length) ∧ (∃ B, Ans B wx pv ov VV) ∧ Ie.sn nv VV = S ∧ 0 ≤ VV

def NP2 (w wx : World) (bp g : Nat) (np : Bool) (pp : Option Addr) (op : List Int) (VP S : Int) : Prop := ∃ nv pv ov VV, NP3 w wx bp g np pp op VP nv pv ov VV S

theorem NP3.on {w wx w' : World} {bp g : Nat} {np : Bool} {pp : Option Addr} {op : List Int} {VP : Int} {nv : Bool} {pv : Option Addr} {ov : List Int} {VV S : Int} (h : NP3 w wx bp g np pp op VP nv pv ov VV S) (hB : Below wx.heap.size wx w') : NP3 w w' bp g np pp op VP nv pv ov VV S := by
  obtain ⟨h1, h2, ⟨B, h3⟩, h4⟩ := h
  exact ⟨h1.on hB, h2.below hB h2.lt, ⟨B, h3.below hB (Nat.le_refl _)⟩, h4⟩

theorem NP3.drew {w wx : World} {bp g : Nat} {np : Bool} {pp : Option Addr} {op : List Int} {VP : Int} {nv : Bool} {pv : Option Addr} {ov : List Int} {VV S : Int} (h : NP3 w wx bp g np pp op VP nv pv ov VV S) : NP3 w wx.drew bp g np pp op VP nv pv ov VV S := h.on (drew_refl wx)

theorem np2_of {w wx : World} {bp : Nat} {np : Bool} {pp : Option Addr} {op : List Int} {VP : Int} {nv : Bool} {pv : Option Addr} {ov : List Int} {VV S : Int} {B : Nat} (h : NP1 w wx bp np pp op VP) (A : Ans B wx pv ov VV) (z : Ie.sn nv VV = S) (v : 0 ≤ VV) :
    NP2 w (wx.alloc (.cells #[.bool nv, .slice pv ov.length ov.length] 32)) bp wx.heap.size np pp op VP S := by
  have hb := alloc_b wx (.cells #[.bool nv, .slice pv ov.length ov.length] 32)
  exact ⟨nv, pv, ov, VV, h.on hb, Row2.new wx _ _ _, ⟨B, A.below hb (Nat.le_refl _)⟩, z, v⟩

/-- A list that was there before block g stays when g is written. -/
theorem Ans.kept {B g o : Nat} {w : World} {p : Option Addr} {ys : List Int} {n : Int} {v : Value} (h : Ans B w p ys n) (hg : ∃ w0 : World, Lies w0 p ys ∧ w0.heap.size ≤ g) : Ans B (w.setCell ⟨g, o, none⟩ v) p ys n := by
  obtain ⟨w0, hl, hs⟩ := hg
  refine ⟨?_, h.2⟩
  rcases Nat.eq_zero_or_pos ys.length with h0 | h0
  · rw [List.eq_nil_of_length_eq_zero h0]; exact Lies.nil _ _
  · refine h.1.set (fun a ha => ?_)
    have := hl.lt h0 a ha
    omega

theorem np2_set {w wx : World} {bp g M B : Nat} {np : Bool} {pp : Option Addr} {op : List Int} {VP : Int} {nv : Bool} {pv : Option Addr} {ov : List Int} {VV S : Int} (h : NP1 w wx bp np pp op VP) (R : Row2 wx g 32 (.bool false) (.slice none 0 0)) (L : ∃ w0 : World, Lies w0 pp op ∧ w0.heap.size ≤ M) (hM : M ≤ g) (hw : w.heap.size ≤ M ∧ bp < M) (hB : g < B)
    (A : Ans B wx pv ov VV) (z : Ie.sn nv VV = S) (v : 0 ≤ VV) :
    NP2 w ((wx.setCell ⟨g, 0, none⟩ (.bool nv)).setCell ⟨g, 1, none⟩ (.slice pv ov.length ov.length)) bp g np pp op VP S := by
  obtain ⟨h1, h2, B', h3⟩ := h
  obtain ⟨w0, l1, l2⟩ := L
  have L' : ∃ w0 : World, Lies w0 pp op ∧ w0.heap.size ≤ g := ⟨w0, l1, by omega⟩
  have far : ∀ (wy : World) (o : Nat) (u : Value), Row2 wy bp 32 (.bool np) (.slice pp op.length op.length) → Row2 (wy.setCell ⟨g, o, none⟩ u) bp 32 (.bool np) (.slice pp op.length op.length) := by
    intro wy o u hr
    rw [Row2] at hr ⊢
    rw [heap_setCell_other _ _ _ _ (show bp ≠ g by omega)]
    exact hr
  refine ⟨nv, pv, ov, VV, ⟨set2_below h1 (by omega), far _ _ _ (far _ _ _ h2), B', (h3.kept L').kept L'⟩, R.set, ⟨B, A.set2 (by omega)⟩, z, v⟩

set_option maxRecDepth 100000 in
set_option maxHeartbeats 8000000 in
theorem nearProd_any (a b c : Int) (w : World) (a0 : 0 ≤ a) (a1 : a < 18446744073709551616) (b0 : 0 ≤ b) (b1 : b < 18446744073709551616) (c0 : 0 ≤ c) (c1 : c < 18446744073709551616) (hT : Tab w) :
    Calls Tryd.prog 5 #[.int .u64 a, .int .u64 b, .int .u64 c] w fun e w' => e = .returned (.bool true) ∧ Below w.heap.size w w' := by
  have WK := hid (fun (wx : World) => works_any wx)
  have ML := hid (fun (wx : World) (hx : Below w.heap.size w wx) => softMul_any 4613937818241073152 4611686018427387904 wx (by omega) (by omega) (by omega) (by omega) (hT.below hx))
  have FL := hid (fun (wx : World) (hx : Below w.heap.size w wx) => softFma_any 4611686018427387904 4613937818241073152 4613937818241073152 wx (by omega) (by omega) (by omega) (by omega) (by omega) (by omega) (hT.below hx))
  have FA := hid (fun (wx : World) => yfinite_any a wx a0 a1)
  have FB := hid (fun (wx : World) => yfinite_any b wx b0 b1)
  have FC := hid (fun (wx : World) => yfinite_any c wx c0 c1)
  have UN := hid (fun (wx : World) => unit_any wx)
  have U := hid (fun (d : Int) (wx : World) (d0 : 0 ≤ d) (d1 : d < 18446744073709551616) (hd : Ie.fin d) => units_any d wx d0 d1 (Ie.fin_not hd).1)
  have MD := hid (fun (x y : Int) (wx : World) (hx : Below w.heap.size w wx) (x0 : 0 ≤ x) (x1 : x < 18446744073709551616) (y0 : 0 ≤ y) (y1 : y < 18446744073709551616) => softMul_any x y wx x0 x1 y0 y1 (hT.below hx))
  have FD := hid (fun (x y z : Int) (wx : World) (hx : Below w.heap.size w wx) (x0 : 0 ≤ x) (x1 : x < 18446744073709551616) (y0 : 0 ≤ y) (y1 : y < 18446744073709551616) (z0 : 0 ≤ z) (z1 : z < 18446744073709551616) => softFma_any x y z wx x0 x1 y0 y1 z0 z1 (hT.below hx))
  by_cases fa : Ie.ab a < 9218868437227405312
  · rw [decide_eq_true fa] at FA
    by_cases fb : Ie.ab b < 9218868437227405312
    · rw [decide_eq_true fb] at FB
      by_cases fc : Ie.ab c < 9218868437227405312
      · rw [decide_eq_true fc] at FC
        have u1 := Ie.un_lt_inf (Ie.ab_bd a).1 (Int.le_of_lt fa)
        have u2 := Ie.un_lt_inf (Ie.ab_bd b).1 (Int.le_of_lt fb)
        have u3 := Ie.un_lt_inf (Ie.ab_bd c).1 (Int.le_of_lt fc)
        have n1 := Ie.un_nn (Ie.ab_bd a).1
        have n2 := Ie.un_nn (Ie.ab_bd b).1
        have n3 := Ie.un_nn (Ie.ab_bd c).1
        have m45 := Nm.two_mono (show 2099 ≤ 4500 by omega)
        have pb : Ie.un (Ie.ab a) * Ie.un (Ie.ab b) < 2 ^ (2099 + 2099) := by
          have h1 : Ie.un (Ie.ab a) * Ie.un (Ie.ab b) ≤ Ie.un (Ie.ab a) * 2 ^ 2099 := Int.mul_le_mul_of_nonneg_left (by omega) n1
          have h2 : Ie.un (Ie.ab a) * 2 ^ 2099 < 2 ^ 2099 * 2 ^ 2099 := Int.mul_lt_mul_of_pos_right u1 (Nm.two_pos 2099)
          rw [← Nm.two_add] at h2
          omega
        have cb : Ie.un (Ie.ab c) * 2 ^ 1074 < 2 ^ (2099 + 1074) := by
          have h2 : Ie.un (Ie.ab c) * 2 ^ 1074 < 2 ^ 2099 * 2 ^ 1074 := Int.mul_lt_mul_of_pos_right u3 (Nm.two_pos 1074)
          rw [← Nm.two_add] at h2
          exact h2
        have c0' : 0 ≤ Ie.un (Ie.ab c) * 2 ^ 1074 := Int.mul_nonneg n3 (by have := Nm.two_pos 1074; omega)
        have e42 : (2 : Int) ^ (2099 + 2099) ≤ 2 ^ 4200 := Nm.two_mono (by omega)
        have e32 : (2 : Int) ^ (2099 + 1074) ≤ 2 ^ 4200 := Nm.two_mono (by omega)
        have e43 : (2 : Int) ^ 4201 = 2 * 2 ^ 4200 := Nm.two_succ 4200
        have e90 : (2 : Int) ^ 4201 ≤ 2 ^ 9000 := Nm.two_mono (by omega)
        have zP : ∀ (n : Bool) (V : Int), Ie.sn n V = Ie.us a * Ie.us b → 0 ≤ V → V < 2 ^ 4200 := by
          intro n V h v
          rw [Ie.us, Ie.us, Ie.sn_mul] at h
          have g := Ie.az_sn n V v
          rw [h, Ie.az_sn _ _ (Int.mul_nonneg n1 n2)] at g
          omega
        have zV : ∀ (n : Bool) (V : Int), Ie.sn n V = Ie.us a * Ie.us b + Ie.us c * 2 ^ 1074 → 0 ≤ V → V < 2 ^ 9000 := by
          intro n V h v
          have g := Ie.az_sn n V v
          rw [h, Ie.us, Ie.us, Ie.us, Ie.sn_mul, Ie.sn_mul_right] at g
          have p0 := Int.mul_nonneg n1 n2
          generalize Ie.un (Ie.ab a) * Ie.un (Ie.ab b) = X at *
          generalize Ie.un (Ie.ab c) * 2 ^ 1074 = Y at *
          have : V ≤ X + Y := by
            rw [← g]
            cases (Ie.ngd a != Ie.ngd b) <;> cases Ie.ngd c <;> simp only [Ie.sn, Ie.az, Bool.false_eq_true, if_true, if_false] <;> split <;> omega
          omega
        have T : Hid (∀ (wx : World) (px py : Option Addr) (ox oy : List Int) (B B' : Nat), Ans B wx px ox (Ie.un (Ie.ab a)) → Ans B' wx py oy (Ie.un (Ie.ab b)) → Calls Tryd.prog 22 #[numOf (Ie.ngd a) px ox.length ox.length, numOf (Ie.ngd b) py oy.length oy.length] wx fun e w' => NumIs (Ie.us a * Ie.us b) wx e w') := by
          intro wx px py ox oy B B' A1 A2
          exact ytimes_any _ _ px py ox oy _ _ B B' wx A1 A2 (by omega) (by omega)
        have LI : Hid (∀ (wx : World) (p : Option Addr) (os : List Int) (B : Nat), Ans B wx p os (Ie.un (Ie.ab c)) → Calls Tryd.prog 23 #[numOf (Ie.ngd c) p os.length os.length, .int .i64 1074] wx fun e w' => NumAt (Ie.ngd c) (Ie.un (Ie.ab c) * 2 ^ 1074) wx e w') := by
          intro wx p os B A
          exact lifted_any _ p os _ 1074 1074 B wx A (by omega) rfl (by omega)
        have P2 : Hid (∀ (wx : World) (bp : Nat) (np : Bool) (pp pl : Option Addr) (op ol : List Int) (VP : Int) (B : Nat), NP1 w wx bp np pp op VP → Ie.sn np VP = Ie.us a * Ie.us b ∧ 0 ≤ VP → Ans B wx pl ol (Ie.un (Ie.ab c) * 2 ^ 1074) → Calls Tryd.prog 19 #[numOf np pp op.length op.length, numOf (Ie.ngd c) pl ol.length ol.length] wx fun e w' => NumIs (Ie.us a * Ie.us b + Ie.us c * 2 ^ 1074) wx e w') := by
          intro wx bp np pp pl op ol VP B h hz A
          obtain ⟨_, _, B', A'⟩ := h
          have vb := zP np VP hz.1 hz.2
          have := yplus_any np (Ie.ngd c) pp pl op ol VP _ B' B wx A' A (by omega) (by omega)
          rw [hz.1, ← Ie.sn_mul_right] at this
          exact this
        have NE1 : Hid (∀ (wx : World) (bp g : Nat) (np : Bool) (pp : Option Addr) (op : List Int) (VP : Int) (q : Option Addr) (qs : List Int) (B : Nat) {nv : Bool} {pv : Option Addr} {ov : List Int} {VV r f : Int}, NP3 w wx bp g np pp op VP nv pv ov VV (Ie.us a * Ie.us b + Ie.us c * 2 ^ 1074) → Ie.sn np VP = Ie.us a * Ie.us b ∧ 0 ≤ VP → Ans B wx q qs (2 ^ 1074) → Ie.MulIs a b r f → Calls Tryd.prog 18 #[numOf np pp op.length op.length, .int .u64 r, numOf false q qs.length qs.length] wx fun e w' => e = .returned (.bool true) ∧ Below wx.heap.size wx w') := by
          intro wx bp g np pp op VP q qs B nv pv ov VV r f h hz A hM
          obtain ⟨⟨_, _, B', A'⟩, _⟩ := h
          have vb := zP np VP hz.1 hz.2
          obtain ⟨h1, h2, ⟨h3, h4⟩, h5, h6, h7⟩ := (hM.rs fa fb).near (Nm.two_pos 1074)
          refine nearest_true np false pp q op qs VP _ B' B r wx A' A (by omega) (by have := Nm.two_mono (show 1075 ≤ 2100 by omega); have e : (2 : Int) ^ 1075 = 2 * 2 ^ 1074 := Nm.two_succ 1074; have := Nm.two_pos 1074; omega) h3 h4 h5 h6 h7 ?_ ?_
          · rw [hz.1]; exact h1
          · rw [hz.1]; exact h2
        have NE2 : Hid (∀ (wx : World) (bp g : Nat) (nv : Bool) (pv : Option Addr) (ov : List Int) (VV : Int) (q : Option Addr) (qs : List Int) (B : Nat) {np : Bool} {pp : Option Addr} {op : List Int} {VP r f : Int}, NP3 w wx bp g np pp op VP nv pv ov VV (Ie.us a * Ie.us b + Ie.us c * 2 ^ 1074) → Ans B wx q qs (2 ^ 1074) → Ie.FmaIs a b c r f → Calls Tryd.prog 18 #[numOf nv pv ov.length ov.length, .int .u64 r, numOf false q qs.length qs.length] wx fun e w' => e = .returned (.bool true) ∧ Below wx.heap.size wx w') := by
          intro wx bp g nv pv ov VV q qs B np pp op VP r f h A hM
          obtain ⟨_, _, ⟨B', A'⟩, hz, v0⟩ := h
          have vb := zV nv VV hz v0
          obtain ⟨h1, h2, ⟨h3, h4⟩, h5, h6, h7⟩ := (hM.rs fa fb fc).near (Nm.two_pos 1074)
          refine nearest_true nv false pv q ov qs VV _ B' B r wx A' A vb (by have := Nm.two_mono (show 1075 ≤ 2100 by omega); have e : (2 : Int) ^ 1075 = 2 * 2 ^ 1074 := Nm.two_succ 1074; have := Nm.two_pos 1074; omega) h3 h4 h5 h6 h7 ?_ ?_
          · rw [hz]; exact h1
          · rw [hz]; exact h2
        have aF := hid (show Ie.fin a from fa)
        have bF := hid (show Ie.fin b from fb)
        have cF := hid (show Ie.fin c from fc)
        simp only [numOf] at T LI P2 NE1 NE2
        clear hT fa fb fc u1 u2 u3 n1 n2 n3 m45 pb cb c0' e42 e32 e43 e90 zP zV
        generalize hc : Ie.un (Ie.ab c) * 2 ^ 1074 = XC at *
        generalize hs : Ie.us a * Ie.us b + Ie.us c * 2 ^ 1074 = XS at *
        generalize hp : Ie.us a * Ie.us b = XP at *
        generalize hu : (2 : Int) ^ 1074 = XU at *
        clear hc hs hp hu
        go_enter Tryd.func5, Tryd.ntmps5
        go_wp2_with fail
        refine (WK.out _).mono ?_
        rintro e w1 ⟨rfl, hB1⟩
        have HB1 := hid hB1
        clear hB1 WK
        go_wp2_with fail
        refine (ML.out w1 HB1.out).mono ?_
        rintro e w2 ⟨r, f, rfl, hr, hB2⟩
        obtain rfl := Ie.mul_32 hr
        have HB2 := hid (HB1.out.trans (hB2.mono HB1.out.size))
        clear hr hB2 ML HB1
        go_wp2_with fail
        refine (FL.out w2 HB2.out).mono ?_
        rintro e w3 ⟨r, f, rfl, hr, hB3⟩
        obtain rfl := Ie.fma_233 hr
        have HB := hid (HB2.out.trans (hB3.mono HB2.out.size))
        clear hr hB3 FL HB2
        go_wp2_with fail
        refine (FA.out _).mono ?_
        rintro e wz ⟨rfl, hz⟩
        replace hz := hz.symm
        subst hz
        go_wp2_with fail
        refine (FB.out _).mono ?_
        rintro e wz ⟨rfl, hz⟩
        replace hz := hz.symm
        subst hz
        go_wp2_with fail
        refine (FC.out _).mono ?_
        rintro e wz ⟨rfl, hz⟩
        replace hz := hz.symm
        subst hz
        go_wp2_with fail
        refine (U.out a _ a0 a1 aF.out).mono ?_
        rintro e w4 ⟨pa, oa, rfl, Aa, hB⟩
        have HN := hid (HB.out.trans (hB.mono HB.out.size))
        have Ka := hid Aa
        clear hB HB Aa
        have HB := HN
        clear HN
        simp only [numOf]
        go_wp2_with fail
        refine (U.out b _ b0 b1 bF.out).mono ?_
        rintro e w5 ⟨pb, ob, rfl, Ab, hB⟩
        have HN := hid (HB.out.trans (hB.mono HB.out.size))
        have LKa := hid (Ka.out.below hB (Nat.le_refl _))
        have Kb := hid Ab
        clear hB HB Ab
        clear Ka
        have Ka := LKa
        clear LKa
        have HB := HN
        clear HN
        simp only [numOf]
        go_wp2_with fail
        refine (T.out _ _ _ _ _ _ _ Ka.out Kb.out).mono ?_
        rintro e w6 ⟨np, pp, op, VP, rfl, AP, zP, vP, hB⟩
        have HN := hid (HB.out.trans (hB.mono HB.out.size))
        have KP := hid (And.intro AP (And.intro zP vP))
        clear hB HB AP zP vP Ka Kb
        have HB := HN
        clear HN
        simp only [numOf]
        go_upto_region 6 with fail
        have h7 := alloc_b w6 (.cells #[.bool np, .slice pp op.length op.length] 32)
        have S1 : Hid (NP1 w (w6.alloc (.cells #[.bool np, .slice pp op.length op.length] 32)) w6.heap.size np pp op VP) := ⟨HB.out.trans (h7.mono HB.out.size), Row2.new w6 32 _ _, ⟨_, KP.out.1.below h7 (Nat.le_refl _)⟩⟩
        have ZP := hid KP.out.2
        clear h7 HB KP
        generalize hwA : w6.alloc (.cells #[.bool np, .slice pp op.length op.length] 32) = wA at *
        clear hwA
        generalize w6.heap.size = bp at *
        have lp := S1.out.2.1.lt
        have LP : Hid (∃ w0 : World, Lies w0 pp op ∧ w0.heap.size ≤ wA.heap.size) := by
          obtain ⟨B, A⟩ := S1.out.2.2
          exact ⟨wA, A.1, Nat.le_refl _⟩
        have SD := hid S1.out.drew
        have SE := hid (S1.out.on (alloc_b wA (.cells #[.bool false, .slice none 0 0] 32))).drew
        have RE : Hid (Row2 (wA.alloc (.cells #[.bool false, .slice none 0 0] 32)).drew wA.heap.size 32 (.bool false) (.slice none 0 0) ∧ wA.heap.size < (wA.alloc (.cells #[.bool false, .slice none 0 0] 32)).drew.heap.size) := ⟨Row2.new wA 32 _ _, (Row2.new wA 32 (.bool false) (.slice none 0 0)).lt⟩
        have WG := hid (And.intro S1.out.1.size lp)
        obtain ⟨⟨x0, x1⟩, -⟩ := S1.out.2.1.cells
        obtain ⟨⟨x2, x3⟩, -⟩ := (S1.out.on (alloc_b wA (.cells #[.bool false, .slice none 0 0] 32))).2.1.cells
        go_cut [8] from 37 to 41 (fun s wx => ∃ g : Nat, s = .pointer (some ⟨g, 0, none⟩) ∧ Hid (NP2 w wx bp g np pp op VP XS))
        case first =>
          go_region_with (first
            | (go_at_call 17; (first
                | (refine (U.out c wA.drew c0 c1 cF.out).mono ?_; rintro e wu ⟨pu, ou, rfl, AU, hBu⟩; have SU := hid (SD.out.on hBu); have AUh := hid AU; have GU := hid (show wA.heap.size ≤ wu.heap.size from hBu.size); obtain ⟨⟨y0, y1⟩, -⟩ := SU.out.2.1.cells; obtain ⟨⟨y2, y3⟩, -⟩ := (SU.out.on (alloc_b wu (.cells #[.bool false, .slice none 0 0] 32))).2.1.cells; simp only [numOf]; clear AU hBu)
                | (refine (U.out c (wA.alloc (.cells #[.bool false, .slice none 0 0] 32)).drew c0 c1 cF.out).mono ?_; rintro e wu ⟨pu, ou, rfl, AU, hBu⟩; have SU := hid (SE.out.on hBu); have AUh := hid AU; have RV := hid (And.intro (RE.out.1.below hBu RE.out.2) (And.intro (Nat.le_refl wA.heap.size) (Nat.lt_of_lt_of_le RE.out.2 hBu.size))); obtain ⟨⟨y0, y1⟩, -⟩ := SU.out.2.1.cells; simp only [numOf]; clear AU hBu)))
            | (go_at_call 23; (first
                | (have RV' := RV; refine (LI.out wu _ _ _ AUh.out).mono ?_; rintro e wl ⟨pl, ol, rfl, AL, hBl⟩; have SL := hid (SU.out.on hBl); have ALh := hid AL; have RW := hid (And.intro (RV'.out.1.below hBl RV'.out.2.2) (And.intro RV'.out.2.1 (Nat.lt_of_lt_of_le RV'.out.2.2 hBl.size))); obtain ⟨⟨z0, z1⟩, -⟩ := SL.out.2.1.cells; simp only [numOf]; clear AL hBl RV')
                | (refine (LI.out wu _ _ _ AUh.out).mono ?_; rintro e wl ⟨pl, ol, rfl, AL, hBl⟩; have SL := hid (SU.out.on hBl); have ALh := hid AL; have GL := hid (Nat.le_trans GU.out hBl.size); obtain ⟨⟨z0, z1⟩, -⟩ := SL.out.2.1.cells; obtain ⟨⟨z2, z3⟩, -⟩ := (SL.out.on (alloc_b wl (.cells #[.bool false, .slice none 0 0] 32))).2.1.cells; simp only [numOf]; clear AL hBl)
                | (refine (LI.out (wu.alloc (.cells #[.bool false, .slice none 0 0] 32)) _ _ _ (AUh.out.below (alloc_b wu (.cells #[.bool false, .slice none 0 0] 32)) (Nat.le_refl _))).mono ?_; rintro e wl ⟨pl, ol, rfl, AL, hBl⟩; have SL := hid ((SU.out.on (alloc_b wu (.cells #[.bool false, .slice none 0 0] 32))).on hBl); have ALh := hid AL; have lt := (Row2.new wu 32 (.bool false) (.slice none 0 0)).lt; have RW := hid (And.intro ((Row2.new wu 32 (.bool false) (.slice none 0 0)).below hBl lt) (And.intro GU.out (Nat.lt_of_lt_of_le lt hBl.size))); obtain ⟨⟨z0, z1⟩, -⟩ := SL.out.2.1.cells; simp only [numOf]; clear AL hBl lt)))
            | (go_at_call 19; (first
                | (have RW' := RW; refine (P2.out wl _ _ _ _ _ _ _ _ SL.out ZP.out ALh.out).mono ?_; rintro e wp ⟨nv, pv, ov, VV, rfl, AV, zV, vV, hBv⟩; have RX := RW'.out.1.below hBv RW'.out.2.2; have FW := hid (np2_set (SL.out.on hBv) RX LP.out RW'.out.2.1 WG.out RW'.out.2.2 AV zV vV); obtain ⟨⟨s0, s1⟩, ⟨s2, s3⟩⟩ := RX.cells; simp only [numOf]; clear AV zV vV hBv RW' RX)
                | (refine (P2.out wl _ _ _ _ _ _ _ _ SL.out ZP.out ALh.out).mono ?_; rintro e wp ⟨nv, pv, ov, VV, rfl, AV, zV, vV, hBv⟩; have FV := hid (np2_of (SL.out.on hBv) AV zV vV); simp only [numOf]; clear AV zV vV hBv)
                | (refine (P2.out (wl.alloc (.cells #[.bool false, .slice none 0 0] 32)) _ _ _ _ _ _ _ _ (SL.out.on (alloc_b wl (.cells #[.bool false, .slice none 0 0] 32))) ZP.out (ALh.out.below (alloc_b wl (.cells #[.bool false, .slice none 0 0] 32)) (Nat.le_refl _))).mono ?_; rintro e wp ⟨nv, pv, ov, VV, rfl, AV, zV, vV, hBv⟩; have lt := (Row2.new wl 32 (.bool false) (.slice none 0 0)).lt; have RX := (Row2.new wl 32 (.bool false) (.slice none 0 0)).below hBv lt; have FW := hid (np2_set ((SL.out.on (alloc_b wl (.cells #[.bool false, .slice none 0 0] 32))).on hBv) RX LP.out GL.out WG.out lt AV zV vV); obtain ⟨⟨s0, s1⟩, ⟨s2, s3⟩⟩ := RX.cells; simp only [numOf]; clear AV zV vV hBv RX lt))))
          all_goals (go_wp2_with fail; go_meet; first | exact ⟨_, rfl, FV.out⟩ | exact ⟨_, rfl, FW.out⟩)
        case rest =>
          obtain ⟨g, rfl, F1⟩ := hcut
          obtain ⟨nv, pv, ov, VV, hv⟩ := F1.out
          have S2 := hid hv
          have S3 := hid (hv.drew)
          clear hv F1 SD S1 x0 x1 x2 x3 P2 LI U SE RE WG LP lp
          obtain ⟨⟨x0, x1⟩, -⟩ := S2.out.1.2.1.cells
          obtain ⟨⟨v0, v1⟩, -⟩ := S2.out.2.1.cells
          go_upto_region 7 with fail
          go_region_with (first
            | (go_at_call 9; refine (MD.out a b _ S3.out.1.1 a0 a1 b0 b1).mono ?_; rintro e wm ⟨r, f, rfl, hr, hB⟩; have SM := hid (S3.out.on hB); have RM := hid hr; obtain ⟨⟨a2, a3⟩, -⟩ := SM.out.1.2.1.cells; obtain ⟨⟨a4, a5⟩, -⟩ := SM.out.2.1.cells; clear hr hB)
            | (go_at_call 21; refine (FD.out a b c _ SN.out.1.1 a0 a1 b0 b1 c0 c1).mono ?_; rintro e wf ⟨r', f', rfl, hr, hB⟩; have SF := hid (SN.out.on hB); have RF := hid hr; obtain ⟨⟨d2, d3⟩, -⟩ := SF.out.1.2.1.cells; obtain ⟨⟨d4, d5⟩, -⟩ := SF.out.2.1.cells; clear hr hB)
            | (go_at_call 24; refine (UN.out _).mono ?_; (first | (have SF' := SF; rintro e wv ⟨q', qs', rfl, AQ, hB⟩; have SV := hid (SF'.out.on hB); have QV := hid AQ; obtain ⟨⟨k2, k3⟩, -⟩ := SV.out.1.2.1.cells; obtain ⟨⟨k4, k5⟩, -⟩ := SV.out.2.1.cells; simp only [numOf]; clear AQ hB SF') | (have SM' := SM; rintro e wu ⟨q, qs, rfl, AQ, hB⟩; have SU := hid (SM'.out.on hB); have QU := hid AQ; obtain ⟨⟨b2, b3⟩, -⟩ := SU.out.1.2.1.cells; obtain ⟨⟨b4, b5⟩, -⟩ := SU.out.2.1.cells; simp only [numOf]; clear AQ hB SM')))
            | (go_at_call 18; (first | (have SV' := SV; refine (NE2.out _ _ _ _ _ _ _ _ _ _ SV'.out QV.out RF.out).mono ?_; rintro e wo ⟨rfl, hB⟩; have BO := hid (SV'.out.on hB).1.1; clear hB SV') | (refine (NE1.out _ _ _ _ _ _ _ _ _ _ SU.out ZP.out QU.out RM.out).mono ?_; rintro e wn ⟨rfl, hB⟩; have SN := hid (SU.out.on hB); obtain ⟨⟨e2, e3⟩, -⟩ := SN.out.1.2.1.cells; obtain ⟨⟨e4, e5⟩, -⟩ := SN.out.2.1.cells; clear hB))))
          all_goals (go_wp2_with fail; go_ret; exact ⟨rfl, BO.out⟩)
      · rw [decide_eq_false fc] at FC
        clear fa fb fc hT
        go_enter Tryd.func5, Tryd.ntmps5
        go_wp2_with fail
        refine (WK.out _).mono ?_
        rintro e w1 ⟨rfl, hB1⟩
        have HB1 := hid hB1
        clear hB1 WK
        go_wp2_with fail
        refine (ML.out w1 HB1.out).mono ?_
        rintro e w2 ⟨r, f, rfl, hr, hB2⟩
        obtain rfl := Ie.mul_32 hr
        have HB2 := hid (HB1.out.trans (hB2.mono HB1.out.size))
        clear hr hB2 ML HB1
        go_wp2_with fail
        refine (FL.out w2 HB2.out).mono ?_
        rintro e w3 ⟨r, f, rfl, hr, hB3⟩
        obtain rfl := Ie.fma_233 hr
        have HB := hid (HB2.out.trans (hB3.mono HB2.out.size))
        clear hr hB3 FL HB2
        go_wp2_with fail
        refine (FA.out _).mono ?_
        rintro e wz ⟨rfl, hz⟩
        replace hz := hz.symm
        subst hz
        go_wp2_with fail
        refine (FB.out _).mono ?_
        rintro e wz ⟨rfl, hz⟩
        replace hz := hz.symm
        subst hz
        go_wp2_with fail
        refine (FC.out _).mono ?_
        rintro e wz ⟨rfl, hz⟩
        replace hz := hz.symm
        subst hz
        go_wp2_with fail
        go_ret
        exact ⟨rfl, HB.out⟩
    · rw [decide_eq_false fb] at FB
      clear fa fb hT
      go_enter Tryd.func5, Tryd.ntmps5
      go_wp2_with fail
      refine (WK.out _).mono ?_
      rintro e w1 ⟨rfl, hB1⟩
      have HB1 := hid hB1
      clear hB1 WK
      go_wp2_with fail
      refine (ML.out w1 HB1.out).mono ?_
      rintro e w2 ⟨r, f, rfl, hr, hB2⟩
      obtain rfl := Ie.mul_32 hr
      have HB2 := hid (HB1.out.trans (hB2.mono HB1.out.size))
      clear hr hB2 ML HB1
      go_wp2_with fail
      refine (FL.out w2 HB2.out).mono ?_
      rintro e w3 ⟨r, f, rfl, hr, hB3⟩
      obtain rfl := Ie.fma_233 hr
      have HB := hid (HB2.out.trans (hB3.mono HB2.out.size))
      clear hr hB3 FL HB2
      go_wp2_with fail
      refine (FA.out _).mono ?_
      rintro e wz ⟨rfl, hz⟩
      replace hz := hz.symm
      subst hz
      go_wp2_with fail
      refine (FB.out _).mono ?_
      rintro e wz ⟨rfl, hz⟩
      replace hz := hz.symm
      subst hz
      go_wp2_with fail
      go_ret
      exact ⟨rfl, HB.out⟩
  · rw [decide_eq_false fa] at FA
    clear fa hT
    go_enter Tryd.func5, Tryd.ntmps5
    go_wp2_with fail
    refine (WK.out _).mono ?_
    rintro e w1 ⟨rfl, hB1⟩
    have HB1 := hid hB1
    clear hB1 WK
    go_wp2_with fail
    refine (ML.out w1 HB1.out).mono ?_
    rintro e w2 ⟨r, f, rfl, hr, hB2⟩
    obtain rfl := Ie.mul_32 hr
    have HB2 := hid (HB1.out.trans (hB2.mono HB1.out.size))
    clear hr hB2 ML HB1
    go_wp2_with fail
    refine (FL.out w2 HB2.out).mono ?_
    rintro e w3 ⟨r, f, rfl, hr, hB3⟩
    obtain rfl := Ie.fma_233 hr
    have HB := hid (HB2.out.trans (hB3.mono HB2.out.size))
    clear hr hB3 FL HB2
    go_wp2_with fail
    refine (FA.out _).mono ?_
    rintro e wz ⟨rfl, hz⟩
    replace hz := hz.symm
    subst hz
    go_wp2_with fail
    go_ret
    exact ⟨rfl, HB.out⟩
end Go.Proofs.YtjebdobopechfaaDoor
