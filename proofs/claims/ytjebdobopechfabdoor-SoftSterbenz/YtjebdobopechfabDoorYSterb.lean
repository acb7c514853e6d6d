import Derived.Test.YtjebdobopechfabDoorYSX
import Derived.Test.YtjebdobopechfabDoorXTwos
import Derived.Deep.RegionWith
import Derived.Deep.RegionHeld3
import Derived.Deep.CutRange
import Derived.Deep.CutBlock
import Derived.BigQuiet
/-
  SoftSterbenz (made by mkysterb.py).
-/
namespace Go.Proofs.YtjebdobopechfabDoor
open Go Go.RowKit Go.Deep

theorem Ie.us_az (d : Int) : Ie.az (Ie.us d) = Ie.un (Ie.ab d) := Ie.az_sn _ _ (Ie.un_nn (Ie.ab_bd d).1)

theorem Ie.us_sum {n : Bool} {V p q : Int} (h : Ie.sn n V = Ie.us p + Ie.us q) (v : 0 ≤ V) (fp : Ie.fin p) (fq : Ie.fin q) : V < 2 ^ 2100 := by
  have u1 := Ie.un_lt_inf (Ie.ab_bd p).1 (Int.le_of_lt fp)
  have u2 := Ie.un_lt_inf (Ie.ab_bd q).1 (Int.le_of_lt fq)
  have g := Ie.az_sn n V v
  rw [h] at g
  have a1 := Ie.us_az p
  have a2 := Ie.us_az q
  have e21 : (2 : Int) ^ 2100 = 2 * 2 ^ 2099 := Nm.two_succ 2099
  simp only [Ie.az] at g a1 a2
  split at g <;> split at a1 <;> split at a2 <;> omega

theorem drew_refl (w : World) : Below w.heap.size w w.drew := ⟨rfl, rfl, rfl, Nat.le_refl _, fun _ _ => rfl⟩

/-- Two nums in their boxes. -/
def TwoB (w wx : World) (bx by1 : Nat) (na nb : Bool) (pa pb : Option Addr) (oa ob : List Int) (UA UB : Int) : Prop :=
  Below w.heap.size w wx ∧ (Row2 wx bx 28 (.bool na) (.slice pa oa.length oa.length) ∧ Row2 wx by1 28 (.bool nb) (.slice pb ob.length ob.length)) ∧ (∃ B, Ans B wx pa oa UA) ∧ ∃ B, Ans B wx pb ob UB

theorem TwoB.on {w wx w' : World} {bx by1 : Nat} {na nb : Bool} {pa pb : Option Addr} {oa ob : List Int} {UA UB : Int} (h : TwoB w wx bx by1 na nb pa pb oa ob UA UB) (hB : Below wx.heap.size wx w') : TwoB w w' bx by1 na nb pa pb oa ob UA UB := by
  obtain ⟨h1, ⟨h2, h3⟩, ⟨B, h4⟩, B', h5⟩ := h
  exact ⟨h1.trans (hB.mono h1.size), ⟨h2.below hB h2.lt, h3.below hB h3.lt⟩, ⟨B, h4.below hB (Nat.le_refl _)⟩, B', h5.below hB (Nat.le_refl _)⟩

theorem TwoB.drew {w wx : World} {bx by1 : Nat} {na nb : Bool} {pa pb : Option Addr} {oa ob : List Int} {UA UB : Int} (h : TwoB w wx bx by1 na nb pa pb oa ob UA UB) : TwoB w wx.drew bx by1 na nb pa pb oa ob UA UB := h.on (drew_refl wx)

theorem TwoB.drewN {w wx : World} {bx by1 : Nat} {na nb : Bool} {pa pb : Option Addr} {oa ob : List Int} {UA UB : Int} (h : TwoB w wx bx by1 na nb pa pb oa ob UA UB) (n : Nat) : TwoB w (wx.drewN n) bx by1 na nb pa pb oa ob UA UB := h.on ⟨rfl, rfl, rfl, Nat.le_refl _, fun _ _ => rfl⟩

theorem TwoB.cells {w wx : World} {bx by1 : Nat} {na nb : Bool} {pa pb : Option Addr} {oa ob : List Int} {UA UB : Int} (h : TwoB w wx bx by1 na nb pa pb oa ob UA UB) :
    (wx.cell? ⟨bx, 0, none⟩ = some (.bool na) ∧ wx.cell? ⟨bx, 1, none⟩ = some (.slice pa oa.length oa.length)) ∧ (wx.cell? ⟨by1, 0, none⟩ = some (.bool nb) ∧ wx.cell? ⟨by1, 1, none⟩ = some (.slice pb ob.length ob.length)) := ⟨h.2.1.1.cells.1, h.2.1.2.cells.1⟩

theorem TwoB.flat {w wx : World} {bx by1 : Nat} {na nb : Bool} {pa pb : Option Addr} {oa ob : List Int} {UA UB : Int} (h : TwoB w wx bx by1 na nb pa pb oa ob UA UB) :
    wx.cell? ⟨bx, 0, none⟩ = some (.bool na) ∧ wx.cell? ⟨bx, 1, none⟩ = some (.slice pa oa.length oa.length) ∧ wx.cell? ⟨by1, 0, none⟩ = some (.bool nb) ∧ wx.cell? ⟨by1, 1, none⟩ = some (.slice pb ob.length ob.length) := ⟨h.cells.1.1, h.cells.1.2, h.cells.2⟩

set_option maxRecDepth 100000 in
set_option maxHeartbeats 8000000 in
theorem sterb_any (a b : Int) (w : World) (a0 : 0 ≤ a) (a1 : a < 18446744073709551616) (b0 : 0 ≤ b) (b1 : b < 18446744073709551616) (hT : Tab w) :
    Calls Tryd.prog 4 #[.int .u64 a, .int .u64 b] w fun e w' => e = .returned (.bool true) ∧ Below w.heap.size w w' := by
  have WK := hid (fun (wx : World) => works_any wx)
  have AL := hid (fun (wx : World) (hx : Below w.heap.size w wx) => adds_any wx (hT.below hx))
  have FA := hid (fun (wx : World) => yfinite_any a wx a0 a1)
  have FB := hid (fun (wx : World) => yfinite_any b wx b0 b1)
  have U := hid (fun (d : Int) (wx : World) (d0 : 0 ≤ d) (d1 : d < 18446744073709551616) (hd : Ie.fin d) => units_any d wx d0 d1 (Ie.fin_not hd).1)
  have SDc := hid (fun (x y : Int) (wx : World) (hx : Below w.heap.size w wx) (x0 : 0 ≤ x) (x1 : x < 18446744073709551616) (y0 : 0 ≤ y) (y1 : y < 18446744073709551616) => softSub_any x y wx x0 x1 y0 y1 (hT.below hx))
  have FI : Hid (∀ (d : Int) (wx : World), 0 ≤ d → d < 18446744073709551616 → Ie.fin d → Calls Tryd.prog 11 #[.int .u64 d] wx fun e w' => e = .returned (.bool true) ∧ w' = wx) := by
    intro d wx d0 d1 hd
    have := yfinite_any d wx d0 d1
    rw [decide_eq_true (show Ie.ab d < 9218868437227405312 from hd)] at this
    exact this
  by_cases fa : Ie.ab a < 9218868437227405312
  · rw [decide_eq_true fa] at FA
    by_cases fb : Ie.ab b < 9218868437227405312
    · rw [decide_eq_true fb] at FB
      have UAc : Hid (∀ wx : World, Calls Tryd.prog 13 #[.int .u64 a] wx fun e w' => ∃ p os, e = .returned (numOf (Ie.ngd a) p (List.length os) (List.length os)) ∧ Ans wx.heap.size w' p os (Ie.un (Ie.ab a)) ∧ Below wx.heap.size wx w') := fun wx => units_any a wx a0 a1 (Ie.fin_not fa).1
      have UBc : Hid (∀ wx : World, Calls Tryd.prog 13 #[.int .u64 b] wx fun e w' => ∃ p os, e = .returned (numOf (Ie.ngd b) p (List.length os) (List.length os)) ∧ Ans wx.heap.size w' p os (Ie.un (Ie.ab b)) ∧ Below wx.heap.size wx w') := fun wx => units_any b wx b0 b1 (Ie.fin_not fb).1
      have ua := Ie.un_lt_inf (Ie.ab_bd a).1 (Int.le_of_lt fa)
      have ub := Ie.un_lt_inf (Ie.ab_bd b).1 (Int.le_of_lt fb)
      have m45 := Nm.two_mono (show 2100 ≤ 4500 by omega)
      have m90 := Nm.two_mono (show 2100 ≤ 9000 by omega)
      have e21 : (2 : Int) ^ 2100 = 2 * 2 ^ 2099 := Nm.two_succ 2099
      have p21 := Nm.two_pos 2099
      have P2 : Hid (∀ (wx : World) (bx by1 : Nat) (pa pb : Option Addr) (oa ob : List Int), TwoB w wx bx by1 (Ie.ngd a) (Ie.ngd b) pa pb oa ob (Ie.un (Ie.ab a)) (Ie.un (Ie.ab b)) → Calls Tryd.prog 14 #[numOf (Ie.ngd a) pa oa.length oa.length, numOf (!Ie.ngd b) pb ob.length ob.length] wx fun e w' => NumIs (Ie.us a - Ie.us b) wx e w') := by
        intro wx bx by1 pa pb oa ob h
        obtain ⟨_, _, ⟨B, A1⟩, B', A2⟩ := h
        have := yplus_any (Ie.ngd a) (!Ie.ngd b) pa pb oa ob _ _ B B' wx A1 A2 (by omega) (by omega)
        rw [Ie.sn_not, ← Int.sub_eq_add_neg] at this
        exact this
      have LB : Hid (∀ (wx : World) (bx by1 : Nat) (na nb : Bool) (pa pb : Option Addr) (oa ob : List Int) (UA UB : Int), TwoB w wx bx by1 na nb pa pb oa ob UA UB → UB = Ie.un (Ie.ab b) → Calls Tryd.prog 12 #[numOf nb pb ob.length ob.length, .int .i64 1] wx fun e w' => NumAt nb (UB * 2) wx e w') := by
        intro wx bx by1 na nb pa pb oa ob UA UB h e
        obtain ⟨_, _, _, B, A⟩ := h
        exact lifted_any nb pb ob UB 1 1 B wx A (by omega) rfl (by omega)
      have LA : Hid (∀ (wx : World) (bx by1 : Nat) (na nb : Bool) (pa pb : Option Addr) (oa ob : List Int) (UA UB : Int), TwoB w wx bx by1 na nb pa pb oa ob UA UB → UA = Ie.un (Ie.ab a) → Calls Tryd.prog 12 #[numOf na pa oa.length oa.length, .int .i64 1] wx fun e w' => NumAt na (UA * 2) wx e w') := by
        intro wx bx by1 na nb pa pb oa ob UA UB h e
        obtain ⟨_, _, ⟨B, A⟩, _⟩ := h
        exact lifted_any na pa oa UA 1 1 B wx A (by omega) rfl (by omega)
      obtain ⟨c1, hc1⟩ : ∃ c, cmpI (Ie.un (Ie.ab a)) (Ie.un (Ie.ab b) * 2) = c := ⟨_, rfl⟩
      obtain ⟨c2, hc2⟩ : ∃ c, cmpI (Ie.un (Ie.ab b)) (Ie.un (Ie.ab a) * 2) = c := ⟨_, rfl⟩
      have C1 : Hid (∀ (wx : World) (bx by1 : Nat) (na nb : Bool) (pa pb : Option Addr) (oa ob : List Int) (UA UB : Int) (pl : Option Addr) (ol : List Int) (B : Nat), TwoB w wx bx by1 na nb pa pb oa ob UA UB → UA = Ie.un (Ie.ab a) → UB = Ie.un (Ie.ab b) → Ans B wx pl ol (UB * 2) → Calls Tryd.prog 17 #[.slice pa oa.length oa.length, .slice pl ol.length ol.length] wx fun e w' => e = .returned (.int .i64 c1) ∧ Below wx.heap.size wx w') := by
        intro wx bx by1 na nb pa pb oa ob UA UB pl ol B h eA eB A'
        obtain ⟨_, _, ⟨B', A⟩, _⟩ := h
        exact cmp_is c1 _ _ _ _ _ _ oa ol wx (A.tl' (K := 2100) (by omega) (by omega)).1 (A'.tl' (K := 2100) (by omega) (by omega)).1 (by rw [A.2.2.2.1, A'.2.2.2.1, eA, eB]; exact hc1)
      have C2 : Hid (∀ (wx : World) (bx by1 : Nat) (na nb : Bool) (pa pb : Option Addr) (oa ob : List Int) (UA UB : Int) (pl : Option Addr) (ol : List Int) (B : Nat), TwoB w wx bx by1 na nb pa pb oa ob UA UB → UA = Ie.un (Ie.ab a) → UB = Ie.un (Ie.ab b) → Ans B wx pl ol (UA * 2) → Calls Tryd.prog 17 #[.slice pb ob.length ob.length, .slice pl ol.length ol.length] wx fun e w' => e = .returned (.int .i64 c2) ∧ Below wx.heap.size wx w') := by
        intro wx bx by1 na nb pa pb oa ob UA UB pl ol B h eA eB A'
        obtain ⟨_, _, _, B', A⟩ := h
        exact cmp_is c2 _ _ _ _ _ _ ob ol wx (A.tl' (K := 2100) (by omega) (by omega)).1 (A'.tl' (K := 2100) (by omega) (by omega)).1 (by rw [A.2.2.2.1, A'.2.2.2.1, eA, eB]; exact hc2)
      obtain ⟨bad, hbad⟩ : ∃ bad, (!(Ie.ngd a == Ie.ngd b) || decide (0 < c1) || decide (0 < c2)) = bad := ⟨_, rfl⟩
      have GOOD : Hid (bad = false → ∀ d f, Ie.AddIs a (Ie.ng b) d f → Ie.fin d ∧ Ie.us d = Ie.us a - Ie.us b) := by
        intro h d f hA
        rw [← hbad] at h
        simp only [Bool.or_eq_false_iff, Bool.not_eq_false', beq_iff_eq, decide_eq_false_iff_not] at h
        obtain ⟨⟨g1, g2⟩, g3⟩ := h
        have k1 : Ie.un (Ie.ab a) ≤ Ie.un (Ie.ab b) * 2 := by
          rw [← hc1] at g2
          simp only [cmpI] at g2
          split at g2
          · omega
          · split at g2 <;> omega
        have k2 : Ie.un (Ie.ab b) ≤ Ie.un (Ie.ab a) * 2 := by
          rw [← hc2] at g3
          simp only [cmpI] at g3
          split at g3
          · omega
          · split at g3 <;> omega
        exact Ie.sterbenz_bits b0 b1 fa fb g1 k1 k2 hA
      have HBAD := hid hbad
      have SM : Hid (∀ (d : Int) (wx : World) (n2 : Bool) (px py : Option Addr) (ox oy : List Int) (V2 : Int) (B B' : Nat), Ans B wx px ox (Ie.un (Ie.ab d)) → Ans B' wx py oy V2 → Ie.sn n2 V2 = Ie.us a - Ie.us b → 0 ≤ V2 → Ie.fin d → Ie.us d = Ie.us a - Ie.us b →
          Calls Tryd.prog 21 #[numOf (Ie.ngd d) px ox.length ox.length, numOf n2 py oy.length oy.length] wx fun e w' => e = .returned (.bool true) ∧ Below wx.heap.size wx w') := by
        intro d wx n2 px py ox oy V2 B B' A1 A2 h2 v2 fd he
        have ud := Ie.un_lt_inf (Ie.ab_bd d).1 (Int.le_of_lt fd)
        have u0 := Ie.un_nn (Ie.ab_bd d).1
        have e2 : V2 = Ie.un (Ie.ab d) := by
          have g1 := Ie.az_sn n2 V2 v2
          rw [h2, ← he, Ie.us_az] at g1
          exact g1.symm
        have := same_any (Ie.ngd d) n2 px py ox oy _ V2 B B' wx A1 A2 (by omega) (by omega)
        rw [h2, show Ie.sn (Ie.ngd d) (Ie.un (Ie.ab d)) = Ie.us d from rfl, decide_eq_true he] at this
        exact this
      replace LB := hid (fun (wx : World) (bx by1 : Nat) (na nb : Bool) (pa pb : Option Addr) (oa ob : List Int) (UA UB : Int) (h : TwoB w wx bx by1 na nb pa pb oa ob UA UB) (hU : UB = Ie.un (Ie.ab b)) => LB.out wx bx by1 na nb pa pb oa ob UA UB h hU)
      simp only [numOf] at P2 LB LA SM
      clear hT fa fb ua ub m45 m90 e21 p21 hc1 hc2 hbad
      generalize hna : Ie.ngd a = na at *
      generalize hnb : Ie.ngd b = nb at *
      generalize hUA : Ie.un (Ie.ab a) = UA at *
      generalize hUB : Ie.un (Ie.ab b) = UB at *
      clear hna hnb hUA hUB
      go_enter Tryd.func4, Tryd.ntmps4
      go_wp2_with fail
      refine (WK.out _).mono ?_
      rintro e w1 ⟨rfl, hB1⟩
      have HB1 := hid hB1
      clear hB1 WK
      go_wp2_with fail
      refine (AL.out w1 HB1.out).mono ?_
      rintro e w2 ⟨rfl, hB2⟩
      have HB := hid (HB1.out.trans (hB2.mono HB1.out.size))
      clear hB2 AL HB1
      go_wp2_with fail
      refine (FA.out _).mono ?_
      rintro e wz ⟨rfl, hz⟩
      replace hz := hz.symm
      subst hz
      go_wp2_with fail
      refine (FB.out _).mono ?_
      rintro e wz ⟨rfl, hz⟩
      replace hz := hz.symm
      subst hz
      go_wp2_with fail
      refine (UAc.out _).mono ?_
      rintro e w4 ⟨pa, oa, rfl, Aa, hB⟩
      have HN := hid (HB.out.trans (hB.mono HB.out.size))
      have Ka := hid Aa
      clear hB HB Aa
      have HB := HN
      clear HN
      simp only [numOf]
      go_upto_region 6 with fail
      have hb := alloc_b w4 (.cells #[.bool na, .slice pa oa.length oa.length] 28)
      have R1 := hid (Row2.new w4 28 (.bool na) (.slice pa oa.length oa.length))
      have HN := hid (HB.out.trans (hb.mono HB.out.size))
      have LKa := hid (Ka.out.below hb (Nat.le_refl _))
      clear hb HB Ka
      have HB := HN
      have Ka := LKa
      clear HN LKa
      generalize hb1 : w4.heap.size = bx at *
      generalize hw1 : w4.alloc (.cells #[.bool na, .slice pa oa.length oa.length] 28) = w5 at *
      clear hb1 hw1
      go_wp2_with fail
      refine (UBc.out _).mono ?_
      rintro e w6 ⟨pb, ob, rfl, Ab, hB⟩
      have HN := hid (HB.out.trans (hB.mono HB.out.size))
      have LKa := hid (Ka.out.below hB (Nat.le_refl _))
      have LR1 := hid (R1.out.below hB R1.out.lt)
      have Kb := hid Ab
      clear hB HB Ab
      clear Ka
      have Ka := LKa
      clear LKa
      clear R1
      have R1 := LR1
      clear LR1
      have HB := HN
      clear HN
      simp only [numOf]
      go_upto_region 7 with fail
      have hb := alloc_b w6 (.cells #[.bool nb, .slice pb ob.length ob.length] 28)
      have S0 : Hid (TwoB w (w6.alloc (.cells #[.bool nb, .slice pb ob.length ob.length] 28)) bx w6.heap.size na nb pa pb oa ob UA UB) :=
        ⟨HB.out.trans (hb.mono HB.out.size), ⟨R1.out.below hb R1.out.lt, Row2.new w6 28 _ _⟩, ⟨_, Ka.out.below hb (Nat.le_refl _)⟩, ⟨_, Kb.out.below hb (Nat.le_refl _)⟩⟩
      clear hb HB R1 Ka Kb
      generalize hb2 : w6.heap.size = by1 at *
      generalize hw2 : w6.alloc (.cells #[.bool nb, .slice pb ob.length ob.length] 28) = w7 at *
      clear hb2 hw2
      have SD := hid S0.out.drew
      obtain ⟨⟨x0, x1⟩, ⟨y0, y1⟩⟩ := S0.out.cells
      go_cut [48] from 26 to 47 (fun q wx => q = .bool bad ∧ Hid (TwoB w wx bx by1 na nb pa pb oa ob UA UB))
      case first =>
        by_cases hn : na = nb
        · subst hn
          have nn : (na == na) = true := by simp
          obtain ⟨z1, hz1⟩ : ∃ z, decide (0 < c1) = z := ⟨_, rfl⟩
          cases z1
          · have eb : bad = decide (0 < c2) := by rw [← HBAD.out, hz1]; simp
            subst eb
            go_region_held3 (fun w' => w'.cell? ⟨bx, 0, none⟩ = some (.bool na) ∧ w'.cell? ⟨bx, 1, none⟩ = some (.slice pa oa.length oa.length) ∧ w'.cell? ⟨by1, 0, none⟩ = some (.bool na) ∧ w'.cell? ⟨by1, 1, none⟩ = some (.slice pb ob.length ob.length)) (first | (with_reducible exact SQ.out.flat) | (with_reducible exact SM.out.flat) | (with_reducible exact SC.out.flat) | (with_reducible exact SL.out.flat) | (with_reducible exact SD.out.flat)) (first
              | (go_at_call 12; (first
                  | (have SC' := SC; refine (LA.out _ _ _ _ _ _ _ _ _ _ _ SC'.out rfl).mono ?_; rintro e wm ⟨pm, om, rfl, AM, hBm⟩; have SM := hid (SC'.out.on hBm); have AMh := hid AM; obtain ⟨⟨e0, e1⟩, ⟨e2, e3⟩⟩ := SM.out.cells; simp only [numOf]; have FD2 : ∀ wx : World, (Instr.field 28 (.agg #[.bool na, .slice pm om.length om.length]) 1).run Tryd.prog wx = .ok (.slice pm om.length om.length) wx := (fun _ => by kernel_rfl); clear AM hBm SC')
                  | (refine (LB.out _ _ _ _ _ _ _ _ _ _ _ SD.out rfl).mono ?_; rintro e wl ⟨pl, ol, rfl, AL, hBl⟩; have SL := hid (SD.out.on hBl); have ALh := hid AL; obtain ⟨⟨d0, d1⟩, ⟨d2, d3⟩⟩ := SL.out.cells; simp only [numOf]; have FD1 : ∀ wx : World, (Instr.field 28 (.agg #[.bool na, .slice pl ol.length ol.length]) 1).run Tryd.prog wx = .ok (.slice pl ol.length ol.length) wx := (fun _ => by kernel_rfl); clear AL hBl)))
              | (go_at_call 17; (first
                  | (have SM' := SM; refine (C2.out _ _ _ _ _ _ _ _ _ _ _ _ _ _ SM'.out rfl rfl AMh.out).mono ?_; rintro e wq ⟨rfl, hBq⟩; have SQ := hid (SM'.out.on hBq); clear hBq SM')
                  | (refine (C1.out _ _ _ _ _ _ _ _ _ _ _ _ _ _ SL.out rfl rfl ALh.out).mono ?_; rintro e wp ⟨rfl, hBp⟩; have SC := hid (SL.out.on hBp); obtain ⟨⟨f0, f1⟩, ⟨f2, f3⟩⟩ := SC.out.cells; clear hBp))))
            all_goals (go_wp2_with fail; go_meet; exact ⟨rfl, SQ.out⟩)
          · have eb : bad = true := by rw [← HBAD.out, hz1]; simp
            subst eb
            (first | go_region_with (first
              | (go_at_call 12; refine (LB.out _ _ _ _ _ _ _ _ _ _ _ SD.out rfl).mono ?_; rintro e wl ⟨pl, ol, rfl, AL, hBl⟩; have SL := hid (SD.out.on hBl); have ALh := hid AL; obtain ⟨⟨d0, d1⟩, ⟨d2, d3⟩⟩ := SL.out.cells; simp only [numOf]; have FD1 : ∀ wx : World, (Instr.field 28 (.agg #[.bool na, .slice pl ol.length ol.length]) 1).run Tryd.prog wx = .ok (.slice pl ol.length ol.length) wx := (fun _ => by kernel_rfl); clear AL hBl)
              | (go_at_call 17; refine (C1.out _ _ _ _ _ _ _ _ _ _ _ _ _ _ SL.out rfl rfl ALh.out).mono ?_; rintro e wp ⟨rfl, hBp⟩; have SC := hid (SL.out.on hBp); obtain ⟨⟨f0, f1⟩, ⟨f2, f3⟩⟩ := SC.out.cells; clear hBp)) | fail)
            all_goals (go_wp2_with fail; go_meet; exact ⟨rfl, SC.out⟩)
        · have nn : (na == nb) = false := by rw [beq_eq_false_iff_ne]; exact hn
          have eb : bad = true := by rw [← HBAD.out, nn]; simp
          subst eb
          go_quiet (fail)
          go_wp2_with fail
          go_meet
          exact ⟨rfl, S0.out.drewN _⟩
      case rest =>
        obtain ⟨rfl, F1⟩ := hcut
        clear SD S0 x0 x1 y0 y1
        cases hbad : bad
        · have HB := hid F1.out.1
          have S1 := hid F1.out
          have HG := hid (GOOD.out hbad)
          clear F1 hbad HBAD GOOD
          go_wp2_with fail
          refine (SDc.out a b _ HB.out a0 a1 b0 b1).mono ?_
          rintro e wx ⟨d, fd, rfl, hr, hB⟩
          have HN := hid (HB.out.trans (hB.mono HB.out.size))
          obtain ⟨d0, d1⟩ := Ie.AddIs.bd a0 a1 (Ie.ng_uv b b0 b1).2.2.2.1 (Ie.ng_uv b b0 b1).2.2.2.2 hr
          obtain ⟨q1, q2⟩ := HG.out d fd hr
          have dF := hid q1
          have EQ := hid q2
          have S2 := hid (S1.out.on hB)
          clear hB HB hr q1 q2 S1 HG
          have HB := HN
          clear HN
          have S3 := hid S2.out.drew
          obtain ⟨⟨x0, x1⟩, ⟨y0, y1⟩⟩ := S2.out.cells
          clear HB
          go_upto_region 10 with fail
          go_region_held3 (fun w' => w'.cell? ⟨bx, 0, none⟩ = some (.bool na) ∧ w'.cell? ⟨bx, 1, none⟩ = some (.slice pa oa.length oa.length) ∧ w'.cell? ⟨by1, 0, none⟩ = some (.bool nb) ∧ w'.cell? ⟨by1, 1, none⟩ = some (.slice pb ob.length ob.length)) (first | (with_reducible exact SW.out.flat) | (with_reducible exact SV.out.flat) | (with_reducible exact SU.out.flat) | (with_reducible exact S3.out.flat)) (first
            | (go_at_call 11; refine (FI.out d _ d0 d1 dF.out).mono ?_; rintro e wz ⟨rfl, rfl⟩)
            | (go_at_call 13; refine (U.out d _ d0 d1 dF.out).mono ?_; rintro e wu ⟨pu, ou, rfl, AU, hBu⟩; have SU := hid (S3.out.on hBu); have AUh := hid AU; obtain ⟨⟨g0, g1⟩, ⟨g2, g3⟩⟩ := SU.out.cells; simp only [numOf]; clear AU hBu)
            | (go_at_call 14; refine (P2.out _ _ _ _ _ _ _ SU.out).mono ?_; rintro e wv ⟨nv, pv, ov, VV, rfl, AV, zV, vV, hBv⟩; have SV := hid (SU.out.on hBv); have AVh := hid (And.intro AV (And.intro zV vV)); have AUv := hid (AUh.out.below hBv (Nat.le_refl _)); simp only [numOf]; clear AV zV vV hBv)
            | (go_at_call 21; refine (SM.out d _ _ _ _ _ _ _ _ _ AUv.out AVh.out.1 AVh.out.2.1 AVh.out.2.2 dF.out EQ.out).mono ?_; rintro e ww ⟨rfl, hBw⟩; have SW := hid (SV.out.on hBw); clear hBw))
          all_goals (go_wp2_with fail; go_ret; exact ⟨rfl, SW.out.1⟩)
        · have HB := hid F1.out.1
          clear F1
          go_wp2_with fail
          go_ret
          exact ⟨rfl, HB.out⟩
    · rw [decide_eq_false fb] at FB
      clear fa fb hT
      go_enter Tryd.func4, Tryd.ntmps4
      go_wp2_with fail
      refine (WK.out _).mono ?_
      rintro e w1 ⟨rfl, hB1⟩
      have HB1 := hid hB1
      clear hB1 WK
      go_wp2_with fail
      refine (AL.out w1 HB1.out).mono ?_
      rintro e w2 ⟨rfl, hB2⟩
      have HB := hid (HB1.out.trans (hB2.mono HB1.out.size))
      clear hB2 AL HB1
      go_wp2_with fail
      refine (FA.out _).mono ?_
      rintro e wz ⟨rfl, hz⟩
      replace hz := hz.symm
      subst hz
      go_wp2_with fail
      refine (FB.out _).mono ?_
      rintro e wz ⟨rfl, hz⟩
      replace hz := hz.symm
      subst hz
      go_wp2_with fail
      go_ret
      exact ⟨rfl, HB.out⟩
  · rw [decide_eq_false fa] at FA
    clear fa hT
    go_enter Tryd.func4, Tryd.ntmps4
    go_wp2_with fail
    refine (WK.out _).mono ?_
    rintro e w1 ⟨rfl, hB1⟩
    have HB1 := hid hB1
    clear hB1 WK
    go_wp2_with fail
    refine (AL.out w1 HB1.out).mono ?_
    rintro e w2 ⟨rfl, hB2⟩
    have HB := hid (HB1.out.trans (hB2.mono HB1.out.size))
    clear hB2 AL HB1
    go_wp2_with fail
    refine (FA.out _).mono ?_
    rintro e wz ⟨rfl, hz⟩
    replace hz := hz.symm
    subst hz
    go_wp2_with fail
    go_ret
    exact ⟨rfl, HB.out⟩
end Go.Proofs.YtjebdobopechfabDoor
