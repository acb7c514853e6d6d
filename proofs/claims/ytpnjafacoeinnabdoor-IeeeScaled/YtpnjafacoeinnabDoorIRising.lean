import Derived.Test.YtpnjafacoeinnabDoorITie
import Derived.Test.YtpnjafacoeinnabDoorSmall
/-
  IeeeRising (made by mkrising.py).
-/
namespace Go.Proofs.YtpnjafacoeinnabDoor
open Go Go.RowKit Go.Deep

theorem roundF (p : Option Addr) (n cap : Nat) (zs : List Int) (w : World) (ha : Arg w p n cap zs) (hT : Tab w) (tz : Nm.tsize zs ≤ 4096) (V e : Int) (more : Bool) (hV : Nm.val zs = V) :
    Calls Tryd.prog 9 #[.bool false, .slice p n cap, .int .i64 e, .bool more] w fun r w' => ∃ x, r = .returned (.tuple #[.int .u64 x, .int .i64 0]) ∧ Ie.Rnd V 1 e more x ∧ Below w.heap.size w w' :=
  (round_any false p n cap zs w ha hT tz V e more hV).mono fun _ _ ⟨x, h1, h2⟩ => ⟨x, h1, h2⟩

theorem ratioF (p q : Option Addr) (n cap m cap' : Nat) (zs ys : List Int) (w : World) (ha : Arg w p n cap zs) (hb : Arg w q m cap' ys) (hT : Tab w) (tz : Nm.tsize zs ≤ 4096) (ty : Nm.tsize ys ≤ 4095) (V D e : Int) (hV : Nm.val zs = V) (hD : Nm.val ys = D) (hd : 0 < D) :
    Calls Tryd.prog 10 #[.bool false, .slice p n cap, .slice q m cap', .int .i64 e] w fun r w' => ∃ x, r = .returned (.tuple #[.int .u64 x, .int .i64 0]) ∧ Ie.Rnd V D e false x ∧ Below w.heap.size w w' :=
  (roundRatio_any false p q n cap m cap' zs ys w ha hb hT tz ty V D e hV hD hd).mono fun _ _ ⟨x, h1, h2⟩ => ⟨x, h1, h2⟩

set_option maxRecDepth 100000 in
set_option maxHeartbeats 4000000 in
theorem rising_out (neg : Bool) (pN pM pD : Option Addr) (nN cN nM cM nD cD : Nat) (zN zM zD : List Int) (e by' : Int) (w : World) (hN : Arg w pN nN cN zN) (hM : Arg w pM nM cM zM) (hD : Arg w pD nD cD zD) (hT : Tab w) (hout : 200 < nN ∨ 200 < nM ∨ 200 < nD ∨ Nm.val zD = 0) :
    Calls Tryd.prog 4 #[.agg (tieCells neg pN pM pD nN cN nM cM nD cD e by')] w fun r w' => r = .returned (.bool true) ∧ Below w.heap.size w w'  := by
  have AW := tie_awake neg pN pM pD nN cN nM cM nD cD e by' w hT
  have bN : (nN : Int) ≤ 17592186044416 := by have := hN.2.1; have := hN.2.2.1; omega
  have bM : (nM : Int) ≤ 17592186044416 := by have := hM.2.1; have := hM.2.2.1; omega
  have bD : (nD : Int) ≤ 17592186044416 := by have := hD.2.1; have := hD.2.2.1; omega
  have BL : Hid (Nm.val zD = 0 → ∀ wx : World, Below w.heap.size w wx → Calls Tryd.prog 7 #[.slice pD nD cD] wx fun e w' => e = .returned (.int .i64 0) ∧ w' = wx) := by
    intro h0 wx hx
    have h := bitLen_any pD nD cD zD wx (hD.below hx (Nat.le_refl _))
    rw [blen, if_pos ((Nm.tsize_zero_iff hD.2.2.2.2).2 h0)] at h
    exact h
  clear hT hN hD hM
  by_cases g1 : 200 < nN
  · have l1 : (200 : Int) < (nN : Int) := by omega
    clear hout g1
    go_enter Tryd.func4, Tryd.ntmps4
    simp only [tieCells]
    go_wp2_with fail
    refine (AW.out _ rfl).mono ?_
    rintro e' w1 ⟨rfl, hB, -, -, c1, c2, c3, c4, -⟩
    have HB := hid hB
    clear hB AW
    go_wp2_with fail
    go_ret
    exact ⟨rfl, HB.out⟩
  have l1 : ¬ (200 : Int) < (nN : Int) := by omega
  by_cases g2 : 200 < nM
  · have l2 : (200 : Int) < (nM : Int) := by omega
    clear hout g1 g2
    go_enter Tryd.func4, Tryd.ntmps4
    simp only [tieCells]
    go_wp2_with fail
    refine (AW.out _ rfl).mono ?_
    rintro e' w1 ⟨rfl, hB, -, -, c1, c2, c3, c4, -⟩
    have HB := hid hB
    clear hB AW
    go_wp2_with fail
    go_ret
    exact ⟨rfl, HB.out⟩
  have l2 : ¬ (200 : Int) < (nM : Int) := by omega
  by_cases g3 : 200 < nD
  · have l3 : (200 : Int) < (nD : Int) := by omega
    clear hout g1 g2 g3
    go_enter Tryd.func4, Tryd.ntmps4
    simp only [tieCells]
    go_wp2_with fail
    refine (AW.out _ rfl).mono ?_
    rintro e' w1 ⟨rfl, hB, -, -, c1, c2, c3, c4, -⟩
    have HB := hid hB
    clear hB AW
    go_wp2_with fail
    go_ret
    exact ⟨rfl, HB.out⟩
  have l3 : ¬ (200 : Int) < (nD : Int) := by omega
  have g5 : Nm.val zD = 0 := by omega
  have BL1 := hid (BL.out g5)
  clear hout g1 g2 g3 g5 BL
  go_enter Tryd.func4, Tryd.ntmps4
  simp only [tieCells]
  go_wp2_with fail
  refine (AW.out _ rfl).mono ?_
  rintro e' w1 ⟨rfl, hB, -, -, c1, c2, c3, c4, -⟩
  have HB := hid hB
  clear hB AW
  go_wp2_with fail
  refine (BL1.out _ HB.out).mono ?_
  rintro e' w2 ⟨rfl, rfl⟩
  go_wp2_with fail
  go_ret
  exact ⟨rfl, HB.out⟩

/-- What Rising looks at, once the two are in order. -/
theorem rising_num {VA VB D e a b c f g : Int} (hle : VA ≤ VB) (hd : 0 < D) (ha : Ie.Rnd VA 1 e false a) (hb : Ie.Rnd VB 1 e false b) (hc : Ie.Rnd VA D e false c) (hf : Ie.Rnd VB D e false f) (hg : Ie.Rnd VA 1 e true g) :
    a ≤ b ∧ c ≤ f ∧ a ≤ g ∧ b ≤ 9218868437227405312 ∧ f ≤ 9218868437227405312 ∧ (VA < VB → g ≤ b) := by
  have o : (0 : Int) < 1 := by omega
  have p0 : (2 : Int) ^ 0 = 1 := rfl
  refine ⟨ha.mono o o hb (a := 0) (a' := 0) (by omega) ?_, hc.mono hd hd hf (a := 0) (a' := 0) (by omega) ?_, ha.mono o o hg (a := 0) (a' := 0) (by omega) (.inr ⟨rfl, fun h => by cases h⟩), hb.bd.2, hf.bd.2, fun h => hg.mono o o hb (a := 0) (a' := 0) (by omega) (.inl (by rw [p0]; omega))⟩
  · rcases (show VA < VB ∨ VA = VB by omega) with h | h
    · exact .inl (by rw [p0]; omega)
    · exact .inr ⟨by rw [h], id⟩
  · rcases (show VA < VB ∨ VA = VB by omega) with h | h
    · exact .inl (by rw [p0, Int.mul_one, Int.mul_one]; exact Int.mul_lt_mul_of_pos_right h hd)
    · exact .inr ⟨by rw [h], id⟩

set_option maxRecDepth 100000 in
set_option maxHeartbeats 8000000 in
theorem rising_in (neg : Bool) (pN pM pD : Option Addr) (nN cN nM cM nD cD : Nat) (zN zM zD : List Int) (e by' : Int) (w : World) (hN : Arg w pN nN cN zN) (hM : Arg w pM nM cM zM) (hD : Arg w pD nD cD zD) (hT : Tab w) (gN : nN ≤ 200) (gM : nM ≤ 200) (gD : nD ≤ 200) (hd : Nm.val zD ≠ 0) :
    Calls Tryd.prog 4 #[.agg (tieCells neg pN pM pD nN cN nM cM nD cD e by')] w fun r w' => r = .returned (.bool true) ∧ Below w.heap.size w w'  := by
  have AW := tie_awake neg pN pM pD nN cN nM cM nD cD e by' w hT
  obtain ⟨VN, hVN⟩ : ∃ V, Nm.val zN = V := ⟨_, rfl⟩
  obtain ⟨VM, hVM⟩ : ∃ V, Nm.val zM = V := ⟨_, rfl⟩
  obtain ⟨D, hDe⟩ : ∃ D, Nm.val zD = D := ⟨_, rfl⟩
  have d0 : 0 < D := by have := (Nm.val_bd zD hD.2.2.2.2).1; rw [hDe] at this hd; omega
  have tN := hN.tl
  have tM := hM.tl
  have tD := hD.tl
  obtain ⟨L, hL, bL, -, -⟩ := blen_is zD hD.2.2.2.2
  rw [hDe] at bL
  have l0 : ((L : Int) == 0) = false := by rw [beq_eq_false_iff_ne]; have := (bL.2.2 d0).1; omega
  have BL := hid (fun (wx : World) (hx : Below w.heap.size w wx) => bitLen_n L pD nD cD zD wx (hD.below hx (Nat.le_refl _)) hL)
  have RN := hid (fun (wx : World) (hx : Below w.heap.size w wx) => roundF pN nN cN zN wx (hN.below hx (Nat.le_refl _)) (hT.below hx) (by omega) VN e false hVN)
  have TN := hid (fun (wx : World) (hx : Below w.heap.size w wx) => roundF pN nN cN zN wx (hN.below hx (Nat.le_refl _)) (hT.below hx) (by omega) VN e true hVN)
  have QN := hid (fun (wx : World) (hx : Below w.heap.size w wx) => ratioF pN pD nN cN nD cD zN zD wx (hN.below hx (Nat.le_refl _)) (hD.below hx (Nat.le_refl _)) (hT.below hx) (by omega) (by omega) VN D e hVN hDe d0)
  have RM := hid (fun (wx : World) (hx : Below w.heap.size w wx) => roundF pM nM cM zM wx (hM.below hx (Nat.le_refl _)) (hT.below hx) (by omega) VM e false hVM)
  have TM := hid (fun (wx : World) (hx : Below w.heap.size w wx) => roundF pM nM cM zM wx (hM.below hx (Nat.le_refl _)) (hT.below hx) (by omega) VM e true hVM)
  have QM := hid (fun (wx : World) (hx : Below w.heap.size w wx) => ratioF pM pD nM cM nD cD zM zD wx (hM.below hx (Nat.le_refl _)) (hD.below hx (Nat.le_refl _)) (hT.below hx) (by omega) (by omega) VM D e hVM hDe d0)
  have l1 : ¬ (200 : Int) < (nN : Int) := by omega
  have l2 : ¬ (200 : Int) < (nM : Int) := by omega
  have l3 : ¬ (200 : Int) < (nD : Int) := by omega
  have dd := hid d0
  clear hT hDe tN tM tD hL bL gN gM gD hd d0
  rcases (show VM < VN ∨ VN = VM ∨ VN < VM by omega) with o | o | o
  · have ORD := hid o
    have CNM : Hid (∀ wx : World, Below w.heap.size w wx → Calls Tryd.prog 13 #[.slice pN nN cN, .slice pM nM cM] wx fun r w' => r = .returned (.int .i64 (1)) ∧ Below wx.heap.size wx w') := by
      intro wx hx
      have h := cmp_any pN pM nN cN nM cM zN zM wx (hN.below hx (Nat.le_refl _)) (hM.below hx (Nat.le_refl _))
      rw [hVN, hVM, cmpI_gt o] at h
      exact h
    have CMN : Hid (∀ wx : World, Below w.heap.size w wx → Calls Tryd.prog 13 #[.slice pM nM cM, .slice pN nN cN] wx fun r w' => r = .returned (.int .i64 (-1)) ∧ Below wx.heap.size wx w') := by
      intro wx hx
      have h := cmp_any pM pN nM cM nN cN zM zN wx (hM.below hx (Nat.le_refl _)) (hN.below hx (Nat.le_refl _))
      rw [hVM, hVN, cmpI_lt o] at h
      exact h
    clear hN hM hD hVN hVM o
    go_enter Tryd.func4, Tryd.ntmps4
    simp only [tieCells]
    go_wp2_with fail
    refine (AW.out _ rfl).mono ?_
    rintro e' w1 ⟨rfl, hB, -, -, c1, c2, c3, c4, -⟩
    have HB := hid hB
    clear hB AW
    go_wp2_with fail
    refine (BL.out _ HB.out).mono ?_
    rintro e' w2 ⟨rfl, rfl⟩
    clear BL
    go_wp2_with fail
    refine (CNM.out _ HB.out).mono ?_
    rintro e' w2 ⟨rfl, hB2⟩
    have HBx := hid (HB.out.trans (hB2.mono HB.out.size))
    clear hB2 HB
    have HB := HBx
    clear HBx
    go_wp2_with fail
    refine (RM.out _ HB.out).mono ?_
    rintro e' w2 ⟨xa, rfl, ra, hB2⟩
    have HB2 := hid (HB.out.trans (hB2.mono HB.out.size))
    have xab := ra.bd
    have Hra := hid ra
    clear ra hB2
    obtain ⟨xa0, xa1⟩ := xab
    go_wp2_with fail
    refine (RN.out _ HB2.out).mono ?_
    rintro e' w3 ⟨xb, rfl, rb, hB3⟩
    have HB3 := hid (HB2.out.trans (hB3.mono HB2.out.size))
    have xbb := rb.bd
    have Hrb := hid rb
    clear rb hB3
    obtain ⟨xb0, xb1⟩ := xbb
    go_wp2_with fail
    refine (QM.out _ HB3.out).mono ?_
    rintro e' w4 ⟨xc, rfl, rc, hB4⟩
    have HB4 := hid (HB3.out.trans (hB4.mono HB3.out.size))
    have xcb := rc.bd
    have Hrc := hid rc
    clear rc hB4
    obtain ⟨xc0, xc1⟩ := xcb
    go_wp2_with fail
    refine (QN.out _ HB4.out).mono ?_
    rintro e' w5 ⟨xf, rfl, rf, hB5⟩
    have HB5 := hid (HB4.out.trans (hB5.mono HB4.out.size))
    have xfb := rf.bd
    have Hrf := hid rf
    clear rf hB5
    obtain ⟨xf0, xf1⟩ := xfb
    go_wp2_with fail
    refine (TM.out _ HB5.out).mono ?_
    rintro e' w6 ⟨xg, rfl, rg, hB6⟩
    have HB6 := hid (HB5.out.trans (hB6.mono HB5.out.size))
    have xgb := rg.bd
    have Hrg := hid rg
    clear rg hB6
    obtain ⟨xg0, xg1⟩ := xgb
    obtain ⟨f1, f2, f3, f4, f5, f6⟩ := rising_num (by have := ORD.out; omega) dd.out Hra.out Hrb.out Hrc.out Hrf.out Hrg.out
    have f6 := f6 ORD.out
    clear Hra Hrb Hrc Hrf Hrg
    go_wp2_with fail
    refine (CMN.out _ HB6.out).mono ?_
    rintro e' w7 ⟨rfl, hB7⟩
    have HB7 := hid (HB6.out.trans (hB7.mono HB6.out.size))
    clear hB7
    go_wp2_with fail
    go_ret
    exact ⟨by simp <;> omega, HB7.out⟩
  · have ORD := hid o
    have CNM : Hid (∀ wx : World, Below w.heap.size w wx → Calls Tryd.prog 13 #[.slice pN nN cN, .slice pM nM cM] wx fun r w' => r = .returned (.int .i64 (0)) ∧ Below wx.heap.size wx w') := by
      intro wx hx
      have h := cmp_any pN pM nN cN nM cM zN zM wx (hN.below hx (Nat.le_refl _)) (hM.below hx (Nat.le_refl _))
      rw [hVN, hVM, cmpI_eq o] at h
      exact h
    clear hN hM hD hVN hVM o
    go_enter Tryd.func4, Tryd.ntmps4
    simp only [tieCells]
    go_wp2_with fail
    refine (AW.out _ rfl).mono ?_
    rintro e' w1 ⟨rfl, hB, -, -, c1, c2, c3, c4, -⟩
    have HB := hid hB
    clear hB AW
    go_wp2_with fail
    refine (BL.out _ HB.out).mono ?_
    rintro e' w2 ⟨rfl, rfl⟩
    clear BL
    go_wp2_with fail
    refine (CNM.out _ HB.out).mono ?_
    rintro e' w2 ⟨rfl, hB2⟩
    have HBx := hid (HB.out.trans (hB2.mono HB.out.size))
    clear hB2 HB
    have HB := HBx
    clear HBx
    go_wp2_with fail
    refine (RN.out _ HB.out).mono ?_
    rintro e' w2 ⟨xa, rfl, ra, hB2⟩
    have HB2 := hid (HB.out.trans (hB2.mono HB.out.size))
    have xab := ra.bd
    have Hra := hid ra
    clear ra hB2
    obtain ⟨xa0, xa1⟩ := xab
    go_wp2_with fail
    refine (RM.out _ HB2.out).mono ?_
    rintro e' w3 ⟨xb, rfl, rb, hB3⟩
    have HB3 := hid (HB2.out.trans (hB3.mono HB2.out.size))
    have xbb := rb.bd
    have Hrb := hid rb
    clear rb hB3
    obtain ⟨xb0, xb1⟩ := xbb
    go_wp2_with fail
    refine (QN.out _ HB3.out).mono ?_
    rintro e' w4 ⟨xc, rfl, rc, hB4⟩
    have HB4 := hid (HB3.out.trans (hB4.mono HB3.out.size))
    have xcb := rc.bd
    have Hrc := hid rc
    clear rc hB4
    obtain ⟨xc0, xc1⟩ := xcb
    go_wp2_with fail
    refine (QM.out _ HB4.out).mono ?_
    rintro e' w5 ⟨xf, rfl, rf, hB5⟩
    have HB5 := hid (HB4.out.trans (hB5.mono HB4.out.size))
    have xfb := rf.bd
    have Hrf := hid rf
    clear rf hB5
    obtain ⟨xf0, xf1⟩ := xfb
    go_wp2_with fail
    refine (TN.out _ HB5.out).mono ?_
    rintro e' w6 ⟨xg, rfl, rg, hB6⟩
    have HB6 := hid (HB5.out.trans (hB6.mono HB5.out.size))
    have xgb := rg.bd
    have Hrg := hid rg
    clear rg hB6
    obtain ⟨xg0, xg1⟩ := xgb
    obtain ⟨f1, f2, f3, f4, f5, f6⟩ := rising_num (by have := ORD.out; omega) dd.out Hra.out Hrb.out Hrc.out Hrf.out Hrg.out
    clear f6
    clear Hra Hrb Hrc Hrf Hrg
    go_wp2_with fail
    refine (CNM.out _ HB6.out).mono ?_
    rintro e' w7 ⟨rfl, hB7⟩
    have HB7 := hid (HB6.out.trans (hB7.mono HB6.out.size))
    clear hB7
    go_wp2_with fail
    go_ret
    exact ⟨by simp <;> omega, HB7.out⟩
  · have ORD := hid o
    have CNM : Hid (∀ wx : World, Below w.heap.size w wx → Calls Tryd.prog 13 #[.slice pN nN cN, .slice pM nM cM] wx fun r w' => r = .returned (.int .i64 (-1)) ∧ Below wx.heap.size wx w') := by
      intro wx hx
      have h := cmp_any pN pM nN cN nM cM zN zM wx (hN.below hx (Nat.le_refl _)) (hM.below hx (Nat.le_refl _))
      rw [hVN, hVM, cmpI_lt o] at h
      exact h
    clear hN hM hD hVN hVM o
    go_enter Tryd.func4, Tryd.ntmps4
    simp only [tieCells]
    go_wp2_with fail
    refine (AW.out _ rfl).mono ?_
    rintro e' w1 ⟨rfl, hB, -, -, c1, c2, c3, c4, -⟩
    have HB := hid hB
    clear hB AW
    go_wp2_with fail
    refine (BL.out _ HB.out).mono ?_
    rintro e' w2 ⟨rfl, rfl⟩
    clear BL
    go_wp2_with fail
    refine (CNM.out _ HB.out).mono ?_
    rintro e' w2 ⟨rfl, hB2⟩
    have HBx := hid (HB.out.trans (hB2.mono HB.out.size))
    clear hB2 HB
    have HB := HBx
    clear HBx
    go_wp2_with fail
    refine (RN.out _ HB.out).mono ?_
    rintro e' w2 ⟨xa, rfl, ra, hB2⟩
    have HB2 := hid (HB.out.trans (hB2.mono HB.out.size))
    have xab := ra.bd
    have Hra := hid ra
    clear ra hB2
    obtain ⟨xa0, xa1⟩ := xab
    go_wp2_with fail
    refine (RM.out _ HB2.out).mono ?_
    rintro e' w3 ⟨xb, rfl, rb, hB3⟩
    have HB3 := hid (HB2.out.trans (hB3.mono HB2.out.size))
    have xbb := rb.bd
    have Hrb := hid rb
    clear rb hB3
    obtain ⟨xb0, xb1⟩ := xbb
    go_wp2_with fail
    refine (QN.out _ HB3.out).mono ?_
    rintro e' w4 ⟨xc, rfl, rc, hB4⟩
    have HB4 := hid (HB3.out.trans (hB4.mono HB3.out.size))
    have xcb := rc.bd
    have Hrc := hid rc
    clear rc hB4
    obtain ⟨xc0, xc1⟩ := xcb
    go_wp2_with fail
    refine (QM.out _ HB4.out).mono ?_
    rintro e' w5 ⟨xf, rfl, rf, hB5⟩
    have HB5 := hid (HB4.out.trans (hB5.mono HB4.out.size))
    have xfb := rf.bd
    have Hrf := hid rf
    clear rf hB5
    obtain ⟨xf0, xf1⟩ := xfb
    go_wp2_with fail
    refine (TN.out _ HB5.out).mono ?_
    rintro e' w6 ⟨xg, rfl, rg, hB6⟩
    have HB6 := hid (HB5.out.trans (hB6.mono HB5.out.size))
    have xgb := rg.bd
    have Hrg := hid rg
    clear rg hB6
    obtain ⟨xg0, xg1⟩ := xgb
    obtain ⟨f1, f2, f3, f4, f5, f6⟩ := rising_num (by have := ORD.out; omega) dd.out Hra.out Hrb.out Hrc.out Hrf.out Hrg.out
    have f6 := f6 ORD.out
    clear Hra Hrb Hrc Hrf Hrg
    go_wp2_with fail
    refine (CNM.out _ HB6.out).mono ?_
    rintro e' w7 ⟨rfl, hB7⟩
    have HB7 := hid (HB6.out.trans (hB7.mono HB6.out.size))
    clear hB7
    go_wp2_with fail
    go_ret
    exact ⟨by simp <;> omega, HB7.out⟩

theorem rising_any (neg : Bool) (pN pM pD : Option Addr) (nN cN nM cM nD cD : Nat) (zN zM zD : List Int) (e by' : Int) (w : World) (hN : Arg w pN nN cN zN) (hM : Arg w pM nM cM zM) (hD : Arg w pD nD cD zD) (hT : Tab w) :
    Calls Tryd.prog 4 #[.agg (tieCells neg pN pM pD nN cN nM cM nD cD e by')] w fun r w' => r = .returned (.bool true) ∧ Below w.heap.size w w'  := by
  by_cases h : 200 < nN ∨ 200 < nM ∨ 200 < nD ∨ Nm.val zD = 0
  · exact rising_out neg pN pM pD nN cN nM cM nD cD zN zM zD e by' w hN hM hD hT h
  · exact rising_in neg pN pM pD nN cN nM cM nD cD zN zM zD e by' w hN hM hD hT (by omega) (by omega) (by omega) (by omega)
end Go.Proofs.YtpnjafacoeinnabDoor
