/-
  Texts put together: XPlus, XRounded, XAddA, XAddL, XSub, XFlag, XSpecA, XSpec, XFlagA, XTwo2, IOrdD, IOrdC, MSteps, HNum6, MSplit, MAlign, NSub, MAns.
-/
import Derived.Test.YtmakkfekomnpbaaGreatDoorRE
import Derived.Test.YtmakkfekomnpbaaGreatDoorXNum
import Derived.Test.YtmakkfekomnpbaaGreatDoorRA
import Derived.Test.YtmakkfekomnpbaaGreatDoorSmall
import Derived.Test.YtmakkfekomnpbaaGreatDoorXIs
import Derived.BigQuiet
import Derived.Test.YtmakkfekomnpbaaGreatDoorXDef
import Derived.Test.YtmakkfekomnpbaaGreatDoorIWalk1B
import Derived.Test.YtmakkfekomnpbaaGreatDoorRB
import Derived.Test.YtmakkfekomnpbaaGreatDoorQDivOk
import Derived.Test.YtmakkfekomnpbaaGreatDoorBitW
/-
  soft: plus.
-/
namespace Go.Proofs.YtmakkfekomnpbaaGreatDoor
open Go Go.RowKit Go.Deep

set_option maxRecDepth 100000 in
set_option maxHeartbeats 8000000 in
theorem plus_at (n1 n2 m1 m2 : Bool) (p1 p2 : Option Addr) (l1 c1 l2 c2 : Nat) (z1 z2 : List Int) (e1 e2 V1 V2 : Int) (w : World) (a1 : Arg w p1 l1 c1 z1) (a2 : Arg w p2 l2 c2 z2) (hV1 : Nm.val z1 = V1) (hV2 : Nm.val z2 = V2) (b1 : V1 < 2 ^ 200) (b2 : V2 < 2 ^ 200)
    (q1 : -2200 ≤ e1) (q2 : e1 ≤ 2000) (q3 : -2200 ≤ e2) (q4 : e2 ≤ 2000) (m : Int) (k1 k2 : Nat) (hm : min e1 e2 = m) (hk1 : (k1 : Int) = e1 - m) (hk2 : (k2 : Int) = e2 - m) :
    Calls Tryz.prog 132 #[exactOf n1 p1 l1 c1 e1 m1, exactOf n2 p2 l2 c2 e2 m2] w fun e w' => PlusTold n1 V1 e1 n2 V2 e2 w e w' := by
  have kk : k1 ≤ 4200 ∧ k2 ≤ 4200 := by omega
  have v1 : 0 ≤ V1 := by rw [← hV1]; exact (Nm.val_bd z1 a1.2.2.2.2).1
  have v2 : 0 ≤ V2 := by rw [← hV2]; exact (Nm.val_bd z2 a2.2.2.2.2).1
  have u1 := Ie.up_lt b1 kk.1
  have u2 := Ie.up_lt b2 kk.2
  have x1 : 0 ≤ V1 * 2 ^ k1 := Int.mul_nonneg v1 (by have := Nm.two_pos k1; omega)
  have x2 : 0 ≤ V2 * 2 ^ k2 := Int.mul_nonneg v2 (by have := Nm.two_pos k2; omega)
  have e4096 := pw_4096
  have big := Nm.two_mono (show 4401 ≤ 262144 by omega)
  have two : (2 : Int) ^ 4401 = 2 * 2 ^ 4400 := Nm.two_succ 4400
  have five := Nm.two_mono (show 4401 ≤ 5000 by omega)
  have t1 : Nm.tsize z1 ≤ 4096 := (Nm.tsize_le_iff a1.2.2.2.2 4096).2 (by rw [hV1]; have := Nm.two_mono (show 200 ≤ 4400 by omega); omega)
  have t2 : Nm.tsize z2 ≤ 4096 := (Nm.tsize_le_iff a2.2.2.2.2 4096).2 (by rw [hV2]; have := Nm.two_mono (show 200 ≤ 4400 by omega); omega)
  have S1 : Hid (∀ (wx : World) (d : Int), Below w.heap.size w wx → d = e1 - m → Calls Tryz.prog 77 #[.slice p1 l1 c1, .int .i64 d] wx fun e w' => ∃ r os, e = .returned (.tuple #[.slice r (List.length os) (List.length os), .int .i64 0]) ∧ Ans wx.heap.size w' r os (V1 * 2 ^ k1) ∧ Below wx.heap.size wx w') := by
    intro wx d hx hd
    have := shl_any p1 l1 c1 z1 d k1 wx (a1.below hx (Nat.le_refl _)) t1 (by omega) (by rw [hV1]; omega)
    rw [hV1] at this
    exact this
  have S2 : Hid (∀ (wx : World) (d : Int), Below w.heap.size w wx → d = e2 - m → Calls Tryz.prog 77 #[.slice p2 l2 c2, .int .i64 d] wx fun e w' => ∃ r os, e = .returned (.tuple #[.slice r (List.length os) (List.length os), .int .i64 0]) ∧ Ans wx.heap.size w' r os (V2 * 2 ^ k2) ∧ Below wx.heap.size wx w') := by
    intro wx d hx hd
    have := shl_any p2 l2 c2 z2 d k2 wx (a2.below hx (Nat.le_refl _)) t2 (by omega) (by rw [hV2]; omega)
    rw [hV2] at this
    exact this
  have FIN : Hid (∀ (w3 : World) (neg : Bool) (p : Option Addr) (os : List Int) (V x : Int) (x0 x1 x2 x3 y0 y1 y2 y3 : Value), Box w w3 x0 x1 x2 x3 y0 y1 y2 y3 → Ans (w.heap.size + 3) w3 p os V → Ie.SumIs n1 V1 e1 n2 V2 e2 neg V x →
      PlusTold n1 V1 e1 n2 V2 e2 w (.returned (exactOf neg p (List.length os) (List.length os) x false)) ((((w3.setCell ⟨w.heap.size + 2, 0, none⟩ (.bool neg)).setCell ⟨w.heap.size + 2, 1, none⟩ (.slice p os.length os.length)).setCell ⟨w.heap.size + 2, 2, none⟩ (.int .i64 x)).setCell ⟨w.heap.size + 2, 3, none⟩ (.bool false))) := by
    intro w3 neg p os V x x0 x1 x2 x3 y0 y1 y2 y3 hb A hS
    have A' := A.set4 (b := w.heap.size + 2) (u0 := .bool neg) (u1 := .slice p os.length os.length) (u2 := .int .i64 x) (u3 := .bool false) (by omega)
    exact ⟨neg, p, os, V, x, rfl, ⟨A'.1, A'.2.1, A'.2.2.1, A'.2.2.2.1, fun a h => by have := A'.2.2.2.2 a h; omega⟩, set4_below hb.2.1 (by omega), hS⟩
  have B0 := Box.new w (.bool n1) (.slice p1 l1 c1) (.int .i64 e1) (.bool m1) (.bool n2) (.slice p2 l2 c2) (.int .i64 e2) (.bool m2)
  have SA : Hid (∀ (neg : Bool) (V : Int), Ie.sn neg V = Ie.sn n1 (V1 * 2 ^ k1) + Ie.sn n2 (V2 * 2 ^ k2) → (V = 0 → neg = (n1 && n2)) → 0 ≤ V → V < 2 ^ 5000 → Ie.SumIs n1 V1 e1 n2 V2 e2 neg V m) := fun neg V h h0 h1 h2 => Ie.sum_at hm hk1 hk2 h h0 h1 h2
  have SN : Hid (n1 ≠ n2 → V1 * 2 ^ k1 = V2 * 2 ^ k2 → Ie.SumIs n1 V1 e1 n2 V2 e2 false 0 0) := fun h h' => Ie.sum_none hm hk1 hk2 h h'
  have U1 := hid u1
  have U2 := hid u2
  have BG : Hid ((V1 * 2 ^ k1 + V2 * 2 ^ k2 < Nm.pw 4096 ∧ V1 * 2 ^ k1 + V2 * 2 ^ k2 < 2 ^ 5000) ∧ (V1 * 2 ^ k1 < 2 ^ 5000 ∧ V2 * 2 ^ k2 < 2 ^ 5000)) := by
    have e : (2 : Int) ^ (200 + 4200) = 2 ^ 4400 := rfl
    rw [e] at u1 u2
    refine ⟨⟨?_, ?_⟩, ?_, ?_⟩ <;> omega
  clear hV1 hV2 b1 b2 a1 a2 v1 v2 kk u1 u2 big two five t1 t2 e4096 hk1 hk2
  generalize hX1 : V1 * 2 ^ k1 = X1 at *
  generalize hX2 : V2 * 2 ^ k2 = X2 at *
  clear hX1 hX2
  simp only [exactOf]
  by_cases hn : n1 = n2
  · subst hn
    have nn : (n1 == n1) = true := by simp
    go_enter Tryz.func132, Tryz.ntmps132
    go_wp2_with fail
    refine (S1.out _ _ B0.2.1 (by omega)).mono ?_
    rintro e wa ⟨r1, o1, rfl, A1, hB1⟩
    have Ba := B0.on hB1
    obtain ⟨⟨cx0, cx1, cx2⟩, ⟨cy0, cy1, cy2⟩, -⟩ := Ba.cells
    have s0 := B0.2.2
    have AA := hid A1
    clear hB1 A1 S1
    go_wp2_with fail
    refine (S2.out _ _ Ba.2.1 (by omega)).mono ?_
    rintro e wb ⟨r2, o2, rfl, A2, hB2⟩
    have Bb := Ba.on hB2
    have A1 := AA.out.below hB2 (Nat.le_refl _)
    have sa := Ba.2.2
    obtain ⟨⟨h1, h2⟩, h3, h4⟩ := BG.out
    obtain ⟨t1, l1', y1⟩ := A1.tl U1.out (by omega)
    obtain ⟨t2, l2', y2⟩ := A2.tl U2.out (by omega)
    clear cx0 cx1 cx2 cy0 cy1 cy2
    obtain ⟨⟨cx0, cx1, cx2⟩, ⟨cy0, cy1, cy2⟩, -⟩ := Bb.cells
    have g1 := A1.arg (by omega)
    have g2 := A2.arg (by omega)
    have CC := hid (add_ok r1 r2 _ _ _ _ o1 o2 wb g1 g2 (by rw [A1.2.2.2.1, A2.2.2.2.1]; omega))
    rw [A1.2.2.2.1, A2.2.2.2.1] at CC
    have HH := hid (And.intro h2 (And.intro h3 h4))
    have BB := hid Bb
    have SS := hid (And.intro s0 sa)
    clear S2 hB2 A1 A2 AA Ba Bb U1 U2 BG t1 t2 l1' l2' y1 y2 g1 g2 h1 h2 h3 h4 s0 sa B0
    go_wp2_with fail
    refine CC.out.mono ?_
    rintro e wc ⟨r3, o3, rfl, A3, hB3⟩
    have Bc := BB.out.on hB3
    have KF := FIN.out wc n1 r3 o3 (X1 + X2) m _ _ _ _ _ _ _ _ Bc ⟨A3.1, A3.2.1, A3.2.2.1, A3.2.2.2.1, fun a h => by have := A3.2.2.2.2 a h; have := BB.out.2.2; omega⟩ (SA.out n1 (X1 + X2) (by cases n1 <;> simp only [Ie.sn, Bool.false_eq_true, if_true, if_false] <;> omega) (fun _ => by simp) (by omega) HH.out.1)
    clear A3 hB3 CC BB cx0 cx1 cx2 cy0 cy1 cy2
    obtain ⟨⟨cx0, cx1, cx2⟩, ⟨cy0, cy1, cy2⟩, ⟨⟨r0, r1', r2', r3⟩, ⟨f0, f1, f2, f3⟩⟩⟩ := Bc.cells
    have RR := hid Bc.1.2.2
    have KK := hid KF
    clear Bc KF
    go_wp2_with fail
    (try simp only [Exit.inBlock, Exit.then])
    refine bodyPost_ret (results_cell_row rfl _ _ (w.heap.size + 2) 108 _ (0, 0) _ rfl (Row4.set RR.out) Tryz.underlying108 rfl (by kernel_rfl)) rfl ?_
    exact KK.out
  · have nn : (n1 == n2) = false := by rw [beq_eq_false_iff_ne]; exact hn
    rcases (show X2 < X1 ∨ X1 < X2 ∨ X1 = X2 by omega) with ho | ho | ho
    · have CI : cmpI X1 X2 = 1 := cmpI_gt ho
      go_enter Tryz.func132, Tryz.ntmps132
      go_wp2_with fail
      refine (S1.out _ _ B0.2.1 (by omega)).mono ?_
      rintro e wa ⟨r1, o1, rfl, A1, hB1⟩
      have Ba := B0.on hB1
      obtain ⟨⟨cx0, cx1, cx2⟩, ⟨cy0, cy1, cy2⟩, -⟩ := Ba.cells
      have s0 := B0.2.2
      have AA := hid A1
      clear hB1 A1 S1
      go_wp2_with fail
      refine (S2.out _ _ Ba.2.1 (by omega)).mono ?_
      rintro e wb ⟨r2, o2, rfl, A2, hB2⟩
      have Bb := Ba.on hB2
      have A1 := AA.out.below hB2 (Nat.le_refl _)
      have sa := Ba.2.2
      obtain ⟨⟨h1, h2⟩, h3, h4⟩ := BG.out
      obtain ⟨t1, l1', y1⟩ := A1.tl U1.out (by omega)
      obtain ⟨t2, l2', y2⟩ := A2.tl U2.out (by omega)
      clear cx0 cx1 cx2 cy0 cy1 cy2
      obtain ⟨⟨cx0, cx1, cx2⟩, ⟨cy0, cy1, cy2⟩, -⟩ := Bb.cells
      have g1 := A1.arg (by omega)
      have g2 := A2.arg (by omega)
      have C0 := hid (cmp_is (cmpI X1 X2) r1 r2 _ _ _ _ o1 o2 wb g1 g2 (by rw [A1.2.2.2.1, A2.2.2.2.1]))
      rw [CI] at C0
      have CC := hid (fun (wx : World) (hx : Below wb.heap.size wb wx) => sub_ok r1 r2 _ _ _ _ o1 o2 wx (g1.below hx (Nat.le_refl _)) (g2.below hx (Nat.le_refl _)) t1 (by rw [A1.2.2.2.1, A2.2.2.2.1]; omega))
      rw [A1.2.2.2.1, A2.2.2.2.1] at CC
      have HH := hid (And.intro h2 (And.intro h3 h4))
      have BB := hid Bb
      have SS := hid (And.intro s0 sa)
      clear S2 hB2 A1 A2 AA Ba Bb U1 U2 BG t1 t2 l1' l2' y1 y2 g1 g2 h1 h2 h3 h4 s0 sa B0 CI
      go_wp2_with fail
      refine C0.out.mono ?_
      rintro e wz ⟨rfl, hBz⟩
      have Bz := BB.out.on hBz
      have C1 := hid (CC.out wz hBz)
      have ZZ := hid Bz
      clear CC hBz Bz BB cx0 cx1 cx2 cy0 cy1 cy2
      go_wp2_with fail
      refine C1.out.mono ?_
      rintro e wc ⟨r3, o3, rfl, A3, hB3⟩
      have Bc := ZZ.out.on hB3
      have KF := FIN.out wc n1 r3 o3 (X1 - X2) m _ _ _ _ _ _ _ _ Bc ⟨A3.1, A3.2.1, A3.2.2.1, A3.2.2.2.1, fun a h => by have := A3.2.2.2.2 a h; have := ZZ.out.2.2; omega⟩ (SA.out n1 (X1 - X2) (by cases n1 <;> cases n2 <;> simp only [Ie.sn, Bool.false_eq_true, if_true, if_false] <;> first | exact absurd rfl hn | omega) (fun h => by omega) (by omega) (by have := HH.out; omega))
      clear A3 hB3 C1 ZZ C0
      obtain ⟨⟨cx0, cx1, cx2⟩, ⟨cy0, cy1, cy2⟩, ⟨⟨r0, r1', r2', r3⟩, ⟨f0, f1, f2, f3⟩⟩⟩ := Bc.cells
      have RR := hid Bc.1.2.2
      have KK := hid KF
      clear Bc KF
      go_wp2_with fail
      (try simp only [Exit.inBlock, Exit.then])
      refine bodyPost_ret (results_cell_row rfl _ _ (w.heap.size + 2) 108 _ (0, 0) _ rfl (Row4.set RR.out) Tryz.underlying108 rfl (by kernel_rfl)) rfl ?_
      exact KK.out
    · have CI : cmpI X1 X2 = -1 := cmpI_lt ho
      go_enter Tryz.func132, Tryz.ntmps132
      go_wp2_with fail
      refine (S1.out _ _ B0.2.1 (by omega)).mono ?_
      rintro e wa ⟨r1, o1, rfl, A1, hB1⟩
      have Ba := B0.on hB1
      obtain ⟨⟨cx0, cx1, cx2⟩, ⟨cy0, cy1, cy2⟩, -⟩ := Ba.cells
      have s0 := B0.2.2
      have AA := hid A1
      clear hB1 A1 S1
      go_wp2_with fail
      refine (S2.out _ _ Ba.2.1 (by omega)).mono ?_
      rintro e wb ⟨r2, o2, rfl, A2, hB2⟩
      have Bb := Ba.on hB2
      have A1 := AA.out.below hB2 (Nat.le_refl _)
      have sa := Ba.2.2
      obtain ⟨⟨h1, h2⟩, h3, h4⟩ := BG.out
      obtain ⟨t1, l1', y1⟩ := A1.tl U1.out (by omega)
      obtain ⟨t2, l2', y2⟩ := A2.tl U2.out (by omega)
      clear cx0 cx1 cx2 cy0 cy1 cy2
      obtain ⟨⟨cx0, cx1, cx2⟩, ⟨cy0, cy1, cy2⟩, -⟩ := Bb.cells
      have g1 := A1.arg (by omega)
      have g2 := A2.arg (by omega)
      have C0 := hid (cmp_is (cmpI X1 X2) r1 r2 _ _ _ _ o1 o2 wb g1 g2 (by rw [A1.2.2.2.1, A2.2.2.2.1]))
      rw [CI] at C0
      have CC := hid (fun (wx : World) (hx : Below wb.heap.size wb wx) => sub_ok r2 r1 _ _ _ _ o2 o1 wx (g2.below hx (Nat.le_refl _)) (g1.below hx (Nat.le_refl _)) t2 (by rw [A1.2.2.2.1, A2.2.2.2.1]; omega))
      rw [A1.2.2.2.1, A2.2.2.2.1] at CC
      have HH := hid (And.intro h2 (And.intro h3 h4))
      have BB := hid Bb
      have SS := hid (And.intro s0 sa)
      clear S2 hB2 A1 A2 AA Ba Bb U1 U2 BG t1 t2 l1' l2' y1 y2 g1 g2 h1 h2 h3 h4 s0 sa B0 CI
      go_wp2_with fail
      refine C0.out.mono ?_
      rintro e wz ⟨rfl, hBz⟩
      have Bz := BB.out.on hBz
      have C1 := hid (CC.out wz hBz)
      have ZZ := hid Bz
      clear CC hBz Bz BB cx0 cx1 cx2 cy0 cy1 cy2
      go_wp2_with fail
      refine C1.out.mono ?_
      rintro e wc ⟨r3, o3, rfl, A3, hB3⟩
      have Bc := ZZ.out.on hB3
      have KF := FIN.out wc n2 r3 o3 (X2 - X1) m _ _ _ _ _ _ _ _ Bc ⟨A3.1, A3.2.1, A3.2.2.1, A3.2.2.2.1, fun a h => by have := A3.2.2.2.2 a h; have := ZZ.out.2.2; omega⟩ (SA.out n2 (X2 - X1) (by cases n1 <;> cases n2 <;> simp only [Ie.sn, Bool.false_eq_true, if_true, if_false] <;> first | exact absurd rfl hn | omega) (fun h => by omega) (by omega) (by have := HH.out; omega))
      clear A3 hB3 C1 ZZ C0
      obtain ⟨⟨cx0, cx1, cx2⟩, ⟨cy0, cy1, cy2⟩, ⟨⟨r0, r1', r2', r3⟩, ⟨f0, f1, f2, f3⟩⟩⟩ := Bc.cells
      have RR := hid Bc.1.2.2
      have KK := hid KF
      clear Bc KF
      go_wp2_with fail
      (try simp only [Exit.inBlock, Exit.then])
      refine bodyPost_ret (results_cell_row rfl _ _ (w.heap.size + 2) 108 _ (0, 0) _ rfl (Row4.set RR.out) Tryz.underlying108 rfl (by kernel_rfl)) rfl ?_
      exact KK.out
    · have CI : cmpI X1 X2 = 0 := cmpI_eq ho
      go_enter Tryz.func132, Tryz.ntmps132
      go_wp2_with fail
      refine (S1.out _ _ B0.2.1 (by omega)).mono ?_
      rintro e wa ⟨r1, o1, rfl, A1, hB1⟩
      have Ba := B0.on hB1
      obtain ⟨⟨cx0, cx1, cx2⟩, ⟨cy0, cy1, cy2⟩, -⟩ := Ba.cells
      have s0 := B0.2.2
      have AA := hid A1
      clear hB1 A1 S1
      go_wp2_with fail
      refine (S2.out _ _ Ba.2.1 (by omega)).mono ?_
      rintro e wb ⟨r2, o2, rfl, A2, hB2⟩
      have Bb := Ba.on hB2
      have A1 := AA.out.below hB2 (Nat.le_refl _)
      have sa := Ba.2.2
      obtain ⟨⟨h1, h2⟩, h3, h4⟩ := BG.out
      obtain ⟨t1, l1', y1⟩ := A1.tl U1.out (by omega)
      obtain ⟨t2, l2', y2⟩ := A2.tl U2.out (by omega)
      clear cx0 cx1 cx2 cy0 cy1 cy2
      obtain ⟨⟨cx0, cx1, cx2⟩, ⟨cy0, cy1, cy2⟩, -⟩ := Bb.cells
      have g1 := A1.arg (by omega)
      have g2 := A2.arg (by omega)
      have C0 := hid (cmp_is (cmpI X1 X2) r1 r2 _ _ _ _ o1 o2 wb g1 g2 (by rw [A1.2.2.2.1, A2.2.2.2.1]))
      rw [CI] at C0
      have HH := hid (And.intro h2 (And.intro h3 h4))
      have BB := hid Bb
      have SS := hid (And.intro s0 sa)
      clear S2 hB2 A1 A2 AA Ba Bb U1 U2 BG t1 t2 l1' l2' y1 y2 g1 g2 h1 h2 h3 h4 s0 sa B0 CI
      go_wp2_with fail
      refine C0.out.mono ?_
      rintro e wz ⟨rfl, hBz⟩
      have Bz := BB.out.on hBz
      have Bc := Bz
      have KF := FIN.out wz false none [] 0 0 _ _ _ _ _ _ _ _ Bc ⟨Lies.nil _ _, Nm.Limbs.nil, rfl, rfl, fun a h => by cases h⟩ (SN.out hn ho)
      clear BB Bz hBz cx0 cx1 cx2 cy0 cy1 cy2 C0
      obtain ⟨⟨cx0, cx1, cx2⟩, ⟨cy0, cy1, cy2⟩, ⟨⟨r0, r1', r2', r3⟩, ⟨f0, f1, f2, f3⟩⟩⟩ := Bc.cells
      have RR := hid Bc.1.2.2
      have KK := hid KF
      clear Bc KF
      go_wp2_with fail
      (try simp only [Exit.inBlock, Exit.then])
      refine bodyPost_ret (results_cell_row rfl _ _ (w.heap.size + 2) 108 _ (0, 0) _ rfl (Row4.set RR.out) Tryz.underlying108 rfl (by kernel_rfl)) rfl ?_
      exact KK.out

theorem plus_any (n1 n2 m1 m2 : Bool) (p1 p2 : Option Addr) (l1 c1 l2 c2 : Nat) (z1 z2 : List Int) (e1 e2 V1 V2 : Int) (w : World) (a1 : Arg w p1 l1 c1 z1) (a2 : Arg w p2 l2 c2 z2) (hV1 : Nm.val z1 = V1) (hV2 : Nm.val z2 = V2) (b1 : V1 < 2 ^ 200) (b2 : V2 < 2 ^ 200)
    (q1 : -2200 ≤ e1) (q2 : e1 ≤ 2000) (q3 : -2200 ≤ e2) (q4 : e2 ≤ 2000) :
    Calls Tryz.prog 132 #[exactOf n1 p1 l1 c1 e1 m1, exactOf n2 p2 l2 c2 e2 m2] w fun e w' => PlusTold n1 V1 e1 n2 V2 e2 w e w' :=
  plus_at n1 n2 m1 m2 p1 p2 l1 c1 l2 c2 z1 z2 e1 e2 V1 V2 w a1 a2 hV1 hV2 b1 b2 q1 q2 q3 q4 (min e1 e2) (e1 - min e1 e2).toNat (e2 - min e1 e2).toNat rfl (by omega) (by omega)
end Go.Proofs.YtmakkfekomnpbaaGreatDoor

/-
  soft: rounded.
-/
namespace Go.Proofs.YtmakkfekomnpbaaGreatDoor
open Go Go.RowKit Go.Deep

/-- The flags that a rounding raises: the result V * 2^e (or a trifle above), the double x, L the bits of V, t the zeros at its end. -/
def Ie.flg (V e : Int) (more : Bool) (d : Int) (t L : Nat) : Int :=
  if Ie.isx V e more d t = true then 0 else 16 + (if Ie.isi d = true then 4 else 0) + (if (L : Int) + e ≤ -1022 then 8 else 0)

/-- What rounded answers. -/
def RoundedTold (neg : Bool) (V e : Int) (more : Bool) (w : World) (r : Ending) (w' : World) : Prop :=
  ∃ (x : Int) (t L : Nat), r = .returned (.tuple #[.int .u64 (Ie.sg neg x), .int .i64 (Ie.flg V e more (Ie.sg neg x) t L)]) ∧ Ie.Rnd V 1 e more x ∧ Nm.Trl V t ∧ Nm.BLen V L ∧ Below w.heap.size w w'

theorem ret_ui {a b c d : Int} (h : a = b) (k : c = d) : Ending.returned (.tuple #[.int .u64 a, .int .i64 c]) = .returned (.tuple #[.int .u64 b, .int .i64 d]) := by rw [h, k]

set_option maxRecDepth 100000 in
set_option maxHeartbeats 4000000 in
theorem rounded_any (neg more : Bool) (p : Option Addr) (l c : Nat) (zs : List Int) (e V : Int) (w : World) (ha : Arg w p l c zs) (hT : Tab w) (hV : Nm.val zs = V) (hl : l = 0 ↔ V = 0) (hb : V < 2 ^ 5000) (q1 : -10000 ≤ e) (q2 : e ≤ 10000) :
    Calls Tryz.prog 133 #[exactOf neg p l c e more] w fun r w' => RoundedTold neg V e more w r w' := by
  have v0 : 0 ≤ V := by rw [← hV]; exact (Nm.val_bd zs ha.2.2.2.2).1
  have tz : Nm.tsize zs ≤ 4096 := (Nm.tsize_le_iff ha.2.2.2.2 4096).2 (by rw [hV, pw_4096]; have := Nm.two_mono (show 5000 ≤ 262144 by omega); omega)
  obtain ⟨L, hL, BL, hl2, _⟩ := blen_is zs ha.2.2.2.2
  rw [hV] at BL
  have Lb : (L : Int) ≤ 262144 := by omega
  obtain ⟨t, tb, ht⟩ : ∃ t : Nat, t ≤ 10000 ∧ Nm.Trl V t := by
    rcases (show V = 0 ∨ 0 < V by omega) with h | h
    · exact ⟨0, by omega, .inl ⟨h, rfl⟩⟩
    · obtain ⟨t, h1, h2⟩ := trl_ex 5000 V h hb
      exact ⟨t, by omega, h2⟩
  have R0 := Row4.new w 108 (.bool neg) (.slice p l c) (.int .i64 e) (.bool more)
  have B0 := alloc_b w (.cells #[.bool neg, .slice p l c, .int .i64 e, .bool more] 108)
  have RD := hid (round_any neg p l c zs _ (ha.below B0 (Nat.le_refl _)) (hT.below B0) tz V e more hV)
  have IS := hid (fun (d : Int) (wx : World) (hx : Below w.heap.size w wx) (d0 : 0 ≤ d) (d1 : d < 18446744073709551616) => is_any neg more p l c zs e V d t wx (ha.below hx (Nat.le_refl _)) (hT.below hx) hV hl ht tb q1 q2 d0 d1)
  have BL1 := hid (fun (wx : World) (hx : Below w.heap.size w wx) => bitLen_n L p l c zs wx (ha.below hx (Nat.le_refl _)) hL)
  have IN := hid (fun (d : Int) (wx : World) (d0 : 0 ≤ d) (d1 : d < 18446744073709551616) => infinite_any d wx d0 d1)
  have FF : Hid (∀ (x f : Int) (w' : World), f = Ie.flg V e more (Ie.sg neg x) t L → Ie.Rnd V 1 e more x → Below w.heap.size w w' → RoundedTold neg V e more w (.returned (.tuple #[.int .u64 (Ie.sg neg x), .int .i64 f])) w') := by
    intro x f w' hf hR hB
    exact ⟨x, t, L, by rw [hf], hR, ht, BL, hB⟩
  obtain ⟨⟨r0, r1, r2, r3⟩, -⟩ := R0.cells
  have HR0 := hid R0
  have HB0 := hid B0
  simp only [exactOf] at IS ⊢
  clear ha hT hV hl hb v0 tz hL BL hl2 ht tb R0 B0
  go_enter Tryz.func133, Tryz.ntmps133
  go_wp2_with fail
  generalize hwA : w.alloc (.cells #[.bool neg, .slice p l c, .int .i64 e, .bool more] 108) = wA at *
  refine RD.out.mono ?_
  rintro r wa ⟨x, rfl, R, hB⟩
  have bd := R.bd
  obtain ⟨x0, x1⟩ := bd
  have sg0 : 0 ≤ Ie.sg neg x ∧ Ie.sg neg x < 18446744073709551616 := by simp only [Ie.sg]; split <;> omega
  obtain ⟨g0, g1⟩ := sg0
  have Ra := HR0.out.below hB HR0.out.lt
  have Ba := HB0.out.trans (hB.mono HB0.out.size)
  have IS1 := hid (IS.out _ wa Ba g0 g1)
  have F1 := hid (fun (f : Int) (w' : World) (h : f = Ie.flg V e more (Ie.sg neg x) t L) (hB : Below w.heap.size w w') => FF.out x f w' h R hB)
  have HBa := hid Ba
  have HRa := hid Ra
  obtain ⟨⟨s0, s1, s2, s3⟩, -⟩ := Ra.cells
  clear hB Ra Ba IS FF RD HR0 HB0 R r0 r1 r2 r3
  generalize hd : Ie.sg neg x = d at *
  go_wp2_with fail
  refine IS1.out.mono ?_
  rintro r wb ⟨rfl, hB⟩
  have Rb := HRa.out.below hB HRa.out.lt
  have Bb := HBa.out.trans (hB.mono HBa.out.size)
  have HBb := hid Bb
  have BQ := hid (fun (k : Nat) => BL1.out (wb.drewN k) (below_drewN Bb k))
  have IN1 := hid (fun (wx : World) => IN.out d wx g0 g1)
  clear s0 s1 s2 s3
  obtain ⟨⟨s0, s1, s2, s3⟩, -⟩ := Rb.cells
  have F2 : Hid (∀ (f : Int) (w' : World), f = (if Ie.isx V e more d t = true then 0 else 16 + (if Ie.isi d = true then 4 else 0) + (if (L : Int) + e ≤ -1022 then 8 else 0)) → Below w.heap.size w w' → RoundedTold neg V e more w (.returned (.tuple #[.int .u64 d, .int .i64 f])) w') := fun f w' h hB => F1.out f w' h hB
  have O1 : bits .or .i64 16 4 = 20 := by decide
  have O2 : bits .or .i64 16 8 = 24 := by decide
  have O3 : bits .or .i64 20 8 = 28 := by decide
  clear hB HRa HBa IS1 IN BL1 Rb Bb F1
  cases hx : Ie.isx V e more d t
  · rw [hx] at F2
    cases hi : Ie.isi d <;> rw [hi] at F2 IN1
    · by_cases hu : (L : Int) + e ≤ -1022
      · have dd : decide ((L : Int) + e ≤ -1022) = true := by simp; omega
        have F3 := hid (fun (w' : World) (hB : Below w.heap.size w w') => F2.out 24 w' (by simp [hu]) hB)
        clear F2 hx hi hu
        go_wp2_with fail
        refine (IN1.out _).mono ?_
        rintro r wc ⟨rfl, rfl⟩
        go_wp2_with fail
        go_quiet ((go_at_call 59; with_reducible exact Calls.quiet_of_same (BQ.out _)))
        go_wp2_with fail
        go_ret2
        exact F3.out _ (below_drewN HBb.out _)
      · have dd : decide ((L : Int) + e ≤ -1022) = false := by simp; omega
        have F3 := hid (fun (w' : World) (hB : Below w.heap.size w w') => F2.out 16 w' (by simp [hu]) hB)
        clear F2 hx hi hu
        go_wp2_with fail
        refine (IN1.out _).mono ?_
        rintro r wc ⟨rfl, rfl⟩
        go_wp2_with fail
        go_quiet ((go_at_call 59; with_reducible exact Calls.quiet_of_same (BQ.out _)))
        go_wp2_with fail
        go_ret2
        exact F3.out _ (below_drewN HBb.out _)
    · by_cases hu : (L : Int) + e ≤ -1022
      · have dd : decide ((L : Int) + e ≤ -1022) = true := by simp; omega
        have F3 := hid (fun (w' : World) (hB : Below w.heap.size w w') => F2.out 28 w' (by simp [hu]) hB)
        clear F2 hx hi hu
        go_wp2_with fail
        refine (IN1.out _).mono ?_
        rintro r wc ⟨rfl, rfl⟩
        go_wp2_with fail
        go_quiet ((go_at_call 59; with_reducible exact Calls.quiet_of_same (BQ.out _)))
        go_wp2_with fail
        go_ret2
        exact F3.out _ (below_drewN HBb.out _)
      · have dd : decide ((L : Int) + e ≤ -1022) = false := by simp; omega
        have F3 := hid (fun (w' : World) (hB : Below w.heap.size w w') => F2.out 20 w' (by simp [hu]) hB)
        clear F2 hx hi hu
        go_wp2_with fail
        refine (IN1.out _).mono ?_
        rintro r wc ⟨rfl, rfl⟩
        go_wp2_with fail
        go_quiet ((go_at_call 59; with_reducible exact Calls.quiet_of_same (BQ.out _)))
        go_wp2_with fail
        go_ret2
        exact F3.out _ (below_drewN HBb.out _)
  · rw [hx] at F2
    have F3 := hid (fun (w' : World) (hB : Below w.heap.size w w') => F2.out 0 w' (by simp) hB)
    clear F2 hx
    go_wp2_with fail
    go_ret2
    exact F3.out _ HBb.out
end Go.Proofs.YtmakkfekomnpbaaGreatDoor

/-
  What soft's functions tell.
-/
namespace Go.Proofs.YtmakkfekomnpbaaGreatDoor
open Go Go.RowKit Go.Deep

theorem Ans.len0 {B : Nat} {w : World} {p : Option Addr} {ys : List Int} {n : Int} (h : Ans B w p ys n) : ys.length = 0 ↔ n = 0 := by
  have h1 := Nm.tsize_zero_iff h.2.1
  rw [h.2.2.1, h.2.2.2.1] at h1
  exact h1

namespace Ie
/-- What a rounded result is: the double r, the flags f, of sn neg V * 2^e (or a trifle above). -/
def Res (neg : Bool) (V e : Int) (more : Bool) (r f : Int) : Prop :=
  ∃ (x : Int) (t L : Nat), r = sg neg x ∧ f = flg V e more (sg neg x) t L ∧ Rnd V 1 e more x ∧ Nm.Trl V t ∧ Nm.BLen V L

/-- What add answers. -/
def AddIs (a b r f : Int) : Prop :=
  if isn a = true ∨ isn b = true then r = 9221120237041090560 ∧ f = 0
  else if isi a = true ∧ isi b = true ∧ a ≠ b then r = 9221120237041090560 ∧ f = 1
  else if isi a = true then r = a ∧ f = 0
  else if isi b = true then r = b ∧ f = 0
  else ∃ neg V e, SumIs (ngd a) (dm a) (de a) (ngd b) (dm b) (de b) neg V e ∧ Res neg V e false r f

theorem fin_of {d : Int} (h0 : isn d = false) (h1 : isi d = false) : fin d := by
  rw [isn, decide_eq_false_iff_not] at h0
  rw [isi, decide_eq_false_iff_not] at h1
  rw [fin]; omega
theorem not_both {d : Int} (h : isi d = true) : isn d = false := by
  rw [isi, decide_eq_true_eq] at h
  rw [isn, h]; rfl
end Ie

/-- An answer and its flags, told. -/
def Told2 (P : Int → Int → Prop) (w : World) (e : Ending) (w' : World) : Prop := ∃ r f, e = .returned (.tuple #[.int .u64 r, .int .i64 f]) ∧ P r f ∧ Below w.heap.size w w'

/-- An answer, told. -/
def Told1 (P : Int → Int → Prop) (w : World) (e : Ending) (w' : World) : Prop := ∃ r f, e = .returned (.int .u64 r) ∧ P r f ∧ Below w.heap.size w w'
end Go.Proofs.YtmakkfekomnpbaaGreatDoor

/-
  soft: add, sub, Add, Sub.
-/
namespace Go.Proofs.YtmakkfekomnpbaaGreatDoor
open Go Go.RowKit Go.Deep

set_option maxRecDepth 100000 in
set_option maxHeartbeats 4000000 in
theorem add_fin (a b : Int) (w : World) (a0 : 0 ≤ a) (a1 : a < 18446744073709551616) (b0 : 0 ≤ b) (b1 : b < 18446744073709551616) (hT : Tab w) (na : Ie.isn a = false) (ia : Ie.isi a = false) (nb : Ie.isn b = false) (ib : Ie.isi b = false) :
    Calls Tryz.prog 115 #[.int .u64 a, .int .u64 b] w fun e w' => Told2 (Ie.AddIs a b) w e w' := by
  have fa := Ie.fin_of na ia
  have fb := Ie.fin_of nb ib
  have FI : Hid (∀ (neg : Bool) (V e r f : Int), Ie.SumIs (Ie.ngd a) (Ie.dm a) (Ie.de a) (Ie.ngd b) (Ie.dm b) (Ie.de b) neg V e → Ie.Res neg V e false r f → Ie.AddIs a b r f) := by
    intro neg V e r f h1 h2
    rw [Ie.AddIs, na, nb, ia, ib]
    simp only [Bool.false_eq_true, or_self, false_and, if_false]
    exact ⟨neg, V, e, h1, h2⟩
  have NA := hid (fun (wx : World) => nan_any a wx a0 a1)
  rw [na] at NA
  have NB := hid (fun (wx : World) => nan_any b wx b0 b1)
  rw [nb] at NB
  have IA := hid (fun (wx : World) => infinite_any a wx a0 a1)
  rw [ia] at IA
  have IB := hid (fun (wx : World) => infinite_any b wx b0 b1)
  rw [ib] at IB
  obtain ⟨⟨da0, da1⟩, ⟨ea0, ea1⟩, -, -⟩ := Ie.dec_f a fa
  obtain ⟨⟨db0, db1⟩, ⟨eb0, eb1⟩, -, -⟩ := Ie.dec_f b fb
  have e60 : (2 : Int) ^ 60 = 1152921504606846976 := by decide
  have da2 : Ie.dm a < 2 ^ 60 := by omega
  have db2 : Ie.dm b < 2 ^ 60 := by omega
  have UA := hid (fun (wx : World) => number_any a wx a0 a1 fa)
  have UB := hid (fun (wx : World) => number_any b wx b0 b1 fb)
  have e200 := Nm.two_mono (show 60 ≤ 200 by omega)
  have HT := hid hT
  clear fa fb na nb ia ib hT
  have RU : Hid (∀ (w2 : World) (pa pb : Option Addr) (oa ob : List Int) (B B' : Nat), Below w.heap.size w w2 → Ans B w2 pa oa (Ie.dm a) → Ans B' w2 pb ob (Ie.dm b) → Calls Tryz.prog 132 #[exactOf (Ie.ngd a) pa oa.length oa.length (Ie.de a) false, exactOf (Ie.ngd b) pb ob.length ob.length (Ie.de b) false] w2 fun e w' => PlusTold (Ie.ngd a) (Ie.dm a) (Ie.de a) (Ie.ngd b) (Ie.dm b) (Ie.de b) w2 e w') := by
    intro w2 pa pb oa ob B B' hB A1 A2
    exact plus_any _ _ _ _ _ _ _ _ _ _ oa ob _ _ _ _ w2 (A1.arg (by have := A1.tl da2 (show 60 ≤ 262144 by omega); omega)) (A2.arg (by have := A2.tl db2 (show 60 ≤ 262144 by omega); omega)) A1.2.2.2.1 A2.2.2.2.1 (by omega) (by omega) (by omega) (by omega) (by omega) (by omega)
  have RO : Hid (∀ (w3 : World) (neg : Bool) (p : Option Addr) (os : List Int) (V e : Int) (B : Nat), Below w.heap.size w w3 → Ans B w3 p os V → Ie.SumIs (Ie.ngd a) (Ie.dm a) (Ie.de a) (Ie.ngd b) (Ie.dm b) (Ie.de b) neg V e → Calls Tryz.prog 133 #[exactOf neg p os.length os.length e false] w3 fun r w' => RoundedTold neg V e false w3 r w') := by
    intro w3 neg p os V e B hB A hS
    have vb := hS.2.2.1.2
    have eb : -10000 ≤ e ∧ e ≤ 10000 := by rcases hS.1 with h | ⟨_, h⟩ <;> omega
    exact rounded_any neg false p _ _ os e V w3 (A.arg (by have := A.tl vb (show 5000 ≤ 262144 by omega); omega)) (HT.out.below hB) A.2.2.2.1 A.len0 vb eb.1 eb.2
  clear da0 da1 ea0 ea1 db0 db1 eb0 eb1 e60 da2 db2 e200 HT
  go_enter Tryz.func115, Tryz.ntmps115
  go_wp2_with fail
  refine (NA.out _).mono ?_
  rintro e wz ⟨rfl, hz⟩
  replace hz := hz.symm
  subst hz
  go_wp2_with fail
  refine (NB.out _).mono ?_
  rintro e wz ⟨rfl, hz⟩
  replace hz := hz.symm
  subst hz
  go_wp2_with fail
  refine (IA.out _).mono ?_
  rintro e wz ⟨rfl, hz⟩
  replace hz := hz.symm
  subst hz
  go_wp2_with fail
  refine (IA.out _).mono ?_
  rintro e wz ⟨rfl, hz⟩
  replace hz := hz.symm
  subst hz
  go_wp2_with fail
  refine (IB.out _).mono ?_
  rintro e wz ⟨rfl, hz⟩
  replace hz := hz.symm
  subst hz
  go_wp2_with fail
  refine (UA.out _).mono ?_
  rintro e w1 ⟨pa, oa, rfl, A1, hB1⟩
  have H1 := hid (And.intro A1 hB1)
  clear A1 hB1
  simp only [exactOf]
  go_wp2_with fail
  refine (UB.out _).mono ?_
  rintro e w2 ⟨pb, ob, rfl, A2, hB2⟩
  have A1 := H1.out.1.below hB2 (Nat.le_refl _)
  have Bw := H1.out.2.trans (hB2.mono H1.out.2.size)
  have PL := hid (RU.out w2 pa pb oa ob _ _ Bw A1 A2)
  have HB := hid Bw
  simp only [exactOf] at PL ⊢
  clear A1 A2 hB2 Bw H1 RU
  go_wp2_with fail
  refine PL.out.mono ?_
  rintro e w3 ⟨neg, p, os, V, x, rfl, A3, hB3, hS⟩
  have Bw := HB.out.trans (hB3.mono HB.out.size)
  have RR := hid (RO.out w3 neg p os V x _ Bw A3 hS)
  have HS := hid hS
  have HC := hid Bw
  simp only [exactOf] at RR ⊢
  clear A3 hB3 hS Bw RO PL HB
  go_wp2_with fail
  refine RR.out.mono ?_
  rintro e w4 ⟨d, t, L, rfl, h1, h2, h3, hB4⟩
  have KK : Hid (Told2 (Ie.AddIs a b) w (.returned (.tuple #[.int .u64 (Ie.sg neg d), .int .i64 (Ie.flg V x false (Ie.sg neg d) t L)])) w4) :=
    ⟨_, _, rfl, FI.out neg V x _ _ HS.out ⟨d, t, L, rfl, rfl, h1, h2, h3⟩, HC.out.trans (hB4.mono HC.out.size)⟩
  clear h1 h2 h3 hB4 HS HC RR FI
  go_wp2_with fail
  go_ret2
  exact KK.out

set_option maxRecDepth 100000 in
set_option maxHeartbeats 4000000 in
theorem add_any (a b : Int) (w : World) (a0 : 0 ≤ a) (a1 : a < 18446744073709551616) (b0 : 0 ≤ b) (b1 : b < 18446744073709551616) (hT : Tab w) :
    Calls Tryz.prog 115 #[.int .u64 a, .int .u64 b] w fun e w' => Told2 (Ie.AddIs a b) w e w' := by
  have NA := hid (fun (wx : World) => nan_any a wx a0 a1)
  have NB := hid (fun (wx : World) => nan_any b wx b0 b1)
  have IA := hid (fun (wx : World) => infinite_any a wx a0 a1)
  have IB := hid (fun (wx : World) => infinite_any b wx b0 b1)
  have KK : Hid (∀ (e : Ending) (r f : Int), e = .returned (.tuple #[.int .u64 r, .int .i64 f]) → Ie.AddIs a b r f → Told2 (Ie.AddIs a b) w e w) := fun e r f h1 h2 => ⟨r, f, h1, h2, Below.refl _ _⟩
  cases na : Ie.isn a
  · cases nb : Ie.isn b
    · cases ia : Ie.isi a
      · cases ib : Ie.isi b
        · exact add_fin a b w a0 a1 b0 b1 hT na ia nb ib
        · have SP : Hid (Ie.AddIs a b b 0) := by rw [Hid, Ie.AddIs, na, nb, ia, ib]; simp
          rw [na] at NA
          rw [nb] at NB
          rw [ia] at IA
          rw [ib] at IB
          clear na nb ia ib hT
          go_enter Tryz.func115, Tryz.ntmps115
          go_wp2_with fail
          refine (NA.out _).mono ?_
          rintro e wz ⟨rfl, rfl⟩
          go_wp2_with fail
          refine (NB.out _).mono ?_
          rintro e wz ⟨rfl, rfl⟩
          go_wp2_with fail
          refine (IA.out _).mono ?_
          rintro e wz ⟨rfl, rfl⟩
          go_wp2_with fail
          refine (IA.out _).mono ?_
          rintro e wz ⟨rfl, rfl⟩
          go_wp2_with fail
          refine (IB.out _).mono ?_
          rintro e wz ⟨rfl, rfl⟩
          go_wp2_with fail
          go_ret2
          exact KK.out _ _ _ rfl SP.out
      · cases ib : Ie.isi b
        · have SP : Hid (Ie.AddIs a b a 0) := by rw [Hid, Ie.AddIs, na, nb, ia, ib]; simp
          rw [na] at NA
          rw [nb] at NB
          rw [ia] at IA
          rw [ib] at IB
          clear na nb ia ib hT
          go_enter Tryz.func115, Tryz.ntmps115
          go_wp2_with fail
          refine (NA.out _).mono ?_
          rintro e wz ⟨rfl, rfl⟩
          go_wp2_with fail
          refine (NB.out _).mono ?_
          rintro e wz ⟨rfl, rfl⟩
          go_wp2_with fail
          refine (IA.out _).mono ?_
          rintro e wz ⟨rfl, rfl⟩
          go_wp2_with fail
          refine (IB.out _).mono ?_
          rintro e wz ⟨rfl, rfl⟩
          go_wp2_with fail
          refine (IA.out _).mono ?_
          rintro e wz ⟨rfl, rfl⟩
          go_wp2_with fail
          go_ret2
          exact KK.out _ _ _ rfl SP.out
        · rw [na] at NA
          rw [nb] at NB
          rw [ia] at IA
          rw [ib] at IB
          by_cases hab : a = b
          · have SP : Hid (Ie.AddIs a b a 0) := by rw [Hid, Ie.AddIs, na, nb, ia, ib]; simp [hab]
            subst hab
            clear na nb ia ib hT
            go_enter Tryz.func115, Tryz.ntmps115
            go_wp2_with fail
            refine (NA.out _).mono ?_
            rintro e wz ⟨rfl, rfl⟩
            go_wp2_with fail
            refine (NB.out _).mono ?_
            rintro e wz ⟨rfl, rfl⟩
            go_wp2_with fail
            refine (IA.out _).mono ?_
            rintro e wz ⟨rfl, rfl⟩
            go_wp2_with fail
            refine (IB.out _).mono ?_
            rintro e wz ⟨rfl, rfl⟩
            go_wp2_with fail
            refine (IA.out _).mono ?_
            rintro e wz ⟨rfl, rfl⟩
            go_wp2_with fail
            go_ret2
            exact KK.out _ _ _ rfl SP.out
          · have SP : Hid (Ie.AddIs a b 9221120237041090560 1) := by rw [Hid, Ie.AddIs, na, nb, ia, ib]; simp [hab]
            have hab' : (a == b) = false := by rw [beq_eq_false_iff_ne]; exact hab
            clear na nb ia ib hT
            go_enter Tryz.func115, Tryz.ntmps115
            go_wp2_with fail
            refine (NA.out _).mono ?_
            rintro e wz ⟨rfl, rfl⟩
            go_wp2_with fail
            refine (NB.out _).mono ?_
            rintro e wz ⟨rfl, rfl⟩
            go_wp2_with fail
            refine (IA.out _).mono ?_
            rintro e wz ⟨rfl, rfl⟩
            go_wp2_with fail
            refine (IB.out _).mono ?_
            rintro e wz ⟨rfl, rfl⟩
            go_wp2_with fail
            go_ret2
            exact KK.out _ _ _ rfl SP.out
    · have SP : Hid (Ie.AddIs a b 9221120237041090560 0) := by rw [Hid, Ie.AddIs, na, nb]; simp
      rw [na] at NA
      rw [nb] at NB
      clear na nb hT
      go_enter Tryz.func115, Tryz.ntmps115
      go_wp2_with fail
      refine (NA.out _).mono ?_
      rintro e wz ⟨rfl, rfl⟩
      go_wp2_with fail
      refine (NB.out _).mono ?_
      rintro e wz ⟨rfl, rfl⟩
      go_wp2_with fail
      go_ret2
      exact KK.out _ _ _ rfl SP.out
  · have SP : Hid (Ie.AddIs a b 9221120237041090560 0) := by rw [Hid, Ie.AddIs, na]; simp
    rw [na] at NA
    clear na hT
    go_enter Tryz.func115, Tryz.ntmps115
    go_wp2_with fail
    refine (NA.out _).mono ?_
    rintro e wz ⟨rfl, rfl⟩
    go_wp2_with fail
    go_ret2
    exact KK.out _ _ _ rfl SP.out

end Go.Proofs.YtmakkfekomnpbaaGreatDoor

/-
  soft: sub, Add, Sub.
-/
namespace Go.Proofs.YtmakkfekomnpbaaGreatDoor
open Go Go.RowKit Go.Deep

set_option maxRecDepth 100000 in
set_option maxHeartbeats 4000000 in
theorem sub_any (a b : Int) (w : World) (a0 : 0 ≤ a) (a1 : a < 18446744073709551616) (b0 : 0 ≤ b) (b1 : b < 18446744073709551616) (hT : Tab w) :
    Calls Tryz.prog 84 #[.int .u64 a, .int .u64 b] w fun e w' => Told2 (Ie.AddIs a (Ie.ng b)) w e w' := by
  have N1 := hid (neg_any b w b0 b1)
  have nb : 0 ≤ Ie.ng b ∧ Ie.ng b < 18446744073709551616 := by simp only [Ie.ng]; split <;> omega
  have AD := hid (add_any a (Ie.ng b) w a0 a1 nb.1 nb.2 hT)
  clear hT nb
  go_enter Tryz.func84, Tryz.ntmps84
  go_wp2_with fail
  refine N1.out.mono ?_
  rintro e wz ⟨rfl, rfl⟩
  go_wp2_with fail
  refine AD.out.mono ?_
  rintro e w1 ⟨r, f, rfl, h, hB⟩
  have KK : Hid (Told2 (Ie.AddIs a (Ie.ng b)) wz (.returned (.tuple #[.int .u64 r, .int .i64 f])) w1) := ⟨r, f, rfl, h, hB⟩
  clear h hB AD N1
  go_wp2_with fail
  go_ret2
  exact KK.out

set_option maxRecDepth 100000 in
set_option maxHeartbeats 4000000 in
theorem softSub_any (a b : Int) (w : World) (a0 : 0 ≤ a) (a1 : a < 18446744073709551616) (b0 : 0 ≤ b) (b1 : b < 18446744073709551616) (hT : Tab w) :
    Calls Tryz.prog 45 #[.int .u64 a, .int .u64 b] w fun e w' => Told1 (Ie.AddIs a (Ie.ng b)) w e w' := by
  have AD := hid (sub_any a b w a0 a1 b0 b1 hT)
  clear hT
  go_enter Tryz.func45, Tryz.ntmps45
  go_wp2_with fail
  refine AD.out.mono ?_
  rintro e w1 ⟨r, f, rfl, h, hB⟩
  have KK : Hid (Told1 (Ie.AddIs a (Ie.ng b)) w (.returned (.int .u64 r)) w1) := ⟨r, f, rfl, h, hB⟩
  clear h hB AD
  go_wp2_with fail
  go_ret
  exact KK.out

end Go.Proofs.YtmakkfekomnpbaaGreatDoor

/-
  The flags of a rounding, as numbers: exact or not, over, under.
-/
namespace Go.Proofs.YtmakkfekomnpbaaGreatDoor
open Go Go.RowKit Go.Deep

namespace Ie
theorem de_ex (d : Int) (h : fin d) : (ab d = 0 → de d = 0) ∧ (0 < ab d → de d = ex (ab d) - 1074) := by
  have b := ab_bd d
  rw [fin] at h
  rcases dec_kinds d _ rfl with ⟨c, m, x, k1⟩ | ⟨c, m, x, k1, k2⟩ | ⟨c, m, x, k1, k2⟩ | ⟨c, m, x, k1⟩ | ⟨c, m, x, k1, k2⟩ <;> rw [x]
  · rw [← ab] at k1
    exact ⟨fun _ => rfl, fun _ => by omega⟩
  · rw [← ab] at k1 k2
    have e0 : ex (ab d) = 0 := by rw [ex]; omega
    exact ⟨fun _ => by omega, fun _ => by rw [e0]; rfl⟩
  · rw [← ab] at k1 k2 ⊢
    exact ⟨fun _ => by omega, fun _ => by omega⟩
  · rw [← ab] at k1; omega
  · rw [← ab] at k1; omega

/-- The result is the double x. -/
def Exa (V e : Int) (more : Bool) (x : Int) : Prop := more = false ∧ x < 9218868437227405312 ∧ ∀ a b : Nat, (a : Int) - b = e + 1074 → V * 2 ^ a = un x * 2 ^ b

theorem two_at (e c : Int) : ∃ a b : Nat, (a : Int) - b = e + c := ⟨(e + c).toNat, (-(e + c)).toNat, by omega⟩

theorem ex_le {x : Int} (h : 0 < x) : ex (x - 1) ≤ ex x := by simp only [ex]; omega

theorem pow_le_cancel {a b : Nat} (h : (2 : Int) ^ a ≤ 2 ^ b) : a ≤ b := by
  rcases (show b < a ∨ a ≤ b by omega) with k | k
  · have h1 := Nm.two_mono (show b + 1 ≤ a by omega)
    have h2 := Nm.two_succ b
    have h3 := Nm.two_pos b
    omega
  · exact k

theorem mult_eq {M c g : Int} (hM : 0 < M) (h1 : 2 * (M * g) - M ≤ 2 * (M * c)) (h2 : 2 * (M * c) ≤ 2 * (M * g) + M) : c = g := by
  rcases (show c + 1 ≤ g ∨ c = g ∨ g + 1 ≤ c by omega) with h | h | h
  · have := Int.mul_le_mul_of_nonneg_left h (by omega : (0 : Int) ≤ M)
    rw [Int.mul_add, Int.mul_one] at this
    omega
  · exact h
  · have := Int.mul_le_mul_of_nonneg_left h (by omega : (0 : Int) ≤ M)
    rw [Int.mul_add, Int.mul_one] at this
    omega

theorem exa_zero {e x : Int} {more : Bool} (hm : more = false) (hR : Rnd 0 1 e more x) : x = 0 ∧ Exa 0 e more x := by
  obtain ⟨a, b, hab, hN⟩ := hR.at
  have hz := rnd_zero 1 e more (by decide) a b hab
  have hp : (0 : Int) < 1 * 2 ^ b := by have := Nm.two_pos b; omega
  have : x = 0 := hN.one hp hp hz rfl
  subst this
  exact ⟨rfl, hm, by decide, fun a b _ => by rw [un_zero, Int.zero_mul, Int.zero_mul]⟩

theorem isx_exa {V e x : Int} {more : Bool} (neg : Bool) {t : Nat} (v0 : 0 ≤ V) (hm : V = 0 → more = false) (hR : Rnd V 1 e more x) (ht : Nm.Trl V t) : isx V e more (sg neg x) t = true ↔ Exa V e more x := by
  have xb := hR.bd
  have ha : ab (sg neg x) = x := (ab_sb neg x xb.1 (by omega)).1
  rcases (show V = 0 ∨ 0 < V by omega) with hV | hV
  · subst hV
    rw [isx, decide_eq_true rfl, Bool.true_or]
    exact ⟨fun _ => (exa_zero (hm rfl) hR).2, fun _ => rfl⟩
  obtain ⟨m, hv⟩ : ∃ m, V = 2 ^ t * (2 * m + 1) := by
    rcases ht with h | h
    · omega
    · exact h
  rw [isx, decide_eq_false (by omega), Bool.false_or, isi, ha]
  simp only [Bool.and_eq_true, Bool.not_eq_true', decide_eq_false_iff_not, decide_eq_true_eq]
  constructor
  · rintro ⟨h1, h2, h3⟩
    have x1 : x < 9218868437227405312 := by omega
    have DE := de_ex (sg neg x) (by rw [fin, ha]; exact x1)
    rw [ha] at DE
    refine ⟨h1, x1, fun a b hab => ?_⟩
    have hN := hR (a + 1) b (by omega)
    have pb := Nm.two_pos b
    rw [Int.one_mul] at hN
    obtain ⟨_, n1, n2⟩ := hN
    replace n2 : V * 2 ^ (a + 1) ≤ md x * 2 ^ b := by rcases n2 x1 with h | h <;> omega
    rw [Nm.two_succ, show V * (2 * 2 ^ a) = 2 * (V * 2 ^ a) by rw [← Int.mul_assoc, Int.mul_comm V 2, Int.mul_assoc]] at n1 n2
    have hw : V * 2 ^ a = 2 ^ (t + a) * (2 * m + 1) := by
      rw [hv, Int.pow_add, Int.mul_assoc, Int.mul_assoc, Int.mul_comm (2 * m + 1)]
    rcases (show x = 0 ∨ 0 < x by omega) with hx | hx
    · exfalso
      rw [hx, md_zero, Int.one_mul] at n2
      have d0 := DE.1 hx
      have hm0 : 0 < 2 * m + 1 := by
        rcases (show 2 * m + 1 ≤ 0 ∨ 0 < 2 * m + 1 by omega) with k | k
        · have := Int.mul_nonpos_of_nonneg_of_nonpos (Int.le_of_lt (Nm.two_pos t)) k
          omega
        · exact k
      have g1 : (2 : Int) ^ (t + a) ≤ V * 2 ^ a := by
        rw [hw]
        have := Int.mul_le_mul_of_nonneg_left (show 1 ≤ 2 * m + 1 by omega) (Int.le_of_lt (Nm.two_pos (t + a)))
        omega
      have g2 := pow_le_cancel (show (2 : Int) ^ (t + a) ≤ 2 ^ b by have := Nm.two_pos (t + a); omega)
      omega
    · have dx := DE.2 hx
      have n1' : md (x - 1) * 2 ^ b ≤ 2 * (V * 2 ^ a) := by rcases n1 hx with h | h <;> omega
      have e1 := md_un (x - 1) (by omega)
      have e2 := un_succ (x - 1) (by omega)
      rw [show x - 1 + 1 = x by omega] at e1 e2
      have e3 : md x = 2 * un x + 2 ^ ex x := by rw [md_eq, vl_un]
      have e4 := Nm.two_mono (ex_le hx)
      have hU : un x * 2 ^ b = 2 ^ (ex x + b) * man x := by
        rw [un, Int.pow_add, Int.mul_assoc, Int.mul_comm]
      obtain ⟨j, hj⟩ : ∃ j, t + a = ex x + b + j := ⟨t + a - (ex x + b), by omega⟩
      have hW : V * 2 ^ a = 2 ^ (ex x + b) * (2 ^ j * (2 * m + 1)) := by
        rw [hw, hj, Int.pow_add, Int.mul_assoc]
      have hP : (2 : Int) ^ ex x * 2 ^ b = 2 ^ (ex x + b) := (Int.pow_add _ _ _).symm
      have hP1 : (2 : Int) ^ ex (x - 1) * 2 ^ b ≤ 2 ^ (ex x + b) := by
        rw [← hP]; exact Int.mul_le_mul_of_nonneg_right e4 (by omega)
      have k1 : md (x - 1) * 2 ^ b = 2 * (un x * 2 ^ b) - 2 ^ ex (x - 1) * 2 ^ b := by
        rw [show md (x - 1) = 2 * un x - 2 ^ ex (x - 1) by omega, Int.sub_mul, Int.mul_assoc]
      have k2 : md x * 2 ^ b = 2 * (un x * 2 ^ b) + 2 ^ (ex x + b) := by
        rw [e3, Int.add_mul, Int.mul_assoc, hP]
      rw [k1] at n1'
      rw [k2] at n2
      rw [hW, hU] at n1' n2 ⊢
      rw [mult_eq (M := 2 ^ (ex x + b)) (c := 2 ^ j * (2 * m + 1)) (g := man x) (Nm.two_pos _) (by omega) (by omega)]
  · rintro ⟨h1, x1, hE⟩
    have DE := de_ex (sg neg x) (by rw [fin, ha]; exact x1)
    rw [ha] at DE
    refine ⟨h1, by omega, ?_⟩
    obtain ⟨a, b, hab⟩ := two_at e 1074
    have h := hE a b hab
    have hw : V * 2 ^ a = 2 ^ (t + a) * (2 * m + 1) := by
      rw [hv, Int.pow_add, Int.mul_assoc, Int.mul_assoc, Int.mul_comm (2 * m + 1)]
    rcases (show x = 0 ∨ 0 < x by omega) with hx | hx
    · exfalso
      rw [hx, un_zero, Int.zero_mul] at h
      have := Int.mul_pos hV (Nm.two_pos a)
      omega
    · have dx := DE.2 hx
      rcases (show ex x + b ≤ t + a ∨ t + a < ex x + b by omega) with k | k
      · omega
      · exfalso
        obtain ⟨s, hs⟩ : ∃ s, ex x + b = t + a + (s + 1) := ⟨ex x + b - (t + a) - 1, by omega⟩
        have hU : un x * 2 ^ b = 2 ^ (t + a) * (2 ^ (s + 1) * man x) := by
          rw [← Int.mul_assoc, ← Int.pow_add, ← hs, un, Int.pow_add, Int.mul_assoc, Int.mul_comm]
        rw [hw, hU] at h
        exact Nm.odd_unique (Int.eq_of_mul_eq_mul_left (by have := Nm.two_pos (t + a); omega) h)

theorem under_le {V e x : Int} {more : Bool} {L : Nat} (hR : Rnd V 1 e more x) (hL : Nm.BLen V L) (hu : (L : Int) + e ≤ -1022) : x ≤ 4503599627370496 := by
  obtain ⟨a, b, hab, hN⟩ := hR.at
  have hs := rnd_self 4503599627370496 (-1074) false (by decide) (by decide) (by decide) 1 0 (by decide)
  have pb := Nm.two_pos b
  have pa := Nm.two_pos a
  refine hN.mono (by omega) (by decide) hs (Or.inl ?_)
  have h1 : V * 2 ^ a < 2 ^ L * 2 ^ a := Int.mul_lt_mul_of_pos_right hL.1 pa
  have h2 : (2 : Int) ^ L * 2 ^ a ≤ 2 ^ (53 + b) := by rw [← Int.pow_add]; exact Nm.two_mono (by omega)
  have h3 : (2 : Int) ^ (53 + b) = 9007199254740992 * 2 ^ b := by rw [Int.pow_add]; rfl
  have h4 : man 4503599627370496 = 4503599627370496 := by decide
  rw [h4]
  omega

theorem under_ge {V e x : Int} {more : Bool} {L : Nat} (hV : 0 < V) (hR : Rnd V 1 e more x) (hL : Nm.BLen V L) (hu : ¬(L : Int) + e ≤ -1022) : 4503599627370496 ≤ x := by
  obtain ⟨a, b, hab, hN⟩ := hR.at
  have hs := rnd_self 4503599627370496 (-1074) false (by decide) (by decide) (by decide) 1 0 (by decide)
  have pb := Nm.two_pos b
  have pa := Nm.two_pos a
  obtain ⟨l1, l2⟩ := hL.2.2 hV
  have h1 : 2 ^ (L - 1) * 2 ^ a ≤ V * 2 ^ a := Int.mul_le_mul_of_nonneg_right l2 (by omega)
  have h2 : (2 : Int) ^ (53 + b) ≤ 2 ^ (L - 1) * 2 ^ a := by rw [← Int.pow_add]; exact Nm.two_mono (by omega)
  have h3 : (2 : Int) ^ (53 + b) = 9007199254740992 * 2 ^ b := by rw [Int.pow_add]; rfl
  have h4 : man 4503599627370496 = 4503599627370496 := by decide
  rw [h4] at hs
  refine hs.mono (by decide) (by omega) hN ?_
  rcases (show 9007199254740992 * 2 ^ b < V * 2 ^ a ∨ 9007199254740992 * 2 ^ b = V * 2 ^ a by omega) with k | k
  · exact Or.inl (by omega)
  · exact Or.inr ⟨by omega, fun h => by cases h⟩

/-- What the flags f say of the answer r, ex being whether it is exact. -/
def FlagsIs (r f : Int) (exact : Prop) : Prop :=
  (f = 0 ∧ exact ∧ ab r < 9218868437227405312) ∨
  (¬exact ∧ ((ab r = 9218868437227405312 ∧ f = 20) ∨ (ab r < 9218868437227405312 ∧ ((f = 16 ∧ 4503599627370496 ≤ ab r) ∨ (f = 24 ∧ ab r ≤ 4503599627370496)))))

theorem Res.flags {neg more : Bool} {V e r f : Int} (v0 : 0 ≤ V) (hm : V = 0 → more = false) (h : Res neg V e more r f) : FlagsIs r f (Exa V e more (ab r)) := by
  obtain ⟨x, t, L, rfl, rfl, hR, ht, hL⟩ := h
  have xb := hR.bd
  have ha : ab (sg neg x) = x := (ab_sb neg x xb.1 (by omega)).1
  have hi := isx_exa neg v0 hm hR ht
  rw [FlagsIs, ha, flg, isi, ha]
  by_cases hE : Exa V e more x
  · rw [if_pos (hi.2 hE)]
    exact Or.inl ⟨rfl, hE, hE.2.1⟩
  · rw [if_neg (fun h => hE (hi.1 h))]
    refine Or.inr ⟨hE, ?_⟩
    have vp : 0 < V := by
      rcases (show V = 0 ∨ 0 < V by omega) with h | h
      · subst h
        exact absurd (exa_zero (hm rfl) hR).2 hE
      · exact h
    have u1 := fun h => under_le (x := x) hR hL h
    have u2 := fun h => under_ge (x := x) vp hR hL h
    rcases (show x = 9218868437227405312 ∨ x < 9218868437227405312 by omega) with hx | hx
    · refine Or.inl ⟨hx, ?_⟩
      rw [decide_eq_true hx, if_pos rfl]
      by_cases hu : (L : Int) + e ≤ -1022
      · have := u1 hu
        omega
      · rw [if_neg hu]; rfl
    · refine Or.inr ⟨hx, ?_⟩
      rw [decide_eq_false (by omega), if_neg (by decide)]
      by_cases hu : (L : Int) + e ≤ -1022
      · rw [if_pos hu]; exact Or.inr ⟨rfl, u1 hu⟩
      · rw [if_neg hu]; exact Or.inl ⟨rfl, u2 hu⟩
end Ie
end Go.Proofs.YtmakkfekomnpbaaGreatDoor

/-
  Rounded signed fractions: the value of a double, closed ones.
-/
namespace Go.Proofs.YtmakkfekomnpbaaGreatDoor
namespace Ie

/-- The value of a double that is no NaN, in units of 2^-1074. -/
def uv (d : Int) : Int := sn (ngd d) (un (ab d))

theorem rs_of {neg : Bool} {V e x S Q : Int} {z : Bool} (hR : Rnd V 1 e false x) (hV : 0 ≤ V) (c q : Nat) (hc : (c : Int) - q = e + 1074) (hS : S = sn neg (V * 2 ^ c)) (hQ : Q = 2 ^ q) (hz : S = 0 → neg = z) : RS S Q z (sg neg x) := by
  refine ⟨neg, V * 2 ^ c, x, rfl, hS, Int.mul_nonneg hV (by have := Nm.two_pos c; omega), ?_, hz⟩
  have h := hR (c + 1) q (by omega)
  rw [Int.one_mul] at h
  rw [hQ, show 2 * (V * 2 ^ c) = V * 2 ^ (c + 1) by rw [Nm.two_succ]; ac_rfl]
  exact h

theorem sn_eq_zero {neg : Bool} {V : Int} (h : sn neg V = 0) : V = 0 := by
  cases neg <;> simp only [sn, Bool.false_eq_true, if_true, if_false] at h <;> omega

theorem fin_not {d : Int} (h : fin d) : isn d = false ∧ isi d = false := by
  rw [fin] at h
  exact ⟨by rw [isn, decide_eq_false_iff_not]; omega, by rw [isi, decide_eq_false_iff_not]; omega⟩

theorem un_lit {x m : Int} {E : Nat} (h1 : man x = m) (h2 : ex x = E) : un x = m * 2 ^ E := by rw [un, h1, h2]

theorem p1022 : (2 : Int) ^ 1023 = 2 * 2 ^ 1022 ∧ (2 : Int) ^ 1024 = 4 * 2 ^ 1022 ∧ (2 : Int) ^ 1025 = 8 * 2 ^ 1022 := by
  refine ⟨Nm.two_succ 1022, ?_, ?_⟩
  · rw [show 1024 = 2 + 1022 by rfl, Nm.two_add]; rfl
  · rw [show 1025 = 3 + 1022 by rfl, Nm.two_add]; rfl

theorem un_1 : un 4607182418800017408 = 4503599627370496 * 2 ^ 1022 := un_lit (by decide) (by decide)
theorem un_2 : un 4611686018427387904 = 4503599627370496 * 2 ^ 1023 := un_lit (by decide) (by decide)
theorem un_3 : un 4613937818241073152 = 6755399441055744 * 2 ^ 1023 := un_lit (by decide) (by decide)
theorem un_6 : un 4618441417868443648 = 6755399441055744 * 2 ^ 1024 := un_lit (by decide) (by decide)
theorem un_9 : un 4621256167635550208 = 5066549580791808 * 2 ^ 1025 := un_lit (by decide) (by decide)

theorem uv_pos {x : Int} (h0 : 0 ≤ x) (h1 : x < 9223372036854775808) : uv x = un x := by
  have h := ab_sb false x h0 h1
  rw [show sb false x = x from rfl] at h
  rw [uv, h.1, h.2]; rfl
theorem uv_neg {x : Int} (h0 : 0 ≤ x) (h1 : x < 9223372036854775808) : uv (x + 9223372036854775808) = -un x := by
  have h := ab_sb true x h0 h1
  rw [show sb true x = x + 9223372036854775808 from rfl] at h
  rw [uv, h.1, h.2]; rfl

/-- An exact answer above nothing. -/
theorem RS.lit {S Q : Int} {z : Bool} {r : Int} (hQ : 0 < Q) (h : RS S Q z r) (y : Int) (y0 : 0 < y) (y1 : y < 9218868437227405312) (e : S = un y * Q) : r = y := by
  have p := Int.mul_pos (un_pos y0) hQ
  obtain ⟨neg, rfl, hS, -⟩ := h.exact hQ y (by omega) y1 (by rw [e]; rcases (show 0 ≤ un y * Q by omega) with h; simp only [az]; split <;> omega)
  cases neg
  · rfl
  · exfalso
    rw [sn_true] at hS
    omega

end Ie
end Go.Proofs.YtmakkfekomnpbaaGreatDoor

/-
  What add answers of finite doubles: the exact sum, rounded; closed sums: 1 + 2, 3 - 2.
-/
namespace Go.Proofs.YtmakkfekomnpbaaGreatDoor
namespace Ie

theorem AddIs.get {a b r f : Int} (fa : fin a) (fb : fin b) (h : AddIs a b r f) : ∃ neg V e, SumIs (ngd a) (dm a) (de a) (ngd b) (dm b) (de b) neg V e ∧ Res neg V e false r f := by
  rw [AddIs, (fin_not fa).1, (fin_not fa).2, (fin_not fb).1, (fin_not fb).2] at h
  simp only [Bool.false_eq_true, or_self, false_and, if_false] at h
  exact h

theorem SumIs.at {n1 n2 neg : Bool} {V1 e1 V2 e2 V e : Int} (h : SumIs n1 V1 e1 n2 V2 e2 neg V e) (B : Nat) (h1 : 0 ≤ e1 + B) (h2 : 0 ≤ e2 + B) {u1 u2 : Int} (g1 : ∀ k : Nat, (k : Int) = e1 + B → V1 * 2 ^ k = u1) (g2 : ∀ k : Nat, (k : Int) = e2 + B → V2 * 2 ^ k = u2) :
    ∃ c : Nat, (c : Int) = e + B ∧ sn neg (V * 2 ^ c) = sn n1 u1 + sn n2 u2 ∧ (sn n1 u1 + sn n2 u2 = 0 → neg = (n1 && n2)) := by
  have e0 : 0 ≤ e + B := by rcases h.1 with h | h <;> omega
  obtain ⟨a, ha⟩ : ∃ k : Nat, (k : Int) = e1 + B := ⟨(e1 + B).toNat, by omega⟩
  obtain ⟨b, hb⟩ : ∃ k : Nat, (k : Int) = e2 + B := ⟨(e2 + B).toNat, by omega⟩
  obtain ⟨c, hc⟩ : ∃ k : Nat, (k : Int) = e + B := ⟨(e + B).toNat, by omega⟩
  have key := h.2.2.2 B a b c ha hb hc
  rw [sn_mul_right, sn_mul_right, sn_mul_right, g1 a ha, g2 b hb] at key
  refine ⟨c, hc, key, fun h0 => ?_⟩
  rw [h0] at key
  have := sn_eq_zero key
  rcases Int.mul_eq_zero.1 this with g | g
  · exact h.2.1 g
  · have := Nm.two_pos c; omega

theorem AddIs.rs {a b r f : Int} (fa : fin a) (fb : fin b) (h : AddIs a b r f) : RS (uv a + uv b) 1 (ngd a && ngd b) r := by
  obtain ⟨neg, V, e, hS, x, t, L, rfl, -, hR, -, -⟩ := h.get fa fb
  obtain ⟨_, ⟨ea0, ea1⟩, ga, _⟩ := dec_f a fa
  obtain ⟨_, ⟨eb0, eb1⟩, gb, _⟩ := dec_f b fb
  obtain ⟨c, hc, key, h0⟩ := hS.at 1074 (by omega) (by omega) ga gb
  exact rs_of hR hS.2.2.1.1 c 0 (by omega) key.symm rfl h0

theorem add_12 {r f : Int} (h : AddIs 4607182418800017408 4611686018427387904 r f) : r = 4613937818241073152 := by
  refine (h.rs (by rw [fin]; decide) (by rw [fin]; decide)).lit (by omega) _ (by omega) (by omega) ?_
  rw [uv_pos (by omega) (by omega), uv_pos (by omega) (by omega), un_1, un_2, un_3, p1022.1]
  generalize (2 : Int) ^ 1022 = P
  omega

theorem sub_32 {r f : Int} (h : AddIs 4613937818241073152 (ng 4611686018427387904) r f) : r = 4607182418800017408 := by
  have e : ng 4611686018427387904 = 4611686018427387904 + 9223372036854775808 := by decide
  rw [e] at h
  refine (h.rs (by rw [fin]; decide) (by rw [fin]; decide)).lit (by omega) _ (by omega) (by omega) ?_
  rw [uv_pos (by omega) (by omega), uv_neg (by omega) (by omega), un_1, un_2, un_3, p1022.1]
  generalize (2 : Int) ^ 1022 = P
  omega
end Ie
end Go.Proofs.YtmakkfekomnpbaaGreatDoor

/-
  The flags of add, mul, fma, div on finite operands: exact in whole numbers.
-/
namespace Go.Proofs.YtmakkfekomnpbaaGreatDoor
open Go Go.RowKit Go.Deep

namespace Ie
theorem FlagsIs.iff {r f : Int} {P Q : Prop} (h : FlagsIs r f P) (e : P ↔ Q) : FlagsIs r f Q := propext e ▸ h

theorem exa_iff {V e x : Int} {c q : Nat} (hc : (c : Int) - q = e + 1074) : Exa V e false x ↔ x < 9218868437227405312 ∧ V * 2 ^ c = un x * 2 ^ q := by
  constructor
  · rintro ⟨_, h1, h2⟩
    exact ⟨h1, h2 c q hc⟩
  · rintro ⟨h1, h2⟩
    refine ⟨rfl, h1, fun a b hab => ?_⟩
    have pq := Nm.two_pos q
    have e1 : V * 2 ^ a * 2 ^ q = un x * 2 ^ b * 2 ^ q := by
      have : V * 2 ^ c * 2 ^ b = un x * 2 ^ q * 2 ^ b := by rw [h2]
      rw [Int.mul_assoc, ← Nm.two_add] at this
      rw [Int.mul_assoc, ← Nm.two_add, show a + q = c + b by omega, this, Int.mul_assoc, Int.mul_assoc, Int.mul_comm ((2 : Int) ^ q)]
    exact Int.eq_of_mul_eq_mul_right (by omega) e1

theorem sn_inj (neg : Bool) (A B : Int) : sn neg A = sn neg B ↔ A = B := by cases neg <;> simp only [sn, if_true, Bool.false_eq_true, if_false] <;> omega

theorem Res.uvr {neg more : Bool} {V e r f : Int} (h : Res neg V e more r f) : uv r = sn neg (un (ab r)) := by
  obtain ⟨x, t, L, rfl, rfl, hR, _⟩ := h
  have xb := hR.bd
  have ha := ab_sb neg x xb.1 (by omega)
  rw [uv, show ngd (sg neg x) = neg from ha.2]

/-- A result S / 2^q, in units of 2^-1074. -/
theorem Res.flags_of {neg : Bool} {V e r f S : Int} (v0 : 0 ≤ V) (h : Res neg V e false r f) (c q : Nat) (hc : (c : Int) - q = e + 1074) (hS : sn neg (V * 2 ^ c) = S) :
    FlagsIs r f (ab r < 9218868437227405312 ∧ S = uv r * 2 ^ q) := by
  refine (h.flags v0 (fun _ => rfl)).iff ?_
  rw [exa_iff hc, ← hS, h.uvr, sn_mul_right, sn_inj]

theorem AddIs.flags {a b r f : Int} (fa : fin a) (fb : fin b) (h : AddIs a b r f) : FlagsIs r f (ab r < 9218868437227405312 ∧ uv a + uv b = uv r) := by
  obtain ⟨neg, V, e, hS, hR⟩ := h.get fa fb
  obtain ⟨_, ⟨ea0, ea1⟩, ga, _⟩ := dec_f a fa
  obtain ⟨_, ⟨eb0, eb1⟩, gb, _⟩ := dec_f b fb
  obtain ⟨c, hc, key, h0⟩ := hS.at 1074 (by omega) (by omega) ga gb
  have := hR.flags_of hS.2.2.1.1 c 0 (by omega) key
  rw [Int.pow_zero, Int.mul_one] at this
  exact this
end Ie
end Go.Proofs.YtmakkfekomnpbaaGreatDoor

/-
  Knuth's sum and the fused rest of a product.
-/
namespace Go.Proofs.YtmakkfekomnpbaaGreatDoor
namespace Ie

theorem Fl.ge {S z y : Int} (h : Fl S z) (y0 : 0 ≤ y) (y1 : y ≤ 9218868437227405312) (hS : un y ≤ az S) : un y ≤ az z := by
  obtain ⟨n, V, x, rfl, hV, rfl, hN⟩ := h
  rw [az_sn n V hV] at hS
  rw [az_sn n _ (un_nn hN.1.1)]
  rcases (show y ≤ x ∨ x < y by omega) with h | h
  · exact un_le y0 h
  · exfalso
    have g1 := hN.2.2 (by omega)
    rw [md_un x hN.1.1, Int.mul_one] at g1
    have g2 := un_le (x := x + 1) (y := y) (by have := hN.1.1; omega) (by omega)
    have g3 := un_lt hN.1.1 (show x < x + 1 by omega)
    omega

/-- Knuth's six additions: what each answers is exact but for the first two. -/
theorem knuth {a b s bb ya yb ys : Int} (ha : az a = un ya) (hb : az b = un yb) (hs : az s = un ys) (a0 : 0 ≤ ya) (a1 : ya < 9218868437227405312) (b0 : 0 ≤ yb) (b1 : yb < 9218868437227405312) (s0 : 0 ≤ ys) (s1 : ys < 9218868437227405312)
    (ma : un ya < 2 ^ 2096) (mb : un yb < 2 ^ 2096) (h1 : Fl (a + b) s) (h2 : Fl (s - a) bb) : DB (s - bb) ∧ DB (a - (s - bb)) ∧ DB (b - bb) ∧ DB (a + b - s) := by
  obtain ⟨d1, d2, d3⟩ := err_db ha hb a0 a1 b0 b1 h1
  have e96 : (2 : Int) ^ 2098 = 4 * 2 ^ 2096 := by rw [show 2098 = 2 + 2096 by rfl, Nm.two_add]; rfl
  have dA : DB a := ⟨ya, a0, a1, ha⟩
  have dB : DB b := ⟨yb, b0, b1, hb⟩
  rcases (show yb ≤ ya ∨ ya < yb by omega) with hl | hl
  · have f := fast ha hb b0 hl a1 mb h1
    have e : bb = s - a := h2.exact f
    refine ⟨?_, ?_, ?_, d1⟩
    · rw [show s - bb = a by omega]; exact dA
    · rw [show a - (s - bb) = 0 by omega]; exact DB.zero
    · rw [show b - bb = a + b - s by omega]; exact d1
  · have h2' : Fl (s + -a) bb := by rw [← Int.sub_eq_add_neg]; exact h2
    have ha' : az (-a) = un ya := by rw [az_neg, ha]
    obtain ⟨n1, n2, n3⟩ := err_db hs ha' s0 s1 a0 a1 h2'
    have n4 := h2.near (w := b) dB
    have n5 : az (s - a - b) = az (a + b - s) := by rw [show s - a - b = -(a + b - s) by omega, az_neg]
    rw [n5] at n4
    have n1' : DB (a - (s - bb)) := by rw [show a - (s - bb) = -(s + -a - bb) by omega]; exact n1.neg
    have key : bb = b ∧ s = a + b → DB (s - bb) ∧ DB (a - (s - bb)) ∧ DB (b - bb) ∧ DB (a + b - s) := by
      rintro ⟨e1, e2⟩
      refine ⟨?_, n1', ?_, d1⟩
      · rw [show s - bb = a by omega]; exact dA
      · rw [show b - bb = 0 by omega]; exact DB.zero
    rcases (show ya ≤ ys ∨ ys < ya by omega) with c | c
    · have f := fast hs ha' a0 c s1 ma h2'
      have f' : DB (s - bb) := by rw [show s - bb = -(bb - s) by omega]; exact f.neg
      refine ⟨f', n1', ?_, d1⟩
      -- b - bb
      have ea : ex ya ≤ 2045 := by simp only [ex]; omega
      have da : Dv (ex ya) a := .of_az (by rw [ha]; exact un_dv _ (Nat.le_refl _))
      have db : Dv (ex ya) b := .of_az (by rw [hb]; exact un_dv _ (ex_mono (by omega)))
      have ds := h1.dv' (da.add db) ea
      have ua := un_bd ya a0
      have es : (2 : Int) ^ (ex ya + 1) = 2 * 2 ^ ex ya := Nm.two_succ _
      have p := Nm.two_pos (ex ya)
      have sz : az (b - bb) ≤ 2 * az (a + b - s) := by
        rcases az_or (a + b - s) with ⟨_, q1⟩ | ⟨_, q1⟩ <;> rcases az_or (s - a - bb) with ⟨_, q2⟩ | ⟨_, q2⟩ <;> rcases az_or (b - bb) with ⟨_, q3⟩ | ⟨_, q3⟩ <;> omega
      rcases h2.dv (ds.sub da) ea with ⟨_, _, g⟩ | g
      · rw [show b - bb = a + b - s by omega]; exact d1
      · rcases (show ex ya + 1 ≤ ex yb ∨ ex yb = ex ya by have := ex_mono (Int.le_of_lt hl); omega) with c' | c'
        · have db' : Dv (ex ya + 1) b := .of_az (by rw [hb]; exact un_dv _ c')
          exact db_of (db'.sub g) (by omega) (by omega)
        · have ub := un_bd yb b0
          rw [c'] at ub
          have le : az (a + b) ≤ az a + az b := by
            rcases az_or a with ⟨_, q1⟩ | ⟨_, q1⟩ <;> rcases az_or b with ⟨_, q2⟩ | ⟨_, q2⟩ <;> rcases az_or (a + b) with ⟨_, q3⟩ | ⟨_, q3⟩ <;> omega
          have sm := err_small h1 (da.add db) (by omega) (by omega)
          exact db_of (db.sub (g.down (Nat.le_succ _))) (by omega) (by omega)
    · -- the sum is less than a: b lies within a factor of two
      have lt := un_lt s0 c
      have ub := un_lt a0 hl
      have g : az (a + b) < az a := by
        rcases (show az (a + b) < az a ∨ az a ≤ az (a + b) by omega) with h | h
        · exact h
        · have := h1.ge a0 (by omega) (by omega)
          omega
      have st := sterbenz a0 b1 (Int.le_of_lt hl) (by
        rcases az_or a with ⟨_, q1⟩ | ⟨_, q1⟩ <;> rcases az_or b with ⟨_, q2⟩ | ⟨_, q2⟩ <;> rcases az_or (a + b) with ⟨_, q3⟩ | ⟨_, q3⟩ <;> omega)
      have dS : DB (a + b) := by
        rcases (show a + b = un yb - un ya ∨ a + b = -(un yb - un ya) by
          rcases az_or a with ⟨_, q1⟩ | ⟨_, q1⟩ <;> rcases az_or b with ⟨_, q2⟩ | ⟨_, q2⟩ <;> rcases az_or (a + b) with ⟨_, q3⟩ | ⟨_, q3⟩ <;> omega) with e | e <;> rw [e]
        · exact st
        · exact st.neg
      have e1 := h1.exact dS
      refine key ⟨?_, e1⟩
      refine h2.exact ?_ |>.trans (by omega)
      rw [show s - a = b by omega]
      exact dB

/-- The sum of two modest doubles is finite. -/
theorem un_2097 : ∃ y, 0 ≤ y ∧ y < 9218868437227405312 ∧ un y = 2 ^ 2097 := by
  obtain ⟨y, y0, y1, hy⟩ := un_rep 2045 4503599627370496 (by omega) (by omega) (by omega)
  refine ⟨y, y0, y1, ?_⟩
  rw [hy, show 2097 = 52 + 2045 by rfl, Nm.two_add]
  rfl

theorem knuth_fin {a b s : Int} (ha : az a < 2 ^ 2096) (hb : az b < 2 ^ 2096) (h1 : Fl (a + b) s) : az s ≤ 2 ^ 2097 ∧ DB s := by
  obtain ⟨y, y0, y1, hy⟩ := un_2097
  have e : (2 : Int) ^ 2097 = 2 * 2 ^ 2096 := Nm.two_succ 2096
  obtain ⟨x, x0, x1, hx⟩ := h1.fin y y0 y1 (by
    rw [hy]
    rcases az_or a with ⟨_, q1⟩ | ⟨_, q1⟩ <;> rcases az_or b with ⟨_, q2⟩ | ⟨_, q2⟩ <;> rcases az_or (a + b) with ⟨_, q3⟩ | ⟨_, q3⟩ <;> omega)
  exact ⟨by have := un_le x0 x1; omega, x, x0, by omega, hx⟩

theorem knuth_fin2 {a b s bb : Int} (hA : DB a) (hb : az b < 2 ^ 2096) (h1 : Fl (a + b) s) (h2 : Fl (s - a) bb) : DB bb := by
  obtain ⟨y, y0, y1, hy⟩ := un_2097
  have e : (2 : Int) ^ 2097 = 2 * 2 ^ 2096 := Nm.two_succ 2096
  have g1 := h1.near (w := a) hA
  rw [show a + b - a = b by omega] at g1
  obtain ⟨x, x0, x1, hx⟩ := h2.fin y y0 y1 (by
    rw [hy]
    rcases az_or b with ⟨_, q1⟩ | ⟨_, q1⟩ <;> rcases az_or (a + b - s) with ⟨_, q2⟩ | ⟨_, q2⟩ <;> rcases az_or (s - a) with ⟨_, q3⟩ | ⟨_, q3⟩ <;> omega)
  exact ⟨x, x0, by omega, hx⟩

/-- How far a rounding goes. -/
theorem near_half {V x : Int} (v0 : 0 ≤ V) (h : Near (2 * V) 1 false x) (hx : x < 9218868437227405312) : 2 * az (V - un x) ≤ 2 ^ ex x := by
  have x0 := h.1.1
  have g := h.2.2 hx
  have us := un_succ x x0
  have p := Nm.two_pos (ex x)
  rw [md_un x x0, Int.mul_one] at g
  rcases az_or (V - un x) with ⟨q, q'⟩ | ⟨q, q'⟩
  · rcases g with g | g <;> omega
  · rcases (show x = 0 ∨ 0 < x by omega) with h0 | h0
    · subst h0
      rw [un_zero] at *
      omega
    · have g2 := h.2.1 h0
      have us' := un_succ (x - 1) (by omega)
      rw [md_un (x - 1) (by omega), Int.mul_one, show x - 1 + 1 = x by omega] at g2
      rw [show x - 1 + 1 = x by omega] at us'
      have m := Nm.two_mono (ex_mono (show x - 1 ≤ x by omega))
      rcases g2 with g2 | g2 <;> omega

/-- What the rounding of a product lost is a double, if its last bit counts at least 1. -/
theorem fused {T p : Int} {F : Nat} (hT : Dv F T) (hb : az T < 2 ^ (106 + F)) (h : Fl T p) (hp : DB p) : DB (T - p) := by
  have h' := h
  obtain ⟨n, V, x, rfl, hV, rfl, hN⟩ := h'
  obtain ⟨y, y0, y1, hy⟩ := hp
  rw [az_sn n _ (un_nn hN.1.1)] at hy
  have e := un_inj hN.1.1 y0 hy
  subst e
  rw [az_sn n V hV] at hb
  have eS : az (sn n V - sn n (un x)) = az (V - un x) := by
    cases n
    · rfl
    · rw [sn_true, sn_true, show -V - -un x = -(V - un x) by omega, az_neg]
  have hh := near_half hV hN y1
  have ex1 : ex x ≤ 2045 := by simp only [ex]; omega
  have p1 := Nm.two_mono ex1
  have e98 := two_2098
  have p2 := Nm.two_pos 2045
  rcases Nat.lt_or_ge 2045 F with hF | hF
  · have d := hT.down (show 2045 ≤ F by omega)
    have ub := un_bd x hN.1.1
    have v1 : V ≤ 9007199254740992 * 2 ^ 2045 := by
      have g := hN.2.2 y1
      rw [md_eq, vl_un, Int.mul_one] at g
      have m : un x ≤ 9007199254740991 * 2 ^ 2045 := by
        have := (man_nn x y0).2
        have a1 : un x ≤ 9007199254740991 * 2 ^ ex x := Int.mul_le_mul_of_nonneg_right (by omega) (by have := Nm.two_pos (ex x); omega)
        have a2 : (9007199254740991 : Int) * 2 ^ ex x ≤ 9007199254740991 * 2 ^ 2045 := Int.mul_le_mul_of_nonneg_left p1 (by omega)
        omega
      rcases g with g | g <;> omega
    have v2 : V < 2 ^ 2098 := by
      have g := hN.2.2 y1
      rw [md_eq, vl_un, Int.mul_one] at g
      have m : un x ≤ 9007199254740991 * 2 ^ 2045 := by
        have := (man_nn x y0).2
        have a1 : un x ≤ 9007199254740991 * 2 ^ ex x := Int.mul_le_mul_of_nonneg_right (by omega) (by have := Nm.two_pos (ex x); omega)
        have a2 : (9007199254740991 : Int) * 2 ^ ex x ≤ 9007199254740991 * 2 ^ 2045 := Int.mul_le_mul_of_nonneg_left p1 (by omega)
        omega
      rcases g with g | g <;> omega
    have dT : DB (sn n V) := db_of d (by rw [az_sn n V hV]; exact v1) (by rw [az_sn n V hV]; exact v2)
    have := h.exact dT
    rw [this, Int.sub_self]
    exact DB.zero
  · have d := hT.sub (h.dv' hT hF)
    refine db_of d ?_ ?_ <;> rw [eS]
    · have e54 : ex x ≤ F + 54 := by
        rcases Nat.lt_or_ge (F + 54) (ex x) with c | c
        · exfalso
          have m : 4503599627370496 ≤ man x := by
            have z : 0 < ex x := by omega
            simp only [man]
            simp only [ex] at z
            split <;> omega
          have m2 : 4503599627370496 * 2 ^ ex x ≤ un x := Int.mul_le_mul_of_nonneg_right m (by have := Nm.two_pos (ex x); omega)
          have m3 := Nm.two_mono (show F + 55 ≤ ex x by omega)
          have m4 : (2 : Int) ^ (106 + F) = 2251799813685248 * 2 ^ (F + 55) := by rw [show 106 + F = 51 + (F + 55) by omega, Nm.two_add]; rfl
          have m5 := Nm.two_pos (F + 55)
          rcases az_or (V - un x) with ⟨q, q'⟩ | ⟨q, q'⟩ <;> omega
        · exact c
      have m := Nm.two_mono e54
      have m2 : (2 : Int) ^ (F + 54) = 18014398509481984 * 2 ^ F := by rw [Nat.add_comm, Nm.two_add]; rfl
      omega
    · omega
end Ie
end Go.Proofs.YtmakkfekomnpbaaGreatDoor

/-
  ieee: the order of doubles, in numbers.
-/
namespace Go.Proofs.YtmakkfekomnpbaaGreatDoor
open Go Go.RowKit Go.Deep

namespace Ie
/-- No NaN. -/
def okd (d : Int) : Bool := decide (d % 9223372036854775808 ≤ 9218868437227405312)
/-- The rank. -/
def rk (d : Int) : Int := if d < 9223372036854775808 then d else 9223372036854775808 - d
theorem cls4 (d : Int) : cls d = 4 ↔ okd d = false := by
  rw [okd, decide_eq_false_iff_not, cls]
  by_cases a : fld d = 0
  · rw [if_pos a]
    simp only [fld] at a
    by_cases b : d % 4503599627370496 = 0
    · rw [if_pos b]; omega
    · rw [if_neg b]; omega
  · rw [if_neg a]
    by_cases c : fld d = 2047
    · rw [if_pos c]
      simp only [fld] at a c
      by_cases b : d % 4503599627370496 = 0
      · rw [if_pos b]; omega
      · rw [if_neg b]; omega
    · rw [if_neg c]
      simp only [fld] at a c
      omega
/-- Rank's number. -/
def rkv (d : Int) : Int := if okd d = true then rk d else 0
/-- The next one above. -/
def upd (d : Int) : Int :=
  if okd d = false then 9221120237041090560 else if d = 9218868437227405312 then d else if d = 9223372036854775808 then 1 else if 9223372036854775808 < d then d - 1 else d + 1
/-- The next one below. -/
def dnd (d : Int) : Int := if okd d = false then 9221120237041090560 else ng (upd (ng d))
/-- The double at a rank. -/
def atr (i : Int) : Int := if i < 0 then 9223372036854775808 - i else i
end Ie

theorem ret_i64b {a b : Int} {c d : Bool} (h : a = b) (k : c = d) : Ending.returned (.tuple #[.int .i64 a, .bool c]) = .returned (.tuple #[.int .i64 b, .bool d]) := by rw [h, k]
theorem ret_u64b {a b : Int} {c d : Bool} (h : a = b) (k : c = d) : Ending.returned (.tuple #[.int .u64 a, .bool c]) = .returned (.tuple #[.int .u64 b, .bool d]) := by rw [h, k]
end Go.Proofs.YtmakkfekomnpbaaGreatDoor

/-
  Orders as numbers.
-/
namespace Go.Proofs.YtmakkfekomnpbaaGreatDoor
open Go Go.RowKit Go.Deep

namespace Ie
/-- Where a pattern stands in the order of all. -/
def plc (d : Int) : Int := if d < 9223372036854775808 then d else 9223372036854775807 - d
/-- -1, 0 or 1. -/
def cm (a b : Int) : Int := if a < b then -1 else if b < a then 1 else 0
end Ie

namespace Ie
/-- Compare's number. -/
def cmv (a b : Int) : Int := if okd a = true ∧ okd b = true then cm (rk a) (rk b) else 0
end Ie
end Go.Proofs.YtmakkfekomnpbaaGreatDoor

/-
  Scalings: what lost nothing is exact; two scalings are one.
-/
namespace Go.Proofs.YtmakkfekomnpbaaGreatDoor
namespace Ie

theorem scale_exact {V E x : Int} (v0 : 0 < V) (v1 : V < 9007199254740992) (h : Rnd V 1 E false x) (x0 : 4503599627370496 < x) (x1 : x < 9218868437227405312) : ∃ c : Nat, (c : Int) = E + 1074 ∧ un x = V * 2 ^ c := by
  have e53 : (2 : Int) ^ 53 = 9007199254740992 := by decide
  rcases (show E < -1074 ∨ -1074 ≤ E by omega) with hE | hE
  · exfalso
    have hl : Rnd 4503599627370496 1 (-1074) false 4503599627370496 := by
      refine rnd_vl _ _ _ false 1 0 (by omega) (by omega) (by omega) ?_
      decide
    obtain ⟨a', ha'⟩ : ∃ a' : Nat, (a' : Int) = -1074 - E := ⟨(-1074 - E).toNat, by omega⟩
    have := h.mono (by decide) (by decide) hl (a := 0) (a' := a') (by omega) (.inl ?_)
    · omega
    · have g := Nm.two_mono (show 1 ≤ a' by omega)
      have e1 : (2 : Int) ^ 1 = 2 := rfl
      rw [Int.mul_one, Int.pow_zero, Int.mul_one, Int.mul_one]
      omega
  · obtain ⟨c, hc⟩ : ∃ c : Nat, (c : Int) = E + 1074 := ⟨(E + 1074).toNat, by omega⟩
    refine ⟨c, hc, ?_⟩
    rcases Nat.lt_or_ge 2045 c with hl | hl
    · obtain ⟨s, hs⟩ : ∃ s, c = 2045 + s := ⟨c - 2045, by omega⟩
      have hp := Nm.two_pos s
      have g := h.up s
      rcases (show V * 2 ^ s < 9007199254740992 ∨ 9007199254740992 ≤ V * 2 ^ s by omega) with q | q
      · have := (rnd_rep (c := 2045) (by omega) (by have := Int.mul_pos v0 hp; omega) q (Nat.le_refl _) g).1
        rw [this, hs, Nm.two_add, Int.mul_comm (2 ^ 2045), Int.mul_assoc]
      · exfalso
        have := g.one (by decide) (by decide) (rnd_inf (V * 2 ^ s) 1 (E - s) 53 0 false (by omega) (by decide) (by omega)) (a := 0) (a' := 0) (by omega) rfl
        omega
    · exact (rnd_rep hc (by omega) v1 hl h).1

/-- Two roundings of one number. -/
theorem same_rnd {V V' E E' x y : Int} {a a' : Nat} (h : Rnd V 1 E false x) (h' : Rnd V' 1 E' false y) (ha : (a : Int) - a' = E - E') (e : V * 2 ^ a = V' * 2 ^ a') : x = y := by
  refine h.one (by decide) (by decide) h' ha ?_
  rw [Int.mul_one, Int.mul_one]
  exact e
end Ie
end Go.Proofs.YtmakkfekomnpbaaGreatDoor

/-
  RemainFloors, RemainJoins in numbers.
-/
namespace Go.Proofs.YtmakkfekomnpbaaGreatDoor
namespace Ie

theorem div_mod (U P : Int) : U / P * P + U % P = U := by
  have := Int.mul_ediv_add_emod U P
  rw [Int.mul_comm] at this
  exact this
theorem sn_sub (N : Bool) {U A F : Int} (h : A + F = U) : sn N U + -sn N A = sn N F := by
  cases N <;> simp only [sn_true, sn_false] <;> omega
theorem sn_add (N : Bool) {U A F : Int} (h : A + F = U) : sn N A + sn N F = sn N U := by
  cases N <;> simp only [sn_true, sn_false] <;> omega

theorem uv_sg (neg : Bool) (x : Int) (h0 : 0 ≤ x) (h1 : x < 9223372036854775808) : uv (sg neg x) = sn neg (un x) := by
  have h := ab_sb neg x h0 h1
  rw [show sb neg x = sg neg x from rfl] at h
  rw [uv, h.1, h.2]

theorem sg_all (neg : Bool) (x : Int) (h0 : 0 ≤ x) (h1 : x ≤ 9218868437227405312) : ab (sg neg x) = x ∧ ngd (sg neg x) = neg ∧ 0 ≤ sg neg x ∧ sg neg x < 18446744073709551616 ∧ sg neg x / 9223372036854775808 = (if neg = true then 1 else 0) ∧ isn (sg neg x) = false := by
  have := ab_sb neg x h0 (by omega)
  rw [show sb neg x = sg neg x from rfl] at this
  refine ⟨this.1, this.2, ?_, ?_, ?_, by rw [isn, this.1, decide_eq_false_iff_not]; omega⟩ <;> cases neg <;> simp only [sg, Bool.false_eq_true, if_true, if_false] <;> omega

theorem dv_ngd (d : Int) (h0 : 0 ≤ d) (h1 : d < 18446744073709551616) : d / 9223372036854775808 = (if ngd d = true then 1 else 0) := by
  rcases (show d < 9223372036854775808 ∨ 9223372036854775808 ≤ d by omega) with g | g
  · rw [ngd, decide_eq_false (by omega), if_neg (by decide)]; omega
  · rw [ngd, decide_eq_true (by omega), if_pos rfl]; omega

theorem rs_fl {S : Int} {z : Bool} {r : Int} (h : RS S 1 z r) : Fl S (uv r) ∧ isn r = false ∧ 0 ≤ r ∧ r < 18446744073709551616 := by
  obtain ⟨neg, V, x, rfl, hS, v0, hN, -⟩ := h
  obtain ⟨b0, b1⟩ := hN.1
  obtain ⟨-, -, q1, q2, -, q3⟩ := sg_all neg x b0 b1
  exact ⟨⟨neg, V, x, hS, v0, uv_sg neg x b0 (by omega), hN⟩, q3, q1, q2⟩

theorem rk_sn (d : Int) (h0 : 0 ≤ d) (h1 : d < 18446744073709551616) : rk d = sn (ngd d) (ab d) := by
  rcases (show d < 9223372036854775808 ∨ 9223372036854775808 ≤ d by omega) with g | g
  · rw [rk, if_pos g, ngd, decide_eq_false (by omega), sn_false, ab]; omega
  · rw [rk, if_neg (by omega), ngd, decide_eq_true g, sn_true, ab]; omega

theorem sn_un_lt (N M : Bool) {x y : Int} (x0 : 0 ≤ x) (y0 : 0 ≤ y) : sn N x < sn M y ↔ sn N (un x) < sn M (un y) := by
  have ux := un_nn x0
  have uy := un_nn y0
  have e1 : x = 0 ↔ un x = 0 := ⟨fun h => by rw [h, un_zero], fun h => un_inj x0 (by omega) (by rw [h, un_zero])⟩
  have e2 : y = 0 ↔ un y = 0 := ⟨fun h => by rw [h, un_zero], fun h => un_inj y0 (by omega) (by rw [h, un_zero])⟩
  have l1 : x < y ↔ un x < un y := ⟨fun h => un_lt x0 h, fun h => by
    rcases (show x < y ∨ y ≤ x by omega) with g | g
    · exact g
    · have := un_le y0 g; omega⟩
  have l2 : y < x ↔ un y < un x := ⟨fun h => un_lt y0 h, fun h => by
    rcases (show y < x ∨ x ≤ y by omega) with g | g
    · exact g
    · have := un_le x0 g; omega⟩
  cases N <;> cases M <;> simp only [sn_true, sn_false] <;> omega

theorem rk_uv {a b : Int} (a0 : 0 ≤ a) (a1 : a < 18446744073709551616) (b0 : 0 ≤ b) (b1 : b < 18446744073709551616) : (rk a < rk b ↔ uv a < uv b) ∧ (rk b < rk a ↔ uv b < uv a) := by
  rw [rk_sn a a0 a1, rk_sn b b0 b1, uv, uv]
  exact ⟨sn_un_lt _ _ (ab_bd a).1 (ab_bd b).1, sn_un_lt _ _ (ab_bd b).1 (ab_bd a).1⟩

theorem cmv_uv {a b : Int} (a0 : 0 ≤ a) (a1 : a < 18446744073709551616) (b0 : 0 ≤ b) (b1 : b < 18446744073709551616) (na : isn a = false) (nb : isn b = false) : (okd a && okd b) = true ∧ (cmv a b < 0 ↔ uv a < uv b) ∧ (cmv a b ≤ 0 ↔ uv a ≤ uv b) ∧ (uv a = uv b → cmv a b = 0) := by
  rw [isn, decide_eq_false_iff_not, ab] at na nb
  have o1 : okd a = true := by rw [okd, decide_eq_true_iff]; omega
  have o2 : okd b = true := by rw [okd, decide_eq_true_iff]; omega
  obtain ⟨l1, l2⟩ := rk_uv a0 a1 b0 b1
  rw [cmv, if_pos ⟨o1, o2⟩, o1, o2, cm]
  refine ⟨rfl, ?_, ?_, ?_⟩
  · split
    · rename_i h; have := l1.1 h; omega
    · split <;> omega
  · split
    · rename_i h; have := l1.1 h; omega
    · split
      · rename_i h; have := l2.1 h; omega
      · omega
  · intro e
    rw [if_neg (by omega), if_neg (by omega)]

theorem uv_ng {x : Int} (h0 : 0 ≤ x) (h1 : x < 18446744073709551616) : uv (ng x) = -uv x ∧ ab (ng x) = ab x ∧ ngd (ng x) = !ngd x ∧ 0 ≤ ng x ∧ ng x < 18446744073709551616 := by
  have q : ab (ng x) = ab x ∧ ngd (ng x) = !ngd x ∧ 0 ≤ ng x ∧ ng x < 18446744073709551616 := by
    rcases (show x < 9223372036854775808 ∨ 9223372036854775808 ≤ x by omega) with g | g
    · rw [ng, if_pos g]
      exact ⟨by simp only [ab]; omega, by rw [ngd, ngd, decide_eq_true (by omega), decide_eq_false (by omega)]; rfl, by omega, by omega⟩
    · rw [ng, if_neg (by omega)]
      exact ⟨by simp only [ab]; omega, by rw [ngd, ngd, decide_eq_false (by omega), decide_eq_true (by omega)]; rfl, by omega, by omega⟩
  refine ⟨?_, q⟩
  rw [uv, uv, q.1, q.2.1, sn_not]

/-- The rest is a double. -/
theorem frac_rep {d : Int} (hf : fin d) : ∃ z, 0 ≤ z ∧ z < 9218868437227405312 ∧ un z = un (ab d) % 2 ^ 1074 := by
  have b := ab_bd d
  have mb := man_nn (ab d) b.1
  have eb : ex (ab d) ≤ 2045 := by rw [fin] at hf; simp only [ex]; omega
  rcases Nat.lt_or_ge (ex (ab d)) 1074 with h | h
  · obtain ⟨z, z0, z1, hz⟩ := un_rep (ex (ab d)) (man (ab d) % 2 ^ (1074 - ex (ab d))) (Int.emod_nonneg _ (by have := Nm.two_pos (1074 - ex (ab d)); omega)) (by
      have g1 := Int.mul_ediv_add_emod (man (ab d)) (2 ^ (1074 - ex (ab d)))
      have g2 : 0 ≤ (2 : Int) ^ (1074 - ex (ab d)) * (man (ab d) / 2 ^ (1074 - ex (ab d))) := Int.mul_nonneg (by have := Nm.two_pos (1074 - ex (ab d)); omega) (Int.ediv_nonneg mb.1 (by have := Nm.two_pos (1074 - ex (ab d)); omega))
      omega) eb
    refine ⟨z, z0, z1, ?_⟩
    have e1 : (2 : Int) ^ 1074 = 2 ^ (1074 - ex (ab d)) * 2 ^ ex (ab d) := by rw [← Nm.two_add]; congr 1; omega
    rw [hz, e1, un, emod_scale _ _ _ (Nm.two_pos _)]
  · refine ⟨0, by omega, by omega, ?_⟩
    obtain ⟨j, hj⟩ : ∃ j, ex (ab d) = j + 1074 := ⟨ex (ab d) - 1074, by omega⟩
    rw [un_zero, un, hj, Nm.two_add, ← Int.mul_assoc]
    exact (Int.mul_emod_left _ _).symm

theorem wis_trunc {d r : Int} (hf : fin d) (h : WIs d false r) : ∃ y, r = sg (ngd d) y ∧ 0 ≤ y ∧ y < 9218868437227405312 ∧ un y = un (ab d) / 2 ^ 1074 * 2 ^ 1074 := by
  obtain ⟨y, hr, y0, y1, q1, q2⟩ := h.2.2 hf
  refine ⟨y, hr, y0, y1, ?_⟩
  cases g : intg d
  · rw [q2 g, wup, if_neg (by decide)]
  · rw [q1 g]
    have e := (intg_iff_un hf).1 g
    have := div_mod (un (ab d)) (2 ^ 1074)
    rw [e, Int.add_zero] at this
    exact this.symm

theorem fin_sg {N : Bool} {y : Int} (h0 : 0 ≤ y) (h1 : y < 9218868437227405312) : fin (sg N y) := by
  rw [fin, (sg_all N y h0 (by omega)).1]; exact h1

/-- What Split's difference is. -/
theorem split_sub {d w s f : Int} (hf : fin d) (h : WIs d false w) (h' : AddIs d (ng w) s f) : ∃ z neg, s = sb neg z ∧ 0 ≤ z ∧ z < 9218868437227405312 ∧ un z = un (ab d) % 2 ^ 1074 ∧ (neg = ngd d ∨ neg = false ∧ z = 0) := by
  obtain ⟨y, rfl, y0, y1, hy⟩ := wis_trunc hf h
  obtain ⟨q1, q2, q3, q4, -, -⟩ := sg_all (ngd d) y y0 (by omega)
  obtain ⟨n1, n2, n3, -, -⟩ := uv_ng q3 q4
  have fw : fin (ng (sg (ngd d) y)) := by rw [fin, n2, q1]; exact y1
  have hs := h'.rs hf fw
  rw [n1, n3, q2, uv_sg _ _ y0 (by omega), uv, hy] at hs
  obtain ⟨z, z0, z1, hz⟩ := frac_rep hf
  have eS : sn (ngd d) (un (ab d)) + -sn (ngd d) (un (ab d) / 2 ^ 1074 * 2 ^ 1074) = sn (ngd d) (un z) := by
    rw [hz]
    exact sn_sub _ (div_mod _ _)
  rw [eS] at hs
  obtain ⟨neg, hr, hS, h0⟩ := hs.exact (by decide) z z0 z1 (by rw [az_sn _ _ (un_nn z0), Int.mul_one])
  refine ⟨z, neg, hr, z0, z1, hz, ?_⟩
  rw [Int.mul_one] at hS
  rcases (show un z = 0 ∨ un z ≠ 0 by omega) with g | g
  · right
    have := h0 (by rw [g]; exact sn_zero _)
    refine ⟨?_, un_inj z0 (by omega) (by rw [g, un_zero])⟩
    rw [this]; cases ngd d <;> rfl
  · left
    cases neg <;> cases N : ngd d <;> rw [N] at hS <;> simp only [sn_true, sn_false] at hS <;> first | rfl | omega

/-- What Split's parts add up to. -/
theorem join_sum {d y z r f : Int} (h0 : 0 ≤ d) (h1 : d < 18446744073709551616) (hf : fin d) (y0 : 0 ≤ y) (y1 : y < 9218868437227405312) (hy : un y = un (ab d) / 2 ^ 1074 * 2 ^ 1074) (z0 : 0 ≤ z) (z1 : z < 9218868437227405312) (hz : un z = un (ab d) % 2 ^ 1074)
    (h : AddIs (sg (ngd d) y) (sg (ngd d) z) r f) : r = d ∧ f = 0 := by
  have fy := fin_sg (N := ngd d) y0 y1
  have fz := fin_sg (N := ngd d) z0 z1
  have hs := h.rs fy fz
  have hfl := h.flags fy fz
  rw [uv_sg _ _ y0 (by omega), uv_sg _ _ z0 (by omega), hy, hz] at hs hfl
  have eS : sn (ngd d) (un (ab d) / 2 ^ 1074 * 2 ^ 1074) + sn (ngd d) (un (ab d) % 2 ^ 1074) = sn (ngd d) (un (ab d)) := sn_add _ (div_mod _ _)
  rw [eS] at hs hfl
  rw [(sg_all (ngd d) y y0 (by omega)).2.1, (sg_all (ngd d) z z0 (by omega)).2.1, Bool.and_self] at hs
  obtain ⟨neg, hr, hS, hz0⟩ := hs.exact (by decide) (ab d) (ab_bd d).1 hf (by rw [az_sn _ _ (un_nn (ab_bd d).1), Int.mul_one])
  rw [Int.mul_one] at hS
  have hn : neg = ngd d := by
    rcases (show un (ab d) = 0 ∨ un (ab d) ≠ 0 by omega) with g | g
    · exact hz0 (by rw [g]; exact sn_zero _)
    · have := un_nn (ab_bd d).1
      cases neg <;> cases N : ngd d <;> rw [N] at hS <;> simp only [sn_true, sn_false] at hS <;> first | rfl | omega
  have er : r = d := by rw [hr, hn]; exact (sb_ab d h0 h1).symm
  refine ⟨er, ?_⟩
  rw [er] at hfl
  rcases hfl with ⟨g, -, -⟩ | ⟨g, -⟩
  · exact g
  · exact absurd ⟨hf, rfl⟩ g

theorem un_1074 : un 4607182418800017408 = 2 ^ 1074 := by
  rw [un, show man 4607182418800017408 = 4503599627370496 by decide, show ex 4607182418800017408 = 1022 by decide, show (4503599627370496 : Int) = 2 ^ 52 by decide, ← Nm.two_add]

theorem un_1073 : un 4602678819172646912 = 2 ^ 1073 := by
  rw [un, show man 4602678819172646912 = 4503599627370496 by decide, show ex 4602678819172646912 = 1021 by decide, show (4503599627370496 : Int) = 2 ^ 52 by decide, ← Nm.two_add]

theorem Fl.nn {S z : Int} (h : Fl S z) (hS : 0 < S) : 0 ≤ z := by
  obtain ⟨n, V, x, rfl, hV, rfl, hN⟩ := h
  cases n
  · exact un_nn hN.1.1
  · rw [sn_true] at hS; omega

/-- The rounded distances to both sides have their order. -/
theorem fl_order {d F G zF zG : Int} (hf : fin d) (hi : intg d = false) (eF : F = un (ab d) % 2 ^ 1074) (eG : G = 2 ^ 1074 - F) (hF : Fl F zF) (hG : Fl G zG) : (0 < F ∧ 0 < G) ∧ (zF < zG ↔ F < G) ∧ (zG < zF ↔ G < F) := by
  have hp := Nm.two_pos 1074
  have b := ab_bd d
  have f0 : 0 ≤ F := by rw [eF]; exact Int.emod_nonneg _ (by omega)
  have f1 : F < 2 ^ 1074 := by rw [eF]; exact Int.emod_lt_of_pos _ hp
  have fn : F ≠ 0 := fun h => by
    rw [h] at eF
    rw [(intg_iff_un hf).2 eF.symm] at hi
    cases hi
  refine ⟨by omega, ?_⟩
  have zF0 := hF.nn (by omega)
  have zG0 := hG.nn (by omega)
  have DF : DB F := by
    obtain ⟨z, z0, z1, hz⟩ := frac_rep hf
    exact ⟨z, z0, z1, by rw [hz, ← eF]; rcases az_or F with ⟨_, g⟩ | ⟨_, g⟩ <;> omega⟩
  have eZF := hF.exact DF
  have hd := Int.mul_ediv_add_emod (un (ab d)) (2 ^ 1074)
  have un0 := un_nn b.1
  rcases (show un (ab d) < 2 ^ 1074 ∨ 2 ^ 1074 ≤ un (ab d) by omega) with g | g
  · -- below one: the rest is the number
    have eU : F = un (ab d) := by rw [eF]; exact Int.emod_eq_of_lt un0 g
    rcases (show 2 ^ 1074 ≤ 2 * F ∨ 2 * F < 2 ^ 1074 by omega) with k | k
    · have hl : ab d ≤ 4607182418800017408 := by
        rcases (show ab d ≤ 4607182418800017408 ∨ 4607182418800017408 < ab d by omega) with q | q
        · exact q
        · have := un_lt (by omega) q; rw [un_1074] at this; omega
      have := sterbenz (x := ab d) (y := 4607182418800017408) b.1 (by omega) hl (by rw [un_1074, ← eU]; exact k)
      rw [un_1074, ← eU, ← eG] at this
      have eZG := hG.exact this
      omega
    · have h73 : (2 : Int) ^ 1074 = 2 * 2 ^ 1073 := Nm.two_succ 1073
      have ge := hG.ge (y := 4602678819172646912) (by omega) (by omega) (by rw [un_1073]; rcases az_or G with ⟨_, q⟩ | ⟨_, q⟩ <;> omega)
      rw [un_1073] at ge
      have az1 : az zG = zG := by rcases az_or zG with ⟨_, q⟩ | ⟨_, q⟩ <;> omega
      omega
  · -- from one on both are exact
    have ub := un_bd (ab d) b.1
    have el : ex (ab d) < 1074 := by
      rcases Nat.lt_or_ge (ex (ab d)) 1074 with q | q
      · exact q
      · exfalso
        obtain ⟨j, hj⟩ : ∃ j, ex (ab d) = j + 1074 := ⟨ex (ab d) - 1074, by omega⟩
        apply fn
        rw [eF, un, hj, Nm.two_add, ← Int.mul_assoc]
        exact Int.mul_emod_left _ _
    have dvP : Dv (ex (ab d)) (2 ^ 1074) := ⟨2 ^ (1074 - ex (ab d)), by rw [← Nm.two_add]; congr 1; omega⟩
    have dvF : Dv (ex (ab d)) F := by
      have e1 : (2 : Int) ^ 1074 = 2 ^ (1074 - ex (ab d)) * 2 ^ ex (ab d) := by rw [← Nm.two_add]; congr 1; omega
      refine ⟨man (ab d) % 2 ^ (1074 - ex (ab d)), ?_⟩
      rw [eF, e1, un, emod_scale _ _ _ (Nm.two_pos _)]
    have dvG : Dv (ex (ab d)) G := by rw [eG]; exact dvP.sub dvF
    have m2 := Nm.two_mono (show 1074 ≤ 2098 by omega)
    have aG : az G = G := by rcases az_or G with ⟨_, q⟩ | ⟨_, q⟩ <;> omega
    have eZG := hG.exact (db_of dvG (by omega) (by omega))
    omega
end Ie
end Go.Proofs.YtmakkfekomnpbaaGreatDoor

/-
  remain: Split (made by mkhjoins.py).
-/
namespace Go.Proofs.YtmakkfekomnpbaaGreatDoor
open Go Go.RowKit Go.Deep

theorem Ib.or_hi (d : Int) (h0 : 0 ≤ d) (h1 : d < 9223372036854775808) : bits .or .u64 (d + 9223372036854775808) 9223372036854775808 = d + 9223372036854775808 := by
  obtain ⟨a, rfl⟩ := Int.eq_ofNat_of_zero_le h0
  have j : a ||| 9223372036854775808 = a + 9223372036854775808 := by
    have h := u64_or_nat a 9223372036854775808 (by omega) (by omega)
    rw [show ((9223372036854775808 : Nat) : Int) = 9223372036854775808 from rfl, Ib.sign_or (a : Int) (by omega) (by omega)] at h
    omega
  have h := u64_or_nat (a + 9223372036854775808) 9223372036854775808 (by omega) (by omega)
  rw [show ((9223372036854775808 : Nat) : Int) = 9223372036854775808 from rfl, show ((a + 9223372036854775808 : Nat) : Int) = (a : Int) + 9223372036854775808 by omega] at h
  rw [h, ← j, Nat.or_assoc, Nat.or_self, j]
  omega

theorem Ie.or_sign {d z : Int} {neg : Bool} (h0 : 0 ≤ d) (h1 : d < 18446744073709551616) (z0 : 0 ≤ z) (z1 : z < 9218868437227405312) (h : neg = Ie.ngd d ∨ neg = false ∧ z = 0) : bits .or .u64 (Ie.sb neg z) (d / 9223372036854775808 * 9223372036854775808) = Ie.sg (Ie.ngd d) z := by
  rcases (show d < 9223372036854775808 ∨ 9223372036854775808 ≤ d by omega) with g | g
  · have N : Ie.ngd d = false := by rw [Ie.ngd, decide_eq_false (by omega)]
    rw [N] at h ⊢
    obtain rfl : neg = false := by rcases h with h | h; exact h; exact h.1
    rw [show d / 9223372036854775808 * 9223372036854775808 = 0 by omega]
    exact Ib.or_zero z z0 (by omega)
  · have N : Ie.ngd d = true := by rw [Ie.ngd, decide_eq_true (by omega)]
    rw [N] at h ⊢
    rw [show d / 9223372036854775808 * 9223372036854775808 = 9223372036854775808 by omega]
    rcases h with h | ⟨h, hz⟩
    · rw [h]; exact Ib.or_hi z z0 (by omega)
    · rw [h, hz]; exact Ib.sign_or 0 (by omega) (by omega)

namespace Ie
/-- What Split answers. -/
def SplitIs (d r s : Int) : Prop := (isn d = true → r = 9221120237041090560 ∧ s = 9221120237041090560) ∧ (isi d = true → r = d ∧ s = sg (ngd d) 0) ∧
  (fin d → ∃ y z, r = sg (ngd d) y ∧ s = sg (ngd d) z ∧ 0 ≤ y ∧ y < 9218868437227405312 ∧ un y = un (ab d) / 2 ^ 1074 * 2 ^ 1074 ∧ 0 ≤ z ∧ z < 9218868437227405312 ∧ un z = un (ab d) % 2 ^ 1074)
theorem sv_sg (d : Int) (h0 : 0 ≤ d) (h1 : d < 18446744073709551616) : d / 9223372036854775808 * 9223372036854775808 = sg (ngd d) 0 := by
  rw [ngd]
  rcases (show d < 9223372036854775808 ∨ 9223372036854775808 ≤ d by omega) with g | g
  · rw [decide_eq_false (by omega)]; show _ = (0 : Int); omega
  · rw [decide_eq_true (by omega)]; show _ = (0 : Int) + 9223372036854775808; omega
end Ie

theorem ret_uu {a b c d : Int} (h : a = b) (k : c = d) : Ending.returned (.tuple #[.int .u64 a, .int .u64 c]) = .returned (.tuple #[.int .u64 b, .int .u64 d]) := by rw [h, k]

set_option maxRecDepth 100000 in
set_option maxHeartbeats 2000000 in
theorem split_any (d : Int) (w : World) (hT : Tab w) (h0 : 0 ≤ d) (h1 : d < 18446744073709551616) :
    Calls Tryz.prog 21 #[.int .u64 d] w fun e w' => ∃ r s, e = .returned (.tuple #[.int .u64 r, .int .u64 s]) ∧ Ie.SplitIs d r s ∧ Below w.heap.size w w' := by
  have NN := hid (fun (wx : World) => mnan_any d wx h0 h1)
  have NI := hid (fun (wx : World) => minfinite_any d wx h0 h1)
  have SA := Ib.sign_and d h0 h1
  have HT := hid hT
  rcases Ie.kinds d with g | ⟨g, g', g''⟩ | ⟨g, g', g''⟩
  · have E : Hid (Ie.SplitIs d 9221120237041090560 9221120237041090560) := ⟨fun _ => ⟨rfl, rfl⟩, fun k => (by simp only [Ie.isn, Ie.isi, decide_eq_true_iff] at g k; omega), fun k => (by simp only [Ie.isn, Ie.fin, decide_eq_true_iff] at g k; omega)⟩
    rw [g] at NN
    clear g hT
    go_enter Tryz.func21, Tryz.ntmps21
    go_wp2_with fail
    refine (NN.out _).mono ?_
    rintro e wz ⟨rfl, hz⟩
    replace hz := hz.symm
    subst hz
    go_wp2_with fail
    go_ret2
    exact ⟨_, _, rfl, E.out, Below.refl _ _⟩
  · have E : Hid (Ie.SplitIs d d (d / 9223372036854775808 * 9223372036854775808)) := ⟨fun k => (by rw [g] at k; cases k), fun _ => ⟨rfl, Ie.sv_sg d h0 h1⟩, fun k => absurd k g''⟩
    rw [g] at NN
    rw [g'] at NI
    clear g g' g'' hT
    generalize d / 9223372036854775808 * 9223372036854775808 = sv at *
    go_enter Tryz.func21, Tryz.ntmps21
    go_wp2_with fail
    refine (NN.out _).mono ?_
    rintro e wz ⟨rfl, hz⟩
    replace hz := hz.symm
    subst hz
    go_wp2_with fail
    refine (NI.out _).mono ?_
    rintro e wz ⟨rfl, hz⟩
    replace hz := hz.symm
    subst hz
    go_wp2_with fail
    go_ret2
    exact ⟨_, _, rfl, E.out, Below.refl _ _⟩
  · have TR := hid (trunc_any d w hT h0 h1)
    have SU : Hid (∀ (wx : World) (r : Int), Tab wx → Ie.WIs d false r → Calls Tryz.prog 45 #[.int .u64 d, .int .u64 r] wx fun e w' => ∃ s t, e = .returned (.int .u64 s) ∧ bits .or .u64 s (d / 9223372036854775808 * 9223372036854775808) = t ∧ Hid (Ie.SplitIs d r t) ∧ Below wx.heap.size wx w') := by
      intro wx r hx hr
      obtain ⟨y, hry, y0, y1, hy⟩ := Ie.wis_trunc g'' hr
      obtain ⟨-, -, q3, q4, -, -⟩ := Ie.sg_all (Ie.ngd d) y y0 (by omega)
      rw [← hry] at q3 q4
      refine (softSub_any d r wx h0 h1 q3 q4 hx).mono ?_
      rintro e w' ⟨s, f, rfl, hs, hB⟩
      obtain ⟨z, neg, hsz, z0, z1, hz, hn⟩ := Ie.split_sub g'' hr hs
      refine ⟨s, _, rfl, rfl, ?_, hB⟩
      rw [hsz, Ie.or_sign h0 h1 z0 z1 hn]
      exact ⟨fun k => (by rw [g] at k; cases k), fun k => (by rw [g'] at k; cases k), fun _ => ⟨y, z, hry, rfl, y0, y1, hy, z0, z1, hz⟩⟩
    rw [g] at NN
    rw [g'] at NI
    clear g g' g'' hT
    generalize d / 9223372036854775808 * 9223372036854775808 = sv at *
    go_enter Tryz.func21, Tryz.ntmps21
    go_wp2_with fail
    refine (NN.out _).mono ?_
    rintro e wz ⟨rfl, hz⟩
    replace hz := hz.symm
    subst hz
    go_wp2_with fail
    refine (NI.out _).mono ?_
    rintro e wz ⟨rfl, hz⟩
    replace hz := hz.symm
    subst hz
    go_wp2_with fail
    refine TR.out.mono ?_
    rintro e w1 ⟨r, rfl, hr, hB⟩
    have HB1 := hid hB
    have S1 := hid (SU.out w1 r (HT.out.below hB) hr)
    clear hB hr TR SU
    go_wp2_with fail
    refine S1.out.mono ?_
    rintro e w2 ⟨s, t, rfl, hst, hs, hB⟩
    have HB2 := hid (HB1.out.trans (hB.mono HB1.out.size))
    clear hB S1
    go_wp2_with fail
    go_ret2
    exact ⟨_, _, rfl, hs.out, HB2.out⟩
end Go.Proofs.YtmakkfekomnpbaaGreatDoor

/-
  remain: aligned.
-/
namespace Go.Proofs.YtmakkfekomnpbaaGreatDoor
open Go Go.RowKit Go.Deep

/-- What aligned tells. -/
def AlignTold (a b : Int) (w : World) (e : Ending) (w' : World) : Prop :=
  ∃ (p q : Option Addr) (os qs : List Int) (i j : Nat) (x : Int), e = .returned (.tuple #[.slice p (List.length os) (List.length os), .slice q (List.length qs) (List.length qs), .int .i64 x]) ∧
    Ans w.heap.size w' p os (Ie.dm a * 2 ^ i) ∧ Ans w.heap.size w' q qs (Ie.dm b * 2 ^ j) ∧ x = min (Ie.de a) (Ie.de b) ∧ (i : Int) = Ie.de a - x ∧ (j : Int) = Ie.de b - x ∧ Below w.heap.size w w'

theorem Ans.upB {B B' : Nat} {w : World} {p : Option Addr} {ys : List Int} {n : Int} (h : Ans B w p ys n) (hB : B' ≤ B) : Ans B' w p ys n :=
  ⟨h.1, h.2.1, h.2.2.1, h.2.2.2.1, fun a ha => Nat.le_trans hB (h.2.2.2.2 a ha)⟩

set_option maxRecDepth 100000 in
set_option maxHeartbeats 8000000 in
theorem aligned_any (a b : Int) (w : World) (a0 : 0 ≤ a) (a1 : a < 18446744073709551616) (b0 : 0 ≤ b) (b1 : b < 18446744073709551616) (fa : Ie.fin a) (fb : Ie.fin b) :
    Calls Tryz.prog 75 #[.int .u64 a, .int .u64 b] w fun e w' => AlignTold a b w e w' := by
  have DA := hid (fun (wx : World) => decode_any a wx a0 a1)
  have DB := hid (fun (wx : World) => decode_any b wx b0 b1)
  obtain ⟨⟨ma0, ma1⟩, ⟨ea0, ea1⟩, -, -⟩ := Ie.dec_f a fa
  obtain ⟨⟨mb0, mb1⟩, ⟨eb0, eb1⟩, -, -⟩ := Ie.dec_f b fb
  have FA := hid (fun (wx : World) => fromUint_any (Ie.dm a) wx ma0 (by omega))
  have FB := hid (fun (wx : World) => fromUint_any (Ie.dm b) wx mb0 (by omega))
  obtain ⟨x, hx⟩ : ∃ x, min (Ie.de a) (Ie.de b) = x := ⟨_, rfl⟩
  obtain ⟨i, hi⟩ : ∃ i : Nat, (i : Int) = Ie.de a - x := ⟨(Ie.de a - x).toNat, by omega⟩
  obtain ⟨j, hj⟩ : ∃ j : Nat, (j : Int) = Ie.de b - x := ⟨(Ie.de b - x).toNat, by omega⟩
  have W1 : IntKind.i64.wrap (Ie.de a - x) = (i : Int) := by rw [IntKind.wrap_i64]; omega
  have W2 : IntKind.i64.wrap (Ie.de b - x) = (j : Int) := by rw [IntKind.wrap_i64]; omega
  have SH : ∀ (m : Int) (i : Nat), 0 ≤ m → m < 9007199254740992 → i ≤ 2100 → ∀ (wx : World) (p : Option Addr) (os : List Int) (B : Nat), Ans B wx p os m → Calls Tryz.prog 77 #[.slice p os.length os.length, .int .i64 (i : Int)] wx fun e w' => ∃ r os, e = .returned (.tuple #[.slice r (List.length os) (List.length os), .int .i64 0]) ∧ Ans wx.heap.size w' r os (m * 2 ^ i) ∧ Below wx.heap.size wx w' := by
    intro m i m0 m1 hi wx p os B A
    have l1 := A.lim1 (by omega)
    have := shl_any p _ _ os (i : Int) i wx (A.arg (by omega)) (by rw [A.2.2.1]; omega) rfl (by rw [A.2.2.2.1]; exact shl_room (L := 1) (show m < 18446744073709551616 by omega) (by omega))
    rw [A.2.2.2.1] at this
    exact this
  have SA := hid (SH (Ie.dm a) i ma0 ma1 (by omega))
  have SB := hid (SH (Ie.dm b) j mb0 mb1 (by omega))
  have WT : Hid (∀ (wx : World) (p q : Option Addr) (os qs : List Int) (B B' : Nat), w.heap.size ≤ B → w.heap.size ≤ B' → Ans B wx p os (Ie.dm a * 2 ^ i) → Ans B' wx q qs (Ie.dm b * 2 ^ j) → Below w.heap.size w wx → AlignTold a b w (.returned (.tuple #[.slice p (List.length os) (List.length os), .slice q (List.length qs) (List.length qs), .int .i64 x])) wx) := by
    intro wx p q os qs B B' l1 l2 A1 A2 hB
    exact ⟨p, q, os, qs, i, j, x, rfl, A1.upB l1, A2.upB l2, hx.symm, hi, hj, hB⟩
  clear SH fa fb ma0 ma1 mb0 mb1 hi hj a0 a1 b0 b1 ea0 ea1 eb0 eb1
  simp only [partsOf] at DA DB
  generalize decide (9223372036854775808 ≤ a) = na at *
  generalize decide (9223372036854775808 ≤ b) = nb at *
  generalize Ie.dm a = ma at *
  generalize Ie.dm b = mb at *
  generalize Ie.de a = ea at *
  generalize Ie.de b = eb at *
  generalize Ie.cls a = ca at *
  generalize Ie.cls b = cb at *
  go_enter Tryz.func75, Tryz.ntmps75
  go_wp2_with fail
  refine (DA.out _).mono ?_
  rintro e w1 ⟨rfl, hB1⟩
  go_wp2_with fail
  refine (DB.out _).mono ?_
  rintro e w2 ⟨rfl, hB2⟩
  have HB2 := hid (hB1.trans (hB2.mono hB1.size))
  clear hB1 hB2 DA DB
  go_upto_region 2 with fail
  have s1 : (w2.alloc (.cells #[.bool na, .int .i64 ca, .int .u64 ma, .int .i64 ea] 40)).heap.size = w2.heap.size + 1 := by simp
  have hb := HB2.out.trans ((twice_alloc w2 (.cells #[.bool na, .int .i64 ca, .int .u64 ma, .int .i64 ea] 40) (.cells #[.bool nb, .int .i64 cb, .int .u64 mb, .int .i64 eb] 40)).mono HB2.out.size)
  have P1 := (Row4.new w2 40 (.bool na) (.int .i64 ca) (.int .u64 ma) (.int .i64 ea)).below (alloc_b _ (.cells #[.bool nb, .int .i64 cb, .int .u64 mb, .int .i64 eb] 40)) (by omega)
  have P2 := Row4.new (w2.alloc (.cells #[.bool na, .int .i64 ca, .int .u64 ma, .int .i64 ea] 40)) 40 (.bool nb) (.int .i64 cb) (.int .u64 mb) (.int .i64 eb)
  rw [s1] at P2
  obtain ⟨SS, KS, CS, BS, MS⟩ := state (fun w' => w'.cell? ⟨w2.heap.size, 2, none⟩ = some (.int .u64 ma) ∧ w'.cell? ⟨w2.heap.size, 3, none⟩ = some (.int .i64 ea) ∧ w'.cell? ⟨w2.heap.size + 1, 2, none⟩ = some (.int .u64 mb) ∧ w'.cell? ⟨w2.heap.size + 1, 3, none⟩ = some (.int .i64 eb)) w ((Stays.cell _ _).and ((Stays.cell _ _).and ((Stays.cell _ _).and (Stays.cell _ _))))
  have S0 := hid (MS.out _ ⟨P1.cells.1.2.2.1, P1.cells.1.2.2.2, P2.cells.1.2.2.1, P2.cells.1.2.2.2⟩ hb)
  clear P1 P2 hb HB2 MS s1
  generalize (w2.alloc (.cells #[.bool na, .int .i64 ca, .int .u64 ma, .int .i64 ea] 40)).alloc (.cells #[.bool nb, .int .i64 cb, .int .u64 mb, .int .i64 eb] 40) = wA at *
  generalize hd : w2.heap.size + 1 = d at *
  generalize w2.heap.size = c at *
  clear hd
  obtain ⟨p0, p1, p2, p3⟩ := CS.out _ S0.out
  go_upto_region 3 with fail
  clear hx
  have S1 := hid (KS.out _ _ S0.out (drew_nil _))
  go_region_held3 (fun w' => w'.cell? ⟨c, 2, none⟩ = some (.int .u64 ma) ∧ w'.cell? ⟨c, 3, none⟩ = some (.int .i64 ea) ∧ w'.cell? ⟨d, 2, none⟩ = some (.int .u64 mb) ∧ w'.cell? ⟨d, 3, none⟩ = some (.int .i64 eb)) (first | (with_reducible exact CS.out _ S3.out) | (with_reducible exact CS.out _ S2.out) | (with_reducible exact CS.out _ S1.out)) (first
    | (go_at_call 30; refine (FA.out _).mono ?_; rintro e w4 ⟨p, os, rfl, A, hB⟩; have S2 := hid (KS.out _ _ S1.out hB); have R2 := hid (SA.out w4 p os _ A); clear hB A)
    | (go_at_call 77; (try rw [W1]); refine R2.out.mono ?_; rintro e w5 ⟨p5, o5, rfl, A, hB⟩; have S3 := hid (KS.out _ _ S2.out hB); have A5 := hid (A.upB (BS.out _ S2.out).size); clear hB A))
  all_goals
    clear p0 p1 p2 p3 S0 S1 S2 R2 FA SA
    obtain ⟨p0, p1, p2, p3⟩ := CS.out _ S3.out
    go_upto_region 4 with fail
    have T1 := hid (KS.out _ _ S3.out (drew_nil _))
    have A6 := hid (A5.out.below (drew_nil _) (Nat.le_refl _))
    go_region_held3 (fun w' => w'.cell? ⟨c, 2, none⟩ = some (.int .u64 ma) ∧ w'.cell? ⟨c, 3, none⟩ = some (.int .i64 ea) ∧ w'.cell? ⟨d, 2, none⟩ = some (.int .u64 mb) ∧ w'.cell? ⟨d, 3, none⟩ = some (.int .i64 eb)) (first | (with_reducible exact CS.out _ T3.out) | (with_reducible exact CS.out _ T2.out) | (with_reducible exact CS.out _ T1.out)) (first
      | (go_at_call 30; refine (FB.out _).mono ?_; rintro e w6 ⟨p, os, rfl, A, hB⟩; have T2 := hid (KS.out _ _ T1.out hB); have A7 := hid (A6.out.below hB (Nat.le_refl _)); have R2 := hid (SB.out w6 p os _ A); clear hB A)
      | (go_at_call 77; (try rw [W2]); refine R2.out.mono ?_; rintro e w7 ⟨p7, o7, rfl, A, hB⟩; have T3 := hid (KS.out _ _ T2.out hB); have KK := hid (WT.out w7 p5 p7 o5 o7 _ _ (Nat.le_refl _) (BS.out _ T2.out).size (A7.out.below hB (Nat.le_refl _)) A (BS.out _ T3.out)); clear hB A))
    all_goals (go_wp2_with fail; go_ret3; exact KK.out)
end Go.Proofs.YtmakkfekomnpbaaGreatDoor



/-
  nat's and quot's calls over answers: in numbers alone.
-/
namespace Go.Proofs.YtmakkfekomnpbaaGreatDoor
open Go Go.RowKit Go.Deep

theorem a_shl {B : Nat} {w : World} {p : Option Addr} {os : List Int} {v : Int} (k : Nat) (A : Ans B w p os v) (h : v * 2 ^ k < Nm.pw 4096) :
    Calls Tryz.prog 77 #[.slice p os.length os.length, .int .i64 (k : Int)] w fun e w' => ∃ r os, e = .returned (.tuple #[.slice r (List.length os) (List.length os), .int .i64 0]) ∧ Ans w.heap.size w' r os (v * 2 ^ k) ∧ Below w.heap.size w w' := by
  have v0 : 0 ≤ v := by rw [← A.2.2.2.1]; exact (Nm.val_bd os A.2.1).1
  have hv : v < Nm.pw 4096 := by
    have := Nm.two_pos k
    have : v * 1 ≤ v * 2 ^ k := Int.mul_le_mul_of_nonneg_left (by omega) v0
    omega
  have := shl_any p _ _ os (k : Int) k w (A.argT hv) (A.tsT hv) rfl (by rw [A.2.2.2.1]; exact h)
  rw [A.2.2.2.1] at this
  exact this

theorem a_cmp {B B' : Nat} {w : World} {p q : Option Addr} {os qs : List Int} {u v : Int} (A : Ans B w p os u) (A' : Ans B' w q qs v) (hu : u < Nm.pw 4096) (hv : v < Nm.pw 4096) :
    Calls Tryz.prog 79 #[.slice p os.length os.length, .slice q qs.length qs.length] w fun e w' => e = .returned (.int .i64 (cmpI u v)) ∧ Below w.heap.size w w' := by
  exact cmp_is (cmpI u v) p q _ _ _ _ os qs w (A.argT hu) (A'.argT hv) (by rw [A.2.2.2.1, A'.2.2.2.1])

theorem a_sub {B B' : Nat} {w : World} {p q : Option Addr} {os qs : List Int} {u v : Int} (A : Ans B w p os u) (A' : Ans B' w q qs v) (hu : u < Nm.pw 4096) (hv : v ≤ u) :
    Calls Tryz.prog 80 #[.slice p os.length os.length, .slice q qs.length qs.length] w fun e w' => ∃ r os, e = .returned (.tuple #[.slice r (List.length os) (List.length os), .int .i64 0]) ∧ Ans w.heap.size w' r os (u - v) ∧ Below w.heap.size w w' := by
  have := sub_ok p q _ _ _ _ os qs w (A.argT hu) (A'.argT (by omega)) (A.tsT hu) (by rw [A.2.2.2.1, A'.2.2.2.1]; exact hv)
  rw [A.2.2.2.1, A'.2.2.2.1] at this
  exact this

theorem a_div {B B' : Nat} {w : World} {p q : Option Addr} {os qs : List Int} {u v : Int} (A : Ans B w p os u) (A' : Ans B' w q qs v) (hu : u < Nm.pw 4096) (hv : v < Nm.pw 4096) (h0 : 0 < v) :
    Calls Tryz.prog 76 #[.slice p os.length os.length, .slice q qs.length qs.length] w fun e w' => Splits u v w e w' := by
  have h1 : 0 < Nm.tsize qs := by
    have := Nm.tsize_zero_iff A'.2.1
    rw [A'.2.2.2.1] at this
    omega
  have := divMod_ok p q _ _ _ _ os qs w (A.argT hu) (A'.argT hv) (A.tsT hu) (A'.tsT hv) h1
  rw [A.2.2.2.1, A'.2.2.2.1] at this
  exact this

theorem a_bit0 {B : Nat} {w : World} {p : Option Addr} {os : List Int} {v : Int} (A : Ans B w p os v) (hv : v < Nm.pw 4096) :
    Calls Tryz.prog 78 #[.slice p os.length os.length, .int .i64 0] w fun e w' => e = .returned (.int .i64 (v % 2)) ∧ w' = w := by
  have := bit_any p _ _ os 0 0 w (A.argT hv) (by omega) rfl
  rw [A.2.2.2.1, Int.pow_zero, Int.ediv_one] at this
  exact this

theorem cmpI_iff {a b c d : Int} (h1 : a < b ↔ c < d) (h2 : a = b ↔ c = d) : cmpI a b = cmpI c d := by
  by_cases g1 : a < b
  · rw [cmpI_lt g1, cmpI_lt (h1.1 g1)]
  · by_cases g2 : a = b
    · rw [cmpI_eq g2, cmpI_eq (h2.1 g2)]
    · have k1 : ¬ c < d := fun h => g1 (h1.2 h)
      have k2 : ¬ c = d := fun h => g2 (h2.2 h)
      rw [cmpI_gt (by omega), cmpI_gt (by omega)]

theorem pw_room {k : Nat} (hk : k ≤ 262144) {v : Int} (h : v < 2 ^ k) : v < Nm.pw 4096 := by
  rw [Nm.pw_two 4096]
  have := Nm.two_mono (show k ≤ 64 * 4096 by omega)
  omega

theorem sh_room {m : Int} {i K : Nat} (h : m < 2 ^ K) (hi : K + i ≤ 262144) : m * 2 ^ i < Nm.pw 4096 := by
  refine pw_room hi ?_
  rw [Nm.two_add]
  exact Int.mul_lt_mul_of_pos_right h (Nm.two_pos i)
end Go.Proofs.YtmakkfekomnpbaaGreatDoor
