/-
  abacuslaw13: DirectiveStars, nok1 (mkdstars.py).
-/
import Derived.Test.YtdfnpoojbnoeeaaDoorDStars0
namespace Go.Proofs.YtdfnpoojbnoeeaaDoor
open Go Go.RowKit Go.Deep Go.Shelf

set_option maxRecDepth 100000 in
set_option maxHeartbeats 40000000 in
theorem stars_nok1 (p : Dr.Pc) (x y : Int) (w : World) (hp : PcW p) (x0 : -9223372036854775808 ≤ x) (x1 : x ≤ 9223372036854775807) (y0 : -9223372036854775808 ≤ y) (y1 : y ≤ 9223372036854775807) (hT : T10 w.heap.size w) (hr : Dr.isR p) (ha : ¬ p.wk = 2) (_wb : 0 ≤ p.wd ∧ p.wd ≤ 4096) (hb : p.pk = 1) (_pb : 0 ≤ p.pr ∧ p.pr ≤ 4096) :
    Calls Tryd.prog 8 #[.agg #[.string (strOfNums p.t), .int .u8 p.v, .int .i64 p.fl, .int .i64 p.wk, .int .i64 p.wd, .int .i64 p.pk, .int .i64 p.pr], .int .i64 x, .int .i64 y] w fun e w' => e = .returned (.bool true) ∧ Below w.heap.size w w' := by
  have A1 := alloc_b w (.cells #[.string (strOfNums p.t), .int .u8 p.v, .int .i64 p.fl, .int .i64 p.wk, .int .i64 p.wd, .int .i64 p.pk, .int .i64 p.pr] 25)
  have AW := hid (awake_any (w.alloc (.cells #[.string (strOfNums p.t), .int .u8 p.v, .int .i64 p.fl, .int .i64 p.wk, .int .i64 p.wd, .int .i64 p.pk, .int .i64 p.pr] 25)) ((hT.on A1).up A1.size))
  have P1 := hid (P7.new w (.string (strOfNums p.t)) (.int .u8 p.v) (.int .i64 p.fl) (.int .i64 p.wk) (.int .i64 p.wd) (.int .i64 p.pk) (.int .i64 p.pr))
  have B1 := hid A1
  have ST := hid (fun W => settle_any p x y W hp x0 x1 y0 y1)
  have CK := hid (fun W => check_pc p W hp)
  clear A1 hT
  have OK : Hid (okN p = 0) := if_pos (.inr (.inr hr))
  have vn := Dr.verb_ne hr.1
  have v1 : (p.v == 0) = false := by simpa using vn.1
  have v2 : (p.v == 37) = false := by simpa using vn.2.1
  clear vn
  have hW : sW p x = p.wd := if_neg ha
  have hP : sP p y = p.pr := by rw [sP, if_neg (by omega), if_neg (by omega)]
  have e0 : ste p x y = 0 := by rw [ste, if_pos hr, hW, hP, if_neg (by omega)]
  have s0 : spv p x y = #[.int .u8 p.v, .int .i64 p.fl, .int .i64 p.wd, .int .i64 p.pr] := by rw [spv, if_pos e0, hW, hP, if_neg (by omega), if_neg (by omega)]
  have rq : Dr.isR ⟨p.t, p.v, p.fl, p.wk, p.wd, 1, p.pr⟩ := ⟨hr.1, hr.2.1, hr.2.2.1, hr.2.2.2.1, hr.2.2.2.2.1, by have q := hr.2.2.2.2.2; rw [hb] at q; exact q⟩
  obtain ⟨e1, s1⟩ := spv_plain p.t p.v p.fl p.wk p.wd 1 p.pr y x rq ha (by decide)
  rw [if_neg (by decide)] at s1
  have SQ : Hid (∀ W, Calls Tryd.prog 20 #[.agg #[.string (strOfNums p.t), .int .u8 p.v, .int .i64 p.fl, .int .i64 p.wk, .int .i64 p.wd, .int .i64 1, .int .i64 p.pr], .int .i64 y, .int .i64 x] W fun e w' => e = .returned (.tuple #[.agg #[.int .u8 p.v, .int .i64 p.fl, .int .i64 p.wd, .int .i64 p.pr], .int .i64 0]) ∧ Below W.heap.size W w') := by
    intro W
    have q := settle_any ⟨p.t, p.v, p.fl, p.wk, p.wd, 1, p.pr⟩ y x W ⟨hp.1, hp.2.1, hp.2.2⟩ y0 y1 x0 x1
    unfold SeTold at q
    rw [e1, s1] at q
    exact q
  have ST2 : Hid (∀ W, Calls Tryd.prog 20 #[.agg #[.string (strOfNums p.t), .int .u8 p.v, .int .i64 p.fl, .int .i64 p.wk, .int .i64 p.wd, .int .i64 p.pk, .int .i64 p.pr], .int .i64 x, .int .i64 y] W fun e w' => e = .returned (.tuple #[.agg #[.int .u8 p.v, .int .i64 p.fl, .int .i64 p.wd, .int .i64 p.pr], .int .i64 0]) ∧ Below W.heap.size W w') := by
    intro W
    have q := ST.out W
    unfold SeTold at q
    rw [e0, s0] at q
    exact q
  have HA := hid ha
  have HBB := hid hb
  clear ST e0 s0 e1 s1 rq hW hP hr hp ha hb
  go_enter Tryd.func8, Tryd.ntmps8
  go_wp2_with fail
  refine AW.out.mono ?_
  rintro e w0 ⟨rfl, b0⟩
  have B2 := hid (below_on B1.out b0)
  have P2 := hid (P1.out.below b0)
  clear b0 AW B1 P1
  obtain ⟨⟨c0, c1, c2, c3, c4, c5, c6⟩, -⟩ := P2.out.cells
  go_wp2_with fail
  refine (ST2.out _).mono ?_
  rintro e w1 ⟨rfl, b1⟩
  have A2 := alloc_b w1 (.cells #[.int .u8 p.v, .int .i64 p.fl, .int .i64 p.wd, .int .i64 p.pr] 48)
  have SB := hid (S4.new w1 (.int .u8 p.v) (.int .i64 p.fl) (.int .i64 p.wd) (.int .i64 p.pr))
  have B3 := hid (below_on (below_on B2.out b1) A2)
  have P3 := hid ((P2.out.below b1).below A2)
  clear b1 A2 ST2 B2 P2 c0 c1 c2 c3 c4 c5 c6
  go_upto_region 4 with fail
  generalize w1.alloc (.cells #[.int .u8 p.v, .int .i64 p.fl, .int .i64 p.wd, .int .i64 p.pr] 48) = wS at *
  generalize w1.heap.size = sb at *
  obtain ⟨⟨c0, c1, c2, c3, c4, c5, c6⟩, -⟩ := P3.out.cells
  go_wp2_with fail
  refine (CK.out _).mono ?_
  rintro e w2 ⟨rfl, b2⟩
  have A3 := alloc_b w2 (.cells #[.string (strOfNums p.t), .int .u8 p.v, .int .i64 p.fl, .int .i64 p.wk, .int .i64 p.wd, .int .i64 p.pk, .int .i64 p.pr] 25)
  have QB := hid (P7.new w2 (.string (strOfNums p.t)) (.int .u8 p.v) (.int .i64 p.fl) (.int .i64 p.wk) (.int .i64 p.wd) (.int .i64 p.pk) (.int .i64 p.pr))
  have B4 := hid (below_on (below_on B3.out b2) A3)
  have P4 := hid ((P3.out.below b2).below A3)
  have SC := hid ((SB.out.below b2).below A3)
  have lt1 := (P3.out.below b2).lt
  have lt2 := (SB.out.below b2).lt
  obtain ⟨⟨c0, c1, c2, c3, c4, c5, c6⟩, -⟩ := (P3.out.below b2).cells
  clear b2 A3 CK B3 P3 SB
  rw [OK.out]
  go_upto_region 8 with fail
  clear c0 c1 c2 c3 c4 c5 c6
  generalize w2.alloc (.cells #[.string (strOfNums p.t), .int .u8 p.v, .int .i64 p.fl, .int .i64 p.wk, .int .i64 p.wd, .int .i64 p.pk, .int .i64 p.pr] 25) = wQ at *
  generalize w2.heap.size = qb at *
  have n1 : qb ≠ w.heap.size := by omega
  have n2 : w.heap.size ≠ qb := by omega
  have n3 : qb ≠ sb := by omega
  have n4 : sb ≠ qb := by omega
  have LB : w.heap.size ≤ qb := by omega
  clear lt1 lt2
  have ha2 : (p.wk == 2) = false := by simpa using HA.out
  rw [HBB.out] at QB P4
  obtain ⟨⟨c0, c1, c2, c3, c4, c5, c6⟩, -⟩ := P4.out.cells
  obtain ⟨⟨q0, q1, q2, q3, q4, q5, q6⟩, ⟨f0, f1, f2, f3, f4, f5, f6⟩⟩ := QB.out.cells
  obtain ⟨⟨d0, d1, d2, d3⟩, -⟩ := SC.out.cells
  have QA : Hid (P7 wQ qb (.string (strOfNums p.t)) (.int .u8 p.v) (.int .i64 p.fl) (.int .i64 p.wk) (.int .i64 p.wd) (.int .i64 1) (.int .i64 p.pr)) := QB.out
  have PA : Hid (P7 wQ w.heap.size (.string (strOfNums p.t)) (.int .u8 p.v) (.int .i64 p.fl) (.int .i64 p.wk) (.int .i64 p.wd) (.int .i64 1) (.int .i64 p.pr)) := P4.out
  have SA : Hid (S4 wQ sb (.int .u8 p.v) (.int .i64 p.fl) (.int .i64 p.wd) (.int .i64 p.pr)) := SC.out
  have BA : Hid (Below w.heap.size w wQ) := B4.out
  clear P4 SC QB B4
  go_upto_region 17 with fail
  clear c0 c1 c2 c3 c4 c5 c6 q0 q1 q2 q3 q4 q5 q6 f0 f1 f2 f3 f4 f5 f6 d0 d1 d2 d3
  obtain ⟨⟨c0, c1, c2, c3, c4, c5, c6⟩, -⟩ := PA.out.cells
  obtain ⟨⟨q0, q1, q2, q3, q4, q5, q6⟩, ⟨f0, f1, f2, f3, f4, f5, f6⟩⟩ := QA.out.cells
  obtain ⟨⟨d0, d1, d2, d3⟩, -⟩ := SA.out.cells
  have QX : Hid (P7 wQ qb (.string (strOfNums p.t)) (.int .u8 p.v) (.int .i64 p.fl) (.int .i64 p.wk) (.int .i64 p.wd) (.int .i64 1) (.int .i64 p.pr)) := QA.out
  have PX : Hid (P7 wQ w.heap.size (.string (strOfNums p.t)) (.int .u8 p.v) (.int .i64 p.fl) (.int .i64 p.wk) (.int .i64 p.wd) (.int .i64 1) (.int .i64 p.pr)) := PA.out
  have SX : Hid (S4 wQ sb (.int .u8 p.v) (.int .i64 p.fl) (.int .i64 p.wd) (.int .i64 p.pr)) := SA.out
  have BX : Hid (Below w.heap.size w wQ) := BA.out
  clear PA SA QA BA
  go_upto_region 26 with fail
  clear c0 c1 c2 c3 c4 c5 c6 q0 q1 q2 q3 q4 q5 q6 f0 f1 f2 f3 f4 f5 f6 d0 d1 d2 d3
  obtain ⟨⟨c0, c1, c2, c3, c4, c5, c6⟩, -⟩ := PX.out.cells
  obtain ⟨⟨q0, q1, q2, q3, q4, q5, q6⟩, ⟨f0, f1, f2, f3, f4, f5, f6⟩⟩ := QX.out.cells
  obtain ⟨⟨d0, d1, d2, d3⟩, -⟩ := SX.out.cells
  go_wp2_with fail
  refine (SQ.out _).mono ?_
  rintro e w4 ⟨rfl, b4⟩
  have A5 := alloc_b w4 (.cells #[.int .u8 p.v, .int .i64 p.fl, .int .i64 p.wd, .int .i64 p.pr] 48)
  have TB := hid (S4.new w4 (.int .u8 p.v) (.int .i64 p.fl) (.int .i64 p.wd) (.int .i64 p.pr))
  have BT := hid (below_on (below_on BX.out b4) A5)
  obtain ⟨⟨g0, g1, g2, g3, g4, g5, g6⟩, -⟩ := ((PX.out.below b4).below A5).cells
  obtain ⟨⟨h0, h1, h2, h3, h4, h5, h6⟩, -⟩ := ((QX.out.below b4).below A5).cells
  obtain ⟨⟨k0, k1, k2, k3⟩, -⟩ := ((SX.out.below b4).below A5).cells
  obtain ⟨⟨m0, m1, m2, m3⟩, -⟩ := TB.out.cells
  clear b4 A5 TB QX PX SX BX SQ c0 c1 c2 c3 c4 c5 c6 q0 q1 q2 q3 q4 q5 q6 f0 f1 f2 f3 f4 f5 f6 d0 d1 d2 d3
  go_upto_region 27 with fail
  generalize w4.alloc (.cells #[.int .u8 p.v, .int .i64 p.fl, .int .i64 p.wd, .int .i64 p.pr] 48) = wT at *
  go_wp2_with fail
  go_ret
  exact ⟨rfl, BT.out⟩
end Go.Proofs.YtdfnpoojbnoeeaaDoor
