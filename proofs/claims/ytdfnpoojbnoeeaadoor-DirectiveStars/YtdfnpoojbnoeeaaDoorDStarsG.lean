/-
  abacuslaw13: DirectiveStars, a width far above (mkdstars.py).
-/
import Derived.Test.YtdfnpoojbnoeeaaDoorDStars0
namespace Go.Proofs.YtdfnpoojbnoeeaaDoor
open Go Go.RowKit Go.Deep Go.Shelf

set_option maxRecDepth 100000 in
set_option maxHeartbeats 40000000 in
theorem stars_xg (p : Dr.Pc) (x y : Int) (w : World) (hp : PcW p) (x0 : -9223372036854775808 ≤ x) (x1 : x ≤ 9223372036854775807) (y0 : -9223372036854775808 ≤ y) (y1 : y ≤ 9223372036854775807) (hT : T10 w.heap.size w) (hr : Dr.isR p) (ha : p.wk = 2) (xg : 4096 < x) :
    Calls Tryd.prog 8 #[.agg #[.string (strOfNums p.t), .int .u8 p.v, .int .i64 p.fl, .int .i64 p.wk, .int .i64 p.wd, .int .i64 p.pk, .int .i64 p.pr], .int .i64 x, .int .i64 y] w fun e w' => e = .returned (.bool true) ∧ Below w.heap.size w w' := by
  have A1 := alloc_b w (.cells #[.string (strOfNums p.t), .int .u8 p.v, .int .i64 p.fl, .int .i64 p.wk, .int .i64 p.wd, .int .i64 p.pk, .int .i64 p.pr] 25)
  have AW := hid (awake_any (w.alloc (.cells #[.string (strOfNums p.t), .int .u8 p.v, .int .i64 p.fl, .int .i64 p.wk, .int .i64 p.wd, .int .i64 p.pk, .int .i64 p.pr] 25)) ((hT.on A1).up A1.size))
  have P1 := hid (P7.new w (.string (strOfNums p.t)) (.int .u8 p.v) (.int .i64 p.fl) (.int .i64 p.wk) (.int .i64 p.wd) (.int .i64 p.pk) (.int .i64 p.pr))
  have B1 := hid A1
  have ST := hid (fun W => settle_any p x y W hp x0 x1 y0 y1)
  have CK := hid (fun W => check_pc p W hp)
  clear A1 hT
  have OK : Hid (okN p = 0) := if_pos (.inr (.inr hr))
  have vn := Dr.verb_ne hr.1
  have v1 : (p.v == 0) = false := by simpa using vn.1
  have v2 : (p.v == 37) = false := by simpa using vn.2.1
  clear vn
  have nw := hr.2.2.2.2.1
  have np := hr.2.2.2.2.2
  have e0 : ste p x y = 6 := by rw [ste, if_pos hr, if_pos (by unfold sW sP; right; left; rw [if_pos ha]; exact xg)]
  have s0 : spv p x y = #[.int .u8 0, .int .i64 0, .int .i64 0, .int .i64 0] := if_neg (by rw [e0]; decide)
  have ST2 : Hid (∀ W, Calls Tryd.prog 20 #[.agg #[.string (strOfNums p.t), .int .u8 p.v, .int .i64 p.fl, .int .i64 p.wk, .int .i64 p.wd, .int .i64 p.pk, .int .i64 p.pr], .int .i64 x, .int .i64 y] W fun e w' => e = .returned (.tuple #[.agg #[.int .u8 0, .int .i64 0, .int .i64 0, .int .i64 0], .int .i64 6]) ∧ Below W.heap.size W w') := by
    intro W
    have q := ST.out W
    unfold SeTold at q
    rw [e0, s0] at q
    exact q
  clear ST e0 s0 hr hp
  have HA := hid ha
  clear ha nw np
  go_enter Tryd.func8, Tryd.ntmps8
  go_wp2_with fail
  refine AW.out.mono ?_
  rintro e w0 ⟨rfl, b0⟩
  have B2 := hid (below_on B1.out b0)
  have P2 := hid (P1.out.below b0)
  clear b0 AW B1 P1
  obtain ⟨⟨c0, c1, c2, c3, c4, c5, c6⟩, -⟩ := P2.out.cells
  go_wp2_with fail
  refine (ST2.out _).mono ?_
  rintro e w1 ⟨rfl, b1⟩
  have A2 := alloc_b w1 (.cells #[.int .u8 0, .int .i64 0, .int .i64 0, .int .i64 0] 48)
  have SB := hid (S4.new w1 (.int .u8 0) (.int .i64 0) (.int .i64 0) (.int .i64 0))
  have B3 := hid (below_on (below_on B2.out b1) A2)
  have P3 := hid ((P2.out.below b1).below A2)
  clear b1 A2 ST2 B2 P2 c0 c1 c2 c3 c4 c5 c6
  go_upto_region 4 with fail
  generalize w1.alloc (.cells #[.int .u8 0, .int .i64 0, .int .i64 0, .int .i64 0] 48) = wS at *
  generalize w1.heap.size = sb at *
  obtain ⟨⟨c0, c1, c2, c3, c4, c5, c6⟩, -⟩ := P3.out.cells
  go_wp2_with fail
  refine (CK.out _).mono ?_
  rintro e w2 ⟨rfl, b2⟩
  have A3 := alloc_b w2 (.cells #[.string (strOfNums p.t), .int .u8 p.v, .int .i64 p.fl, .int .i64 p.wk, .int .i64 p.wd, .int .i64 p.pk, .int .i64 p.pr] 25)
  have QB := hid (P7.new w2 (.string (strOfNums p.t)) (.int .u8 p.v) (.int .i64 p.fl) (.int .i64 p.wk) (.int .i64 p.wd) (.int .i64 p.pk) (.int .i64 p.pr))
  have B4 := hid (below_on (below_on B3.out b2) A3)
  have P4 := hid ((P3.out.below b2).below A3)
  have SC := hid ((SB.out.below b2).below A3)
  have lt1 := (P3.out.below b2).lt
  have lt2 := (SB.out.below b2).lt
  obtain ⟨⟨c0, c1, c2, c3, c4, c5, c6⟩, -⟩ := (P3.out.below b2).cells
  clear b2 A3 CK B3 P3 SB
  rw [OK.out]
  go_upto_region 8 with fail
  clear c0 c1 c2 c3 c4 c5 c6
  generalize w2.alloc (.cells #[.string (strOfNums p.t), .int .u8 p.v, .int .i64 p.fl, .int .i64 p.wk, .int .i64 p.wd, .int .i64 p.pk, .int .i64 p.pr] 25) = wQ at *
  generalize w2.heap.size = qb at *
  have n1 : qb ≠ w.heap.size := by omega
  have n2 : w.heap.size ≠ qb := by omega
  have n3 : qb ≠ sb := by omega
  have n4 : sb ≠ qb := by omega
  have LB : w.heap.size ≤ qb := by omega
  clear lt1 lt2
  rw [HA.out] at QB P4
  have x6 : ¬ x < 0 := by omega
  have x7 : ¬ x = 0 := by omega
  obtain ⟨⟨c0, c1, c2, c3, c4, c5, c6⟩, -⟩ := P4.out.cells
  obtain ⟨⟨q0, q1, q2, q3, q4, q5, q6⟩, ⟨f0, f1, f2, f3, f4, f5, f6⟩⟩ := QB.out.cells
  obtain ⟨⟨d0, d1, d2, d3⟩, -⟩ := SC.out.cells
  have BX := hid B4.out
  clear P4 SC QB
  go_wp2_with fail
  all_goals go_ret
  all_goals exact ⟨rfl, by first | exact BX.out | exact sb_below BX.out LB | exact sb_below (sb_below BX.out LB) LB | exact sb_below (sb_below (sb_below BX.out LB) LB) LB | exact sb_below (sb_below (sb_below (sb_below BX.out LB) LB) LB) LB | exact sb_below (sb_below (sb_below (sb_below (sb_below BX.out LB) LB) LB) LB) LB | exact sb_below (sb_below (sb_below (sb_below (sb_below (sb_below BX.out LB) LB) LB) LB) LB) LB | exact sb_below (sb_below (sb_below (sb_below (sb_below (sb_below (sb_below BX.out LB) LB) LB) LB) LB) LB) LB | exact sb_below (sb_below (sb_below (sb_below (sb_below (sb_below (sb_below (sb_below BX.out LB) LB) LB) LB) LB) LB) LB) LB⟩
end Go.Proofs.YtdfnpoojbnoeeaaDoor
