/-
  directive: Settle.
-/
import Derived.Test.YtaadooippelcfaaDoorDList
import Derived.Test.YtaadooippelcfaaDoorDForm
import Derived.Test.YtaadooippelcfaaDoorGE
namespace Go.Proofs.YtaadooippelcfaaDoor
open Go Go.RowKit Go.Deep Go.Shelf

/-- What Settle tells. -/
def SeTold (p : Dr.Pc) (x y : Int) (w : World) (e : Ending) (w' : World) : Prop := e = .returned (.tuple #[.agg (spv p x y), .int .i64 (ste p x y)]) ∧ Below w.heap.size w w'

theorem S4.put {w : World} {b : Nat} {v0 v1 v2 v3 : Value} (h : S4 w b v0 v1 v2 v3) (u0 u1 u2 u3 : Value) :
    S4 ((((w.setCell ⟨b, 0, none⟩ u0).setCell ⟨b, 1, none⟩ u1).setCell ⟨b, 2, none⟩ u2).setCell ⟨b, 3, none⟩ u3) b u0 u1 u2 u3 := by
  have h0 : S4 (w.setCell ⟨b, 0, none⟩ u0) b u0 v1 v2 v3 := dset1 h rfl
  have h1 : S4 ((w.setCell ⟨b, 0, none⟩ u0).setCell ⟨b, 1, none⟩ u1) b u0 u1 v2 v3 := dset1 h0 rfl
  have h2 : S4 (((w.setCell ⟨b, 0, none⟩ u0).setCell ⟨b, 1, none⟩ u1).setCell ⟨b, 2, none⟩ u2) b u0 u1 u2 v3 := dset1 h1 rfl
  exact dset1 h2 rfl
theorem sb_below {B : Nat} {w w' : World} {b o : Nat} {v : Value} (h : Below B w w') (hb : B ≤ b) : Below B w (w'.setCell ⟨b, o, none⟩ v) := h.setCell (p := ⟨b, o, none⟩) hb v
theorem dset4_below {B : Nat} {w w' : World} {b : Nat} {u0 u1 u2 u3 : Value} (h : Below B w w') (hb : B ≤ b) : Below B w ((((w'.setCell ⟨b, 0, none⟩ u0).setCell ⟨b, 1, none⟩ u1).setCell ⟨b, 2, none⟩ u2).setCell ⟨b, 3, none⟩ u3) :=
  (((h.setCell (p := ⟨b, 0, none⟩) hb u0).setCell (p := ⟨b, 1, none⟩) hb u1).setCell (p := ⟨b, 2, none⟩) hb u2).setCell (p := ⟨b, 3, none⟩) hb u3

set_option maxRecDepth 100000 in
set_option maxHeartbeats 40000000 in
theorem settle_any (p : Dr.Pc) (x y : Int) (w : World) (hp : PcW p) (x0 : -9223372036854775808 ≤ x) (x1 : x ≤ 9223372036854775807) (_y0 : -9223372036854775808 ≤ y) (_y1 : y ≤ 9223372036854775807) :
    Calls Tryd.prog 19 #[.agg #[.string (strOfNums p.t), .int .u8 p.v, .int .i64 p.fl, .int .i64 p.wk, .int .i64 p.wd, .int .i64 p.pk, .int .i64 p.pr], .int .i64 x, .int .i64 y] w fun e w' => SeTold p x y w e w' := by
  have ID := hid (fun W => isdir_any (strOfNums p.t) p.t p.v p.fl p.wk p.wd p.pk p.pr W (Str.of_nums hp.1) hp.2.1 hp.2.2)
  have A1 := alloc_b w (.cells #[.string (strOfNums p.t), .int .u8 p.v, .int .i64 p.fl, .int .i64 p.wk, .int .i64 p.wd, .int .i64 p.pk, .int .i64 p.pr] 25)
  have P1 := P7.new w (.string (strOfNums p.t)) (.int .u8 p.v) (.int .i64 p.fl) (.int .i64 p.wk) (.int .i64 p.wd) (.int .i64 p.pk) (.int .i64 p.pr)
  have sz1 : (w.alloc (.cells #[.string (strOfNums p.t), .int .u8 p.v, .int .i64 p.fl, .int .i64 p.wk, .int .i64 p.wd, .int .i64 p.pk, .int .i64 p.pr] 25)).heap.size = w.heap.size + 1 := Array.size_push ..
  have A2 := alloc_b (w.alloc (.cells #[.string (strOfNums p.t), .int .u8 p.v, .int .i64 p.fl, .int .i64 p.wk, .int .i64 p.wd, .int .i64 p.pk, .int .i64 p.pr] 25)) (.cells #[.int .u8 0, .int .i64 0, .int .i64 0, .int .i64 0] 46)
  have S1 := S4.new (w.alloc (.cells #[.string (strOfNums p.t), .int .u8 p.v, .int .i64 p.fl, .int .i64 p.wk, .int .i64 p.wd, .int .i64 p.pk, .int .i64 p.pr] 25)) (.int .u8 0) (.int .i64 0) (.int .i64 0) (.int .i64 0)
  rw [sz1] at S1
  have P2 := hid (P1.below A2)
  have B2 := hid (below_on A1 A2)
  have S2 := hid S1
  clear A1 A2 P1 S1 sz1
  by_cases hr : Dr.isR p
  · rw [decide_eq_true (show Dr.isR ⟨p.t, p.v, p.fl, p.wk, p.wd, p.pk, p.pr⟩ from hr)] at ID
    have KE : Hid ((sW p x < -4096 ∨ 4096 < sW p x ∨ 4096 < sP p y) → ∀ W, Below w.heap.size w W → SeTold p x y w (.returned (.tuple #[.agg #[.int .u8 0, .int .i64 0, .int .i64 0, .int .i64 0], .int .i64 6])) W) := by
      intro h W b
      have e : ste p x y = 6 := by rw [ste, if_pos hr, if_pos h]
      exact ⟨by rw [spv, if_neg (by rw [e]; decide), e], b⟩
    have KN : Hid (¬ (sW p x < -4096 ∨ 4096 < sW p x ∨ 4096 < sP p y) → sW p x < 0 → ∀ W, Below w.heap.size w W → SeTold p x y w (.returned (.tuple #[.agg #[.int .u8 p.v, .int .i64 (bits .or .i64 p.fl 1), .int .i64 (- sW p x), .int .i64 (sP p y)], .int .i64 0])) W) := by
      intro h h0 W b
      have e : ste p x y = 0 := by rw [ste, if_pos hr, if_neg h]
      exact ⟨by rw [spv, if_pos e, e, if_pos h0, if_pos h0], b⟩
    have KP : Hid (¬ (sW p x < -4096 ∨ 4096 < sW p x ∨ 4096 < sP p y) → ¬ sW p x < 0 → ∀ W, Below w.heap.size w W → SeTold p x y w (.returned (.tuple #[.agg #[.int .u8 p.v, .int .i64 p.fl, .int .i64 (sW p x), .int .i64 (sP p y)], .int .i64 0])) W) := by
      intro h h0 W b
      have e : ste p x y = 0 := by rw [ste, if_pos hr, if_neg h]
      exact ⟨by rw [spv, if_pos e, e, if_neg h0, if_neg h0], b⟩
    obtain ⟨-, -, -, -, n1, n2⟩ := hr
    have WB : -9223372036854775808 ≤ sW p x ∧ sW p x ≤ 9223372036854775807 := by
      unfold sW
      rcases n1 with ⟨_, h⟩ | ⟨_, h, h'⟩ <;> split <;> omega
    have C1 : (p.wk = 2 ∧ sW p x = x) ∨ (¬ p.wk = 2 ∧ sW p x = p.wd) := by
      by_cases h : p.wk = 2
      · exact .inl ⟨h, if_pos h⟩
      · exact .inr ⟨h, if_neg h⟩
    have C2 : (p.pk = 0 ∧ sP p y = -1) ∨ (p.pk = 2 ∧ sP p y = max y (-1)) ∨ (p.pk = 1 ∧ sP p y = p.pr) := by
      rcases n2 with ⟨h | h, _⟩ | ⟨h, _⟩
      · exact .inl ⟨h, by rw [sP, if_pos h]⟩
      · exact .inr (.inl ⟨h, by rw [sP, if_neg (by omega), if_pos h]⟩)
      · exact .inr (.inr ⟨h, by rw [sP, if_neg (by omega), if_neg (by omega)]⟩)
    have PB : Hid (P7 ((w.alloc (.cells #[.string (strOfNums p.t), .int .u8 p.v, .int .i64 p.fl, .int .i64 p.wk, .int .i64 p.wd, .int .i64 p.pk, .int .i64 p.pr] 25)).alloc (.cells #[.int .u8 0, .int .i64 0, .int .i64 0, .int .i64 0] 46)) w.heap.size (.string (strOfNums p.t)) (.int .u8 p.v) (.int .i64 p.fl) (.int .i64 p.wk) (.int .i64 p.wd) (.int .i64 p.pk) (.int .i64 p.pr)) := P2.out
    clear n1 n2 hp P2
    generalize sW p x = W1 at *
    generalize sP p y = Q1 at *
    obtain ⟨wb0, wb1⟩ := WB
    have D : (W1 < -4096) ∨ (¬ W1 < -4096 ∧ 4096 < W1) ∨ (¬ W1 < -4096 ∧ ¬ 4096 < W1 ∧ 4096 < Q1) ∨ (¬ W1 < -4096 ∧ ¬ 4096 < W1 ∧ ¬ 4096 < Q1 ∧ W1 < 0) ∨ (¬ W1 < -4096 ∧ ¬ 4096 < W1 ∧ ¬ 4096 < Q1 ∧ ¬ W1 < 0) := by omega
    have FE : Hid (∀ W, Below w.heap.size w W → (W1 < -4096 ∨ 4096 < W1 ∨ 4096 < Q1) → SeTold p x y w (.returned (.tuple #[.agg #[.int .u8 0, .int .i64 0, .int .i64 0, .int .i64 0], .int .i64 6])) W) := fun W b h => KE.out h W b
    clear KE
    go_enter Tryd.func19, Tryd.ntmps19
    go_wp2_with fail
    refine (ID.out _).mono ?_
    rintro e w1 ⟨rfl, hB⟩
    have B3 := hid (below_on B2.out hB)
    have S3 := hid (S2.out.below hB)
    have lt1 : w.heap.size + 1 < w1.heap.size := S3.out.lt
    clear ID
    obtain ⟨⟨b0, b1, b2, b3, b4, b5, b6⟩, -⟩ := (PB.out.below hB).cells
    go_upto_region 4 with fail
    clear b0 b1 b2 b3 b4 b5 b6
    have A4 := alloc_b w1 (.cells #[.int .u8 p.v, .int .i64 p.fl, .int .i64 p.wd, .int .i64 p.pr] 46)
    have SB := hid (S4.new w1 (.int .u8 p.v) (.int .i64 p.fl) (.int .i64 p.wd) (.int .i64 p.pr))
    have RS := hid (S3.out.below A4)
    have BS := hid (below_on B3.out A4)
    obtain ⟨⟨b0, b1, b2, b3, b4, b5, b6⟩, -⟩ := ((PB.out.below hB).below A4).cells
    clear A4 hB PB S2 B2 S3 B3
    generalize w1.alloc (.cells #[.int .u8 p.v, .int .i64 p.fl, .int .i64 p.wd, .int .i64 p.pr] 46) = wS at *
    generalize w1.heap.size = sb at *
    have NR : Hid (sb ≠ w.heap.size + 1) := by show _ ≠ _; omega
    have LB : Hid (w.heap.size ≤ sb) := by show _ ≤ _; omega
    have ne1 : sb ≠ w.heap.size + 1 := NR.out
    have ne2 : sb ≠ w.heap.size := by omega
    have ne3 : w.heap.size + 1 ≠ sb := by omega
    have ne4 : w.heap.size ≠ sb := by omega
    obtain ⟨⟨r0, r1, r2, r3⟩, ⟨f0, f1, f2, f3⟩⟩ := RS.out.cells
    obtain ⟨⟨s0, s1, s2, s3⟩, ⟨t0, t1, t2, t3⟩⟩ := SB.out.cells
    clear lt1
    rcases C1 with ⟨k1, z1⟩ | ⟨k1, z1⟩
    · subst z1
      rw [k1] at b3
      clear k1
      rcases C2 with ⟨k2, z2⟩ | ⟨k2, z2⟩ | ⟨k2, z2⟩
      · subst z2
        rw [k2] at b5
        clear k2
        rcases D with d | ⟨d1, d⟩ | ⟨d1, d2, d⟩ | ⟨d1, d2, d3, d⟩ | ⟨d1, d2, d3, d⟩
        · have KF := hid (fun W b => FE.out W b (.inl d))
          have RX : Hid (S4 ((wS.setCell ⟨sb, 2, none⟩ (.int .i64 W1)).setCell ⟨sb, 3, none⟩ (.int .i64 (-1))) (w.heap.size + 1) (.int .u8 0) (.int .i64 0) (.int .i64 0) (.int .i64 0)) := ((RS.out).far NR.out).far NR.out
          have BX : Hid (Below w.heap.size w ((wS.setCell ⟨sb, 2, none⟩ (.int .i64 W1)).setCell ⟨sb, 3, none⟩ (.int .i64 (-1)))) := sb_below (sb_below (BS.out) LB.out) LB.out
          clear FE KN KP RS BS SB
          go_wp2_with fail
          (try simp only [Exit.inBlock, Exit.then])
          refine bodyPost_ret (results_row_tmp rfl _ _ (w.heap.size + 1) 46 _ (0, 0) _ rfl (RX.out.put _ _ _ _) Tryd.underlying46 rfl (by kernel_rfl)) rfl ?_
          exact KF.out _ (dset4_below BX.out (by omega))
        · have KF := hid (fun W b => FE.out W b (.inr (.inl d)))
          have RX : Hid (S4 ((wS.setCell ⟨sb, 2, none⟩ (.int .i64 W1)).setCell ⟨sb, 3, none⟩ (.int .i64 (-1))) (w.heap.size + 1) (.int .u8 0) (.int .i64 0) (.int .i64 0) (.int .i64 0)) := ((RS.out).far NR.out).far NR.out
          have BX : Hid (Below w.heap.size w ((wS.setCell ⟨sb, 2, none⟩ (.int .i64 W1)).setCell ⟨sb, 3, none⟩ (.int .i64 (-1)))) := sb_below (sb_below (BS.out) LB.out) LB.out
          clear FE KN KP RS BS SB
          go_wp2_with fail
          (try simp only [Exit.inBlock, Exit.then])
          refine bodyPost_ret (results_row_tmp rfl _ _ (w.heap.size + 1) 46 _ (0, 0) _ rfl (RX.out.put _ _ _ _) Tryd.underlying46 rfl (by kernel_rfl)) rfl ?_
          exact KF.out _ (dset4_below BX.out (by omega))
        · exact absurd d (by omega)
        · have KF := hid (KN.out (by omega) d)
          have RX : Hid (S4 ((((wS.setCell ⟨sb, 2, none⟩ (.int .i64 W1)).setCell ⟨sb, 3, none⟩ (.int .i64 (-1))).setCell ⟨sb, 1, none⟩ (.int .i64 (bits .or .i64 p.fl 1))).setCell ⟨sb, 2, none⟩ (.int .i64 (-W1))) (w.heap.size + 1) (.int .u8 0) (.int .i64 0) (.int .i64 0) (.int .i64 0)) := ((((RS.out).far NR.out).far NR.out).far NR.out).far NR.out
          have BX : Hid (Below w.heap.size w ((((wS.setCell ⟨sb, 2, none⟩ (.int .i64 W1)).setCell ⟨sb, 3, none⟩ (.int .i64 (-1))).setCell ⟨sb, 1, none⟩ (.int .i64 (bits .or .i64 p.fl 1))).setCell ⟨sb, 2, none⟩ (.int .i64 (-W1)))) := sb_below (sb_below (sb_below (sb_below (BS.out) LB.out) LB.out) LB.out) LB.out
          clear FE KN KP RS BS SB
          go_wp2_with fail
          (try simp only [Exit.inBlock, Exit.then])
          refine bodyPost_ret (results_row_tmp rfl _ _ (w.heap.size + 1) 46 _ (0, 0) _ rfl (RX.out.put _ _ _ _) Tryd.underlying46 rfl (by kernel_rfl)) rfl ?_
          exact KF.out _ (dset4_below BX.out (by omega))
        · have KF := hid (KP.out (by omega) d)
          have RX : Hid (S4 ((wS.setCell ⟨sb, 2, none⟩ (.int .i64 W1)).setCell ⟨sb, 3, none⟩ (.int .i64 (-1))) (w.heap.size + 1) (.int .u8 0) (.int .i64 0) (.int .i64 0) (.int .i64 0)) := ((RS.out).far NR.out).far NR.out
          have BX : Hid (Below w.heap.size w ((wS.setCell ⟨sb, 2, none⟩ (.int .i64 W1)).setCell ⟨sb, 3, none⟩ (.int .i64 (-1)))) := sb_below (sb_below (BS.out) LB.out) LB.out
          clear FE KN KP RS BS SB
          go_wp2_with fail
          (try simp only [Exit.inBlock, Exit.then])
          refine bodyPost_ret (results_row_tmp rfl _ _ (w.heap.size + 1) 46 _ (0, 0) _ rfl (RX.out.put _ _ _ _) Tryd.underlying46 rfl (by kernel_rfl)) rfl ?_
          exact KF.out _ (dset4_below BX.out (by omega))
      · subst z2
        rw [k2] at b5
        clear k2
        rcases D with d | ⟨d1, d⟩ | ⟨d1, d2, d⟩ | ⟨d1, d2, d3, d⟩ | ⟨d1, d2, d3, d⟩
        · have KF := hid (fun W b => FE.out W b (.inl d))
          have RX : Hid (S4 ((wS.setCell ⟨sb, 2, none⟩ (.int .i64 W1)).setCell ⟨sb, 3, none⟩ (.int .i64 (max y (-1)))) (w.heap.size + 1) (.int .u8 0) (.int .i64 0) (.int .i64 0) (.int .i64 0)) := ((RS.out).far NR.out).far NR.out
          have BX : Hid (Below w.heap.size w ((wS.setCell ⟨sb, 2, none⟩ (.int .i64 W1)).setCell ⟨sb, 3, none⟩ (.int .i64 (max y (-1))))) := sb_below (sb_below (BS.out) LB.out) LB.out
          clear FE KN KP RS BS SB
          go_wp2_with fail
          (try simp only [Exit.inBlock, Exit.then])
          refine bodyPost_ret (results_row_tmp rfl _ _ (w.heap.size + 1) 46 _ (0, 0) _ rfl (RX.out.put _ _ _ _) Tryd.underlying46 rfl (by kernel_rfl)) rfl ?_
          exact KF.out _ (dset4_below BX.out (by omega))
        · have KF := hid (fun W b => FE.out W b (.inr (.inl d)))
          have RX : Hid (S4 ((wS.setCell ⟨sb, 2, none⟩ (.int .i64 W1)).setCell ⟨sb, 3, none⟩ (.int .i64 (max y (-1)))) (w.heap.size + 1) (.int .u8 0) (.int .i64 0) (.int .i64 0) (.int .i64 0)) := ((RS.out).far NR.out).far NR.out
          have BX : Hid (Below w.heap.size w ((wS.setCell ⟨sb, 2, none⟩ (.int .i64 W1)).setCell ⟨sb, 3, none⟩ (.int .i64 (max y (-1))))) := sb_below (sb_below (BS.out) LB.out) LB.out
          clear FE KN KP RS BS SB
          go_wp2_with fail
          (try simp only [Exit.inBlock, Exit.then])
          refine bodyPost_ret (results_row_tmp rfl _ _ (w.heap.size + 1) 46 _ (0, 0) _ rfl (RX.out.put _ _ _ _) Tryd.underlying46 rfl (by kernel_rfl)) rfl ?_
          exact KF.out _ (dset4_below BX.out (by omega))
        · have KF := hid (fun W b => FE.out W b (.inr (.inr d)))
          have RX : Hid (S4 ((wS.setCell ⟨sb, 2, none⟩ (.int .i64 W1)).setCell ⟨sb, 3, none⟩ (.int .i64 (max y (-1)))) (w.heap.size + 1) (.int .u8 0) (.int .i64 0) (.int .i64 0) (.int .i64 0)) := ((RS.out).far NR.out).far NR.out
          have BX : Hid (Below w.heap.size w ((wS.setCell ⟨sb, 2, none⟩ (.int .i64 W1)).setCell ⟨sb, 3, none⟩ (.int .i64 (max y (-1))))) := sb_below (sb_below (BS.out) LB.out) LB.out
          clear FE KN KP RS BS SB
          go_wp2_with fail
          (try simp only [Exit.inBlock, Exit.then])
          refine bodyPost_ret (results_row_tmp rfl _ _ (w.heap.size + 1) 46 _ (0, 0) _ rfl (RX.out.put _ _ _ _) Tryd.underlying46 rfl (by kernel_rfl)) rfl ?_
          exact KF.out _ (dset4_below BX.out (by omega))
        · have KF := hid (KN.out (by omega) d)
          have RX : Hid (S4 ((((wS.setCell ⟨sb, 2, none⟩ (.int .i64 W1)).setCell ⟨sb, 3, none⟩ (.int .i64 (max y (-1)))).setCell ⟨sb, 1, none⟩ (.int .i64 (bits .or .i64 p.fl 1))).setCell ⟨sb, 2, none⟩ (.int .i64 (-W1))) (w.heap.size + 1) (.int .u8 0) (.int .i64 0) (.int .i64 0) (.int .i64 0)) := ((((RS.out).far NR.out).far NR.out).far NR.out).far NR.out
          have BX : Hid (Below w.heap.size w ((((wS.setCell ⟨sb, 2, none⟩ (.int .i64 W1)).setCell ⟨sb, 3, none⟩ (.int .i64 (max y (-1)))).setCell ⟨sb, 1, none⟩ (.int .i64 (bits .or .i64 p.fl 1))).setCell ⟨sb, 2, none⟩ (.int .i64 (-W1)))) := sb_below (sb_below (sb_below (sb_below (BS.out) LB.out) LB.out) LB.out) LB.out
          clear FE KN KP RS BS SB
          go_wp2_with fail
          (try simp only [Exit.inBlock, Exit.then])
          refine bodyPost_ret (results_row_tmp rfl _ _ (w.heap.size + 1) 46 _ (0, 0) _ rfl (RX.out.put _ _ _ _) Tryd.underlying46 rfl (by kernel_rfl)) rfl ?_
          exact KF.out _ (dset4_below BX.out (by omega))
        · have KF := hid (KP.out (by omega) d)
          have RX : Hid (S4 ((wS.setCell ⟨sb, 2, none⟩ (.int .i64 W1)).setCell ⟨sb, 3, none⟩ (.int .i64 (max y (-1)))) (w.heap.size + 1) (.int .u8 0) (.int .i64 0) (.int .i64 0) (.int .i64 0)) := ((RS.out).far NR.out).far NR.out
          have BX : Hid (Below w.heap.size w ((wS.setCell ⟨sb, 2, none⟩ (.int .i64 W1)).setCell ⟨sb, 3, none⟩ (.int .i64 (max y (-1))))) := sb_below (sb_below (BS.out) LB.out) LB.out
          clear FE KN KP RS BS SB
          go_wp2_with fail
          (try simp only [Exit.inBlock, Exit.then])
          refine bodyPost_ret (results_row_tmp rfl _ _ (w.heap.size + 1) 46 _ (0, 0) _ rfl (RX.out.put _ _ _ _) Tryd.underlying46 rfl (by kernel_rfl)) rfl ?_
          exact KF.out _ (dset4_below BX.out (by omega))
      · subst z2
        rw [k2] at b5
        clear k2
        rcases D with d | ⟨d1, d⟩ | ⟨d1, d2, d⟩ | ⟨d1, d2, d3, d⟩ | ⟨d1, d2, d3, d⟩
        · have KF := hid (fun W b => FE.out W b (.inl d))
          have RX : Hid (S4 (wS.setCell ⟨sb, 2, none⟩ (.int .i64 W1)) (w.heap.size + 1) (.int .u8 0) (.int .i64 0) (.int .i64 0) (.int .i64 0)) := (RS.out).far NR.out
          have BX : Hid (Below w.heap.size w (wS.setCell ⟨sb, 2, none⟩ (.int .i64 W1))) := sb_below (BS.out) LB.out
          clear FE KN KP RS BS SB
          go_wp2_with fail
          (try simp only [Exit.inBlock, Exit.then])
          refine bodyPost_ret (results_row_tmp rfl _ _ (w.heap.size + 1) 46 _ (0, 0) _ rfl (RX.out.put _ _ _ _) Tryd.underlying46 rfl (by kernel_rfl)) rfl ?_
          exact KF.out _ (dset4_below BX.out (by omega))
        · have KF := hid (fun W b => FE.out W b (.inr (.inl d)))
          have RX : Hid (S4 (wS.setCell ⟨sb, 2, none⟩ (.int .i64 W1)) (w.heap.size + 1) (.int .u8 0) (.int .i64 0) (.int .i64 0) (.int .i64 0)) := (RS.out).far NR.out
          have BX : Hid (Below w.heap.size w (wS.setCell ⟨sb, 2, none⟩ (.int .i64 W1))) := sb_below (BS.out) LB.out
          clear FE KN KP RS BS SB
          go_wp2_with fail
          (try simp only [Exit.inBlock, Exit.then])
          refine bodyPost_ret (results_row_tmp rfl _ _ (w.heap.size + 1) 46 _ (0, 0) _ rfl (RX.out.put _ _ _ _) Tryd.underlying46 rfl (by kernel_rfl)) rfl ?_
          exact KF.out _ (dset4_below BX.out (by omega))
        · have KF := hid (fun W b => FE.out W b (.inr (.inr d)))
          have RX : Hid (S4 (wS.setCell ⟨sb, 2, none⟩ (.int .i64 W1)) (w.heap.size + 1) (.int .u8 0) (.int .i64 0) (.int .i64 0) (.int .i64 0)) := (RS.out).far NR.out
          have BX : Hid (Below w.heap.size w (wS.setCell ⟨sb, 2, none⟩ (.int .i64 W1))) := sb_below (BS.out) LB.out
          clear FE KN KP RS BS SB
          go_wp2_with fail
          (try simp only [Exit.inBlock, Exit.then])
          refine bodyPost_ret (results_row_tmp rfl _ _ (w.heap.size + 1) 46 _ (0, 0) _ rfl (RX.out.put _ _ _ _) Tryd.underlying46 rfl (by kernel_rfl)) rfl ?_
          exact KF.out _ (dset4_below BX.out (by omega))
        · have KF := hid (KN.out (by omega) d)
          have RX : Hid (S4 (((wS.setCell ⟨sb, 2, none⟩ (.int .i64 W1)).setCell ⟨sb, 1, none⟩ (.int .i64 (bits .or .i64 p.fl 1))).setCell ⟨sb, 2, none⟩ (.int .i64 (-W1))) (w.heap.size + 1) (.int .u8 0) (.int .i64 0) (.int .i64 0) (.int .i64 0)) := (((RS.out).far NR.out).far NR.out).far NR.out
          have BX : Hid (Below w.heap.size w (((wS.setCell ⟨sb, 2, none⟩ (.int .i64 W1)).setCell ⟨sb, 1, none⟩ (.int .i64 (bits .or .i64 p.fl 1))).setCell ⟨sb, 2, none⟩ (.int .i64 (-W1)))) := sb_below (sb_below (sb_below (BS.out) LB.out) LB.out) LB.out
          clear FE KN KP RS BS SB
          go_wp2_with fail
          (try simp only [Exit.inBlock, Exit.then])
          refine bodyPost_ret (results_row_tmp rfl _ _ (w.heap.size + 1) 46 _ (0, 0) _ rfl (RX.out.put _ _ _ _) Tryd.underlying46 rfl (by kernel_rfl)) rfl ?_
          exact KF.out _ (dset4_below BX.out (by omega))
        · have KF := hid (KP.out (by omega) d)
          have RX : Hid (S4 (wS.setCell ⟨sb, 2, none⟩ (.int .i64 W1)) (w.heap.size + 1) (.int .u8 0) (.int .i64 0) (.int .i64 0) (.int .i64 0)) := (RS.out).far NR.out
          have BX : Hid (Below w.heap.size w (wS.setCell ⟨sb, 2, none⟩ (.int .i64 W1))) := sb_below (BS.out) LB.out
          clear FE KN KP RS BS SB
          go_wp2_with fail
          (try simp only [Exit.inBlock, Exit.then])
          refine bodyPost_ret (results_row_tmp rfl _ _ (w.heap.size + 1) 46 _ (0, 0) _ rfl (RX.out.put _ _ _ _) Tryd.underlying46 rfl (by kernel_rfl)) rfl ?_
          exact KF.out _ (dset4_below BX.out (by omega))
    · subst z1
      have k3 : (p.wk == 2) = false := by simpa using k1
      clear k1
      rcases C2 with ⟨k2, z2⟩ | ⟨k2, z2⟩ | ⟨k2, z2⟩
      · subst z2
        rw [k2] at b5
        clear k2
        rcases D with d | ⟨d1, d⟩ | ⟨d1, d2, d⟩ | ⟨d1, d2, d3, d⟩ | ⟨d1, d2, d3, d⟩
        · have KF := hid (fun W b => FE.out W b (.inl d))
          have RX : Hid (S4 (wS.setCell ⟨sb, 3, none⟩ (.int .i64 (-1))) (w.heap.size + 1) (.int .u8 0) (.int .i64 0) (.int .i64 0) (.int .i64 0)) := (RS.out).far NR.out
          have BX : Hid (Below w.heap.size w (wS.setCell ⟨sb, 3, none⟩ (.int .i64 (-1)))) := sb_below (BS.out) LB.out
          clear FE KN KP RS BS SB
          go_wp2_with fail
          (try simp only [Exit.inBlock, Exit.then])
          refine bodyPost_ret (results_row_tmp rfl _ _ (w.heap.size + 1) 46 _ (0, 0) _ rfl (RX.out.put _ _ _ _) Tryd.underlying46 rfl (by kernel_rfl)) rfl ?_
          exact KF.out _ (dset4_below BX.out (by omega))
        · have KF := hid (fun W b => FE.out W b (.inr (.inl d)))
          have RX : Hid (S4 (wS.setCell ⟨sb, 3, none⟩ (.int .i64 (-1))) (w.heap.size + 1) (.int .u8 0) (.int .i64 0) (.int .i64 0) (.int .i64 0)) := (RS.out).far NR.out
          have BX : Hid (Below w.heap.size w (wS.setCell ⟨sb, 3, none⟩ (.int .i64 (-1)))) := sb_below (BS.out) LB.out
          clear FE KN KP RS BS SB
          go_wp2_with fail
          (try simp only [Exit.inBlock, Exit.then])
          refine bodyPost_ret (results_row_tmp rfl _ _ (w.heap.size + 1) 46 _ (0, 0) _ rfl (RX.out.put _ _ _ _) Tryd.underlying46 rfl (by kernel_rfl)) rfl ?_
          exact KF.out _ (dset4_below BX.out (by omega))
        · exact absurd d (by omega)
        · have KF := hid (KN.out (by omega) d)
          have RX : Hid (S4 (((wS.setCell ⟨sb, 3, none⟩ (.int .i64 (-1))).setCell ⟨sb, 1, none⟩ (.int .i64 (bits .or .i64 p.fl 1))).setCell ⟨sb, 2, none⟩ (.int .i64 (-p.wd))) (w.heap.size + 1) (.int .u8 0) (.int .i64 0) (.int .i64 0) (.int .i64 0)) := (((RS.out).far NR.out).far NR.out).far NR.out
          have BX : Hid (Below w.heap.size w (((wS.setCell ⟨sb, 3, none⟩ (.int .i64 (-1))).setCell ⟨sb, 1, none⟩ (.int .i64 (bits .or .i64 p.fl 1))).setCell ⟨sb, 2, none⟩ (.int .i64 (-p.wd)))) := sb_below (sb_below (sb_below (BS.out) LB.out) LB.out) LB.out
          clear FE KN KP RS BS SB
          go_wp2_with fail
          (try simp only [Exit.inBlock, Exit.then])
          refine bodyPost_ret (results_row_tmp rfl _ _ (w.heap.size + 1) 46 _ (0, 0) _ rfl (RX.out.put _ _ _ _) Tryd.underlying46 rfl (by kernel_rfl)) rfl ?_
          exact KF.out _ (dset4_below BX.out (by omega))
        · have KF := hid (KP.out (by omega) d)
          have RX : Hid (S4 (wS.setCell ⟨sb, 3, none⟩ (.int .i64 (-1))) (w.heap.size + 1) (.int .u8 0) (.int .i64 0) (.int .i64 0) (.int .i64 0)) := (RS.out).far NR.out
          have BX : Hid (Below w.heap.size w (wS.setCell ⟨sb, 3, none⟩ (.int .i64 (-1)))) := sb_below (BS.out) LB.out
          clear FE KN KP RS BS SB
          go_wp2_with fail
          (try simp only [Exit.inBlock, Exit.then])
          refine bodyPost_ret (results_row_tmp rfl _ _ (w.heap.size + 1) 46 _ (0, 0) _ rfl (RX.out.put _ _ _ _) Tryd.underlying46 rfl (by kernel_rfl)) rfl ?_
          exact KF.out _ (dset4_below BX.out (by omega))
      · subst z2
        rw [k2] at b5
        clear k2
        rcases D with d | ⟨d1, d⟩ | ⟨d1, d2, d⟩ | ⟨d1, d2, d3, d⟩ | ⟨d1, d2, d3, d⟩
        · have KF := hid (fun W b => FE.out W b (.inl d))
          have RX : Hid (S4 (wS.setCell ⟨sb, 3, none⟩ (.int .i64 (max y (-1)))) (w.heap.size + 1) (.int .u8 0) (.int .i64 0) (.int .i64 0) (.int .i64 0)) := (RS.out).far NR.out
          have BX : Hid (Below w.heap.size w (wS.setCell ⟨sb, 3, none⟩ (.int .i64 (max y (-1))))) := sb_below (BS.out) LB.out
          clear FE KN KP RS BS SB
          go_wp2_with fail
          (try simp only [Exit.inBlock, Exit.then])
          refine bodyPost_ret (results_row_tmp rfl _ _ (w.heap.size + 1) 46 _ (0, 0) _ rfl (RX.out.put _ _ _ _) Tryd.underlying46 rfl (by kernel_rfl)) rfl ?_
          exact KF.out _ (dset4_below BX.out (by omega))
        · have KF := hid (fun W b => FE.out W b (.inr (.inl d)))
          have RX : Hid (S4 (wS.setCell ⟨sb, 3, none⟩ (.int .i64 (max y (-1)))) (w.heap.size + 1) (.int .u8 0) (.int .i64 0) (.int .i64 0) (.int .i64 0)) := (RS.out).far NR.out
          have BX : Hid (Below w.heap.size w (wS.setCell ⟨sb, 3, none⟩ (.int .i64 (max y (-1))))) := sb_below (BS.out) LB.out
          clear FE KN KP RS BS SB
          go_wp2_with fail
          (try simp only [Exit.inBlock, Exit.then])
          refine bodyPost_ret (results_row_tmp rfl _ _ (w.heap.size + 1) 46 _ (0, 0) _ rfl (RX.out.put _ _ _ _) Tryd.underlying46 rfl (by kernel_rfl)) rfl ?_
          exact KF.out _ (dset4_below BX.out (by omega))
        · have KF := hid (fun W b => FE.out W b (.inr (.inr d)))
          have RX : Hid (S4 (wS.setCell ⟨sb, 3, none⟩ (.int .i64 (max y (-1)))) (w.heap.size + 1) (.int .u8 0) (.int .i64 0) (.int .i64 0) (.int .i64 0)) := (RS.out).far NR.out
          have BX : Hid (Below w.heap.size w (wS.setCell ⟨sb, 3, none⟩ (.int .i64 (max y (-1))))) := sb_below (BS.out) LB.out
          clear FE KN KP RS BS SB
          go_wp2_with fail
          (try simp only [Exit.inBlock, Exit.then])
          refine bodyPost_ret (results_row_tmp rfl _ _ (w.heap.size + 1) 46 _ (0, 0) _ rfl (RX.out.put _ _ _ _) Tryd.underlying46 rfl (by kernel_rfl)) rfl ?_
          exact KF.out _ (dset4_below BX.out (by omega))
        · have KF := hid (KN.out (by omega) d)
          have RX : Hid (S4 (((wS.setCell ⟨sb, 3, none⟩ (.int .i64 (max y (-1)))).setCell ⟨sb, 1, none⟩ (.int .i64 (bits .or .i64 p.fl 1))).setCell ⟨sb, 2, none⟩ (.int .i64 (-p.wd))) (w.heap.size + 1) (.int .u8 0) (.int .i64 0) (.int .i64 0) (.int .i64 0)) := (((RS.out).far NR.out).far NR.out).far NR.out
          have BX : Hid (Below w.heap.size w (((wS.setCell ⟨sb, 3, none⟩ (.int .i64 (max y (-1)))).setCell ⟨sb, 1, none⟩ (.int .i64 (bits .or .i64 p.fl 1))).setCell ⟨sb, 2, none⟩ (.int .i64 (-p.wd)))) := sb_below (sb_below (sb_below (BS.out) LB.out) LB.out) LB.out
          clear FE KN KP RS BS SB
          go_wp2_with fail
          (try simp only [Exit.inBlock, Exit.then])
          refine bodyPost_ret (results_row_tmp rfl _ _ (w.heap.size + 1) 46 _ (0, 0) _ rfl (RX.out.put _ _ _ _) Tryd.underlying46 rfl (by kernel_rfl)) rfl ?_
          exact KF.out _ (dset4_below BX.out (by omega))
        · have KF := hid (KP.out (by omega) d)
          have RX : Hid (S4 (wS.setCell ⟨sb, 3, none⟩ (.int .i64 (max y (-1)))) (w.heap.size + 1) (.int .u8 0) (.int .i64 0) (.int .i64 0) (.int .i64 0)) := (RS.out).far NR.out
          have BX : Hid (Below w.heap.size w (wS.setCell ⟨sb, 3, none⟩ (.int .i64 (max y (-1))))) := sb_below (BS.out) LB.out
          clear FE KN KP RS BS SB
          go_wp2_with fail
          (try simp only [Exit.inBlock, Exit.then])
          refine bodyPost_ret (results_row_tmp rfl _ _ (w.heap.size + 1) 46 _ (0, 0) _ rfl (RX.out.put _ _ _ _) Tryd.underlying46 rfl (by kernel_rfl)) rfl ?_
          exact KF.out _ (dset4_below BX.out (by omega))
      · subst z2
        rw [k2] at b5
        clear k2
        rcases D with d | ⟨d1, d⟩ | ⟨d1, d2, d⟩ | ⟨d1, d2, d3, d⟩ | ⟨d1, d2, d3, d⟩
        · have KF := hid (fun W b => FE.out W b (.inl d))
          have RX : Hid (S4 wS (w.heap.size + 1) (.int .u8 0) (.int .i64 0) (.int .i64 0) (.int .i64 0)) := RS.out
          have BX : Hid (Below w.heap.size w wS) := BS.out
          clear FE KN KP RS BS SB
          go_wp2_with fail
          (try simp only [Exit.inBlock, Exit.then])
          refine bodyPost_ret (results_row_tmp rfl _ _ (w.heap.size + 1) 46 _ (0, 0) _ rfl (RX.out.put _ _ _ _) Tryd.underlying46 rfl (by kernel_rfl)) rfl ?_
          exact KF.out _ (dset4_below BX.out (by omega))
        · have KF := hid (fun W b => FE.out W b (.inr (.inl d)))
          have RX : Hid (S4 wS (w.heap.size + 1) (.int .u8 0) (.int .i64 0) (.int .i64 0) (.int .i64 0)) := RS.out
          have BX : Hid (Below w.heap.size w wS) := BS.out
          clear FE KN KP RS BS SB
          go_wp2_with fail
          (try simp only [Exit.inBlock, Exit.then])
          refine bodyPost_ret (results_row_tmp rfl _ _ (w.heap.size + 1) 46 _ (0, 0) _ rfl (RX.out.put _ _ _ _) Tryd.underlying46 rfl (by kernel_rfl)) rfl ?_
          exact KF.out _ (dset4_below BX.out (by omega))
        · have KF := hid (fun W b => FE.out W b (.inr (.inr d)))
          have RX : Hid (S4 wS (w.heap.size + 1) (.int .u8 0) (.int .i64 0) (.int .i64 0) (.int .i64 0)) := RS.out
          have BX : Hid (Below w.heap.size w wS) := BS.out
          clear FE KN KP RS BS SB
          go_wp2_with fail
          (try simp only [Exit.inBlock, Exit.then])
          refine bodyPost_ret (results_row_tmp rfl _ _ (w.heap.size + 1) 46 _ (0, 0) _ rfl (RX.out.put _ _ _ _) Tryd.underlying46 rfl (by kernel_rfl)) rfl ?_
          exact KF.out _ (dset4_below BX.out (by omega))
        · have KF := hid (KN.out (by omega) d)
          have RX : Hid (S4 ((wS.setCell ⟨sb, 1, none⟩ (.int .i64 (bits .or .i64 p.fl 1))).setCell ⟨sb, 2, none⟩ (.int .i64 (-p.wd))) (w.heap.size + 1) (.int .u8 0) (.int .i64 0) (.int .i64 0) (.int .i64 0)) := ((RS.out).far NR.out).far NR.out
          have BX : Hid (Below w.heap.size w ((wS.setCell ⟨sb, 1, none⟩ (.int .i64 (bits .or .i64 p.fl 1))).setCell ⟨sb, 2, none⟩ (.int .i64 (-p.wd)))) := sb_below (sb_below (BS.out) LB.out) LB.out
          clear FE KN KP RS BS SB
          go_wp2_with fail
          (try simp only [Exit.inBlock, Exit.then])
          refine bodyPost_ret (results_row_tmp rfl _ _ (w.heap.size + 1) 46 _ (0, 0) _ rfl (RX.out.put _ _ _ _) Tryd.underlying46 rfl (by kernel_rfl)) rfl ?_
          exact KF.out _ (dset4_below BX.out (by omega))
        · have KF := hid (KP.out (by omega) d)
          have RX : Hid (S4 wS (w.heap.size + 1) (.int .u8 0) (.int .i64 0) (.int .i64 0) (.int .i64 0)) := RS.out
          have BX : Hid (Below w.heap.size w wS) := BS.out
          clear FE KN KP RS BS SB
          go_wp2_with fail
          (try simp only [Exit.inBlock, Exit.then])
          refine bodyPost_ret (results_row_tmp rfl _ _ (w.heap.size + 1) 46 _ (0, 0) _ rfl (RX.out.put _ _ _ _) Tryd.underlying46 rfl (by kernel_rfl)) rfl ?_
          exact KF.out _ (dset4_below BX.out (by omega))
  · rw [decide_eq_false (show ¬ Dr.isR ⟨p.t, p.v, p.fl, p.wk, p.wd, p.pk, p.pr⟩ from hr)] at ID
    have KF : Hid (∀ W, Below w.heap.size w W → SeTold p x y w (.returned (.tuple #[.agg #[.int .u8 0, .int .i64 0, .int .i64 0, .int .i64 0], .int .i64 132])) W) := by
      intro W b
      have e : ste p x y = 132 := by rw [ste, if_neg hr]
      exact ⟨by rw [spv, if_neg (by rw [e]; decide), e], b⟩
    clear hr hp P2
    go_enter Tryd.func19, Tryd.ntmps19
    go_wp2_with fail
    refine (ID.out _).mono ?_
    rintro e w1 ⟨rfl, hB⟩
    have BS := hid (below_on B2.out hB)
    have RS := hid (S2.out.below hB)
    obtain ⟨⟨r0, r1, r2, r3⟩, ⟨f0, f1, f2, f3⟩⟩ := RS.out.cells
    clear hB ID
    go_wp2_with fail
    (try simp only [Exit.inBlock, Exit.then])
    refine bodyPost_ret (results_row_tmp rfl _ _ (w.heap.size + 1) 46 _ (0, 0) _ rfl (S4.put RS.out _ _ _ _) Tryd.underlying46 rfl (by kernel_rfl)) rfl ?_
    exact KF.out _ (dset4_below BS.out (by omega))
end Go.Proofs.YtaadooippelcfaaDoor
