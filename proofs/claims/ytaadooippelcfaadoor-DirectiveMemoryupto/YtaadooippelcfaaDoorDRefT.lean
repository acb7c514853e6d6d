/-
  abacusref13's Settle, whatever comes in (mkdrefst.py).
-/
import Derived.Test.YtaadooippelcfaaDoorDRefS
import Derived.Deep.DeepCutAuto
namespace Go.Proofs.YtaadooippelcfaaDoor
open Go Go.RowKit Go.Deep Go.Shelf

theorem or_one (f : Int) (h0 : 0 ≤ f) (h1 : f ≤ 31) : bits .or .i64 f 1 = if f % 2 = 0 then f + 1 else f := by
  have key : ∀ g : Fin 32, bits .or .i64 (g.val : Int) 1 = if (g.val : Int) % 2 = 0 then (g.val : Int) + 1 else (g.val : Int) := by decide
  have := key ⟨f.toNat, by omega⟩
  simp only at this
  rwa [show ((f.toNat : Nat) : Int) = f by omega] at this

theorem S4.far2 {w : World} {b : Nat} {v0 v1 v2 v3 : Value} (h : S4 w b v0 v1 v2 v3) (v : Value) : S4 (w.setCell ⟨b, 2, none⟩ v) b v0 v1 v v3 := by
  simp only [S4] at *
  simp [World.setCell, Array.getElem?_modify, h]
theorem S4.far1 {w : World} {b : Nat} {v0 v1 v2 v3 : Value} (h : S4 w b v0 v1 v2 v3) (v : Value) : S4 (w.setCell ⟨b, 1, none⟩ v) b v0 v v2 v3 := by
  simp only [S4] at *
  simp [World.setCell, Array.getElem?_modify, h]
/-- What stands behind the width's half. -/
def SW (p : Dr.Pc) (x : Int) (w : World) (sb : Nat) (wx : World) : Prop := S4 wx sb (.int .u8 p.v) (.int .i64 (if sW p x < 0 then bits .or .i64 p.fl 1 else p.fl)) (.int .i64 (if sW p x < 0 then - sW p x else sW p x)) (.int .i64 (-1)) ∧ P7 wx w.heap.size (.string (strOfNums p.t)) (.int .u8 p.v) (.int .i64 p.fl) (.int .i64 p.wk) (.int .i64 p.wd) (.int .i64 p.pk) (.int .i64 p.pr) ∧ S4 wx (w.heap.size + 1) (.int .u8 0) (.int .i64 0) (.int .i64 0) (.int .i64 0) ∧ Below w.heap.size w wx

set_option maxRecDepth 100000 in
set_option maxHeartbeats 8000000 in
theorem rsettle_dir (t : List Int) (v fl wk wd pk pr : Int) (x y : Int) (w : World) (hp : PcW (⟨t, v, fl, wk, wd, pk, pr⟩ : Dr.Pc)) (x0 : -9223372036854775808 ≤ x) (x1 : x ≤ 9223372036854775807) :
    Calls Tryd.prog 20 #[.agg #[.string (strOfNums t), .int .u8 v, .int .i64 fl, .int .i64 wk, .int .i64 wd, .int .i64 pk, .int .i64 pr], .int .i64 x, .int .i64 y] w fun e w' => SeTold (⟨t, v, fl, wk, wd, pk, pr⟩ : Dr.Pc) x y w e w' := by
  have DR := hid (fun W => rdirective_any (strOfNums t) t v fl wk wd pk pr W (Str.of_nums hp.1))
  have A1 := hid (below_on (alloc_b w (.cells #[.string (strOfNums t), .int .u8 v, .int .i64 fl, .int .i64 wk, .int .i64 wd, .int .i64 pk, .int .i64 pr] 25)) (alloc_b _ (.cells #[.int .u8 0, .int .i64 0, .int .i64 0, .int .i64 0] 46)))
  have P1 := hid ((P7.new w (.string (strOfNums t)) (.int .u8 v) (.int .i64 fl) (.int .i64 wk) (.int .i64 wd) (.int .i64 pk) (.int .i64 pr)).below (alloc_b _ (.cells #[.int .u8 0, .int .i64 0, .int .i64 0, .int .i64 0] 46)))
  have S1 := hid (S4.new (w.alloc (.cells #[.string (strOfNums t), .int .u8 v, .int .i64 fl, .int .i64 wk, .int .i64 wd, .int .i64 pk, .int .i64 pr] 25)) (.int .u8 0) (.int .i64 0) (.int .i64 0) (.int .i64 0))
  rw [World.size_alloc] at S1
  have BAD : Hid (∀ W : World, ∀ E : Int, ste (⟨t, v, fl, wk, wd, pk, pr⟩ : Dr.Pc) x y = E → E ≠ 0 → Below w.heap.size w W → SeTold (⟨t, v, fl, wk, wd, pk, pr⟩ : Dr.Pc) x y w (.returned (.tuple #[.agg #[.int .u8 0, .int .i64 0, .int .i64 0, .int .i64 0], .int .i64 E])) W) := fun W E h h0 hB => ⟨by rw [spv, if_neg (by rw [h]; exact h0), h], hB⟩
  have GOOD : Hid (∀ W : World, ste (⟨t, v, fl, wk, wd, pk, pr⟩ : Dr.Pc) x y = 0 → ∀ z : Int, sP (⟨t, v, fl, wk, wd, pk, pr⟩ : Dr.Pc) y = z → Below w.heap.size w W → SeTold (⟨t, v, fl, wk, wd, pk, pr⟩ : Dr.Pc) x y w (.returned (.tuple #[.agg #[.int .u8 v, .int .i64 (if sW (⟨t, v, fl, wk, wd, pk, pr⟩ : Dr.Pc) x < 0 then bits .or .i64 fl 1 else fl), .int .i64 (if sW (⟨t, v, fl, wk, wd, pk, pr⟩ : Dr.Pc) x < 0 then - sW (⟨t, v, fl, wk, wd, pk, pr⟩ : Dr.Pc) x else sW (⟨t, v, fl, wk, wd, pk, pr⟩ : Dr.Pc) x), .int .i64 z], .int .i64 0])) W) := fun W h z hz hB => ⟨by rw [spv, if_pos h, h, hz], hB⟩
  clear hp
  go_enter Tryd.func20, Tryd.ntmps20
  go_upto_region 1 with fail
  generalize (w.alloc (.cells #[.string (strOfNums t), .int .u8 v, .int .i64 fl, .int .i64 wk, .int .i64 wd, .int .i64 pk, .int .i64 pr] 25)).alloc (.cells #[.int .u8 0, .int .i64 0, .int .i64 0, .int .i64 0] 46) = wA at *
  obtain ⟨⟨b0, b1, b2, b3, b4, b5, b6⟩, -⟩ := P1.out.cells
  go_wp2_with fail
  refine (DR.out _).mono ?_
  rintro e w1 ⟨rfl, d1⟩
  clear b0 b1 b2 b3 b4 b5 b6
  have P2 := hid (P1.out.below d1)
  have S2 := hid (S1.out.below d1)
  have A2 := hid (below_on A1.out d1)
  clear d1 P1 S1 A1 DR
  by_cases hr : Dr.isR (⟨t, v, fl, wk, wd, pk, pr⟩ : Dr.Pc)
  case neg =>
    have hr1 : Dr.isR ⟨t, v, fl, wk, wd, pk, pr⟩ ↔ Dr.isR (⟨t, v, fl, wk, wd, pk, pr⟩ : Dr.Pc) := Iff.rfl
    rw [decide_eq_false (fun q => hr (hr1.1 q))]
    have F := hid (fun W hB => BAD.out W 132 (if_neg hr) (by decide) hB)
    obtain ⟨⟨s0, s1, s2, s3⟩, f0, f1, f2, f3⟩ := S2.out.cells
    clear hr1 GOOD BAD hr
    go_wp2_with fail
    (try simp only [Exit.inBlock, Exit.then])
    refine bodyPost_ret (results_row_tmp rfl _ _ (w.heap.size + 1) 46 _ (0, 0) _ rfl (S2.out.put _ _ _ _) Tryd.underlying46 rfl (by kernel_rfl)) rfl ?_
    exact F.out _ (dset4_below A2.out (by omega))
  case pos =>
  have hr1 : Dr.isR ⟨t, v, fl, wk, wd, pk, pr⟩ ↔ Dr.isR (⟨t, v, fl, wk, wd, pk, pr⟩ : Dr.Pc) := Iff.rfl
  rw [decide_eq_true (hr1.2 hr)]
  clear hr1
  have SE : Hid (ste (⟨t, v, fl, wk, wd, pk, pr⟩ : Dr.Pc) x y = if sW (⟨t, v, fl, wk, wd, pk, pr⟩ : Dr.Pc) x < -4096 ∨ 4096 < sW (⟨t, v, fl, wk, wd, pk, pr⟩ : Dr.Pc) x ∨ 4096 < sP (⟨t, v, fl, wk, wd, pk, pr⟩ : Dr.Pc) y then 6 else 0) := if_pos hr
  have FB : Hid (0 ≤ fl ∧ fl ≤ 31) := And.intro hr.2.2.1 hr.2.2.2.1
  have WB : Hid (0 ≤ wd ∧ wd ≤ 4096) := Dr.num_bd hr.2.2.2.2.1 (by omega)
  have PN : Hid (Dr.num pk pr 0) := hr.2.2.2.2.2
  have PB : Hid (0 ≤ pr ∧ pr ≤ 4096) := Dr.num_bd hr.2.2.2.2.2 (by omega)
  clear hr
  obtain ⟨⟨b0, b1, b2, b3, b4, b5, b6⟩, -⟩ := P2.out.cells
  have lt : w.heap.size + 1 < w1.heap.size := S2.out.lt
  have aS := alloc_b w1 (.cells #[.int .u8 v, .int .i64 fl, .int .i64 wd, .int .i64 (-1)] 46)
  have A3 := hid (below_on A2.out aS)
  have S3 := hid (S2.out.below aS)
  have P3 := hid (P2.out.below aS)
  have N3 := hid (S4.new w1 (.int .u8 v) (.int .i64 fl) (.int .i64 wd) (.int .i64 (-1)))
  clear P2 S2 A2 aS
  go_upto_region 4 with fail
  generalize w1.alloc (.cells #[.int .u8 v, .int .i64 fl, .int .i64 wd, .int .i64 (-1)] 46) = wS at *
  obtain ⟨sb, hsb⟩ : ∃ sb, w1.heap.size = sb := ⟨_, rfl⟩
  rw [hsb] at N3 lt ⊢
  clear hsb b0 b1 b2 b3 b4 b5 b6
  have e1 : w.heap.size ≠ sb := by omega
  have e3 : w.heap.size + 1 ≠ sb := by omega
  by_cases wide : wk = 2 ∧ (x < -4096 ∨ 4096 < x)
  case pos =>
    obtain ⟨h2, hx⟩ := wide
    have k2 : (wk == 2) = true := by simpa using h2
    have F := hid (fun W hB => BAD.out W 6 (by rw [SE.out, if_pos (by simp only [sW, if_pos h2]; omega)]) (by decide) hB)
    obtain ⟨⟨b0, b1, b2, b3, b4, b5, b6⟩, -⟩ := P3.out.cells
    obtain ⟨⟨s0, s1, s2, s3⟩, f0, f1, f2, f3⟩ := S3.out.cells
    clear GOOD BAD SE PN h2
    by_cases hx1 : 4096 < x
    · clear hx
      go_wp2_with fail
      (try simp only [Exit.inBlock, Exit.then])
      refine bodyPost_ret (results_row_tmp rfl _ _ (w.heap.size + 1) 46 _ (0, 0) _ rfl (S3.out.put _ _ _ _) Tryd.underlying46 rfl (by kernel_rfl)) rfl ?_
      exact F.out _ (dset4_below A3.out (by omega))
    · have hx2 : x < -4096 := by omega
      clear hx
      go_wp2_with fail
      (try simp only [Exit.inBlock, Exit.then])
      refine bodyPost_ret (results_row_tmp rfl _ _ (w.heap.size + 1) 46 _ (0, 0) _ rfl (S3.out.put _ _ _ _) Tryd.underlying46 rfl (by kernel_rfl)) rfl ?_
      exact F.out _ (dset4_below A3.out (by omega))
  case neg =>
  have NWD : Hid (ste (⟨t, v, fl, wk, wd, pk, pr⟩ : Dr.Pc) x y = if 4096 < sP (⟨t, v, fl, wk, wd, pk, pr⟩ : Dr.Pc) y then 6 else 0) := by
    have := SE.out
    rw [this]
    have wb := WB.out
    by_cases h2 : wk = 2
    · have : ¬ (x < -4096 ∨ 4096 < x) := fun q => wide ⟨h2, q⟩
      simp only [sW, if_pos h2]
      congr 1
      exact propext ⟨fun q => by omega, fun q => by omega⟩
    · simp only [sW, if_neg h2]
      congr 1
      exact propext ⟨fun q => by omega, fun q => by omega⟩
  obtain ⟨⟨b0, b1, b2, b3, b4, b5, b6⟩, -⟩ := P3.out.cells
  go_upto_if 22 with fail
  go_cut [] (fun wx => Hid (SW (⟨t, v, fl, wk, wd, pk, pr⟩ : Dr.Pc) x w sb wx))
  case first =>
    clear GOOD BAD SE NWD PN
    by_cases h2 : wk = 2
    · have sw : sW (⟨t, v, fl, wk, wd, pk, pr⟩ : Dr.Pc) x = x := if_pos h2
      have hx : ¬ (x < -4096 ∨ 4096 < x) := fun q => wide ⟨h2, q⟩
      have hx1 : ¬ 4096 < x := by omega
      have hx2 : ¬ x < -4096 := by omega
      clear wide hx
      subst h2
      have N4 := hid (N3.out.far2 (.int .i64 x))
      have P4 : Hid (P7 (wS.setCell ⟨sb, 2, none⟩ (.int .i64 x)) w.heap.size (.string (strOfNums t)) (.int .u8 v) (.int .i64 fl) (.int .i64 2) (.int .i64 wd) (.int .i64 pk) (.int .i64 pr)) := P3.out.far (Ne.symm e1)
      have S5 := hid (S3.out.far (o := 2) (v := .int .i64 x) (Ne.symm e3))
      have A4 := hid (sb_below (o := 2) (v := .int .i64 x) A3.out (show w.heap.size ≤ sb by omega))
      obtain ⟨⟨n0, n1, n2, n3⟩, m0, m1, m2, m3⟩ := N3.out.cells
      by_cases neg : x < 0
      · have wn : IntKind.i64.wrap (-x) = -x := by rw [IntKind.wrap_i64]; omega
        have N6 := hid (N4.out.far2 (.int .i64 (-x)))
        have P6 := hid (P4.out.far (o := 2) (v := .int .i64 (-x)) (Ne.symm e1))
        have S6 := hid (S5.out.far (o := 2) (v := .int .i64 (-x)) (Ne.symm e3))
        have A6 := hid (sb_below (o := 2) (v := .int .i64 (-x)) A4.out (show w.heap.size ≤ sb by omega))
        go_upto_region 8 with fail
        clear n0 n1 n2 n3 m0 m1 m2 m3 b0 b1 b2 b3 b4 b5 b6
        generalize wS.setCell ⟨sb, 2, none⟩ (.int .i64 x) = wT at *
        obtain ⟨⟨n0, n1, n2, n3⟩, m0, m1, m2, m3⟩ := N4.out.cells
        go_upto_region 10 with fail
        clear n0 n1 n2 n3 m0 m1 m2 m3
        generalize wT.setCell ⟨sb, 2, none⟩ (.int .i64 (-x)) = wU at *
        obtain ⟨⟨n0, n1, n2, n3⟩, m0, m1, m2, m3⟩ := N6.out.cells
        have fb := FB.out
        by_cases ev : fl % 2 = 0
        · have t2 : fl.tmod 2 = 0 := by rw [Int.tmod_eq_emod_of_nonneg fb.1]; exact ev
          have w1' : IntKind.i64.wrap (fl + 1) = fl + 1 := by rw [IntKind.wrap_i64]; omega
          have F : Hid (SW (⟨t, v, fl, 2, wd, pk, pr⟩ : Dr.Pc) x w sb (wU.setCell ⟨sb, 1, none⟩ (.int .i64 (fl + 1)))) := by
            refine ⟨?_, P6.out.far (Ne.symm e1), S6.out.far (Ne.symm e3), sb_below A6.out (show w.heap.size ≤ sb by omega)⟩
            rw [sw, if_pos neg, if_pos neg, or_one fl fb.1 fb.2, if_pos ev]
            exact N6.out.far1 _
          have fl0 := fb.1
          clear sw N6 P6 S6 A6 fb
          go_wp2_with fail
          go_meet
          exact F.out
        · have t2 : fl.tmod 2 = 1 := by rw [Int.tmod_eq_emod_of_nonneg fb.1]; omega
          have t3 : fl % 2 = 1 := by omega
          have F : Hid (SW (⟨t, v, fl, 2, wd, pk, pr⟩ : Dr.Pc) x w sb wU) := by
            refine ⟨?_, P6.out, S6.out, A6.out⟩
            rw [sw, if_pos neg, if_pos neg, or_one fl fb.1 fb.2, if_neg ev]
            exact N6.out
          have fl0 := fb.1
          clear ev sw N6 P6 S6 A6 fb
          go_wp2_with fail
          go_meet
          exact F.out
      · have F : Hid (SW (⟨t, v, fl, 2, wd, pk, pr⟩ : Dr.Pc) x w sb (wS.setCell ⟨sb, 2, none⟩ (.int .i64 x))) := by
          refine ⟨?_, P4.out, S5.out, A4.out⟩
          rw [sw, if_neg neg, if_neg neg]
          exact N4.out
        clear sw
        go_wp2_with fail
        go_meet
        exact F.out
    · have k2 : (wk == 2) = false := by simpa using h2
      have F : Hid (SW (⟨t, v, fl, wk, wd, pk, pr⟩ : Dr.Pc) x w sb wS) := by
        refine ⟨?_, P3.out, S3.out, A3.out⟩
        have sw : sW (⟨t, v, fl, wk, wd, pk, pr⟩ : Dr.Pc) x = wd := if_neg h2
        have wb := WB.out
        rw [sw, if_neg (by omega), if_neg (by omega)]
        exact N3.out
      clear wide h2
      go_wp2_with fail
      go_meet
      exact F.out
  case rest =>
  clear b0 b1 b2 b3 b4 b5 b6 N3 P3 S3 A3 SE WB wide
  obtain ⟨N3, P3, S3, A3⟩ := hcut.out
  have N3 := hid N3
  have P3 := hid P3
  have S3 := hid S3
  have A3 := hid A3
  clear hcut
  generalize (if sW (⟨t, v, fl, wk, wd, pk, pr⟩ : Dr.Pc) x < 0 then bits .or .i64 fl 1 else fl) = F0 at *
  generalize (if sW (⟨t, v, fl, wk, wd, pk, pr⟩ : Dr.Pc) x < 0 then - sW (⟨t, v, fl, wk, wd, pk, pr⟩ : Dr.Pc) x else sW (⟨t, v, fl, wk, wd, pk, pr⟩ : Dr.Pc) x) = W0 at *
  obtain ⟨⟨b0, b1, b2, b3, b4, b5, b6⟩, -⟩ := P3.out.cells
  obtain ⟨⟨n0, n1, n2, n3⟩, m0, m1, m2, m3⟩ := N3.out.cells
  obtain ⟨⟨s0, s1, s2, s3⟩, f0, f1, f2, f3⟩ := S3.out.cells
  by_cases q0 : pk = 0
  · have k1 : (pk == 1) = false := by rw [q0]; rfl
    have k2 : (pk == 2) = false := by rw [q0]; rfl
    have sp : sP (⟨t, v, fl, wk, wd, pk, pr⟩ : Dr.Pc) y = -1 := if_pos q0
    have F := hid (fun W hB => GOOD.out W (by rw [NWD.out, sp]; rfl) (-1) sp hB)
    clear GOOD BAD NWD PN q0 sp
    go_wp2_with fail
    (try simp only [Exit.inBlock, Exit.then])
    refine bodyPost_ret (results_row_tmp rfl _ _ (w.heap.size + 1) 46 _ (0, 0) _ rfl (S3.out.put _ _ _ _) Tryd.underlying46 rfl (by kernel_rfl)) rfl ?_
    exact F.out _ (dset4_below A3.out (by omega))
  by_cases q1 : pk = 1
  · have k1 : (pk == 1) = true := by simpa using q1
    have k2 : (pk == 2) = false := by rw [q1]; rfl
    have sp : sP (⟨t, v, fl, wk, wd, pk, pr⟩ : Dr.Pc) y = pr := by rw [sP, if_neg q0, if_neg (show ¬ pk = 2 by omega)]
    have F := hid (fun W hB => GOOD.out W (by rw [NWD.out, sp, if_neg (by have := PB.out; omega)]) pr sp hB)
    have P4 := hid (P3.out.far (o := 3) (v := .int .i64 pr) (Ne.symm e1))
    have S5 := hid (S3.out.far (o := 3) (v := .int .i64 pr) (Ne.symm e3))
    have N4 := hid (N3.out.set3 (.int .i64 pr))
    have A4 := hid (sb_below (o := 3) (v := .int .i64 pr) A3.out (show w.heap.size ≤ sb by omega))
    clear GOOD BAD NWD PN q0 q1 sp
    go_upto_region 14 with fail
    clear b0 b1 b2 b3 b4 b5 b6 n0 n1 n2 n3 m0 m1 m2 m3 s0 s1 s2 s3 f0 f1 f2 f3
    generalize wc.setCell ⟨sb, 3, none⟩ (.int .i64 pr) = wT at *
    obtain ⟨⟨b0, b1, b2, b3, b4, b5, b6⟩, -⟩ := P4.out.cells
    obtain ⟨⟨n0, n1, n2, n3⟩, -⟩ := N4.out.cells
    obtain ⟨⟨s0, s1, s2, s3⟩, f0, f1, f2, f3⟩ := S5.out.cells
    go_wp2_with fail
    (try simp only [Exit.inBlock, Exit.then])
    refine bodyPost_ret (results_row_tmp rfl _ _ (w.heap.size + 1) 46 _ (0, 0) _ rfl (S5.out.put _ _ _ _) Tryd.underlying46 rfl (by kernel_rfl)) rfl ?_
    exact F.out _ (dset4_below A4.out (by omega))
  · have q2 : pk = 2 := by rcases PN.out with ⟨z, _⟩ | ⟨z, _, _⟩ <;> omega
    have k1 : (pk == 1) = false := by rw [q2]; rfl
    have k2 : (pk == 2) = true := by rw [q2]; rfl
    have sp : sP (⟨t, v, fl, wk, wd, pk, pr⟩ : Dr.Pc) y = max y (-1) := by rw [sP, if_neg q0, if_pos q2]
    by_cases big : 4096 < y
    · have F := hid (fun W hB => BAD.out W 6 (by rw [NWD.out, sp, if_pos (by omega)]) (by decide) hB)
      clear GOOD BAD NWD PN q0 q1 q2 sp
      go_wp2_with fail
      (try simp only [Exit.inBlock, Exit.then])
      refine bodyPost_ret (results_row_tmp rfl _ _ (w.heap.size + 1) 46 _ (0, 0) _ rfl (S3.out.put _ _ _ _) Tryd.underlying46 rfl (by kernel_rfl)) rfl ?_
      exact F.out _ (dset4_below A3.out (by omega))
    · by_cases neg : 0 ≤ y
      · have F := hid (fun W hB => GOOD.out W (by rw [NWD.out, sp, if_neg (by omega)]) y (by rw [sp]; omega) hB)
        have P4 := hid (P3.out.far (o := 3) (v := .int .i64 y) (Ne.symm e1))
        have S5 := hid (S3.out.far (o := 3) (v := .int .i64 y) (Ne.symm e3))
        have N4 := hid (N3.out.set3 (.int .i64 y))
        have A4 := hid (sb_below (o := 3) (v := .int .i64 y) A3.out (show w.heap.size ≤ sb by omega))
        clear GOOD BAD NWD PN q0 q1 q2 sp
        go_upto_region 19 with fail
        clear b0 b1 b2 b3 b4 b5 b6 n0 n1 n2 n3 m0 m1 m2 m3 s0 s1 s2 s3 f0 f1 f2 f3
        generalize wc.setCell ⟨sb, 3, none⟩ (.int .i64 y) = wT at *
        obtain ⟨⟨n0, n1, n2, n3⟩, -⟩ := N4.out.cells
        obtain ⟨⟨s0, s1, s2, s3⟩, f0, f1, f2, f3⟩ := S5.out.cells
        go_wp2_with fail
        (try simp only [Exit.inBlock, Exit.then])
        refine bodyPost_ret (results_row_tmp rfl _ _ (w.heap.size + 1) 46 _ (0, 0) _ rfl (S5.out.put _ _ _ _) Tryd.underlying46 rfl (by kernel_rfl)) rfl ?_
        exact F.out _ (dset4_below A4.out (by omega))
      · have F := hid (fun W hB => GOOD.out W (by rw [NWD.out, sp, if_neg (by omega)]) (-1) (by rw [sp]; omega) hB)
        clear GOOD BAD NWD PN q0 q1 q2 sp
        go_wp2_with fail
        (try simp only [Exit.inBlock, Exit.then])
        refine bodyPost_ret (results_row_tmp rfl _ _ (w.heap.size + 1) 46 _ (0, 0) _ rfl (S3.out.put _ _ _ _) Tryd.underlying46 rfl (by kernel_rfl)) rfl ?_
        exact F.out _ (dset4_below A3.out (by omega))
theorem rsettle_any (p : Dr.Pc) (x y : Int) (w : World) (hp : PcW p) (x0 : -9223372036854775808 ≤ x) (x1 : x ≤ 9223372036854775807) :
    Calls Tryd.prog 20 #[.agg #[.string (strOfNums p.t), .int .u8 p.v, .int .i64 p.fl, .int .i64 p.wk, .int .i64 p.wd, .int .i64 p.pk, .int .i64 p.pr], .int .i64 x, .int .i64 y] w fun e w' => SeTold p x y w e w' :=
  rsettle_dir p.t p.v p.fl p.wk p.wd p.pk p.pr x y w hp x0 x1
end Go.Proofs.YtaadooippelcfaaDoor
