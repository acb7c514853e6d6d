/-
  Texts put together: HOrd, HBear, HJoins.
-/
import Derived.Test.YtnfomlkhkggjeaaGreatDoorMPw
import Derived.Test.YtnfomlkhkggjeaaGreatDoorHN
/-
  law06: finite, below, atMost (made by mkhunits.py).
-/
namespace Go.Proofs.YtnfomlkhkggjeaaGreatDoor
open Go Go.RowKit Go.Deep

set_option maxRecDepth 100000 in
theorem hfinite_any (d : Int) (w : World) (h0 : 0 ≤ d) :
    Calls Tryz.prog 8 #[.int .u64 d] w fun e w' => e = .returned (.bool (decide (Ie.ab d < 9218868437227405312))) ∧ w' = w := by
  rw [Ie.ab]
  go_enter Tryz.func8, Tryz.ntmps8
  go_wp2_with fail
  go_ret
  exact ⟨rfl, rfl⟩

theorem Ie.cmv_nn (x y : Int) (x0 : 0 ≤ x) (x1 : x ≤ 9218868437227405312) (y0 : 0 ≤ y) (y1 : y ≤ 9218868437227405312) : Ie.cmv x y = Ie.cm x y ∧ (Ie.okd x && Ie.okd y) = true := by
  have o1 : Ie.okd x = true := by rw [Ie.okd, decide_eq_true_iff]; omega
  have o2 : Ie.okd y = true := by rw [Ie.okd, decide_eq_true_iff]; omega
  rw [Ie.cmv, if_pos ⟨o1, o2⟩, Ie.rk, Ie.rk, if_pos (by omega), if_pos (by omega), o1, o2]
  exact ⟨rfl, rfl⟩

set_option maxRecDepth 100000 in
theorem below_any (x y : Int) (w : World) (x0 : 0 ≤ x) (x1 : x ≤ 9218868437227405312) (y0 : 0 ≤ y) (y1 : y ≤ 9218868437227405312) :
    Calls Tryz.prog 20 #[.int .u64 x, .int .u64 y] w fun e w' => e = .returned (.bool (decide (x < y))) ∧ w' = w := by
  have C := compare_any x y w x0 (by omega) y0 (by omega)
  rw [(Ie.cmv_nn x y x0 x1 y0 y1).1, (Ie.cmv_nn x y x0 x1 y0 y1).2] at C
  have C := hid C
  have E : Hid (decide (Ie.cm x y < 0) = decide (x < y)) := by
    rw [Hid, decide_eq_decide, Ie.cm]
    split
    · omega
    · split <;> omega
  generalize Ie.cm x y = c at *
  go_enter Tryz.func20, Tryz.ntmps20
  go_wp2_with fail
  refine C.out.mono ?_
  rintro e w' ⟨rfl, rfl⟩
  go_wp2_with fail
  go_ret
  exact ⟨by rw [← E.out]; rfl, rfl⟩

set_option maxRecDepth 100000 in
theorem atMost_any (x y : Int) (w : World) (x0 : 0 ≤ x) (x1 : x ≤ 9218868437227405312) (y0 : 0 ≤ y) (y1 : y ≤ 9218868437227405312) :
    Calls Tryz.prog 13 #[.int .u64 x, .int .u64 y] w fun e w' => e = .returned (.bool (decide (x ≤ y))) ∧ w' = w := by
  have C := compare_any x y w x0 (by omega) y0 (by omega)
  rw [(Ie.cmv_nn x y x0 x1 y0 y1).1, (Ie.cmv_nn x y x0 x1 y0 y1).2] at C
  have C := hid C
  have E : Hid (decide (Ie.cm x y ≤ 0) = decide (x ≤ y)) := by
    rw [Hid, decide_eq_decide, Ie.cm]
    split
    · omega
    · split <;> omega
  generalize Ie.cm x y = c at *
  go_enter Tryz.func13, Tryz.ntmps13
  go_wp2_with fail
  refine C.out.mono ?_
  rintro e w' ⟨rfl, rfl⟩
  go_wp2_with fail
  go_ret
  exact ⟨by rw [← E.out]; rfl, rfl⟩
end Go.Proofs.YtnfomlkhkggjeaaGreatDoor

/-
  law06: bearers; below and atMost by values (made by mkhjoins.py).
-/
namespace Go.Proofs.YtnfomlkhkggjeaaGreatDoor
open Go Go.RowKit Go.Deep

set_option maxRecDepth 100000 in
set_option maxHeartbeats 4000000 in
theorem bearers_n (d : Int) (w : World) (hT : Tab w) (h0 : 0 ≤ d) (h1 : d < 18446744073709551616) (hk : Ie.isn d = true) :
    Calls Tryz.prog 9 #[.int .u64 d] w fun e w' => e = .returned (.bool true) ∧ Below w.heap.size w w' := by
  have HT := hid hT
  have SP := hid (split_any d w hT h0 h1)
  have TR := hid (fun (wx : World) (hx : Tab wx) => trunc_any d wx hx h0 h1)
  have FL := hid (fun (wx : World) (hx : Tab wx) => floor_any d wx hx h0 h1)
  have CE := hid (fun (wx : World) (hx : Tab wx) => ceil_any d wx hx h0 h1)
  have NE := hid (fun (wx : World) (hx : Tab wx) => near6_any d wx hx h0 h1)
  have dk : d % 9223372036854775808 > 9218868437227405312 := by rw [Ie.isn, decide_eq_true_iff, Ie.ab] at hk; exact hk
  have SI : Hid (∀ r s, Ie.SplitIs d r s → r = 9221120237041090560 ∧ s = 9221120237041090560) := fun r s h => h.1 hk
  have WI : Hid (∀ up r, Ie.WIs d up r → r = 9221120237041090560) := fun up r h => h.1 hk
  clear hT hk
  go_enter Tryz.func9, Tryz.ntmps9
  go_wp2_with fail
  refine SP.out.mono ?_
  rintro e w1 ⟨r, s, rfl, h, hB⟩
  have HB1 := hid hB
  obtain ⟨hr, hs⟩ := SI.out r s h
  subst hr
  subst hs
  clear hB h SP SI
  go_wp2_with fail
  refine (TR.out _ (HT.out.below HB1.out)).mono ?_
  rintro e w2 ⟨r, rfl, h, hB⟩
  have HB2 := hid (HB1.out.trans (hB.mono HB1.out.size))
  have hr := WI.out _ r h
  subst hr
  clear hB h TR HB1
  go_wp2_with fail
  refine (FL.out _ (HT.out.below HB2.out)).mono ?_
  rintro e w3 ⟨r, rfl, h, hB⟩
  have HB3 := hid (HB2.out.trans (hB.mono HB2.out.size))
  have hr := WI.out _ r h
  subst hr
  clear hB h FL HB2
  go_wp2_with fail
  refine (CE.out _ (HT.out.below HB3.out)).mono ?_
  rintro e w4 ⟨r, rfl, h, hB⟩
  have HB4 := hid (HB3.out.trans (hB.mono HB3.out.size))
  have hr := WI.out _ r h
  subst hr
  clear hB h CE HB3
  go_wp2_with fail
  refine (NE.out _ (HT.out.below HB4.out)).mono ?_
  rintro e w5 ⟨r, rfl, h, hB⟩
  have HB5 := hid (HB4.out.trans (hB.mono HB4.out.size))
  have hr := WI.out _ r h
  subst hr
  clear hB h NE HB4
  go_wp2_with fail
  go_ret
  exact ⟨by first | rfl | simp, HB5.out⟩

set_option maxRecDepth 100000 in
set_option maxHeartbeats 4000000 in
theorem bearers_i (d : Int) (w : World) (hT : Tab w) (h0 : 0 ≤ d) (h1 : d < 18446744073709551616) (hk : Ie.isi d = true) :
    Calls Tryz.prog 9 #[.int .u64 d] w fun e w' => e = .returned (.bool true) ∧ Below w.heap.size w w' := by
  have HT := hid hT
  have SP := hid (split_any d w hT h0 h1)
  have TR := hid (fun (wx : World) (hx : Tab wx) => trunc_any d wx hx h0 h1)
  have FL := hid (fun (wx : World) (hx : Tab wx) => floor_any d wx hx h0 h1)
  have CE := hid (fun (wx : World) (hx : Tab wx) => ceil_any d wx hx h0 h1)
  have NE := hid (fun (wx : World) (hx : Tab wx) => near6_any d wx hx h0 h1)
  have dk : ¬ d % 9223372036854775808 > 9218868437227405312 := by rw [Ie.isi, decide_eq_true_iff, Ie.ab] at hk; omega
  obtain ⟨q, hq⟩ : ∃ q, IntKind.u64.wrap (d - 9218868437227405312) = q := ⟨_, rfl⟩
  have dge : 9218868437227405312 ≤ d := by rw [Ie.isi, decide_eq_true_iff, Ie.ab] at hk; omega
  have SI : Hid (∀ r s, Ie.SplitIs d r s → r = d ∧ s = d - 9218868437227405312) := by
    intro r s h
    refine ⟨(h.2.1 hk).1, ?_⟩
    rw [(h.2.1 hk).2]
    have e := Ie.sg_ab d h0 h1
    rw [Ie.isi, decide_eq_true_iff] at hk
    rw [hk] at e
    cases N : Ie.ngd d <;> rw [N] at e <;> simp only [Ie.sg, Bool.false_eq_true, if_true, if_false] at e ⊢ <;> omega
  have WI : Hid (∀ up r, Ie.WIs d up r → r = d) := fun up r h => h.2.1 hk
  clear hq
  clear hT hk
  go_enter Tryz.func9, Tryz.ntmps9
  go_wp2_with fail
  refine SP.out.mono ?_
  rintro e w1 ⟨r, s, rfl, h, hB⟩
  have HB1 := hid hB
  obtain ⟨hr, hs⟩ := SI.out r s h
  replace hr := hr.symm
  subst hr
  subst hs
  clear hB h SP SI
  go_wp2_with fail
  refine (TR.out _ (HT.out.below HB1.out)).mono ?_
  rintro e w2 ⟨r, rfl, h, hB⟩
  have HB2 := hid (HB1.out.trans (hB.mono HB1.out.size))
  have hr := WI.out _ r h
  replace hr := hr.symm
  subst hr
  clear hB h TR HB1
  go_wp2_with fail
  refine (FL.out _ (HT.out.below HB2.out)).mono ?_
  rintro e w3 ⟨r, rfl, h, hB⟩
  have HB3 := hid (HB2.out.trans (hB.mono HB2.out.size))
  have hr := WI.out _ r h
  replace hr := hr.symm
  subst hr
  clear hB h FL HB2
  go_wp2_with fail
  refine (CE.out _ (HT.out.below HB3.out)).mono ?_
  rintro e w4 ⟨r, rfl, h, hB⟩
  have HB4 := hid (HB3.out.trans (hB.mono HB3.out.size))
  have hr := WI.out _ r h
  replace hr := hr.symm
  subst hr
  clear hB h CE HB3
  go_wp2_with fail
  refine (NE.out _ (HT.out.below HB4.out)).mono ?_
  rintro e w5 ⟨r, rfl, h, hB⟩
  have HB5 := hid (HB4.out.trans (hB.mono HB4.out.size))
  have hr := WI.out _ r h
  replace hr := hr.symm
  subst hr
  clear hB h NE HB4
  go_wp2_with fail
  go_ret
  exact ⟨by first | rfl | simp, HB5.out⟩

theorem bearers_any (d : Int) (w : World) (hT : Tab w) (h0 : 0 ≤ d) (h1 : d < 18446744073709551616) (hk : ¬ Ie.fin d) :
    Calls Tryz.prog 9 #[.int .u64 d] w fun e w' => e = .returned (.bool true) ∧ Below w.heap.size w w' := by
  rcases Ie.kinds d with h | ⟨_, h, _⟩ | ⟨_, _, h⟩
  · exact bearers_n d w hT h0 h1 h
  · exact bearers_i d w hT h0 h1 h
  · exact absurd h hk

set_option maxRecDepth 100000 in
theorem belowU_any (x y : Int) (w : World) (x0 : 0 ≤ x) (x1 : x < 18446744073709551616) (y0 : 0 ≤ y) (y1 : y < 18446744073709551616) (nx : Ie.isn x = false) (ny : Ie.isn y = false) :
    Calls Tryz.prog 20 #[.int .u64 x, .int .u64 y] w fun e w' => e = .returned (.bool (decide (Ie.uv x < Ie.uv y))) ∧ w' = w := by
  have C := compare_any x y w x0 x1 y0 y1
  have F := Ie.cmv_uv x0 x1 y0 y1 nx ny
  rw [F.1] at C
  have C := hid C
  have E : Hid (decide (Ie.cmv x y < 0) = decide (Ie.uv x < Ie.uv y)) := by rw [Hid, decide_eq_decide]; exact F.2.1
  clear F
  generalize Ie.cmv x y = c at *
  go_enter Tryz.func20, Tryz.ntmps20
  go_wp2_with fail
  refine C.out.mono ?_
  rintro e w' ⟨rfl, rfl⟩
  go_wp2_with fail
  go_ret
  exact ⟨by rw [← E.out]; rfl, rfl⟩

set_option maxRecDepth 100000 in
theorem atMostU_any (x y : Int) (w : World) (x0 : 0 ≤ x) (x1 : x < 18446744073709551616) (y0 : 0 ≤ y) (y1 : y < 18446744073709551616) (nx : Ie.isn x = false) (ny : Ie.isn y = false) :
    Calls Tryz.prog 13 #[.int .u64 x, .int .u64 y] w fun e w' => e = .returned (.bool (decide (Ie.uv x ≤ Ie.uv y))) ∧ w' = w := by
  have C := compare_any x y w x0 x1 y0 y1
  have F := Ie.cmv_uv x0 x1 y0 y1 nx ny
  rw [F.1] at C
  have C := hid C
  have E : Hid (decide (Ie.cmv x y ≤ 0) = decide (Ie.uv x ≤ Ie.uv y)) := by rw [Hid, decide_eq_decide]; exact F.2.2.1
  clear F
  generalize Ie.cmv x y = c at *
  go_enter Tryz.func13, Tryz.ntmps13
  go_wp2_with fail
  refine C.out.mono ?_
  rintro e w' ⟨rfl, rfl⟩
  go_wp2_with fail
  go_ret
  exact ⟨by rw [← E.out]; rfl, rfl⟩

end Go.Proofs.YtnfomlkhkggjeaaGreatDoor

/-
  RemainJoins (made by mkhjoins.py).
-/
namespace Go.Proofs.YtnfomlkhkggjeaaGreatDoor
open Go Go.RowKit Go.Deep

set_option maxRecDepth 100000 in
set_option maxHeartbeats 4000000 in
theorem RemainJoins_out (d : Int) (w : World) (hT : Tab w) (h0 : 0 ≤ d) (h1 : d < 18446744073709551616) (hk : ¬ Ie.fin d) :
    Calls Tryz.prog 5 #[.int .u64 d] w fun e w' => e = .returned (.bool true) ∧ Below w.heap.size w w' := by
  have AWK := hid (hawake_any w hT)
  have HT := hid hT
  have FI := hid (fun (wx : World) => hfinite_any d wx h0)
  rw [decide_eq_false (show ¬ Ie.ab d < 9218868437227405312 from hk)] at FI
  have BE := hid (fun (wx : World) (hx : Tab wx) => bearers_any d wx hx h0 h1 hk)
  clear hT hk
  go_enter Tryz.func5, Tryz.ntmps5
  go_wp2_with fail
  refine AWK.out.mono ?_
  rintro e w1 ⟨rfl, hB⟩
  have HB1 := hid hB
  clear hB AWK
  go_wp2_with fail
  refine (FI.out _).mono ?_
  rintro e wz ⟨rfl, hz⟩
  replace hz := hz.symm
  subst hz
  clear FI
  go_wp2_with fail
  refine (BE.out _ (HT.out.below HB1.out)).mono ?_
  rintro e w2 ⟨rfl, hB⟩
  have HB2 := hid (HB1.out.trans (hB.mono HB1.out.size))
  clear hB BE
  go_wp2_with fail
  go_ret
  exact ⟨rfl, HB2.out⟩

set_option maxRecDepth 100000 in
set_option maxHeartbeats 4000000 in
theorem RemainJoins_main (d : Int) (w : World) (hT : Tab w) (h0 : 0 ≤ d) (h1 : d < 18446744073709551616) (hf : Ie.fin d) :
    Calls Tryz.prog 5 #[.int .u64 d] w fun e w' => e = .returned (.bool true) ∧ Below w.heap.size w w' := by
  have AWK := hid (hawake_any w hT)
  have HT := hid hT
  have FI := hid (fun (wx : World) => hfinite_any d wx h0)
  rw [decide_eq_true (show Ie.ab d < 9218868437227405312 from hf)] at FI
  have SP := hid (fun (wx : World) (hx : Tab wx) => split_any d wx hx h0 h1)
  obtain ⟨q, hq⟩ : ∃ q, d / 9223372036854775808 = q := ⟨_, rfl⟩
  have SI : Hid (∀ r s, Ie.SplitIs d r s → (0 ≤ r ∧ r < 18446744073709551616) ∧ (0 ≤ s ∧ s < 18446744073709551616) ∧ r / 9223372036854775808 = q ∧ s / 9223372036854775808 = q ∧ Ie.intg r = true ∧ (∃ z, Ie.ab s = z ∧ 0 ≤ z ∧ z < 4607182418800017408) ∧ (∀ t f, Ie.AddIs r s t f → t = d ∧ f = 0)) := by
    intro r s h
    obtain ⟨y, z, rfl, rfl, y0, y1, hy, z0, z1, hz⟩ := h.2.2 hf
    obtain ⟨a1, a2, a3, a4, a5, -⟩ := Ie.sg_all (Ie.ngd d) y y0 (by omega)
    obtain ⟨b1, b2, b3, b4, b5, -⟩ := Ie.sg_all (Ie.ngd d) z z0 (by omega)
    have ed := Ie.dv_ngd d h0 h1
    refine ⟨⟨a3, a4⟩, ⟨b3, b4⟩, by rw [a5, ← ed, hq], by rw [b5, ← ed, hq], ?_, ⟨z, b1, z0, ?_⟩, fun t f ht => Ie.join_sum h0 h1 hf y0 y1 hy z0 z1 hz ht⟩
    · rw [Ie.intg_iff_un (Ie.fin_sg y0 y1), a1, hy]
      exact Int.mul_emod_left _ _
    · have hp := Nm.two_pos 1074
      have lt : Ie.un z < Ie.un 4607182418800017408 := by rw [Ie.un_1074, hz]; exact Int.emod_lt_of_pos _ hp
      rcases (show z < 4607182418800017408 ∨ 4607182418800017408 ≤ z by omega) with g | g
      · exact g
      · have := Ie.un_le (by omega) g; omega
  clear hT hf
  go_enter Tryz.func5, Tryz.ntmps5
  go_wp2_with fail
  refine AWK.out.mono ?_
  rintro e w1 ⟨rfl, hB⟩
  have HB1 := hid hB
  clear hB AWK
  go_wp2_with fail
  refine (FI.out _).mono ?_
  rintro e wz ⟨rfl, hz⟩
  replace hz := hz.symm
  subst hz
  clear FI
  go_wp2_with fail
  refine (SP.out _ (HT.out.below HB1.out)).mono ?_
  rintro e w2 ⟨r, s, rfl, h, hB⟩
  have HB2 := hid (HB1.out.trans (hB.mono HB1.out.size))
  obtain ⟨⟨r0, r1⟩, ⟨s0, s1⟩, rq, sq, ri, ⟨z, hz, z0, z1⟩, SU⟩ := SI.out r s h
  have TO := hid (fun (wx : World) (hx : Tab wx) => toldAdd r s 0 wx r0 r1 s0 s1 hx)
  have IG := hid (fun (wx : World) (hx : Tab wx) => integral_any r wx hx r0 r1)
  rw [ri] at IG
  have AB := hid (fun (wx : World) => abs_any s wx s0 s1)
  rw [← Ie.ab, hz] at AB
  have BL := hid (fun (wx : World) => below_any z 4607182418800017408 wx z0 (by omega) (by omega) (by omega))
  rw [decide_eq_true z1] at BL
  have HS := hid SU
  clear hB h SP SI HB1 ri hz SU z0 z1
  go_wp2_with fail
  refine (TO.out _ (HT.out.below HB2.out)).mono ?_
  rintro e w3 ⟨t, f, rfl, h, hB⟩
  have HB3 := hid (HB2.out.trans (hB.mono HB2.out.size))
  obtain ⟨ht, rfl⟩ := HS.out t f h
  replace ht := ht.symm
  subst ht
  clear hB h TO HS HB2
  go_wp2_with fail
  refine (IG.out _ (HT.out.below HB3.out)).mono ?_
  rintro e w4 ⟨rfl, hB⟩
  have HB4 := hid (HB3.out.trans (hB.mono HB3.out.size))
  clear hB IG HB3
  go_wp2_with fail
  refine (AB.out _).mono ?_
  rintro e wz ⟨rfl, hz⟩
  replace hz := hz.symm
  subst hz
  go_wp2_with fail
  refine (BL.out _).mono ?_
  rintro e wz ⟨rfl, hz⟩
  replace hz := hz.symm
  subst hz
  clear AB BL
  go_wp2_with fail
  go_ret
  exact ⟨by first | rfl | simp, HB4.out⟩

theorem joins_law (d : Int) (w : World) (hT : Tab w) (h0 : 0 ≤ d) (h1 : d < 18446744073709551616) :
    Calls Tryz.prog 5 #[.int .u64 d] w fun e w' => e = .returned (.bool true) ∧ Below w.heap.size w w' := by
  by_cases h : Ie.fin d
  · exact RemainJoins_main d w hT h0 h1 h
  · exact RemainJoins_out d w hT h0 h1 h
end Go.Proofs.YtnfomlkhkggjeaaGreatDoor
