/-
  Texts put together: HOrd, HBear, HFloorN, HFloors.
-/
import Derived.Test.YtnfomlkhkggjeaaGreatDoorMPw
import Derived.Test.YtnfomlkhkggjeaaGreatDoorHN
/-
  law06: finite, below, atMost (made by mkhunits.py).
-/
namespace Go.Proofs.YtnfomlkhkggjeaaGreatDoor
open Go Go.RowKit Go.Deep

set_option maxRecDepth 100000 in
theorem hfinite_any (d : Int) (w : World) (h0 : 0 ≤ d) :
    Calls Tryz.prog 8 #[.int .u64 d] w fun e w' => e = .returned (.bool (decide (Ie.ab d < 9218868437227405312))) ∧ w' = w := by
  rw [Ie.ab]
  go_enter Tryz.func8, Tryz.ntmps8
  go_wp2_with fail
  go_ret
  exact ⟨rfl, rfl⟩

theorem Ie.cmv_nn (x y : Int) (x0 : 0 ≤ x) (x1 : x ≤ 9218868437227405312) (y0 : 0 ≤ y) (y1 : y ≤ 9218868437227405312) : Ie.cmv x y = Ie.cm x y ∧ (Ie.okd x && Ie.okd y) = true := by
  have o1 : Ie.okd x = true := by rw [Ie.okd, decide_eq_true_iff]; omega
  have o2 : Ie.okd y = true := by rw [Ie.okd, decide_eq_true_iff]; omega
  rw [Ie.cmv, if_pos ⟨o1, o2⟩, Ie.rk, Ie.rk, if_pos (by omega), if_pos (by omega), o1, o2]
  exact ⟨rfl, rfl⟩

set_option maxRecDepth 100000 in
theorem below_any (x y : Int) (w : World) (x0 : 0 ≤ x) (x1 : x ≤ 9218868437227405312) (y0 : 0 ≤ y) (y1 : y ≤ 9218868437227405312) :
    Calls Tryz.prog 20 #[.int .u64 x, .int .u64 y] w fun e w' => e = .returned (.bool (decide (x < y))) ∧ w' = w := by
  have C := compare_any x y w x0 (by omega) y0 (by omega)
  rw [(Ie.cmv_nn x y x0 x1 y0 y1).1, (Ie.cmv_nn x y x0 x1 y0 y1).2] at C
  have C := hid C
  have E : Hid (decide (Ie.cm x y < 0) = decide (x < y)) := by
    rw [Hid, decide_eq_decide, Ie.cm]
    split
    · omega
    · split <;> omega
  generalize Ie.cm x y = c at *
  go_enter Tryz.func20, Tryz.ntmps20
  go_wp2_with fail
  refine C.out.mono ?_
  rintro e w' ⟨rfl, rfl⟩
  go_wp2_with fail
  go_ret
  exact ⟨by rw [← E.out]; rfl, rfl⟩

set_option maxRecDepth 100000 in
theorem atMost_any (x y : Int) (w : World) (x0 : 0 ≤ x) (x1 : x ≤ 9218868437227405312) (y0 : 0 ≤ y) (y1 : y ≤ 9218868437227405312) :
    Calls Tryz.prog 13 #[.int .u64 x, .int .u64 y] w fun e w' => e = .returned (.bool (decide (x ≤ y))) ∧ w' = w := by
  have C := compare_any x y w x0 (by omega) y0 (by omega)
  rw [(Ie.cmv_nn x y x0 x1 y0 y1).1, (Ie.cmv_nn x y x0 x1 y0 y1).2] at C
  have C := hid C
  have E : Hid (decide (Ie.cm x y ≤ 0) = decide (x ≤ y)) := by
    rw [Hid, decide_eq_decide, Ie.cm]
    split
    · omega
    · split <;> omega
  generalize Ie.cm x y = c at *
  go_enter Tryz.func13, Tryz.ntmps13
  go_wp2_with fail
  refine C.out.mono ?_
  rintro e w' ⟨rfl, rfl⟩
  go_wp2_with fail
  go_ret
  exact ⟨by rw [← E.out]; rfl, rfl⟩
end Go.Proofs.YtnfomlkhkggjeaaGreatDoor

/-
  law06: bearers; below and atMost by values (made by mkhjoins.py).
-/
namespace Go.Proofs.YtnfomlkhkggjeaaGreatDoor
open Go Go.RowKit Go.Deep

set_option maxRecDepth 100000 in
set_option maxHeartbeats 4000000 in
theorem bearers_n (d : Int) (w : World) (hT : Tab w) (h0 : 0 ≤ d) (h1 : d < 18446744073709551616) (hk : Ie.isn d = true) :
    Calls Tryz.prog 9 #[.int .u64 d] w fun e w' => e = .returned (.bool true) ∧ Below w.heap.size w w' := by
  have HT := hid hT
  have SP := hid (split_any d w hT h0 h1)
  have TR := hid (fun (wx : World) (hx : Tab wx) => trunc_any d wx hx h0 h1)
  have FL := hid (fun (wx : World) (hx : Tab wx) => floor_any d wx hx h0 h1)
  have CE := hid (fun (wx : World) (hx : Tab wx) => ceil_any d wx hx h0 h1)
  have NE := hid (fun (wx : World) (hx : Tab wx) => near6_any d wx hx h0 h1)
  have dk : d % 9223372036854775808 > 9218868437227405312 := by rw [Ie.isn, decide_eq_true_iff, Ie.ab] at hk; exact hk
  have SI : Hid (∀ r s, Ie.SplitIs d r s → r = 9221120237041090560 ∧ s = 9221120237041090560) := fun r s h => h.1 hk
  have WI : Hid (∀ up r, Ie.WIs d up r → r = 9221120237041090560) := fun up r h => h.1 hk
  clear hT hk
  go_enter Tryz.func9, Tryz.ntmps9
  go_wp2_with fail
  refine SP.out.mono ?_
  rintro e w1 ⟨r, s, rfl, h, hB⟩
  have HB1 := hid hB
  obtain ⟨hr, hs⟩ := SI.out r s h
  subst hr
  subst hs
  clear hB h SP SI
  go_wp2_with fail
  refine (TR.out _ (HT.out.below HB1.out)).mono ?_
  rintro e w2 ⟨r, rfl, h, hB⟩
  have HB2 := hid (HB1.out.trans (hB.mono HB1.out.size))
  have hr := WI.out _ r h
  subst hr
  clear hB h TR HB1
  go_wp2_with fail
  refine (FL.out _ (HT.out.below HB2.out)).mono ?_
  rintro e w3 ⟨r, rfl, h, hB⟩
  have HB3 := hid (HB2.out.trans (hB.mono HB2.out.size))
  have hr := WI.out _ r h
  subst hr
  clear hB h FL HB2
  go_wp2_with fail
  refine (CE.out _ (HT.out.below HB3.out)).mono ?_
  rintro e w4 ⟨r, rfl, h, hB⟩
  have HB4 := hid (HB3.out.trans (hB.mono HB3.out.size))
  have hr := WI.out _ r h
  subst hr
  clear hB h CE HB3
  go_wp2_with fail
  refine (NE.out _ (HT.out.below HB4.out)).mono ?_
  rintro e w5 ⟨r, rfl, h, hB⟩
  have HB5 := hid (HB4.out.trans (hB.mono HB4.out.size))
  have hr := WI.out _ r h
  subst hr
  clear hB h NE HB4
  go_wp2_with fail
  go_ret
  exact ⟨by first | rfl | simp, HB5.out⟩

set_option maxRecDepth 100000 in
set_option maxHeartbeats 4000000 in
theorem bearers_i (d : Int) (w : World) (hT : Tab w) (h0 : 0 ≤ d) (h1 : d < 18446744073709551616) (hk : Ie.isi d = true) :
    Calls Tryz.prog 9 #[.int .u64 d] w fun e w' => e = .returned (.bool true) ∧ Below w.heap.size w w' := by
  have HT := hid hT
  have SP := hid (split_any d w hT h0 h1)
  have TR := hid (fun (wx : World) (hx : Tab wx) => trunc_any d wx hx h0 h1)
  have FL := hid (fun (wx : World) (hx : Tab wx) => floor_any d wx hx h0 h1)
  have CE := hid (fun (wx : World) (hx : Tab wx) => ceil_any d wx hx h0 h1)
  have NE := hid (fun (wx : World) (hx : Tab wx) => near6_any d wx hx h0 h1)
  have dk : ¬ d % 9223372036854775808 > 9218868437227405312 := by rw [Ie.isi, decide_eq_true_iff, Ie.ab] at hk; omega
  obtain ⟨q, hq⟩ : ∃ q, IntKind.u64.wrap (d - 9218868437227405312) = q := ⟨_, rfl⟩
  have dge : 9218868437227405312 ≤ d := by rw [Ie.isi, decide_eq_true_iff, Ie.ab] at hk; omega
  have SI : Hid (∀ r s, Ie.SplitIs d r s → r = d ∧ s = d - 9218868437227405312) := by
    intro r s h
    refine ⟨(h.2.1 hk).1, ?_⟩
    rw [(h.2.1 hk).2]
    have e := Ie.sg_ab d h0 h1
    rw [Ie.isi, decide_eq_true_iff] at hk
    rw [hk] at e
    cases N : Ie.ngd d <;> rw [N] at e <;> simp only [Ie.sg, Bool.false_eq_true, if_true, if_false] at e ⊢ <;> omega
  have WI : Hid (∀ up r, Ie.WIs d up r → r = d) := fun up r h => h.2.1 hk
  clear hq
  clear hT hk
  go_enter Tryz.func9, Tryz.ntmps9
  go_wp2_with fail
  refine SP.out.mono ?_
  rintro e w1 ⟨r, s, rfl, h, hB⟩
  have HB1 := hid hB
  obtain ⟨hr, hs⟩ := SI.out r s h
  replace hr := hr.symm
  subst hr
  subst hs
  clear hB h SP SI
  go_wp2_with fail
  refine (TR.out _ (HT.out.below HB1.out)).mono ?_
  rintro e w2 ⟨r, rfl, h, hB⟩
  have HB2 := hid (HB1.out.trans (hB.mono HB1.out.size))
  have hr := WI.out _ r h
  replace hr := hr.symm
  subst hr
  clear hB h TR HB1
  go_wp2_with fail
  refine (FL.out _ (HT.out.below HB2.out)).mono ?_
  rintro e w3 ⟨r, rfl, h, hB⟩
  have HB3 := hid (HB2.out.trans (hB.mono HB2.out.size))
  have hr := WI.out _ r h
  replace hr := hr.symm
  subst hr
  clear hB h FL HB2
  go_wp2_with fail
  refine (CE.out _ (HT.out.below HB3.out)).mono ?_
  rintro e w4 ⟨r, rfl, h, hB⟩
  have HB4 := hid (HB3.out.trans (hB.mono HB3.out.size))
  have hr := WI.out _ r h
  replace hr := hr.symm
  subst hr
  clear hB h CE HB3
  go_wp2_with fail
  refine (NE.out _ (HT.out.below HB4.out)).mono ?_
  rintro e w5 ⟨r, rfl, h, hB⟩
  have HB5 := hid (HB4.out.trans (hB.mono HB4.out.size))
  have hr := WI.out _ r h
  replace hr := hr.symm
  subst hr
  clear hB h NE HB4
  go_wp2_with fail
  go_ret
  exact ⟨by first | rfl | simp, HB5.out⟩

theorem bearers_any (d : Int) (w : World) (hT : Tab w) (h0 : 0 ≤ d) (h1 : d < 18446744073709551616) (hk : ¬ Ie.fin d) :
    Calls Tryz.prog 9 #[.int .u64 d] w fun e w' => e = .returned (.bool true) ∧ Below w.heap.size w w' := by
  rcases Ie.kinds d with h | ⟨_, h, _⟩ | ⟨_, _, h⟩
  · exact bearers_n d w hT h0 h1 h
  · exact bearers_i d w hT h0 h1 h
  · exact absurd h hk

set_option maxRecDepth 100000 in
theorem belowU_any (x y : Int) (w : World) (x0 : 0 ≤ x) (x1 : x < 18446744073709551616) (y0 : 0 ≤ y) (y1 : y < 18446744073709551616) (nx : Ie.isn x = false) (ny : Ie.isn y = false) :
    Calls Tryz.prog 20 #[.int .u64 x, .int .u64 y] w fun e w' => e = .returned (.bool (decide (Ie.uv x < Ie.uv y))) ∧ w' = w := by
  have C := compare_any x y w x0 x1 y0 y1
  have F := Ie.cmv_uv x0 x1 y0 y1 nx ny
  rw [F.1] at C
  have C := hid C
  have E : Hid (decide (Ie.cmv x y < 0) = decide (Ie.uv x < Ie.uv y)) := by rw [Hid, decide_eq_decide]; exact F.2.1
  clear F
  generalize Ie.cmv x y = c at *
  go_enter Tryz.func20, Tryz.ntmps20
  go_wp2_with fail
  refine C.out.mono ?_
  rintro e w' ⟨rfl, rfl⟩
  go_wp2_with fail
  go_ret
  exact ⟨by rw [← E.out]; rfl, rfl⟩

set_option maxRecDepth 100000 in
theorem atMostU_any (x y : Int) (w : World) (x0 : 0 ≤ x) (x1 : x < 18446744073709551616) (y0 : 0 ≤ y) (y1 : y < 18446744073709551616) (nx : Ie.isn x = false) (ny : Ie.isn y = false) :
    Calls Tryz.prog 13 #[.int .u64 x, .int .u64 y] w fun e w' => e = .returned (.bool (decide (Ie.uv x ≤ Ie.uv y))) ∧ w' = w := by
  have C := compare_any x y w x0 x1 y0 y1
  have F := Ie.cmv_uv x0 x1 y0 y1 nx ny
  rw [F.1] at C
  have C := hid C
  have E : Hid (decide (Ie.cmv x y ≤ 0) = decide (Ie.uv x ≤ Ie.uv y)) := by rw [Hid, decide_eq_decide]; exact F.2.2.1
  clear F
  generalize Ie.cmv x y = c at *
  go_enter Tryz.func13, Tryz.ntmps13
  go_wp2_with fail
  refine C.out.mono ?_
  rintro e w' ⟨rfl, rfl⟩
  go_wp2_with fail
  go_ret
  exact ⟨by rw [← E.out]; rfl, rfl⟩

end Go.Proofs.YtnfomlkhkggjeaaGreatDoor

/-
  RemainFloors in numbers (made by mkhfloors.py).
-/
namespace Go.Proofs.YtnfomlkhkggjeaaGreatDoor
namespace Ie

/-- The whole number beside d, up or not. -/
structure Side (d : Int) (up : Bool) (r y : Int) : Prop where
  eq : r = sg (ngd d) y
  y0 : 0 ≤ y
  y1 : y < 9218868437227405312
  un : un y = wup (un (ab d) / 2 ^ 1074) up * 2 ^ 1074

theorem side_of {d r : Int} {up : Bool} (hf : fin d) (hi : intg d = false) (h : WIs d up r) : ∃ y, Side d up r y := by
  obtain ⟨y, hr, y0, y1, -, q⟩ := h.2.2 hf
  exact ⟨y, hr, y0, y1, q hi⟩

theorem Side.one {d r r' y y' : Int} {up : Bool} (h : Side d up r y) (h' : Side d up r' y') : r = r' := by
  rw [h.eq, h'.eq, un_inj h.y0 h'.y0 (by rw [h.un, h'.un])]

theorem Side.all {d r y : Int} {up : Bool} (h : Side d up r y) : (0 ≤ r ∧ r < 18446744073709551616) ∧ fin r ∧ isn r = false ∧ ngd r = ngd d ∧ ab r = y ∧ uv r = sn (ngd d) (wup (Ie.un (ab d) / 2 ^ 1074) up * 2 ^ 1074) ∧ intg r = true := by
  obtain ⟨a1, a2, a3, a4, -, a6⟩ := sg_all (ngd d) y h.y0 (by have := h.y1; omega)
  rw [h.eq]
  refine ⟨⟨a3, a4⟩, fin_sg h.y0 h.y1, a6, a2, a1, by rw [uv_sg _ _ h.y0 (by have := h.y1; omega), h.un], ?_⟩
  rw [intg_iff_un (fin_sg h.y0 h.y1), a1, h.un]
  exact Int.mul_emod_left _ _

/-- Two numbers a step apart, and d between them. -/
theorem ite_nn (N : Bool) {a b : Int} (ha : 0 ≤ a) (hb : 0 ≤ b) : 0 ≤ if N = true then a else b := by split <;> assumption

theorem steps_of (N : Bool) (U : Int) (P : Int) (W F : Int) (hU : W * P + F = U) :
    sn N (wup W N * P) + P = sn N (wup W (!N) * P) ∧ sn N U + -sn N (wup W N * P) = (if N = true then P - F else F) ∧ sn N (wup W (!N) * P) + -sn N U = (if N = true then F else P - F) := by
  have e : (W + 1) * P = W * P + P := by rw [Int.add_mul, Int.one_mul]
  cases N
  · simp only [sn_false, wup, Bool.false_eq_true, if_false, Bool.not_false, if_true]
    rw [e]; omega
  · simp only [sn_true, wup, Bool.false_eq_true, if_false, Bool.not_true, if_true]
    rw [e]; omega

theorem wup_nn {W : Int} (up : Bool) (h0 : 0 ≤ W) : 0 ≤ wup W up := by rw [wup]; split <;> omega

/-- All that RemainFloors asks of a number that isn't whole. -/
structure Floors (d lo hi : Int) : Prop where
  lob : 0 ≤ lo ∧ lo < 18446744073709551616
  hib : 0 ≤ hi ∧ hi < 18446744073709551616
  lon : isn lo = false
  hin : isn hi = false
  loi : intg lo = true
  hii : intg hi = true
  le1 : uv lo ≤ uv d
  le2 : uv d ≤ uv hi
  step : ∀ s f, AddIs lo 4607182418800017408 s f → (0 ≤ s ∧ s < 18446744073709551616) ∧ isn s = false ∧ uv s = uv hi
  los : lo / 9223372036854775808 = d / 9223372036854775808
  his : hi / 9223372036854775808 = d / 9223372036854775808
  cut : ∀ r, WIs d false r → r = if ngd d = true then hi else lo
  down : ∀ s f, AddIs d (ng lo) s f → (0 ≤ s ∧ s < 18446744073709551616) ∧ isn s = false ∧ Fl (if ngd d = true then 2 ^ 1074 - un (ab d) % 2 ^ 1074 else un (ab d) % 2 ^ 1074) (uv s)
  up : ∀ s f, AddIs hi (ng d) s f → (0 ≤ s ∧ s < 18446744073709551616) ∧ isn s = false ∧ Fl (if ngd d = true then un (ab d) % 2 ^ 1074 else 2 ^ 1074 - un (ab d) % 2 ^ 1074) (uv s)
  half : ∀ h, ScaleIs lo (-1) h → (0 ≤ h ∧ h < 18446744073709551616) ∧ (intg h = true ↔ wup (un (ab d) / 2 ^ 1074) (ngd d) % 2 = 0)

theorem half_of {lo h A y : Int} (hlo : fin lo) (hy : ab lo = y) (hu : un y = A * 2 ^ 1074) (a0 : 0 ≤ A) (a1 : A < 9007199254740992) (hs : ScaleIs lo (-1) h) : (0 ≤ h ∧ h < 18446744073709551616) ∧ (intg h = true ↔ A % 2 = 0) := by
  obtain ⟨z, hz, hR⟩ := hs.2.2 hlo
  obtain ⟨-, ⟨e0, e1⟩, gd, -⟩ := dec_f lo hlo
  obtain ⟨k, hk⟩ : ∃ k : Nat, (k : Int) = de lo + 1074 := ⟨(de lo + 1074).toNat, by omega⟩
  obtain ⟨v, v0, v1, hv⟩ := un_rep 1073 A a0 a1 (by omega)
  have hR2 : Rnd A 1 (-1) false v := by
    refine rnd_vl A (-1) v false 1074 0 (by omega) v0 v1 ?_
    rw [vl_un, hv, Int.pow_zero, Int.mul_one, show (1074 : Nat) = 1073 + 1 by rfl, Nm.two_succ]
    exact Int.mul_left_comm _ _ _
  have key : dm lo * 2 ^ k = A * 2 ^ 1074 := by rw [gd k hk, hy, hu]
  have ez : z = v := same_rnd hR hR2 (a := k) (a' := 1074) (by omega) key
  rw [ez] at hz
  obtain ⟨q1, -, q3, q4, -, -⟩ := sg_all (ngd lo) v v0 (by omega)
  rw [hz]
  refine ⟨⟨q3, q4⟩, ?_⟩
  rw [intg_iff_un (fin_sg v0 v1), q1, hv]
  have hp := Nm.two_pos 1073
  have h73 : (2 : Int) ^ 1074 = 2 * 2 ^ 1073 := Nm.two_succ 1073
  rw [h73, emod_scale _ _ _ hp]
  constructor
  · intro g
    rcases Int.mul_eq_zero.1 g with k | k
    · exact k
    · omega
  · intro g; rw [g, Int.zero_mul]

theorem floors_of {d lo hi : Int} (h0 : 0 ≤ d) (h1 : d < 18446744073709551616) (hf : fin d) (hi' : intg d = false) (hl : WIs d (ngd d) lo) (hh : WIs d (!ngd d) hi) : Floors d lo hi := by
  obtain ⟨a, sa⟩ := side_of hf hi' hl
  obtain ⟨b, sb'⟩ := side_of hf hi' hh
  obtain ⟨la, lf, ln, lg, lab, lu, li⟩ := sa.all
  obtain ⟨ha, hhf, hn, hg, hab, hu, hhi⟩ := sb'.all
  have hp := Nm.two_pos 1074
  have f0 := Int.emod_nonneg (un (ab d)) (show (2 : Int) ^ 1074 ≠ 0 by omega)
  have f1 := Int.emod_lt_of_pos (un (ab d)) hp
  have W := un_half hf hi'
  obtain ⟨s1, s2, s3⟩ := steps_of (ngd d) (un (ab d)) (2 ^ 1074) (un (ab d) / 2 ^ 1074) (un (ab d) % 2 ^ 1074) (div_mod _ _)
  rw [← lu, ← hu] at s1
  have ud : uv d = sn (ngd d) (un (ab d)) := rfl
  rw [← ud, ← lu] at s2
  rw [← hu, ← ud] at s3
  have one : uv 4607182418800017408 = 2 ^ 1074 := by
    rw [uv, show ngd 4607182418800017408 = false by decide, sn_false, show ab 4607182418800017408 = 4607182418800017408 by decide, un_1074]
  have fo : fin 4607182418800017408 := by rw [fin]; decide
  obtain ⟨ng1, ng2, ng3, -, -⟩ := uv_ng la.1 la.2
  obtain ⟨nd1, nd2, nd3, -, -⟩ := uv_ng h0 h1
  refine ⟨la, ha, ln, hn, li, hhi, ?_, ?_, fun s f hs => ?_, ?_, ?_, fun r hr => ?_, fun s f hs => ?_, fun s f hs => ?_, fun h hs => ?_⟩
  · have : 0 ≤ uv d + -uv lo := by rw [s2]; exact ite_nn _ (Int.sub_nonneg_of_le (Int.le_of_lt f1)) f0
    omega
  · have : 0 ≤ uv hi + -uv d := by rw [s3]; exact ite_nn _ f0 (Int.sub_nonneg_of_le (Int.le_of_lt f1))
    omega
  · have q := hs.rs lf fo
    rw [one, s1] at q
    obtain ⟨q1, q2, q3, q4⟩ := rs_fl q
    refine ⟨⟨q3, q4⟩, q2, q1.exact ⟨b, sb'.y0, sb'.y1, ?_⟩⟩
    rw [hu, az_sn _ _ (Int.mul_nonneg (wup_nn _ W.1) (by omega)), sb'.un]
  · rw [dv_ngd lo la.1 la.2, dv_ngd d h0 h1, lg]
  · rw [dv_ngd hi ha.1 ha.2, dv_ngd d h0 h1, hg]
  · obtain ⟨c, sc⟩ := side_of hf hi' hr
    cases N : ngd d
    · rw [N] at sa
      rw [if_neg (by decide)]
      exact sc.one sa
    · rw [N] at sb'
      rw [if_pos rfl]
      exact sc.one sb'
  · have q := hs.rs hf (show fin (ng lo) by rw [fin, ng2]; exact lf)
    rw [ng1, s2] at q
    obtain ⟨q1, q2, q3, q4⟩ := rs_fl q
    exact ⟨⟨q3, q4⟩, q2, q1⟩
  · have q := hs.rs hhf (show fin (ng d) by rw [fin, nd2]; exact hf)
    rw [nd1, s3] at q
    obtain ⟨q1, q2, q3, q4⟩ := rs_fl q
    exact ⟨⟨q3, q4⟩, q2, q1⟩
  · exact half_of lf lab sa.un (wup_nn _ W.1) (wup_bd _ W.1 W.2).2 hs

/-- Near is the nearer one of both, the even one of two. -/
theorem near_is {d lo hi u v : Int} {ev : Bool} (hf : fin d) (hi' : intg d = false) (hl : WIs d (ngd d) lo) (hh : WIs d (!ngd d) hi)
    (hv : Fl (if ngd d = true then 2 ^ 1074 - un (ab d) % 2 ^ 1074 else un (ab d) % 2 ^ 1074) v) (hu : Fl (if ngd d = true then un (ab d) % 2 ^ 1074 else 2 ^ 1074 - un (ab d) % 2 ^ 1074) u) (he : ev = true ↔ wup (un (ab d) / 2 ^ 1074) (ngd d) % 2 = 0) :
    ∀ r, WIs d (nrup (un (ab d))) r → (u < v → r = hi) ∧ (v < u → r = lo) ∧ (u = v → ev = false → r = hi) ∧ (u = v → ev = true → r = lo) := by
  intro r hr
  obtain ⟨a, sa⟩ := side_of hf hi' hl
  obtain ⟨b, sb'⟩ := side_of hf hi' hh
  obtain ⟨c, sc⟩ := side_of hf hi' hr
  have h73 : (2 : Int) ^ 1074 = 2 * 2 ^ 1073 := Nm.two_succ 1073
  have nr : nrup (un (ab d)) = true ↔ (2 ^ 1074 < 2 * (un (ab d) % 2 ^ 1074) ∨ (2 * (un (ab d) % 2 ^ 1074) = 2 ^ 1074 ∧ un (ab d) / 2 ^ 1074 % 2 = 1)) := by
    rw [nrup, decide_eq_true_iff]
    generalize un (ab d) % 2 ^ 1074 = F
    generalize un (ab d) / 2 ^ 1074 = W
    rw [h73]
    generalize (2 : Int) ^ 1073 = Q
    rw [cmpI]
    split
    · omega
    · split <;> omega
  have cs : nrup (un (ab d)) = true ∨ nrup (un (ab d)) = false := by cases nrup (un (ab d)) <;> simp
  cases N : ngd d
  · rw [N] at hv hu he sa sb'
    simp only [Bool.false_eq_true, if_false] at hv hu
    rw [Bool.not_false] at sb'
    rw [wup, if_neg (by decide)] at he
    obtain ⟨-, l1, l2⟩ := fl_order hf hi' rfl rfl hv hu
    have toHi : nrup (un (ab d)) = true → r = hi := fun g => by rw [g] at sc; exact sc.one sb'
    have toLo : nrup (un (ab d)) = false → r = lo := fun g => by rw [g] at sc; exact sc.one sa
    generalize un (ab d) % 2 ^ 1074 = F at *
    generalize un (ab d) / 2 ^ 1074 = W at *
    generalize (2 : Int) ^ 1074 = P at *
    refine ⟨fun g => toHi (nr.2 ?_), fun g => toLo ?_, fun g e => toHi (nr.2 ?_), fun g e => toLo ?_⟩
    · have := l2.1 g; omega
    · have := l1.1 g
      rcases cs with k | k
      · have := nr.1 k; omega
      · exact k
    · have : ¬ W % 2 = 0 := fun k => by rw [he.2 k] at e; cases e
      omega
    · have := he.1 e
      rcases cs with k | k
      · have := nr.1 k; omega
      · exact k
  · rw [N] at hv hu he sa sb'
    simp only [if_true] at hv hu
    rw [Bool.not_true] at sb'
    rw [wup, if_pos rfl] at he
    obtain ⟨-, l1, l2⟩ := fl_order hf hi' rfl rfl hu hv
    have toLo : nrup (un (ab d)) = true → r = lo := fun g => by rw [g] at sc; exact sc.one sa
    have toHi : nrup (un (ab d)) = false → r = hi := fun g => by rw [g] at sc; exact sc.one sb'
    generalize un (ab d) % 2 ^ 1074 = F at *
    generalize un (ab d) / 2 ^ 1074 = W at *
    generalize (2 : Int) ^ 1074 = P at *
    refine ⟨fun g => toHi ?_, fun g => toLo (nr.2 ?_), fun g e => toHi ?_, fun g e => toLo (nr.2 ?_)⟩
    · have := l1.1 g
      rcases cs with k | k
      · have := nr.1 k; omega
      · exact k
    · have := l2.1 g; omega
    · have : ¬ (W + 1) % 2 = 0 := fun k => by rw [he.2 k] at e; cases e
      rcases cs with k | k
      · have := nr.1 k; omega
      · exact k
    · have := he.1 e; omega
end Ie
end Go.Proofs.YtnfomlkhkggjeaaGreatDoor

/-
  RemainFloors (made by mkhfloors.py).
-/
namespace Go.Proofs.YtnfomlkhkggjeaaGreatDoor
open Go Go.RowKit Go.Deep

set_option maxRecDepth 100000 in
set_option maxHeartbeats 4000000 in
theorem RemainFloors_out (d : Int) (w : World) (hT : Tab w) (h0 : 0 ≤ d) (h1 : d < 18446744073709551616) (hk : ¬ Ie.fin d) :
    Calls Tryz.prog 4 #[.int .u64 d] w fun e w' => e = .returned (.bool true) ∧ Below w.heap.size w w' := by
  have AWK := hid (hawake_any w hT)
  have HT := hid hT
  have FI := hid (fun (wx : World) => hfinite_any d wx h0)
  rw [decide_eq_false (show ¬ Ie.ab d < 9218868437227405312 from hk)] at FI
  have BE := hid (fun (wx : World) (hx : Tab wx) => bearers_any d wx hx h0 h1 hk)
  clear hT hk
  go_enter Tryz.func4, Tryz.ntmps4
  go_wp2_with fail
  refine AWK.out.mono ?_
  rintro e w1 ⟨rfl, hB⟩
  have HB1 := hid hB
  clear hB AWK
  go_wp2_with fail
  refine (FI.out _).mono ?_
  rintro e wz ⟨rfl, hz⟩
  replace hz := hz.symm
  subst hz
  clear FI
  go_wp2_with fail
  refine (BE.out _ (HT.out.below HB1.out)).mono ?_
  rintro e w2 ⟨rfl, hB⟩
  have HB2 := hid (HB1.out.trans (hB.mono HB1.out.size))
  clear hB BE
  go_wp2_with fail
  go_ret
  exact ⟨rfl, HB2.out⟩

set_option maxRecDepth 100000 in
set_option maxHeartbeats 4000000 in
theorem RemainFloors_whole (d : Int) (w : World) (hT : Tab w) (h0 : 0 ≤ d) (h1 : d < 18446744073709551616) (hf : Ie.fin d) (hi' : Ie.intg d = true) :
    Calls Tryz.prog 4 #[.int .u64 d] w fun e w' => e = .returned (.bool true) ∧ Below w.heap.size w w' := by
  have AWK := hid (hawake_any w hT)
  have HT := hid hT
  have FI := hid (fun (wx : World) => hfinite_any d wx h0)
  rw [decide_eq_true (show Ie.ab d < 9218868437227405312 from hf)] at FI
  have FL := hid (fun (wx : World) (hx : Tab wx) => floor_any d wx hx h0 h1)
  have CE := hid (fun (wx : World) (hx : Tab wx) => ceil_any d wx hx h0 h1)
  have TR := hid (fun (wx : World) (hx : Tab wx) => trunc_any d wx hx h0 h1)
  have NE := hid (fun (wx : World) (hx : Tab wx) => near6_any d wx hx h0 h1)
  have IG := hid (fun (wx : World) (hx : Tab wx) => integral_any d wx hx h0 h1)
  have dn : Ie.isn d = false := (Ie.fin_kinds hf).1
  rw [hi'] at IG
  have WI : Hid (∀ up r, Ie.WIs d up r → r = d) := by
    intro up r h
    obtain ⟨y, hr, -, -, q, -⟩ := h.2.2 hf
    rw [hr, q hi']
    exact (Ie.sg_ab d h0 h1).symm
  have AM := hid (fun (wx : World) => atMostU_any d d wx h0 h1 h0 h1 dn dn)
  rw [decide_eq_true (Int.le_refl _)] at AM
  clear hT hf hi' dn
  go_enter Tryz.func4, Tryz.ntmps4
  go_wp2_with fail
  refine AWK.out.mono ?_
  rintro e w1 ⟨rfl, hB⟩
  have HB1 := hid hB
  clear hB AWK
  go_wp2_with fail
  refine (FI.out _).mono ?_
  rintro e wz ⟨rfl, hz⟩
  replace hz := hz.symm
  subst hz
  clear FI
  go_wp2_with fail
  refine (FL.out _ (HT.out.below HB1.out)).mono ?_
  rintro e w2 ⟨lo, rfl, hl, hB⟩
  have HB2 := hid (HB1.out.trans (hB.mono HB1.out.size))
  have HL := hid hl
  clear hB hl FL HB1
  go_wp2_with fail
  refine (CE.out _ (HT.out.below HB2.out)).mono ?_
  rintro e w3 ⟨hi, rfl, hh, hB⟩
  have HB3 := hid (HB2.out.trans (hB.mono HB2.out.size))
  have HH := hid hh
  clear hB hh CE HB2
  have e1 := WI.out _ lo HL.out
  have e2 := WI.out _ hi HH.out
  replace e1 := e1.symm
  subst e1
  replace e2 := e2.symm
  subst e2
  clear HL HH
  go_wp2_with fail
  refine (IG.out _ (HT.out.below HB3.out)).mono ?_
  rintro e w4 ⟨rfl, hB⟩
  have HB4 := hid (HB3.out.trans (hB.mono HB3.out.size))
  clear hB
  go_wp2_with fail
  refine (IG.out _ (HT.out.below HB4.out)).mono ?_
  rintro e w5 ⟨rfl, hB⟩
  have HB5 := hid (HB4.out.trans (hB.mono HB4.out.size))
  clear hB
  go_wp2_with fail
  refine (AM.out _).mono ?_
  rintro e wz ⟨rfl, hz⟩
  replace hz := hz.symm
  subst hz
  go_wp2_with fail
  refine (AM.out _).mono ?_
  rintro e wz ⟨rfl, hz⟩
  replace hz := hz.symm
  subst hz
  go_wp2_with fail
  refine (IG.out _ (HT.out.below HB5.out)).mono ?_
  rintro e w6 ⟨rfl, hB⟩
  have HB6 := hid (HB5.out.trans (hB.mono HB5.out.size))
  clear hB
  go_wp2_with fail
  refine (TR.out _ (HT.out.below HB6.out)).mono ?_
  rintro e w7 ⟨r, rfl, h, hB⟩
  have HB7 := hid (HB6.out.trans (hB.mono HB6.out.size))
  have hr := WI.out _ r h
  replace hr := hr.symm
  subst hr
  clear hB h
  go_wp2_with fail
  refine (NE.out _ (HT.out.below HB7.out)).mono ?_
  rintro e w8 ⟨r, rfl, h, hB⟩
  have HB8 := hid (HB7.out.trans (hB.mono HB7.out.size))
  have hr := WI.out _ r h
  replace hr := hr.symm
  subst hr
  clear hB h
  go_wp2_with fail
  go_ret
  exact ⟨by first | rfl | simp, HB8.out⟩

set_option maxRecDepth 100000 in
set_option maxHeartbeats 8000000 in
theorem RemainFloors_frac (d : Int) (w : World) (hT : Tab w) (h0 : 0 ≤ d) (h1 : d < 18446744073709551616) (hf : Ie.fin d) (hi' : Ie.intg d = false) :
    Calls Tryz.prog 4 #[.int .u64 d] w fun e w' => e = .returned (.bool true) ∧ Below w.heap.size w w' := by
  have AWK := hid (hawake_any w hT)
  have HT := hid hT
  have FI := hid (fun (wx : World) => hfinite_any d wx h0)
  rw [decide_eq_true (show Ie.ab d < 9218868437227405312 from hf)] at FI
  have FL := hid (fun (wx : World) (hx : Tab wx) => floor_any d wx hx h0 h1)
  have CE := hid (fun (wx : World) (hx : Tab wx) => ceil_any d wx hx h0 h1)
  have TR := hid (fun (wx : World) (hx : Tab wx) => trunc_any d wx hx h0 h1)
  have NE := hid (fun (wx : World) (hx : Tab wx) => near6_any d wx hx h0 h1)
  have IG := hid (fun (wx : World) (hx : Tab wx) => integral_any d wx hx h0 h1)
  have dn : Ie.isn d = false := (Ie.fin_kinds hf).1
  rw [hi'] at IG
  have FF := hid (fun (lo hi : Int) (hl : Ie.WIs d (Ie.ngd d) lo) (hh : Ie.WIs d (!Ie.ngd d) hi) => Ie.floors_of h0 h1 hf hi' hl hh)
  have NI := hid (fun (lo hi u v : Int) (ev : Bool) (hl : Ie.WIs d (Ie.ngd d) lo) (hh : Ie.WIs d (!Ie.ngd d) hi) hv hu (he : ev = true ↔ Ie.wup (Ie.un (Ie.ab d) / 2 ^ 1074) (Ie.ngd d) % 2 = 0) => Ie.near_is (lo := lo) (hi := hi) (u := u) (v := v) (ev := ev) hf hi' hl hh hv hu he)
  have H01 := hid (And.intro h0 h1)
  clear hT hf hi'
  go_enter Tryz.func4, Tryz.ntmps4
  go_wp2_with fail
  refine AWK.out.mono ?_
  rintro e w1 ⟨rfl, hB⟩
  have HB1 := hid hB
  clear hB AWK
  go_wp2_with fail
  refine (FI.out _).mono ?_
  rintro e wz ⟨rfl, hz⟩
  replace hz := hz.symm
  subst hz
  clear FI
  go_wp2_with fail
  refine (FL.out _ (HT.out.below HB1.out)).mono ?_
  rintro e w2 ⟨lo, rfl, hl, hB⟩
  have HB2 := hid (HB1.out.trans (hB.mono HB1.out.size))
  have HL := hid hl
  clear hB hl FL HB1
  go_wp2_with fail
  refine (CE.out _ (HT.out.below HB2.out)).mono ?_
  rintro e w3 ⟨hi, rfl, hh, hB⟩
  have HB3 := hid (HB2.out.trans (hB.mono HB2.out.size))
  have HH := hid hh
  clear hB hh CE HB2
  have FS := hid (FF.out lo hi HL.out HH.out)
  have IL := hid (fun (wx : World) (hx : Tab wx) => integral_any lo wx hx FS.out.lob.1 FS.out.lob.2)
  have IH := hid (fun (wx : World) (hx : Tab wx) => integral_any hi wx hx FS.out.hib.1 FS.out.hib.2)
  rw [FS.out.loi] at IL
  rw [FS.out.hii] at IH
  have A1 := hid (fun (wx : World) => atMostU_any lo d wx FS.out.lob.1 FS.out.lob.2 h0 h1 FS.out.lon dn)
  have A2 := hid (fun (wx : World) => atMostU_any d hi wx h0 h1 FS.out.hib.1 FS.out.hib.2 dn FS.out.hin)
  rw [decide_eq_true FS.out.le1] at A1
  rw [decide_eq_true FS.out.le2] at A2
  have AD := hid (fun (wx : World) (hx : Tab wx) => softAdd_any lo 4607182418800017408 wx FS.out.lob.1 FS.out.lob.2 (by omega) (by omega) hx)
  have SD := hid (fun (wx : World) (hx : Tab wx) => softSub_any d lo wx h0 h1 FS.out.lob.1 FS.out.lob.2 hx)
  have SU := hid (fun (wx : World) (hx : Tab wx) => softSub_any hi d wx FS.out.hib.1 FS.out.hib.2 h0 h1 hx)
  have HA := hid (fun (wx : World) (hx : Tab wx) => scale_any lo (-1) wx hx FS.out.lob.1 FS.out.lob.2)
  have ls := FS.out.los
  have hs := FS.out.his
  clear FF dn
  go_wp2_with fail
  refine (IL.out _ (HT.out.below HB3.out)).mono ?_
  rintro e w4 ⟨rfl, hB⟩
  have HB4 := hid (HB3.out.trans (hB.mono HB3.out.size))
  clear hB
  go_wp2_with fail
  refine (IH.out _ (HT.out.below HB4.out)).mono ?_
  rintro e w5 ⟨rfl, hB⟩
  have HB5 := hid (HB4.out.trans (hB.mono HB4.out.size))
  clear hB
  go_wp2_with fail
  refine (A1.out _).mono ?_
  rintro e wz ⟨rfl, hz⟩
  replace hz := hz.symm
  subst hz
  go_wp2_with fail
  refine (A2.out _).mono ?_
  rintro e wz ⟨rfl, hz⟩
  replace hz := hz.symm
  subst hz
  go_wp2_with fail
  refine (IG.out _ (HT.out.below HB5.out)).mono ?_
  rintro e w6 ⟨rfl, hB⟩
  have HB6 := hid (HB5.out.trans (hB.mono HB5.out.size))
  clear hB
  clear IL IH A1 A2 IG HB3 HB4 HB5
  go_wp2_with fail
  refine (AD.out _ (HT.out.below HB6.out)).mono ?_
  rintro e w7 ⟨s, f, rfl, h, hB⟩
  have HB7 := hid (HB6.out.trans (hB.mono HB6.out.size))
  obtain ⟨⟨s0, s1⟩, s2, s3⟩ := FS.out.step s f h
  have CO := hid (fun (wx : World) => compare_any s hi wx s0 s1 FS.out.hib.1 FS.out.hib.2)
  have cu := Ie.cmv_uv s0 s1 FS.out.hib.1 FS.out.hib.2 s2 FS.out.hin
  rw [cu.1, cu.2.2.2 s3] at CO
  clear hB h AD s2 s3 cu HB6
  go_wp2_with fail
  refine (CO.out _).mono ?_
  rintro e wz ⟨rfl, hz⟩
  replace hz := hz.symm
  subst hz
  clear CO s0 s1
  have CUT := hid FS.out.cut
  cases N : Ie.ngd d
  · rw [N] at CUT
    have sg : ¬ d ≥ 9223372036854775808 := by rw [Ie.ngd] at N; simpa using N
    simp only [Bool.false_eq_true, if_false] at CUT
    go_wp2_with fail
    refine (SD.out _ (HT.out.below HB7.out)).mono ?_
    rintro e w8 ⟨v, f, rfl, h, hB⟩
    have HB8 := hid (HB7.out.trans (hB.mono HB7.out.size))
    have DV := hid (FS.out.down v f h)
    clear hB h SD HB7
    go_wp2_with fail
    refine (SU.out _ (HT.out.below HB8.out)).mono ?_
    rintro e w9 ⟨u, f, rfl, h, hB⟩
    have HB9 := hid (HB8.out.trans (hB.mono HB8.out.size))
    have DU := hid (FS.out.up u f h)
    clear hB h SU HB8
    go_wp2_with fail
    refine (HA.out _ (HT.out.below HB9.out)).mono ?_
    rintro e w10 ⟨hf, rfl, h, hB⟩
    have HB10 := hid (HB9.out.trans (hB.mono HB9.out.size))
    obtain ⟨⟨hf0, hf1⟩, hfi⟩ := FS.out.half hf h
    have IH := hid (fun (wx : World) (hx : Tab wx) => integral_any hf wx hx hf0 hf1)
    obtain ⟨ev, hev⟩ : ∃ ev, Ie.intg hf = ev := ⟨_, rfl⟩
    rw [hev] at IH hfi
    have NR := hid (NI.out lo hi (Ie.uv u) (Ie.uv v) ev HL.out HH.out DV.out.2.2 DU.out.2.2 hfi)
    have B1 := hid (fun (wx : World) => belowU_any u v wx DU.out.1.1 DU.out.1.2 DV.out.1.1 DV.out.1.2 DU.out.2.1 DV.out.2.1)
    have B2 := hid (fun (wx : World) => belowU_any v u wx DV.out.1.1 DV.out.1.2 DU.out.1.1 DU.out.1.2 DV.out.2.1 DU.out.2.1)
    clear hB h HA HB9 FS NI DV DU hfi hf0 hf1 hev
    rcases (show Ie.uv u < Ie.uv v ∨ (¬ Ie.uv u < Ie.uv v ∧ Ie.uv v < Ie.uv u) ∨ (¬ Ie.uv u < Ie.uv v ∧ ¬ Ie.uv v < Ie.uv u ∧ Ie.uv u = Ie.uv v) by omega) with k | ⟨k, k'⟩ | ⟨k, k', k''⟩
    · rw [decide_eq_true k] at B1
      have HK := hid k
      clear k
      go_wp2_with fail
      refine (B1.out _).mono ?_
      rintro e wz ⟨rfl, hz⟩
      replace hz := hz.symm
      subst hz
      go_wp2_with fail
      refine (TR.out _ (HT.out.below HB10.out)).mono ?_
      rintro e wx ⟨r, rfl, h, hB⟩
      have HBY := hid (HB10.out.trans (hB.mono HB10.out.size))
      have hr := CUT.out r h
      replace hr := hr.symm
      subst hr
      clear hB h
      go_wp2_with fail
      refine (NE.out _ (HT.out.below HBY.out)).mono ?_
      rintro e wy ⟨r2, rfl, h, hB⟩
      have HBZ := hid (HBY.out.trans (hB.mono HBY.out.size))
      have hr2 := (NR.out r2 h).1 HK.out
      clear hB h
      go_wp2_with fail
      go_ret
      exact ⟨by first | rfl | simp, HBZ.out⟩
    · rw [decide_eq_false k] at B1
      rw [decide_eq_true k'] at B2
      have HK := hid k'
      clear k k'
      go_wp2_with fail
      refine (B1.out _).mono ?_
      rintro e wz ⟨rfl, hz⟩
      replace hz := hz.symm
      subst hz
      go_wp2_with fail
      refine (B2.out _).mono ?_
      rintro e wz ⟨rfl, hz⟩
      replace hz := hz.symm
      subst hz
      go_wp2_with fail
      refine (TR.out _ (HT.out.below HB10.out)).mono ?_
      rintro e wx ⟨r, rfl, h, hB⟩
      have HBY := hid (HB10.out.trans (hB.mono HB10.out.size))
      have hr := CUT.out r h
      replace hr := hr.symm
      subst hr
      clear hB h
      go_wp2_with fail
      refine (NE.out _ (HT.out.below HBY.out)).mono ?_
      rintro e wy ⟨r2, rfl, h, hB⟩
      have HBZ := hid (HBY.out.trans (hB.mono HBY.out.size))
      have hr2 := (NR.out r2 h).2.1 HK.out
      clear hB h
      go_wp2_with fail
      go_ret
      exact ⟨by first | rfl | simp, HBZ.out⟩
    · cases ev
      · rw [decide_eq_false k] at B1
        rw [decide_eq_false k'] at B2
        have HK := hid k''
        clear k k' k''
        go_wp2_with fail
        refine (B1.out _).mono ?_
        rintro e wz ⟨rfl, hz⟩
        replace hz := hz.symm
        subst hz
        go_wp2_with fail
        refine (B2.out _).mono ?_
        rintro e wz ⟨rfl, hz⟩
        replace hz := hz.symm
        subst hz
        go_wp2_with fail
        refine (IH.out _ (HT.out.below HB10.out)).mono ?_
        rintro e w11 ⟨rfl, hB⟩
        have HB11 := hid (HB10.out.trans (hB.mono HB10.out.size))
        clear hB IH
        go_wp2_with fail
        refine (TR.out _ (HT.out.below HB11.out)).mono ?_
        rintro e wx ⟨r, rfl, h, hB⟩
        have HBY := hid (HB11.out.trans (hB.mono HB11.out.size))
        have hr := CUT.out r h
        replace hr := hr.symm
        subst hr
        clear hB h
        go_wp2_with fail
        refine (NE.out _ (HT.out.below HBY.out)).mono ?_
        rintro e wy ⟨r2, rfl, h, hB⟩
        have HBZ := hid (HBY.out.trans (hB.mono HBY.out.size))
        have hr2 := (NR.out r2 h).2.2.1 HK.out (by simp)
        clear hB h
        go_wp2_with fail
        go_ret
        exact ⟨by first | rfl | simp, HBZ.out⟩
      · rw [decide_eq_false k] at B1
        rw [decide_eq_false k'] at B2
        have HK := hid k''
        clear k k' k''
        go_wp2_with fail
        refine (B1.out _).mono ?_
        rintro e wz ⟨rfl, hz⟩
        replace hz := hz.symm
        subst hz
        go_wp2_with fail
        refine (B2.out _).mono ?_
        rintro e wz ⟨rfl, hz⟩
        replace hz := hz.symm
        subst hz
        go_wp2_with fail
        refine (IH.out _ (HT.out.below HB10.out)).mono ?_
        rintro e w11 ⟨rfl, hB⟩
        have HB11 := hid (HB10.out.trans (hB.mono HB10.out.size))
        clear hB IH
        go_wp2_with fail
        refine (TR.out _ (HT.out.below HB11.out)).mono ?_
        rintro e wx ⟨r, rfl, h, hB⟩
        have HBY := hid (HB11.out.trans (hB.mono HB11.out.size))
        have hr := CUT.out r h
        replace hr := hr.symm
        subst hr
        clear hB h
        go_wp2_with fail
        refine (NE.out _ (HT.out.below HBY.out)).mono ?_
        rintro e wy ⟨r2, rfl, h, hB⟩
        have HBZ := hid (HBY.out.trans (hB.mono HBY.out.size))
        have hr2 := (NR.out r2 h).2.2.2 HK.out (by simp)
        clear hB h
        go_wp2_with fail
        go_ret
        exact ⟨by first | rfl | simp, HBZ.out⟩
  · rw [N] at CUT
    have sg :  d ≥ 9223372036854775808 := by rw [Ie.ngd] at N; simpa using N
    simp only [if_true] at CUT
    go_wp2_with fail
    refine (SD.out _ (HT.out.below HB7.out)).mono ?_
    rintro e w8 ⟨v, f, rfl, h, hB⟩
    have HB8 := hid (HB7.out.trans (hB.mono HB7.out.size))
    have DV := hid (FS.out.down v f h)
    clear hB h SD HB7
    go_wp2_with fail
    refine (SU.out _ (HT.out.below HB8.out)).mono ?_
    rintro e w9 ⟨u, f, rfl, h, hB⟩
    have HB9 := hid (HB8.out.trans (hB.mono HB8.out.size))
    have DU := hid (FS.out.up u f h)
    clear hB h SU HB8
    go_wp2_with fail
    refine (HA.out _ (HT.out.below HB9.out)).mono ?_
    rintro e w10 ⟨hf, rfl, h, hB⟩
    have HB10 := hid (HB9.out.trans (hB.mono HB9.out.size))
    obtain ⟨⟨hf0, hf1⟩, hfi⟩ := FS.out.half hf h
    have IH := hid (fun (wx : World) (hx : Tab wx) => integral_any hf wx hx hf0 hf1)
    obtain ⟨ev, hev⟩ : ∃ ev, Ie.intg hf = ev := ⟨_, rfl⟩
    rw [hev] at IH hfi
    have NR := hid (NI.out lo hi (Ie.uv u) (Ie.uv v) ev HL.out HH.out DV.out.2.2 DU.out.2.2 hfi)
    have B1 := hid (fun (wx : World) => belowU_any u v wx DU.out.1.1 DU.out.1.2 DV.out.1.1 DV.out.1.2 DU.out.2.1 DV.out.2.1)
    have B2 := hid (fun (wx : World) => belowU_any v u wx DV.out.1.1 DV.out.1.2 DU.out.1.1 DU.out.1.2 DV.out.2.1 DU.out.2.1)
    clear hB h HA HB9 FS NI DV DU hfi hf0 hf1 hev
    rcases (show Ie.uv u < Ie.uv v ∨ (¬ Ie.uv u < Ie.uv v ∧ Ie.uv v < Ie.uv u) ∨ (¬ Ie.uv u < Ie.uv v ∧ ¬ Ie.uv v < Ie.uv u ∧ Ie.uv u = Ie.uv v) by omega) with k | ⟨k, k'⟩ | ⟨k, k', k''⟩
    · rw [decide_eq_true k] at B1
      have HK := hid k
      clear k
      go_wp2_with fail
      refine (B1.out _).mono ?_
      rintro e wz ⟨rfl, hz⟩
      replace hz := hz.symm
      subst hz
      go_wp2_with fail
      refine (TR.out _ (HT.out.below HB10.out)).mono ?_
      rintro e wx ⟨r, rfl, h, hB⟩
      have HBY := hid (HB10.out.trans (hB.mono HB10.out.size))
      have hr := CUT.out r h
      replace hr := hr.symm
      subst hr
      clear hB h
      go_wp2_with fail
      refine (NE.out _ (HT.out.below HBY.out)).mono ?_
      rintro e wy ⟨r2, rfl, h, hB⟩
      have HBZ := hid (HBY.out.trans (hB.mono HBY.out.size))
      have hr2 := (NR.out r2 h).1 HK.out
      clear hB h
      go_wp2_with fail
      go_ret
      exact ⟨by first | rfl | simp, HBZ.out⟩
    · rw [decide_eq_false k] at B1
      rw [decide_eq_true k'] at B2
      have HK := hid k'
      clear k k'
      go_wp2_with fail
      refine (B1.out _).mono ?_
      rintro e wz ⟨rfl, hz⟩
      replace hz := hz.symm
      subst hz
      go_wp2_with fail
      refine (B2.out _).mono ?_
      rintro e wz ⟨rfl, hz⟩
      replace hz := hz.symm
      subst hz
      go_wp2_with fail
      refine (TR.out _ (HT.out.below HB10.out)).mono ?_
      rintro e wx ⟨r, rfl, h, hB⟩
      have HBY := hid (HB10.out.trans (hB.mono HB10.out.size))
      have hr := CUT.out r h
      replace hr := hr.symm
      subst hr
      clear hB h
      go_wp2_with fail
      refine (NE.out _ (HT.out.below HBY.out)).mono ?_
      rintro e wy ⟨r2, rfl, h, hB⟩
      have HBZ := hid (HBY.out.trans (hB.mono HBY.out.size))
      have hr2 := (NR.out r2 h).2.1 HK.out
      clear hB h
      go_wp2_with fail
      go_ret
      exact ⟨by first | rfl | simp, HBZ.out⟩
    · cases ev
      · rw [decide_eq_false k] at B1
        rw [decide_eq_false k'] at B2
        have HK := hid k''
        clear k k' k''
        go_wp2_with fail
        refine (B1.out _).mono ?_
        rintro e wz ⟨rfl, hz⟩
        replace hz := hz.symm
        subst hz
        go_wp2_with fail
        refine (B2.out _).mono ?_
        rintro e wz ⟨rfl, hz⟩
        replace hz := hz.symm
        subst hz
        go_wp2_with fail
        refine (IH.out _ (HT.out.below HB10.out)).mono ?_
        rintro e w11 ⟨rfl, hB⟩
        have HB11 := hid (HB10.out.trans (hB.mono HB10.out.size))
        clear hB IH
        go_wp2_with fail
        refine (TR.out _ (HT.out.below HB11.out)).mono ?_
        rintro e wx ⟨r, rfl, h, hB⟩
        have HBY := hid (HB11.out.trans (hB.mono HB11.out.size))
        have hr := CUT.out r h
        replace hr := hr.symm
        subst hr
        clear hB h
        go_wp2_with fail
        refine (NE.out _ (HT.out.below HBY.out)).mono ?_
        rintro e wy ⟨r2, rfl, h, hB⟩
        have HBZ := hid (HBY.out.trans (hB.mono HBY.out.size))
        have hr2 := (NR.out r2 h).2.2.1 HK.out (by simp)
        clear hB h
        go_wp2_with fail
        go_ret
        exact ⟨by first | rfl | simp, HBZ.out⟩
      · rw [decide_eq_false k] at B1
        rw [decide_eq_false k'] at B2
        have HK := hid k''
        clear k k' k''
        go_wp2_with fail
        refine (B1.out _).mono ?_
        rintro e wz ⟨rfl, hz⟩
        replace hz := hz.symm
        subst hz
        go_wp2_with fail
        refine (B2.out _).mono ?_
        rintro e wz ⟨rfl, hz⟩
        replace hz := hz.symm
        subst hz
        go_wp2_with fail
        refine (IH.out _ (HT.out.below HB10.out)).mono ?_
        rintro e w11 ⟨rfl, hB⟩
        have HB11 := hid (HB10.out.trans (hB.mono HB10.out.size))
        clear hB IH
        go_wp2_with fail
        refine (TR.out _ (HT.out.below HB11.out)).mono ?_
        rintro e wx ⟨r, rfl, h, hB⟩
        have HBY := hid (HB11.out.trans (hB.mono HB11.out.size))
        have hr := CUT.out r h
        replace hr := hr.symm
        subst hr
        clear hB h
        go_wp2_with fail
        refine (NE.out _ (HT.out.below HBY.out)).mono ?_
        rintro e wy ⟨r2, rfl, h, hB⟩
        have HBZ := hid (HBY.out.trans (hB.mono HBY.out.size))
        have hr2 := (NR.out r2 h).2.2.2 HK.out (by simp)
        clear hB h
        go_wp2_with fail
        go_ret
        exact ⟨by first | rfl | simp, HBZ.out⟩

theorem floors_law (d : Int) (w : World) (hT : Tab w) (h0 : 0 ≤ d) (h1 : d < 18446744073709551616) :
    Calls Tryz.prog 4 #[.int .u64 d] w fun e w' => e = .returned (.bool true) ∧ Below w.heap.size w w' := by
  by_cases h : Ie.fin d
  · cases g : Ie.intg d
    · exact RemainFloors_frac d w hT h0 h1 h g
    · exact RemainFloors_whole d w hT h0 h1 h g
  · exact RemainFloors_out d w hT h0 h1 h
end Go.Proofs.YtnfomlkhkggjeaaGreatDoor
