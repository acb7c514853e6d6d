/-
  Texts put together: TRootN, TRoot.
-/
import Derived.Test.YtkmadibfiikleaaDoorGNumA
import Derived.Test.YtkmadibfiikleaaDoorGDot
import Derived.Test.YtkmadibfiikleaaDoorXR
import Derived.Test.YtkmadibfiikleaaDoorTM
namespace Go.Proofs.YtkmadibfiikleaaDoor
namespace Ga

theorem uv_4n : Ie.uv 13839561654909534208 = -2 ^ 1076 := by
  rw [show (13839561654909534208 : Int) = 4616189618054758400 + 9223372036854775808 by decide, Ie.uv_neg (by decide) (by decide), Ie.un_lit (x := 4616189618054758400) (m := 4503599627370496) (E := 1024) (by decide) (by decide), show (4503599627370496 : Int) = 2 ^ 52 by decide, ← Nm.two_add]

/-- Five finite products, the first of one sign: what is told. -/
theorem dots5 {x1 y1 x2 y2 x3 y3 x4 y4 x5 y5 r : Int} (a1 : Ie.fin x1) (b1 : Ie.fin y1) (a2 : Ie.fin x2) (b2 : Ie.fin y2) (a3 : Ie.fin x3) (b3 : Ie.fin y3) (a4 : Ie.fin x4) (b4 : Ie.fin y4) (a5 : Ie.fin x5) (b5 : Ie.fin y5)
    (hs : (Ie.ngd x1 != Ie.ngd y1) = false) (h : (none.dots ([x1, x2, x3, x4, x5].zip [y1, y2, y3, y4, y5])).Is 1 r) :
    Ie.RS (Ie.uv x1 * Ie.uv y1 + Ie.uv x2 * Ie.uv y2 + Ie.uv x3 * Ie.uv y3 + Ie.uv x4 * Ie.uv y4 + Ie.uv x5 * Ie.uv y5) (2 ^ 1074) false r := by
  have e : none.dots ([x1, x2, x3, x4, x5].zip [y1, y2, y3, y4, y5]) = ((((none.mul x1 y1).mul x2 y2).mul x3 y3).mul x4 y4).mul x5 y5 := rfl
  rw [e] at h
  have m1 : none.mul x1 y1 = none.prod x1 y1 := by rw [St.mul, if_pos (by decide)]
  have M1 := prod_fin none a1 b1
  rw [← m1] at M1
  have c1 : (none.mul x1 y1).c = 1 := M1.c
  obtain ⟨s1, hs1⟩ : ∃ s, none.mul x1 y1 = s := ⟨_, rfl⟩
  rw [hs1] at M1 c1 h
  have M2 := prod_fin s1 a2 b2
  rw [show s1.prod x2 y2 = s1.mul x2 y2 by rw [St.mul, if_pos (by rw [c1]; decide)]] at M2
  obtain ⟨s2, hs2⟩ : ∃ s, s1.mul x2 y2 = s := ⟨_, rfl⟩
  rw [hs2] at M2 h
  have c2 := M2.c
  have M3 := prod_fin s2 a3 b3
  rw [show s2.prod x3 y3 = s2.mul x3 y3 by rw [St.mul, if_pos (by rw [c2, c1]; decide)]] at M3
  obtain ⟨s3, hs3⟩ : ∃ s, s2.mul x3 y3 = s := ⟨_, rfl⟩
  rw [hs3] at M3 h
  have c3 := M3.c
  have M4 := prod_fin s3 a4 b4
  rw [show s3.prod x4 y4 = s3.mul x4 y4 by rw [St.mul, if_pos (by rw [c3, c2, c1]; decide)]] at M4
  obtain ⟨s4, hs4⟩ : ∃ s, s3.mul x4 y4 = s := ⟨_, rfl⟩
  rw [hs4] at M4 h
  have c4 := M4.c
  have M5 := prod_fin s4 a5 b5
  rw [show s4.prod x5 y5 = s4.mul x5 y5 by rw [St.mul, if_pos (by rw [c4, c3, c2, c1]; decide)]] at M5
  obtain ⟨s5, hs5⟩ : ∃ s, s4.mul x5 y5 = s := ⟨_, rfl⟩
  rw [hs5] at M5 h
  have c5 := M5.c
  rw [St.Is, if_neg (by rw [M5.odd, M4.odd, M3.odd, M2.odd, M1.odd]; exact not_odd_none), M5.T, M4.T, M3.T, M2.T, M1.T, show none.P - none.N = 0 from rfl, Int.zero_add, Int.mul_one] at h
  have z : s5.zs = false := by
    have k1 := M1.z
    have k2 := M2.z
    have k3 := M3.z
    have k4 := M4.z
    have k5 := M5.z
    rw [if_neg (fun q => by rw [hs] at q; exact absurd q.1 (by decide)), show none.z = 0 from rfl] at k1
    have b2 : s2.z ≤ s1.z + 1 := by rw [k2]; split <;> omega
    have b3 : s3.z ≤ s2.z + 1 := by rw [k3]; split <;> omega
    have b4 : s4.z ≤ s3.z + 1 := by rw [k4]; split <;> omega
    have b5 : s5.z ≤ s4.z + 1 := by rw [k5]; split <;> omega
    rw [St.zs, decide_eq_false]
    omega
  rw [z] at h
  exact h

theorem near_zero0 (Q : Int) (hQ : 0 < Q) : Ie.Near (2 * 0) Q false 0 := by
  rw [Int.mul_zero]
  refine ⟨⟨by omega, by omega⟩, fun h => absurd h (by omega), fun _ => .inl ?_⟩
  rw [Ie.md_zero, Int.one_mul]
  exact hQ

/-- A rounded fraction's sign. -/
theorem rs_low {T Q r : Int} (hQ : 0 < Q) (h : Ie.RS T Q false r) (hT : T ≤ 0) : r / 9223372036854775808 = 1 ∨ r = 0 := by
  obtain ⟨neg, V, x, rfl, hS, hV, hN, hz⟩ := h
  have xb := hN.1
  rcases (show T < 0 ∨ T = 0 by omega) with g | g
  · left
    cases neg
    · rw [Ie.sn_false] at hS; omega
    · rw [Ie.sb, if_pos rfl]; omega
  · right
    have hn := hz g
    subst hn
    rw [Ie.sn_false] at hS
    have v0 : V = 0 := by omega
    rw [v0] at hN
    have := hN.one hQ hQ (near_zero0 Q hQ) rfl
    rw [this]; rfl
theorem rs_high {T Q r : Int} (h : Ie.RS T Q false r) (hT : 0 ≤ T) : 0 ≤ r ∧ r / 9223372036854775808 = 0 := by
  obtain ⟨neg, V, x, rfl, hS, hV, hN, hz⟩ := h
  have xb := hN.1
  have hn : neg = false := by
    cases neg
    · rfl
    · rw [Ie.sn_true] at hS
      exact hz (by omega)
  subst hn
  rw [Ie.sb, if_neg (by decide)]
  omega

theorem mid_bd {a : Int} (a0 : 0 ≤ a) (a1 : a < 9223372036854775808) : Ie.midd a = true ↔ 2805742567851819008 ≤ a ∧ a < 6413125869375586304 := by
  rw [Ie.midd, Ie.fld, Bool.and_eq_true, decide_eq_true_iff, decide_eq_true_iff]
  omega

theorem un_623 : Ie.un 2805742567851819008 = 2 ^ 674 := by
  rw [Ie.un_lit (m := 4503599627370496) (E := 622) (by decide) (by decide), show (4503599627370496 : Int) = 2 ^ 52 by decide, ← Nm.two_add]
theorem un_1424 : Ie.un 6413125869375586304 = 2 ^ 1475 := by
  rw [Ie.un_lit (m := 4503599627370496) (E := 1423) (by decide) (by decide), show (4503599627370496 : Int) = 2 ^ 52 by decide, ← Nm.two_add]

theorem sq_mono {x y : Int} (x0 : 0 ≤ x) (h : x ≤ y) : x * x ≤ y * y := by
  have h1 : x * x ≤ x * y := Int.mul_le_mul_of_nonneg_left h x0
  have h2 : x * y ≤ y * y := Int.mul_le_mul_of_nonneg_right h (by omega)
  omega

theorem root_mid {a r : Int} (h0 : 2805742567851819008 ≤ a) (h1 : a < 6413125869375586304) (h : Ie.RootIs (Ie.un a * 2 ^ 1076) r) : 2805742567851819008 ≤ r ∧ r < 6413125869375586304 := by
  obtain ⟨⟨r0, r1⟩, hl, hh⟩ := h
  have ua := Ie.un_le (by decide) h0
  have ub := Ie.un_lt (by omega) h1
  rw [un_623] at ua
  rw [un_1424] at ub
  have p76 := Nm.two_pos 1076
  constructor
  · rcases (show 2805742567851819008 ≤ r ∨ r + 1 ≤ 2805742567851819008 by omega) with g | g
    · exact g
    · exfalso
      have u1 := Ie.un_le (by omega) g
      have u0 := Ie.un_le (x := r) (y := r + 1) (by omega) (by omega)
      have m0 := Ie.md_nn r (by omega)
      rw [un_623] at u1
      rw [Ie.md_un r (by omega)] at hh m0
      have q1 : Ie.un r + Ie.un (r + 1) ≤ 2 ^ 675 := by rw [show (2 : Int) ^ 675 = 2 * 2 ^ 674 from Nm.two_succ 674]; omega
      have q2 := sq_mono (by omega) q1
      rw [← Nm.two_add] at q2
      have q3 : (2 : Int) ^ 674 * 2 ^ 1076 ≤ Ie.un a * 2 ^ 1076 := Int.mul_le_mul_of_nonneg_right ua (by omega)
      rw [← Nm.two_add] at q3
      have q4 : (2 : Int) ^ (675 + 675) < 2 ^ (674 + 1076) := by
        have := Nm.two_mono (show 1350 + 1 ≤ 1750 by decide)
        rw [Nm.two_succ] at this
        have := Nm.two_pos 1350
        show (2 : Int) ^ 1350 < 2 ^ 1750
        omega
      omega
  · rcases (show r < 6413125869375586304 ∨ 6413125869375586304 ≤ r by omega) with g | g
    · exact g
    · exfalso
      have u1 := Ie.un_le (by decide) g
      have u0 := Ie.un_nn (x := r - 1) (by omega)
      rw [un_1424] at u1
      rw [Ie.md_un (r - 1) (by omega), show r - 1 + 1 = r by omega] at hl
      have q1 : (2 : Int) ^ 1475 ≤ Ie.un (r - 1) + Ie.un r := by omega
      have q2 := sq_mono (Int.le_of_lt (Nm.two_pos 1475)) q1
      rw [← Nm.two_add] at q2
      have q3 : Ie.un a * 2 ^ 1076 < 2 ^ 1475 * 2 ^ 1076 := Int.mul_lt_mul_of_pos_right ub p76
      rw [← Nm.two_add] at q3
      have q4 : (2 : Int) ^ (1475 + 1076) ≤ 2 ^ (1475 + 1475) := Nm.two_mono (by decide)
      omega

theorem up_pos {r : Int} (r0 : 0 < r) (r1 : r < 9218868437227405311) : Ie.upd r = r + 1 := by
  rw [Ie.upd, Ie.okd, decide_eq_true (by omega), if_neg (by decide), if_neg (by omega), if_neg (by omega), if_neg (by omega)]
theorem down_pos {r : Int} (r0 : 0 < r) (r1 : r < 9218868437227405311) : Ie.dnd r = r - 1 := by
  have e : Ie.ng r = r + 9223372036854775808 := by rw [Ie.ng, if_pos (by omega)]
  have e2 : Ie.upd (r + 9223372036854775808) = r + 9223372036854775807 := by
    rw [Ie.upd, Ie.okd, decide_eq_true (by omega), if_neg (by decide), if_neg (by omega), if_neg (by omega), if_pos (by omega)]
    omega
  rw [Ie.dnd, Ie.okd, decide_eq_true (by omega), if_neg (by decide), e, e2, Ie.ng, if_neg (by omega)]
  omega

theorem sum_sq (x y W : Int) : x * x + y * y + x * y + y * x + -W = (y + x) * (y + x) - W := by
  rw [Int.add_mul, Int.mul_add, Int.mul_add]
  omega

/-- The two judgements. -/
theorem root_low {a r q : Int} (a0 : 2805742567851819008 ≤ a) (a1 : a < 6413125869375586304) (h : Ie.RootIs (Ie.un a * 2 ^ 1076) r) (k : (none.dots ([r, r - 1, r, r - 1, a].zip [r, r - 1, r - 1, r, 13839561654909534208])).Is 1 q) : q / 9223372036854775808 = 1 ∨ q = 0 := by
  obtain ⟨b0, b1⟩ := root_mid a0 a1 h
  have f1 : Ie.fin r := fin_lit (by omega)
  have f2 : Ie.fin (r - 1) := fin_lit (by omega)
  have R := dots5 f1 f1 f2 f2 f1 f2 f2 f1 (fin_lit (by omega) : Ie.fin a) (fin_lit (by decide)) (by cases Ie.ngd r <;> rfl) k
  rw [uv_4n, Ie.uv_pos (x := r) (by omega) (by omega), Ie.uv_pos (x := r - 1) (by omega) (by omega), Ie.uv_pos (x := a) (by omega) (by omega), Int.mul_neg, sum_sq] at R
  refine rs_low (Nm.two_pos 1074) R ?_
  have hl := h.2.1
  rw [Ie.md_un (r - 1) (by omega), show r - 1 + 1 = r by omega] at hl
  omega
theorem root_high {a r q : Int} (a0 : 2805742567851819008 ≤ a) (a1 : a < 6413125869375586304) (h : Ie.RootIs (Ie.un a * 2 ^ 1076) r) (k : (none.dots ([r, r + 1, r, r + 1, a].zip [r, r + 1, r + 1, r, 13839561654909534208])).Is 1 q) : 0 ≤ q ∧ q / 9223372036854775808 = 0 := by
  obtain ⟨b0, b1⟩ := root_mid a0 a1 h
  have f1 : Ie.fin r := fin_lit (by omega)
  have f2 : Ie.fin (r + 1) := fin_lit (by omega)
  have R := dots5 f1 f1 f2 f2 f1 f2 f2 f1 (fin_lit (by omega) : Ie.fin a) (fin_lit (by decide)) (by cases Ie.ngd r <;> rfl) k
  rw [uv_4n, Ie.uv_pos (x := r) (by omega) (by omega), Ie.uv_pos (x := r + 1) (by omega) (by omega), Ie.uv_pos (x := a) (by omega) (by omega), Int.mul_neg, sum_sq] at R
  refine rs_high R ?_
  have hh := h.2.2
  rw [Ie.md_un r (by omega), Int.add_comm (Ie.un r)] at hh
  omega
end Ga
end Go.Proofs.YtkmadibfiikleaaDoor

namespace Go.Proofs.YtkmadibfiikleaaDoor
open Go.RowKit Go.Deep

theorem targ5 (w : World) (a b c d e : Int) (ha : 0 ≤ a ∧ a < 18446744073709551616) (hb : 0 ≤ b ∧ b < 18446744073709551616) (hc : 0 ≤ c ∧ c < 18446744073709551616) (hd : 0 ≤ d ∧ d < 18446744073709551616) (he : 0 ≤ e ∧ e < 18446744073709551616) :
    Arg (w.alloc (.cells #[.int .u64 a, .int .u64 b, .int .u64 c, .int .u64 d, .int .u64 e] 22)) (some ⟨w.heap.size, 0, none⟩) 5 5 [a, b, c, d, e] ∧ Below w.heap.size w (w.alloc (.cells #[.int .u64 a, .int .u64 b, .int .u64 c, .int .u64 d, .int .u64 e] 22)) :=
  ⟨⟨rfl, Nat.le_refl _, by decide, (Own.alloc w [a, b, c, d, e]).lies, Nm.Limbs.mk ha.1 ha.2 (Nm.Limbs.mk hb.1 hb.2 (Nm.Limbs.mk hc.1 hc.2 (Nm.Limbs.mk hd.1 hd.2 (Nm.Limbs.mk he.1 he.2 Nm.Limbs.nil))))⟩, (Below.refl _ _).alloc (Nat.le_refl _) _⟩

/-- Dot of two lists of five, laid one behind the other. -/
theorem dot5 (w : World) (hT : Tab w) (a b c d e a' b' c' d' e' : Int) (ha : 0 ≤ a ∧ a < 18446744073709551616) (hb : 0 ≤ b ∧ b < 18446744073709551616) (hc : 0 ≤ c ∧ c < 18446744073709551616) (hd : 0 ≤ d ∧ d < 18446744073709551616) (he : 0 ≤ e ∧ e < 18446744073709551616)
    (ha' : 0 ≤ a' ∧ a' < 18446744073709551616) (hb' : 0 ≤ b' ∧ b' < 18446744073709551616) (hc' : 0 ≤ c' ∧ c' < 18446744073709551616) (hd' : 0 ≤ d' ∧ d' < 18446744073709551616) (he' : 0 ≤ e' ∧ e' < 18446744073709551616) :
    Calls Tryd.prog 7 #[.slice (some ⟨w.heap.size, 0, none⟩) 5 5, .slice (some ⟨w.heap.size + 1, 0, none⟩) 5 5] ((w.alloc (.cells #[.int .u64 a, .int .u64 b, .int .u64 c, .int .u64 d, .int .u64 e] 22)).alloc (.cells #[.int .u64 a', .int .u64 b', .int .u64 c', .int .u64 d', .int .u64 e'] 22))
      fun x w' => ∃ r, x = .returned (.tuple #[.int .u64 r, .int .i64 0]) ∧ Hid ((Ga.none.dots ([a, b, c, d, e].zip [a', b', c', d', e'])).Is 1 r) ∧ Below w.heap.size w w' := by
  obtain ⟨x1, y1⟩ := targ5 w a b c d e ha hb hc hd he
  obtain ⟨x2, y2⟩ := targ5 (w.alloc (.cells #[.int .u64 a, .int .u64 b, .int .u64 c, .int .u64 d, .int .u64 e] 22)) a' b' c' d' e' ha' hb' hc' hd' he'
  have b2 := y1.trans (y2.mono y1.size)
  have D := dot_any _ _ 5 5 5 _ _ _ (x1.below y2 (Nat.le_refl _)) x2 (hT.below b2)
  rw [show (w.alloc (.cells #[.int .u64 a, .int .u64 b, .int .u64 c, .int .u64 d, .int .u64 e] 22)).heap.size = w.heap.size + 1 by simp] at D
  refine D.mono ?_
  rintro x w' ⟨r, he, hE, hB⟩
  exact ⟨r, he, hE, b2.trans (hB.mono b2.size)⟩

set_option maxRecDepth 100000 in
set_option maxHeartbeats 4000000 in
theorem roots_law (a : Int) (w : World) (a0 : 0 ≤ a) (a1 : a < 18446744073709551616) (hT : Tab w) :
    Calls Tryd.prog 3 #[.int .u64 a] w fun e w' => e = .returned (.bool true) ∧ Below w.heap.size w w' := by
  have TT := hid (fun (wx : World) (h : Below w.heap.size w wx) => hT.below h)
  have TR : Hid (∀ wx w' : World, Below w.heap.size w wx → Below wx.heap.size wx w' → Below w.heap.size w w') := fun wx w' x y => x.trans (y.mono x.size)
  have SQ := hid (softSqrt_any 4621256167635550208 w (by decide) (by decide) hT)
  have MA := hid (fun (wx : World) => middle_any a wx a0 a1)
  clear hT
  by_cases hm : Ie.midd a = true ∧ a < 9223372036854775808
  · obtain ⟨hm1, hm2⟩ := hm
    obtain ⟨l0, l1⟩ := (Ga.mid_bd a0 hm2).1 hm1
    rw [hm1] at MA
    have sh : a / 9223372036854775808 = 0 := by omega
    have ea : Ie.ab a = a := by rw [Ie.ab]; omega
    have SA := hid (fun (wx : World) (h : Below w.heap.size w wx) => softSqrt_any a wx a0 a1 (TT.out wx h))
    have RT : Hid (∀ r f, Ie.SqrtIs a r f → Ie.RootIs (Ie.un a * 2 ^ 1076) r) := fun r f h => by
      have := h.root (Ga.fin_lit (by omega)) (by rw [ea]; omega) (by rw [Ie.ngd, decide_eq_false]; omega)
      rwa [ea] at this
    go_enter Tryd.func3, Tryd.ntmps3
    go_wp2_with fail
    refine SQ.out.mono ?_
    rintro e w1 ⟨r1, f1, rfl, k1, hB⟩
    have er := Ie.sqrt_9 k1
    subst er
    have B1 := hid hB
    have S1 := hid (SA.out w1 hB)
    clear hB k1 SQ
    go_wp2_with fail
    refine (MA.out _).mono ?_
    rintro e wz ⟨rfl, hz⟩
    replace hz := hz.symm
    subst hz
    go_wp2_with fail
    refine S1.out.mono ?_
    rintro e w2 ⟨r, f2, rfl, k2, hB⟩
    have rt := RT.out r f2 k2
    obtain ⟨m0, m1⟩ := Ga.root_mid l0 l1 rt
    have B2 := hid (TR.out _ _ B1.out hB)
    have RO := hid rt
    have MR := hid (fun (wx : World) => middle_any r wx (by omega) (by omega))
    rw [(Ga.mid_bd (a := r) (by omega) (by omega)).2 ⟨m0, m1⟩] at MR
    have DN := hid (fun (wx : World) => down_any r wx (by omega) (by omega))
    have UP := hid (fun (wx : World) => up_any r wx (by omega) (by omega))
    rw [Ga.down_pos (by omega) (by omega)] at DN
    rw [Ga.up_pos (by omega) (by omega)] at UP
    have D1 := hid (dot5 w2 (TT.out _ B2.out) r (r - 1) r (r - 1) a r (r - 1) (r - 1) r 13839561654909534208 (by omega) (by omega) (by omega) (by omega) (by omega) (by omega) (by omega) (by omega) (by omega) (by decide))
    clear hB k2 S1 SA RT B1 rt
    go_wp2_with fail
    refine (MR.out _).mono ?_
    rintro e wz ⟨rfl, hz⟩
    replace hz := hz.symm
    subst hz
    go_wp2_with fail
    refine (DN.out _).mono ?_
    rintro e wz ⟨rfl, hz⟩
    replace hz := hz.symm
    subst hz
    go_wp2_with fail
    refine (DN.out _).mono ?_
    rintro e wz ⟨rfl, hz⟩
    replace hz := hz.symm
    subst hz
    go_wp2_with fail
    refine (DN.out _).mono ?_
    rintro e wz ⟨rfl, hz⟩
    replace hz := hz.symm
    subst hz
    go_wp2_with fail
    refine (DN.out _).mono ?_
    rintro e wz ⟨rfl, hz⟩
    replace hz := hz.symm
    subst hz
    go_wp2_with fail
    refine D1.out.mono ?_
    rintro e w3 ⟨q1, rfl, E1, hB⟩
    have B3 := hid (TR.out _ _ B2.out hB)
    have L1 := Ga.root_low l0 l1 RO.out E1.out
    have D2 := hid (dot5 w3 (TT.out _ B3.out) r (r + 1) r (r + 1) a r (r + 1) (r + 1) r 13839561654909534208 (by omega) (by omega) (by omega) (by omega) (by omega) (by omega) (by omega) (by omega) (by omega) (by decide))
    clear hB E1 D1 DN B2
    go_wp2_with fail
    refine (UP.out _).mono ?_
    rintro e wz ⟨rfl, hz⟩
    replace hz := hz.symm
    subst hz
    go_wp2_with fail
    refine (UP.out _).mono ?_
    rintro e wz ⟨rfl, hz⟩
    replace hz := hz.symm
    subst hz
    go_wp2_with fail
    refine (UP.out _).mono ?_
    rintro e wz ⟨rfl, hz⟩
    replace hz := hz.symm
    subst hz
    go_wp2_with fail
    refine (UP.out _).mono ?_
    rintro e wz ⟨rfl, hz⟩
    replace hz := hz.symm
    subst hz
    go_wp2_with fail
    refine D2.out.mono ?_
    rintro e w4 ⟨q2, rfl, E2, hB⟩
    obtain ⟨h0, h1⟩ := Ga.root_high l0 l1 RO.out E2.out
    have B4 := hid (TR.out _ _ B3.out hB)
    clear hB E2 D2 UP B3
    rcases L1 with L1 | rfl
    · go_wp2_with fail
      go_ret
      exact ⟨rfl, B4.out⟩
    · go_wp2_with fail
      go_ret
      exact ⟨rfl, B4.out⟩
  · go_enter Tryd.func3, Tryd.ntmps3
    go_wp2_with fail
    refine SQ.out.mono ?_
    rintro e w1 ⟨r1, f1, rfl, k1, hB⟩
    have er := Ie.sqrt_9 k1
    subst er
    have B1 := hid hB
    clear hB k1 SQ
    go_wp2_with fail
    refine (MA.out _).mono ?_
    rintro e wz ⟨rfl, hz⟩
    replace hz := hz.symm
    subst hz
    cases hq : Ie.midd a
    · go_wp2_with fail
      go_ret
      exact ⟨rfl, B1.out⟩
    · have sh : a / 9223372036854775808 = 1 := by
        rcases (show a < 9223372036854775808 ∨ 9223372036854775808 ≤ a by omega) with g | g
        · exact absurd ⟨hq, g⟩ hm
        · omega
      clear hm
      go_wp2_with fail
      go_ret
      exact ⟨rfl, B1.out⟩
end Go.Proofs.YtkmadibfiikleaaDoor
