/-
  Texts put together: MSteps, IWalk1, HSteps.
-/
import Derived.Test.YtnfomlkhkggjeaaDoorMNum
import Derived.Test.YtnfomlkhkggjeaaDoorIWalk1B
import Derived.Test.YtnfomlkhkggjeaaDoorMPw
/-
  Scalings: what lost nothing is exact; two scalings are one.
-/
namespace Go.Proofs.YtnfomlkhkggjeaaDoor
namespace Ie

theorem scale_exact {V E x : Int} (v0 : 0 < V) (v1 : V < 9007199254740992) (h : Rnd V 1 E false x) (x0 : 4503599627370496 < x) (x1 : x < 9218868437227405312) : ∃ c : Nat, (c : Int) = E + 1074 ∧ un x = V * 2 ^ c := by
  have e53 : (2 : Int) ^ 53 = 9007199254740992 := by decide
  rcases (show E < -1074 ∨ -1074 ≤ E by omega) with hE | hE
  · exfalso
    have hl : Rnd 4503599627370496 1 (-1074) false 4503599627370496 := by
      refine rnd_vl _ _ _ false 1 0 (by omega) (by omega) (by omega) ?_
      decide
    obtain ⟨a', ha'⟩ : ∃ a' : Nat, (a' : Int) = -1074 - E := ⟨(-1074 - E).toNat, by omega⟩
    have := h.mono (by decide) (by decide) hl (a := 0) (a' := a') (by omega) (.inl ?_)
    · omega
    · have g := Nm.two_mono (show 1 ≤ a' by omega)
      have e1 : (2 : Int) ^ 1 = 2 := rfl
      rw [Int.mul_one, Int.pow_zero, Int.mul_one, Int.mul_one]
      omega
  · obtain ⟨c, hc⟩ : ∃ c : Nat, (c : Int) = E + 1074 := ⟨(E + 1074).toNat, by omega⟩
    refine ⟨c, hc, ?_⟩
    rcases Nat.lt_or_ge 2045 c with hl | hl
    · obtain ⟨s, hs⟩ : ∃ s, c = 2045 + s := ⟨c - 2045, by omega⟩
      have hp := Nm.two_pos s
      have g := h.up s
      rcases (show V * 2 ^ s < 9007199254740992 ∨ 9007199254740992 ≤ V * 2 ^ s by omega) with q | q
      · have := (rnd_rep (c := 2045) (by omega) (by have := Int.mul_pos v0 hp; omega) q (Nat.le_refl _) g).1
        rw [this, hs, Nm.two_add, Int.mul_comm (2 ^ 2045), Int.mul_assoc]
      · exfalso
        have := g.one (by decide) (by decide) (rnd_inf (V * 2 ^ s) 1 (E - s) 53 0 false (by omega) (by decide) (by omega)) (a := 0) (a' := 0) (by omega) rfl
        omega
    · exact (rnd_rep hc (by omega) v1 hl h).1

/-- Two roundings of one number. -/
theorem same_rnd {V V' E E' x y : Int} {a a' : Nat} (h : Rnd V 1 E false x) (h' : Rnd V' 1 E' false y) (ha : (a : Int) - a' = E - E') (e : V * 2 ^ a = V' * 2 ^ a') : x = y := by
  refine h.one (by decide) (by decide) h' ha ?_
  rw [Int.mul_one, Int.mul_one]
  exact e
end Ie
end Go.Proofs.YtnfomlkhkggjeaaDoor

/-
  ieee: Abs.
-/
namespace Go.Proofs.YtnfomlkhkggjeaaDoor
open Go Go.RowKit Go.Deep

set_option maxRecDepth 100000 in
theorem abs_any (d : Int) (w : World) (h0 : 0 ≤ d) (h1 : d < 18446744073709551616) :
    Calls Tryd.prog 10 #[.int .u64 d] w fun e w' => e = .returned (.int .u64 (d % 9223372036854775808)) ∧ w' = w := by
  have B := Ib.sign_andNot d h0 h1
  go_enter Tryd.func10, Tryd.ntmps10
  go_wp2
  go_ret
  exact ⟨rfl, rfl⟩
end Go.Proofs.YtnfomlkhkggjeaaDoor

/-
  RemainSteps (made by mkhsteps.py).
-/
namespace Go.Proofs.YtnfomlkhkggjeaaDoor
open Go Go.RowKit Go.Deep

namespace Ie
theorem sg_facts (N : Bool) (y : Int) (h0 : 0 ≤ y) (h1 : y < 9223372036854775808) : ab (sg N y) = y ∧ ngd (sg N y) = N ∧ 0 ≤ sg N y ∧ sg N y < 18446744073709551616 ∧ sg N y / 9223372036854775808 = (if N = true then 1 else 0) := by
  have := ab_sb N y h0 h1
  rw [show sb N y = sg N y from rfl] at this
  refine ⟨this.1, this.2, ?_, ?_, ?_⟩ <;> cases N <;> simp only [sg, Bool.false_eq_true, if_true, if_false] <;> omega

theorem div_ngd (d : Int) (h0 : 0 ≤ d) (h1 : d < 18446744073709551616) : d / 9223372036854775808 = (if ngd d = true then 1 else 0) := by
  rcases (show d < 9223372036854775808 ∨ 9223372036854775808 ≤ d by omega) with g | g
  · rw [ngd, decide_eq_false (by omega), if_neg (by decide)]; omega
  · rw [ngd, decide_eq_true (by omega), if_pos rfl]; omega

theorem steps_facts {d m y : Int} (h0 : 0 ≤ d) (h1 : d < 18446744073709551616) (hf : fin d) (hz : ab d ≠ 0) (hy : Rnd (dm d) 1 (de d + m) false y) (y0 : 4503599627370496 < y) (y1 : y < 9218868437227405312) :
    (∀ r, ScaleIs (sg (ngd d) y) (-m) r → r = d) ∧ (∀ n r1 r2, ScaleIs (sg (ngd d) y) n r1 → ScaleIs d (m + n) r2 → r1 = r2) := by
  obtain ⟨⟨m0, m1⟩, ⟨e0, e1⟩, gd, m2⟩ := dec_f d hf
  have mp : 0 < dm d := by have := fun g => hz (m2.1 g); omega
  obtain ⟨c, hc, hu⟩ := scale_exact mp m1 hy y0 y1
  obtain ⟨q1, q2, -, -, -⟩ := sg_facts (ngd d) y (by omega) (by omega)
  have fx : fin (sg (ngd d) y) := by rw [fin, q1]; exact y1
  obtain ⟨-, ⟨x0, x1⟩, gx, -⟩ := dec_f _ fx
  obtain ⟨a, ha⟩ : ∃ a : Nat, (a : Int) = de (sg (ngd d) y) + 1074 := ⟨(de (sg (ngd d) y) + 1074).toNat, by omega⟩
  have key := gx a ha
  rw [q1, hu] at key
  constructor
  · intro r hr
    obtain ⟨z, rfl, hz'⟩ := hr.2.2 fx
    rw [q2]
    have hd : Rnd (dm d) 1 (de d) false (ab d) := by
      obtain ⟨k, hk⟩ : ∃ k : Nat, (k : Int) = de d + 1074 := ⟨(de d + 1074).toNat, by omega⟩
      refine rnd_vl _ _ _ false (k + 1) 0 (by omega) (ab_bd d).1 hf ?_
      rw [vl_un, ← gd k hk, Nm.two_succ, Int.pow_zero, Int.mul_one]
      exact Int.mul_left_comm _ _ _
    have := same_rnd hz' hd (a := a) (a' := c) (by omega) key
    rw [this]
    exact (sg_ab d h0 h1).symm
  · intro n r1 r2 h1' h2'
    obtain ⟨z1, rfl, g1⟩ := h1'.2.2 fx
    obtain ⟨z2, rfl, g2⟩ := h2'.2.2 hf
    rw [q2, same_rnd g1 g2 (a := a) (a' := c) (by omega) key]

theorem zero_scale {d n r : Int} (h0 : 0 ≤ d) (h1 : d < 18446744073709551616) (hz : ab d = 0) (h : ScaleIs d n r) : r = d := by
  have hf : fin d := by rw [fin, hz]; decide
  obtain ⟨-, -, -, m2⟩ := dec_f d hf
  obtain ⟨x, rfl, hx⟩ := h.2.2 hf
  rw [m2.2 hz] at hx
  have := hx.one (by decide) (by decide) (rnd_zero 1 (de d + n) false (by decide)) (a := 0) (a' := 0) (by omega) rfl
  have e := sg_ab d h0 h1
  rw [hz] at e
  rw [this]
  exact e.symm
end Ie

set_option maxRecDepth 100000 in
set_option maxHeartbeats 4000000 in
theorem steps_nan (d m n : Int) (w : World) (hT : Tab w) (h0 : 0 ≤ d) (h1 : d < 18446744073709551616) (hn : Ie.isn d = true) :
    Calls Tryd.prog 5 #[.int .u64 d, .int .i64 m, .int .i64 n] w fun e w' => e = .returned (.bool true) ∧ Below w.heap.size w w' := by
  have AWK := hid (hawake_any w hT)
  have SC := hid (fun (wx : World) (hx : Tab wx) => scale_any d m wx hx h0 h1)
  have HT := hid hT
  have hn' : d % 9223372036854775808 > 9218868437227405312 := by rw [Ie.isn, decide_eq_true_iff, Ie.ab] at hn; exact hn
  go_enter Tryd.func5, Tryd.ntmps5
  go_wp2_with fail
  refine AWK.out.mono ?_
  rintro e w1 ⟨rfl, hB⟩
  have HB1 := hid hB
  have S1 := hid (SC.out w1 (HT.out.below hB))
  clear hB AWK SC
  go_wp2_with fail
  refine S1.out.mono ?_
  rintro e w2 ⟨r, rfl, hS, hB⟩
  have HB2 := hid (HB1.out.trans (hB.mono HB1.out.size))
  obtain rfl := hS.1 hn
  clear hB hS S1 hn HB1
  go_wp2_with fail
  go_ret
  exact ⟨rfl, HB2.out⟩

set_option maxRecDepth 100000 in
set_option maxHeartbeats 4000000 in
theorem steps_same (d m n : Int) (w : World) (hT : Tab w) (h0 : 0 ≤ d) (h1 : d < 18446744073709551616) (hk : Ie.ab d = 0 ∨ Ie.ab d = 9218868437227405312) :
    Calls Tryd.prog 5 #[.int .u64 d, .int .i64 m, .int .i64 n] w fun e w' => e = .returned (.bool true) ∧ Below w.heap.size w w' := by
  have AWK := hid (hawake_any w hT)
  have SC := hid (fun (wx : World) (hx : Tab wx) => scale_any d m wx hx h0 h1)
  have HT := hid hT
  have k1 : ¬ d % 9223372036854775808 > 9218868437227405312 := by rw [Ie.ab] at hk; omega
  have WT : Hid (∀ r : Int, Ie.ScaleIs d m r → r = d) := by
    intro r hr
    rcases hk with k | k
    · exact Ie.zero_scale h0 h1 k hr
    · exact hr.2.1 (by rw [Ie.isi, decide_eq_true_iff]; exact k)
  rcases hk with k | k
  · have k2 : d % 9223372036854775808 = 0 := by rw [Ie.ab] at k; exact k
    go_enter Tryd.func5, Tryd.ntmps5
    go_wp2_with fail
    refine AWK.out.mono ?_
    rintro e w1 ⟨rfl, hB⟩
    have HB1 := hid hB
    have S1 := hid (SC.out w1 (HT.out.below hB))
    clear hB AWK SC
    go_wp2_with fail
    refine S1.out.mono ?_
    rintro e w2 ⟨r, rfl, hS, hB⟩
    have HB2 := hid (HB1.out.trans (hB.mono HB1.out.size))
    replace hS := (WT.out r hS).symm
    subst hS
    clear hB S1 HB1 WT k
    go_wp2_with fail
    go_ret
    exact ⟨rfl, HB2.out⟩
  · have k2 : d % 9223372036854775808 = 9218868437227405312 := by rw [Ie.ab] at k; exact k
    go_enter Tryd.func5, Tryd.ntmps5
    go_wp2_with fail
    refine AWK.out.mono ?_
    rintro e w1 ⟨rfl, hB⟩
    have HB1 := hid hB
    have S1 := hid (SC.out w1 (HT.out.below hB))
    clear hB AWK SC
    go_wp2_with fail
    refine S1.out.mono ?_
    rintro e w2 ⟨r, rfl, hS, hB⟩
    have HB2 := hid (HB1.out.trans (hB.mono HB1.out.size))
    replace hS := (WT.out r hS).symm
    subst hS
    clear hB S1 HB1 WT k
    go_wp2_with fail
    go_ret
    exact ⟨rfl, HB2.out⟩

set_option maxRecDepth 100000 in
set_option maxHeartbeats 4000000 in
theorem steps_main (d m n : Int) (w : World) (hT : Tab w) (h0 : 0 ≤ d) (h1 : d < 18446744073709551616) (m0 : -9223372036854775808 ≤ m) (m1 : m ≤ 9223372036854775807) (n0 : -9223372036854775808 ≤ n) (n1 : n ≤ 9223372036854775807) (hf : Ie.fin d) (hz : Ie.ab d ≠ 0) :
    Calls Tryd.prog 5 #[.int .u64 d, .int .i64 m, .int .i64 n] w fun e w' => e = .returned (.bool true) ∧ Below w.heap.size w w' := by
  have AWK := hid (hawake_any w hT)
  have SC := hid (fun (wx : World) (hx : Tab wx) => scale_any d m wx hx h0 h1)
  have HT := hid hT
  have k1 : ¬ d % 9223372036854775808 > 9218868437227405312 := by rw [Ie.fin, Ie.ab] at hf; omega
  have k2 : (d % 9223372036854775808 == 0) = false := by rw [beq_eq_false_iff_ne]; rw [Ie.ab] at hz; exact hz
  have k3 : (d % 9223372036854775808 == 9218868437227405312) = false := by rw [beq_eq_false_iff_ne]; rw [Ie.fin, Ie.ab] at hf; omega
  obtain ⟨q, hq⟩ : ∃ q, d / 9223372036854775808 = q := ⟨_, rfl⟩
  have RF : Hid (∀ r : Int, Ie.ScaleIs d m r → ∃ y, r = Ie.sg (Ie.ngd d) y ∧ Ie.Rnd (Ie.dm d) 1 (Ie.de d + m) false y ∧ 0 ≤ y ∧ y ≤ 9218868437227405312 ∧ r / 9223372036854775808 = q ∧ r % 9223372036854775808 = y ∧ 0 ≤ r ∧ r < 18446744073709551616) := by
    intro r hr
    obtain ⟨y, rfl, hy⟩ := hr.2.2 hf
    have b := hy.bd
    obtain ⟨q1, q2, q3, q4, q5⟩ := Ie.sg_facts (Ie.ngd d) y b.1 (by omega)
    exact ⟨y, rfl, hy, b.1, b.2, by rw [q5, ← hq, Ie.div_ngd d h0 h1], q1, q3, q4⟩
  have FA := hid (fun (y : Int) (hy : Ie.Rnd (Ie.dm d) 1 (Ie.de d + m) false y) (y0 : 4503599627370496 < y) (y1 : y < 9218868437227405312) => Ie.steps_facts h0 h1 hf hz hy y0 y1)
  have SD := hid (fun (wx : World) (k : Int) (hx : Tab wx) => scale_any d k wx hx h0 h1)
  go_enter Tryd.func5, Tryd.ntmps5
  go_wp2_with fail
  refine AWK.out.mono ?_
  rintro e w1 ⟨rfl, hB⟩
  have HB1 := hid hB
  have S1 := hid (SC.out w1 (HT.out.below hB))
  clear hB AWK SC
  go_wp2_with fail
  refine S1.out.mono ?_
  rintro e w2 ⟨r, rfl, hS, hB⟩
  have HB2 := hid (HB1.out.trans (hB.mono HB1.out.size))
  obtain ⟨y, hry, hy, y0, y1, rq, rm, r0, r1⟩ := RF.out r hS
  have CL := hid (fun (wx : World) => class_any r wx r0 r1)
  have AB := hid (fun (wx : World) => abs_any r wx r0 r1)
  rw [rm] at AB
  clear hB hS S1 HB1 RF hf hz
  by_cases c2 : Ie.cls r = 2
  · rw [c2] at CL
    have yn : 4503599627370496 ≤ y ∧ y < 9218868437227405312 := by
      rcases Ie.dec_kinds r _ rfl with ⟨c, _⟩ | ⟨c, _⟩ | ⟨c, _, _, k1, k2⟩ | ⟨c, _⟩ | ⟨c, _⟩ <;> omega
    by_cases ym : y = 4503599627370496
    · have HYM := hid ym
      rw [ym] at AB
      clear c2 hy ym yn FA SD hry
      go_wp2_with fail
      refine (CL.out _).mono ?_
      rintro e wz ⟨rfl, hz⟩
      replace hz := hz.symm
      subst hz
      go_wp2_with fail
      refine (AB.out _).mono ?_
      rintro e wz ⟨rfl, hz⟩
      replace hz := hz.symm
      subst hz
      go_wp2_with fail
      go_ret
      exact ⟨rfl, HB2.out⟩
    · have ym' : (y == 4503599627370496) = false := by rw [beq_eq_false_iff_ne]; exact ym
      obtain ⟨F1, F2⟩ := FA.out y hy (by omega) yn.2
      have HF1 := hid F1
      have HF2 := hid (fun (r1 r2 : Int) => F2 n r1 r2)
      have BK := hid (fun (wx : World) (hx : Tab wx) => scale_any r (-m) wx hx r0 r1)
      have SX := hid (fun (wx : World) (hx : Tab wx) => scale_any r n wx hx r0 r1)
      rw [← hry] at HF1 HF2
      clear c2 hy yn FA F1 F2 hry ym
      by_cases b1 : m > 1099511627776
      · clear HF1 HF2 BK SX SD
        go_wp2_with fail
        refine (CL.out _).mono ?_
        rintro e wz ⟨rfl, hz⟩
        replace hz := hz.symm
        subst hz
        go_wp2_with fail
        refine (AB.out _).mono ?_
        rintro e wz ⟨rfl, hz⟩
        replace hz := hz.symm
        subst hz
        go_wp2_with fail
        go_ret
        exact ⟨rfl, HB2.out⟩
      · by_cases b2 : m < -1099511627776
        · clear HF1 HF2 BK SX SD
          go_wp2_with fail
          refine (CL.out _).mono ?_
          rintro e wz ⟨rfl, hz⟩
          replace hz := hz.symm
          subst hz
          go_wp2_with fail
          refine (AB.out _).mono ?_
          rintro e wz ⟨rfl, hz⟩
          replace hz := hz.symm
          subst hz
          go_wp2_with fail
          go_ret
          exact ⟨rfl, HB2.out⟩
        · by_cases b3 : n > 1099511627776
          · clear HF1 HF2 BK SX SD
            go_wp2_with fail
            refine (CL.out _).mono ?_
            rintro e wz ⟨rfl, hz⟩
            replace hz := hz.symm
            subst hz
            go_wp2_with fail
            refine (AB.out _).mono ?_
            rintro e wz ⟨rfl, hz⟩
            replace hz := hz.symm
            subst hz
            go_wp2_with fail
            go_ret
            exact ⟨rfl, HB2.out⟩
          · by_cases b4 : n < -1099511627776
            · clear HF1 HF2 BK SX SD
              go_wp2_with fail
              refine (CL.out _).mono ?_
              rintro e wz ⟨rfl, hz⟩
              replace hz := hz.symm
              subst hz
              go_wp2_with fail
              refine (AB.out _).mono ?_
              rintro e wz ⟨rfl, hz⟩
              replace hz := hz.symm
              subst hz
              go_wp2_with fail
              go_ret
              exact ⟨rfl, HB2.out⟩
            · go_wp2_with fail
              refine (CL.out _).mono ?_
              rintro e wz ⟨rfl, hz⟩
              replace hz := hz.symm
              subst hz
              go_wp2_with fail
              refine (AB.out _).mono ?_
              rintro e wz ⟨rfl, hz⟩
              replace hz := hz.symm
              subst hz
              go_wp2_with fail
              refine (BK.out _ (HT.out.below HB2.out)).mono ?_
              rintro e w3 ⟨r3, rfl, hS, hB⟩
              replace hS := (HF1.out r3 hS).symm
              subst hS
              have HB3 := hid (HB2.out.trans (hB.mono HB2.out.size))
              clear hB BK HF1 HB2 CL AB
              go_wp2_with fail
              refine (SX.out _ (HT.out.below HB3.out)).mono ?_
              rintro e w4 ⟨r4, rfl, hS, hB⟩
              have HB4 := hid (HB3.out.trans (hB.mono HB3.out.size))
              have HS4 := hid hS
              clear hB hS SX HB3
              go_wp2_with fail
              refine (SD.out _ _ (HT.out.below HB4.out)).mono ?_
              rintro e w5 ⟨r5, rfl, hS, hB⟩
              have HB5 := hid (HB4.out.trans (hB.mono HB4.out.size))
              have EQ := hid (HF2.out _ _ HS4.out hS)
              clear hB hS HF2 HS4
              go_wp2_with fail
              go_ret
              exact ⟨by rw [EQ.out]; simp, HB5.out⟩
  · have c2' : (Ie.cls r == 2) = false := by rw [beq_eq_false_iff_ne]; exact c2
    have c3 : (Ie.cls r != 2) = true := by rw [bne, c2']; rfl
    generalize Ie.cls r = c at *
    clear hy FA SD c2 hry AB
    go_wp2_with fail
    refine (CL.out _).mono ?_
    rintro e wz ⟨rfl, hz⟩
    replace hz := hz.symm
    subst hz
    go_wp2_with fail
    go_ret
    exact ⟨rfl, HB2.out⟩

theorem steps_law (d m n : Int) (w : World) (hT : Tab w) (h0 : 0 ≤ d) (h1 : d < 18446744073709551616) (m0 : -9223372036854775808 ≤ m) (m1 : m ≤ 9223372036854775807) (n0 : -9223372036854775808 ≤ n) (n1 : n ≤ 9223372036854775807) :
    Calls Tryd.prog 5 #[.int .u64 d, .int .i64 m, .int .i64 n] w fun e w' => e = .returned (.bool true) ∧ Below w.heap.size w w' := by
  rcases Ie.kinds d with h | ⟨_, h, _⟩ | ⟨_, _, h⟩
  · exact steps_nan d m n w hT h0 h1 h
  · exact steps_same d m n w hT h0 h1 (.inr (by rw [Ie.isi, decide_eq_true_iff] at h; exact h))
  · by_cases z : Ie.ab d = 0
    · exact steps_same d m n w hT h0 h1 (.inl z)
    · exact steps_main d m n w hT h0 h1 m0 m1 n0 n1 h z
end Go.Proofs.YtnfomlkhkggjeaaDoor
