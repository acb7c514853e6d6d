/-
  quot's Root, AND THE WALK OF QuotSquares.
-/
import Derived.Test.YthfechigdiefpabDoorQRoot
import Derived.Test.YthfechigdiefpabDoorQLaw
namespace Go.Proofs.YthfechigdiefpabDoor
open Go.RowKit Go.Deep

/-- The whole root. -/
def IsRoot (A R : Int) : Prop := 0 ≤ R ∧ R * R ≤ A ∧ A < (R + 1) * (R + 1)

theorem limbs_isR (p : Option Addr) (n cap : Nat) (zs : List Int) (N : Nat) (w : World) (ha : Arg w p n cap zs) (hN : Nm.tsize zs = N) :
    Calls Tryd.prog 11 #[.slice p n cap] w fun e w' => e = .returned (.int .i64 (N : Int)) ∧ w' = w := by
  rw [← hN]
  exact limbs_any p n cap zs w ha

theorem root_big (p : Option Addr) (n cap : Nat) (za : List Int) (w : World) (ha : Arg w p n cap za) (tz : 256 < Nm.tsize za) :
    Calls Tryd.prog 4 #[.slice p n cap] w fun e w' => e = .returned (.tuple #[.slice none 0 0, .bool false, .int .i64 2]) ∧ w' = w := by
  obtain ⟨N, HN⟩ : ∃ N, Hid (Nm.tsize za = N) := ⟨_, rfl⟩
  have hN : (256 : Int) < (N : Int) := by have := HN.out; omega
  have HL := hid (limbs_isR p n cap za N w ha HN.out)
  clear ha tz
  go_enter Tryd.func4, Tryd.ntmps4
  go_wp2_with fail
  refine HL.out.mono ?_
  rintro e w' ⟨rfl, rfl⟩
  go_wp2_with fail
  go_ret3
  exact ⟨rfl, rfl⟩

theorem ret_root {t : Option Addr} {k : Nat} {b c : Bool} {e : Int} (h : b = c) : Ending.returned (.tuple #[.slice t k k, .bool b, .int .i64 e]) = .returned (.tuple #[.slice t k k, .bool c, .int .i64 e]) := by rw [h]

set_option maxRecDepth 100000 in
set_option maxHeartbeats 1000000 in
theorem root_ok (p : Option Addr) (n cap : Nat) (za : List Int) (A : Int) (w : World) (ha : Arg w p n cap za) (hT : Tab w) (tz : Nm.tsize za ≤ 256) (hA : Nm.val za = A) :
    Calls Tryd.prog 4 #[.slice p n cap] w fun e w' => ∃ t os R, e = .returned (.tuple #[.slice t (List.length os) (List.length os), .bool (decide (R * R = A)), .int .i64 0]) ∧ Ans w.heap.size w' t os R ∧ Hid (IsRoot A R) ∧ Below w.heap.size w w' := by
  obtain ⟨N, HN⟩ : ∃ N, Hid (Nm.tsize za = N) := ⟨_, rfl⟩
  have hN : (N : Int) ≤ 256 := by have := HN.out; omega
  have HL := hid (limbs_isR p n cap za N w ha HN.out)
  have hz := Nm.tsize_zero_iff ha.2.2.2.2
  have h0 := (Nm.val_bd za ha.2.2.2.2).1
  have hA2 : A < Nm.pw 256 := by rw [← hA]; exact (Nm.tsize_le_iff ha.2.2.2.2 256).1 tz
  rw [hA] at hz h0
  by_cases hN0 : N = 0
  · have hA0 : A = 0 := hz.1 (by rw [HN.out]; exact hN0)
    subst hN0
    subst hA0
    clear ha tz hz h0 hA2 hA
    go_enter Tryd.func4, Tryd.ntmps4
    go_wp2_with fail
    refine HL.out.mono ?_
    rintro e w' ⟨rfl, rfl⟩
    go_wp2_with fail
    refine HL.out.mono ?_
    rintro e w' ⟨rfl, rfl⟩
    go_wp2_with fail
    go_ret3
    exact ⟨none, [], 0, rfl, ans_none _ _ _ (fun a h => by cases h), show IsRoot 0 0 from ⟨by omega, by omega, by omega⟩, Below.refl _ _⟩
  · have hN1 : ((N : Int) == 0) = false := by rw [beq_eq_false_iff_ne]; omega
    have hA1 : 1 ≤ A := by
      rcases (show A = 0 ∨ 1 ≤ A by omega) with h | h
      · exact absurd (HN.out.symm.trans (hz.2 h)) hN0
      · exact h
    have NW := hid (newton_ok p n cap za A w ha hT hA hA1 hA2)
    have HA := hid ha
    have HV := hid hA
    have room := Rt.room
    have p128 := Nm.pw_pos 128
    have hAs : Hid (A < Nm.pw 4096) := by
      show _ < _
      generalize Nm.pw 4096 = x at *
      generalize Nm.pw 128 = y at *
      generalize Nm.pw 256 = z at *
      omega
    have HS : Hid (Nm.pw 128 < Nm.pw 4096) := by
      have p256 := Nm.pw_pos 256
      show _ < _
      generalize Nm.pw 4096 = x at *
      generalize Nm.pw 128 = y at *
      generalize Nm.pw 256 = z at *
      omega
    clear ha tz hz h0 hA2 hA hT room p128 hA1
    go_enter Tryd.func4, Tryd.ntmps4
    go_wp2_with fail
    refine HL.out.mono ?_
    rintro e w' ⟨rfl, rfl⟩
    go_wp2_with fail
    refine HL.out.mono ?_
    rintro e w' ⟨rfl, rfl⟩
    go_wp2_with fail
    refine NW.out.mono ?_
    rintro e w1 ⟨t, os, R, rfl, B1, HR, hb1⟩
    have HB1 := hid B1
    have D1 := hid hb1
    have HA1 := hid (HA.out.below hb1 (Nat.le_refl _))
    have hR : Hid (R < Nm.pw 4096) := Int.lt_of_le_of_lt HR.out.1.small HS.out
    have hRR : Hid (R * R < Nm.pw 4096) := Int.lt_of_le_of_lt HR.out.2 hAs.out
    clear B1 hb1 NW
    go_wp2_with fail
    refine (mul_ok t t _ _ _ _ os os _ (HB1.out.argR hR.out) (HB1.out.argR hR.out) (HB1.out.tsR hR.out) (HB1.out.tsR hR.out) (by rw [HB1.out.2.2.2.1]; exact hRR.out)).mono ?_
    rintro e w2 ⟨s, ss, rfl, B2, hb2⟩
    rw [HB1.out.2.2.2.1] at B2
    have HB2 := hid B2
    have HB1' := hid (HB1.out.below hb2 (Nat.le_refl _))
    have HA2 := hid (HA1.out.below hb2 (Nat.le_refl _))
    have D2 := hid (chain D1.out hb2 (Nat.le_refl _))
    have FI : Hid (IsRoot A R) := ⟨by have := HR.out.1.one; omega, HR.out.2, HR.out.1.above⟩
    clear B2 hb2 HB1 HA1 D1 HR
    obtain ⟨c, HC⟩ : ∃ c, Hid (cmpI (R * R) A = c) := ⟨_, rfl⟩
    have HE : Hid ((c == 0) = decide (R * R = A)) := by
      show _ = _
      rw [← HC.out, cmpI]
      have := FI.out.2.1
      by_cases h : R * R < A
      · rw [if_pos h]
        simp
        omega
      · rw [if_neg h, if_pos (by omega)]
        simp
        omega
    go_wp2_with fail
    refine (cmp_is c s p _ _ n cap ss za _ (HB2.out.argR hRR.out) HA2.out (by rw [HB2.out.2.2.2.1, HV.out]; exact HC.out)).mono ?_
    rintro e w3 ⟨rfl, hb3⟩
    have HB3 := hid (HB1'.out.below hb3 (Nat.le_refl _))
    have D3 := hid (chain D2.out hb3 (Nat.le_refl _))
    clear hb3
    go_wp2_with fail
    go_ret3
    exact ⟨t, os, R, ret_root HE.out, HB3.out, FI, D3.out⟩

theorem root_ten {R : Int} (h : IsRoot 10 R) : R = 3 := by
  obtain ⟨h0, h1, h2⟩ := h
  rcases (show R = 0 ∨ R = 1 ∨ R = 2 ∨ R = 3 ∨ 4 ≤ R by omega) with h | h | h | h | h
  · subst h; omega
  · subst h; omega
  · subst h; omega
  · exact h
  · exfalso
    have : 4 * 4 ≤ R * R := Int.mul_le_mul h h (by omega) (by omega)
    omega

set_option maxRecDepth 100000 in
set_option maxHeartbeats 4000000 in
theorem squares_any (p : Option Addr) (n cap : Nat) (za : List Int) (w : World) (ha : Arg w p n cap za) (hT : Tab w) :
    Calls Tryd.prog 3 #[.slice p n cap] w fun e w' => e = .returned (.bool true) ∧ Below w.heap.size w w' := by
  have hn := ha.2.1
  have hn' := ha.2.2.1
  have HA := hid ha
  have HT := hid hT
  clear ha hT
  go_enter Tryd.func3, Tryd.ntmps3
  go_wp2_with fail
  refine (one_any 10 _ (by omega) (by omega)).mono ?_
  rintro e w1 ⟨r1, rfl, A1, hb1⟩
  have HA1 := hid A1
  have D1 := hid hb1
  have HT1 := hid (HT.out.below hb1)
  clear A1 hb1
  go_wp2_with fail
  refine (root_ok r1 1 1 [10] 10 _ HA1.out HT1.out (by simp [Nm.tsize]) (by simp [Nm.val])).mono ?_
  rintro e w2 ⟨s1, os, R, rfl, B1, HR, hb2⟩
  have hR := root_ten HR.out
  subst hR
  have HB1 := hid B1
  have D2 := hid (chain D1.out hb2 (Nat.le_refl _))
  clear B1 hb2 HR HA1 HT1 D1
  go_wp2_with fail
  refine (one_any 3 _ (by omega) (by omega)).mono ?_
  rintro e w3 ⟨r2, rfl, A2, hb3⟩
  have HA2 := hid A2
  have HB2 := hid (HB1.out.below hb3 (Nat.le_refl _))
  have D3 := hid (chain D2.out hb3 (Nat.le_refl _))
  clear A2 hb3 HB1 D2
  go_wp2_with fail
  refine (alike_one HB2.out (by omega) (by omega) r2 HA2.out).mono ?_
  rintro e w4 ⟨rfl, hb4⟩
  have D4 := hid (chain D3.out hb4 (Nat.le_refl _))
  have HA4 := hid (HA.out.below D4.out (Nat.le_refl _))
  have HT4 := hid (HT.out.below D4.out)
  clear hb4 HB2 HA2 D3
  by_cases hbig : 256 < Nm.tsize za
  · have hbig' : (256 : Int) < (Nm.tsize za : Int) := by omega
    have HG := hid hbig
    clear hbig
    go_wp2_with fail
    refine (root_big p n cap za _ HA4.out HG.out).mono ?_
    rintro e w5 ⟨rfl, rfl⟩
    go_wp2_with fail
    refine (top_any p n cap za _ HA4.out.1 (by omega) HA4.out.2.2.2.1).mono ?_
    rintro e w5 ⟨rfl, rfl⟩
    go_wp2_with fail
    go_ret
    exact ⟨rfl, D4.out⟩
  · have hbig' : (Nm.tsize za : Int) ≤ 256 := by omega
    have HG : Hid (Nm.tsize za ≤ 256) := by show _ ≤ _; omega
    obtain ⟨A, HV⟩ : ∃ A, Hid (Nm.val za = A) := ⟨_, rfl⟩
    have hA2 : Hid (A < Nm.pw 256) := by show _ < _; rw [← HV.out]; exact (Nm.tsize_le_iff HA.out.2.2.2.2 256).1 HG.out
    clear hbig
    go_wp2_with fail
    refine (root_ok p n cap za A _ HA4.out HT4.out HG.out HV.out).mono ?_
    rintro e w5 ⟨s2, rs, R, rfl, B5, HR, hb5⟩
    have HB5 := hid B5
    have HA5 := hid (HA4.out.below hb5 (Nat.le_refl _))
    have D5 := hid (chain D4.out hb5 (Nat.le_refl _))
    clear B5 hb5 HA4 D4 HT4
    have hroom : Hid (R < Nm.pw 4096 ∧ R * R < Nm.pw 4096 ∧ R + 1 < Nm.pw 4096 ∧ (R + 1) * (R + 1) < Nm.pw 4096 ∧ A < Nm.pw 4096) := by
      obtain ⟨h0, h1, h2⟩ := HR.out
      have h3 := hA2.out
      have h4 := Rt.room_any 256 257 4095 (by omega) (by omega)
      have h5 := Nm.pw_succ 256
      have h6 := Nm.pw_pos 256
      have e1 : (R + 1) * (R + 1) = R * R + 2 * R + 1 := by rw [Int.add_mul, Int.mul_add, Int.one_mul, Int.mul_one]; omega
      have e2 : R ≤ R * R := by
        rcases (show R = 0 ∨ 1 ≤ R by omega) with h | h
        · subst h; omega
        · have : R * 1 ≤ R * R := Int.mul_le_mul_of_nonneg_left h h0
          omega
      show _ ∧ _
      rw [e1]
      generalize R * R = Y at *
      rw [show (4095 + 1 : Nat) = 4096 from rfl] at h4
      rw [show (256 + 1 : Nat) = 257 from rfl] at h5
      generalize Nm.pw 4096 = x at *
      generalize Nm.pw 257 = y at *
      generalize Nm.pw 256 = z at *
      omega
    go_wp2_with fail
    refine (top_any p n cap za _ HA5.out.1 (by omega) HA5.out.2.2.2.1).mono ?_
    rintro e w5 ⟨rfl, rfl⟩
    go_wp2_with fail
    refine (mul_ok s2 s2 _ _ _ _ rs rs _ (HB5.out.argR hroom.out.1) (HB5.out.argR hroom.out.1) (HB5.out.tsR hroom.out.1) (HB5.out.tsR hroom.out.1) (by rw [HB5.out.2.2.2.1]; exact hroom.out.2.1)).mono ?_
    rintro e w6 ⟨s3, ls, rfl, B6, hb6⟩
    rw [HB5.out.2.2.2.1] at B6
    have HB6 := hid B6
    have HA6 := hid (HA5.out.below hb6 (Nat.le_refl _))
    have HB5' := hid (HB5.out.below hb6 (Nat.le_refl _))
    have D6 := hid (chain D5.out hb6 (Nat.le_refl _))
    clear B6 hb6 HA5 D5 HB5
    go_wp2_with fail
    refine (one_any 1 _ (by omega) (by omega)).mono ?_
    rintro e w7 ⟨r3, rfl, A7, hb7⟩
    have HX7 := hid A7
    have HA7 := hid (HA6.out.below hb7 (Nat.le_refl _))
    have HB5 := hid (HB5'.out.below hb7 (Nat.le_refl _))
    have HB7 := hid (HB6.out.below hb7 (Nat.le_refl _))
    have D7 := hid (chain D6.out hb7 (Nat.le_refl _))
    clear A7 hb7 HA6 D6 HB5' HB6
    go_wp2_with fail
    refine (add_ok s2 r3 _ _ 1 1 rs [1] _ (HB5.out.argR hroom.out.1) HX7.out (by rw [HB5.out.2.2.2.1, val_one]; exact hroom.out.2.2.1)).mono ?_
    rintro e w8 ⟨s4, ns, rfl, B8, hb8⟩
    rw [HB5.out.2.2.2.1, val_one] at B8
    have HB8 := hid B8
    have HA8 := hid (HA7.out.below hb8 (Nat.le_refl _))
    have HL8 := hid (HB7.out.below hb8 (Nat.le_refl _))
    have D8 := hid (chain D7.out hb8 (Nat.le_refl _))
    clear B8 hb8 HA7 D7 HB5 HB7 HX7
    go_wp2_with fail
    refine (mul_ok s4 s4 _ _ _ _ ns ns _ (HB8.out.argR hroom.out.2.2.1) (HB8.out.argR hroom.out.2.2.1) (HB8.out.tsR hroom.out.2.2.1) (HB8.out.tsR hroom.out.2.2.1) (by rw [HB8.out.2.2.2.1]; exact hroom.out.2.2.2.1)).mono ?_
    rintro e w9 ⟨s5, hs, rfl, B9, hb9⟩
    rw [HB8.out.2.2.2.1] at B9
    have HB9 := hid B9
    have HA9 := hid (HA8.out.below hb9 (Nat.le_refl _))
    have HL9 := hid (HL8.out.below hb9 (Nat.le_refl _))
    have D9 := hid (chain D8.out hb9 (Nat.le_refl _))
    clear B9 hb9 HA8 D8 HB8 HL8
    rcases (show R * R = A ∨ R * R < A by have := HR.out.2.1; omega) with hc | hc
    · have CM := hid (cmp_is 0 s3 p _ _ n cap ls za w9 (HL9.out.argR hroom.out.2.1) HA9.out (cmpI_eq (by rw [HL9.out.2.2.2.1, HV.out]; exact hc)))
      have hdec : decide (R * R = A) = true := by simp [hc]
      clear hc
      go_wp2_with fail
      refine CM.out.mono ?_
      rintro e w10 ⟨rfl, hb10⟩
      have HA10 := hid (HA9.out.below hb10 (Nat.le_refl _))
      have HB10 := hid (HB9.out.below hb10 (Nat.le_refl _))
      have D10 := hid (chain D9.out hb10 (Nat.le_refl _))
      clear hb10
      go_wp2_with fail
      refine (cmp_is (-1) p s5 n cap _ _ za hs _ HA10.out (HB10.out.argR hroom.out.2.2.2.1) (cmpI_lt (by rw [HV.out, HB10.out.2.2.2.1]; exact HR.out.2.2))).mono ?_
      rintro e w11 ⟨rfl, hb11⟩
      have D11 := hid (chain D10.out hb11 (Nat.le_refl _))
      clear hb11
      go_wp2_with fail
      go_ret
      exact ⟨rfl, D11.out⟩
    · have CM := hid (cmp_is (-1) s3 p _ _ n cap ls za w9 (HL9.out.argR hroom.out.2.1) HA9.out (cmpI_lt (by rw [HL9.out.2.2.2.1, HV.out]; exact hc)))
      have hdec : decide (R * R = A) = false := by simp; omega
      clear hc
      go_wp2_with fail
      refine CM.out.mono ?_
      rintro e w10 ⟨rfl, hb10⟩
      have HA10 := hid (HA9.out.below hb10 (Nat.le_refl _))
      have HB10 := hid (HB9.out.below hb10 (Nat.le_refl _))
      have D10 := hid (chain D9.out hb10 (Nat.le_refl _))
      clear hb10
      go_wp2_with fail
      refine (cmp_is (-1) p s5 n cap _ _ za hs _ HA10.out (HB10.out.argR hroom.out.2.2.2.1) (cmpI_lt (by rw [HV.out, HB10.out.2.2.2.1]; exact HR.out.2.2))).mono ?_
      rintro e w11 ⟨rfl, hb11⟩
      have D11 := hid (chain D10.out hb11 (Nat.le_refl _))
      clear hb11
      go_wp2_with fail
      go_ret
      exact ⟨rfl, D11.out⟩
end Go.Proofs.YthfechigdiefpabDoor
