/-
  Texts put together: YRef10, YAns, OpenList, OpenThrees, YThree, YToldB, YTolds.
-/
import Derived.Test.YtljpmddjcfkonaaGreatDoorRH
import Derived.Test.YtljpmddjcfkonaaGreatDoorRI
import Derived.Test.YtljpmddjcfkonaaGreatDoorRF
import Derived.Test.YtljpmddjcfkonaaGreatDoorRE
import Derived.Test.YtljpmddjcfkonaaGreatDoorMem
import Derived.SizedLaws
import Derived.ProofKit
import Derived.Test.YtljpmddjcfkonaaGreatDoorRG
namespace Go.Proofs.YtljpmddjcfkonaaGreatDoor
open Go Go.RowKit Go.Deep

def SqTold5 (a : Int) (w : World) (r : Ending) (w' : World) : Prop := ∃ x, r = .returned (.int .u64 x) ∧ Ie.SqrtR a x ∧ Below w.heap.size w w'

theorem small_root {B : Nat} {w : World} {p : Option Addr} {ys : List Int} {n : Int} (h : Ans B w p ys n) (hn : n < 2 ^ 200) : Nm.tsize ys ≤ 256 :=
  (Nm.tsize_le_iff h.2.1 256).2 (by
    rw [h.2.2.2.1, Nm.pw_two]
    have := Nm.two_mono (show 200 ≤ 64 * 256 by omega)
    omega)
theorem root_lt {R A : Int} (h : 0 ≤ R ∧ R * R ≤ A ∧ A < (R + 1) * (R + 1)) (hA : A < 2 ^ 200) : R < 2 ^ 4400 := by
  have h1 : R ≤ R * R := by
    rcases (show R = 0 ∨ 1 ≤ R by omega) with g | g
    · subst g; decide
    · have : R * 1 ≤ R * R := Int.mul_le_mul_of_nonneg_left g (by omega)
      omega
  have := Nm.two_mono (show 200 ≤ 4400 by omega)
  omega

set_option maxRecDepth 100000 in
set_option maxHeartbeats 4000000 in
theorem ysqrt_any (a : Int) (w : World) (a0 : 0 ≤ a) (a1 : a < 18446744073709551616) :
    Calls Tryz.prog 8 #[.int .u64 a] w fun e w' => SqTold5 a w e w' := by
  have GA := hid (fun wx => yngd_any a wx)
  have NA := hid (fun wx => ynan_any a wx a0 a1)
  have IA := hid (fun wx => yinf_any a wx a0 a1)
  have ZA := hid (fun wx => yzero_any a wx a0 a1)
  have FF : Hid (∀ x w', Ie.SqrtR a x → Below w.heap.size w w' → SqTold5 a w (.returned (.int .u64 x)) w') := fun x w' h k => ⟨x, rfl, h, k⟩
  have BR := hid (Below.refl w.heap.size w)
  have RA : Hid (Ie.isn a = false → Ie.isi a = false → (∀ wx, Calls Tryz.prog 22 #[.int .u64 a] wx (fun r w' => NumTold5 (Ie.ngd a) (Ie.dm a) 1 (Ie.de a) wx r w')) ∧ Ie.fin a ∧ (0 ≤ Ie.dm a ∧ Ie.dm a < 9007199254740992) ∧ (-1100 ≤ Ie.de a ∧ Ie.de a ≤ 1000)) := fun h1 h2 => by
    have fa := Ie.fin_of h1 h2
    obtain ⟨⟨da0, da1⟩, ⟨ea0, ea1⟩, _, _⟩ := Ie.dec_f a fa
    exact ⟨fun wx => yof2 a _ _ _ wx a0 a1 rfl rfl rfl da0 da1, fa, ⟨da0, da1⟩, by omega, by omega⟩
  clear a0 a1
  cases h1 : Ie.isn a
  · rw [h1] at NA
    cases h2 : Ie.isz a
    · rw [h2] at ZA
      cases h3 : Ie.ngd a
      · rw [h3] at GA RA
        cases h4 : Ie.isi a
        · rw [h4] at IA
          obtain ⟨OA, fa, ⟨m0, m1⟩, e0, e1⟩ := RA.out h1 h4
          have KK : Hid (∀ R k x (d : Nat) w', (d = 120 ∨ d = 121) → 2 * k = Ie.de a - d → (0 ≤ R ∧ R * R ≤ Ie.dm a * 2 ^ d ∧ Ie.dm a * 2 ^ d < (R + 1) * (R + 1)) → Ie.Rnd R 1 k (!decide (R * R = Ie.dm a * 2 ^ d)) x → Below w.heap.size w w' → SqTold5 a w (.returned (.int .u64 x)) w') := fun R k x d w' hd hk hI hR b => FF.out x w' (by unfold Ie.SqrtR; simp only [h1, h2, h3, h4, Bool.false_eq_true, if_false]; exact Ie.yroot_is fa (fun c => by rw [Ie.isz, c] at h2; exact absurd h2 (by decide)) hd hk hI hR) b
          have HA := hid OA
          clear OA fa FF RA BR
          generalize Ie.dm a = M at *
          generalize Ie.de a = E at *
          rcases (show E % 2 = 0 ∨ E % 2 = 1 by omega) with hpar | hpar
          · obtain ⟨k, hk⟩ : ∃ k : Int, 2 * k = E - (120 : Nat) := ⟨(E - 120) / 2, by omega⟩
            have tm : Int.tmod E 2 = 0 := by rw [Int.tmod_eq_emod]; split <;> omega
            have td : Int.tdiv (E - 120) 2 = k := by
              rw [show E - 120 = 2 * k by omega]
              exact Int.mul_tdiv_cancel_left k (by decide)
            have KF : Hid (∀ R x w', (0 ≤ R ∧ R * R ≤ M * 2 ^ 120 ∧ M * 2 ^ 120 < (R + 1) * (R + 1)) → Ie.Rnd R 1 k (!decide (R * R = M * 2 ^ 120)) x → Below w.heap.size w w' → SqTold5 a w (.returned (.int .u64 x)) w') := fun R x w' hI hR b => KK.out R k x 120 w' (.inl rfl) hk hI hR b
            have bA : M * 2 ^ 120 < 2 ^ 200 := by
              have := Int.mul_lt_mul_of_pos_right m1 (Nm.two_pos 120)
              have e : (9007199254740992 : Int) * 2 ^ 120 ≤ 2 ^ 200 := by decide
              omega
            have BA := hid bA
            have kb0 : -2000 ≤ k := by omega
            have kb1 : k ≤ 2000 := by omega
            clear hk KK bA m0 m1 hpar
            go_enter Tryz.func8, Tryz.ntmps8
            go_wp2_with (first | (go_at_call 16; first | (with_reducible refine (GA.out _).mono ?_; rintro e w' ⟨rfl, rfl⟩)) | (go_at_call 13; first | (with_reducible refine (NA.out _).mono ?_; rintro e w' ⟨rfl, rfl⟩)) | (go_at_call 14; first | (with_reducible refine (IA.out _).mono ?_; rintro e w' ⟨rfl, rfl⟩)) | (go_at_call 23; first | (with_reducible refine (ZA.out _).mono ?_; rintro e w' ⟨rfl, rfl⟩)))
            with_reducible refine (HA.out _).mono ?_
            rintro r w1 ⟨v1, rfl, N1, hB1⟩
            obtain ⟨p, n, c, q, m, d, zs, ys, rfl, g2, g3, g4, _⟩ := N1
            have ZB := hid (RT.new w1 (.bool false) (.slice p n c) (.slice q m d) (.int .i64 E))
            have LF : Hid (∀ wx, Below w1.heap.size w1 wx → Calls Tryz.prog 25 #[.slice p n c, .int .i64 120] wx fun e w' => ∃ r os, e = .returned (.slice r (List.length os) (List.length os)) ∧ Ans wx.heap.size w' r os (M * 2 ^ 120) ∧ Below wx.heap.size wx w') := fun wx b => by
              have h := lift_any p n c zs 120 120 wx (g2.below b (Nat.le_refl _)) (by omega) rfl (by omega)
              rw [g3] at h
              exact h
            have B1 := hid hB1
            clear g2 g3 g4 hB1 HA
            go_upto_region 11 with fail
            generalize hW : w1.alloc (.cells #[.bool false, .slice p n c, .slice q m d, .int .i64 E] 41) = w2 at *
            clear hW
            obtain ⟨⟨c0, c1, c2, c3⟩, -⟩ := ZB.out.2.cells
            have zb := ZB.out.1
            go_wp2_with fail
            with_reducible refine (LF.out _ zb).mono ?_
            rintro r w3 ⟨r1, os1, rfl, A1, hB3⟩
            have Z3 := hid (ZB.out.on hB3)
            have T1 := hid (A1.tl (K := 200) BA.out (by omega))
            have RO := hid (rroot_ok r1 _ _ os1 (M * 2 ^ 120) w3 (A1.arg (by have := T1.out.2.1; omega)) (small_root A1 BA.out) A1.2.2.2.1)
            clear A1 hB3 ZB zb c0 c1 c2 c3 LF T1
            obtain ⟨⟨c0, c1, c2, c3⟩, -⟩ := Z3.out.2.cells
            go_wp2_with fail
            with_reducible refine RO.out.mono ?_
            rintro r w4 ⟨t, os, R, rfl, A2, hI, hB4⟩
            have Z4 := hid (Z3.out.on hB4)
            have T2 := hid (A2.tl (K := 4400) (root_lt hI.out BA.out) (by omega))
            have RN := hid (fun wx (h : Arg wx t (List.length os) (List.length os) os) => zround_any false t _ _ os wx h T2.out.1 R k (!decide (R * R = M * 2 ^ 120)) A2.2.2.2.1)
            have A3 := hid (A2.arg (by have := T2.out.2.1; omega))
            have HI := hid hI.out
            have B4 := hid (bel B1.out Z4.out.1)
            clear A2 hI hB4 Z3 c0 c1 c2 c3 RO T2 B1
            obtain ⟨⟨c0, c1, c2, c3⟩, -⟩ := Z4.out.2.cells
            obtain ⟨mo, hmo⟩ : ∃ b : Bool, decide (R * R = M * 2 ^ 120) = b := ⟨_, rfl⟩
            rw [hmo] at RN ⊢
            have R3 := hid (RN.out w4 A3.out)
            have KG := hid (fun x w' (hR : Ie.Rnd R 1 k (!mo) x) b => KF.out R x w' HI.out (by rw [hmo]; exact hR) b)
            clear hmo KF HI RN A3
            go_wp2_with fail
            with_reducible refine R3.out.mono ?_
            rintro r w5 ⟨x, rfl, hR, rfl⟩
            have F := hid (KG.out x w5 hR B4.out)
            clear hR R3 KG B4 c0 c1 c2 c3 Z4
            go_wp2_with fail
            go_ret
            exact F.out
          · obtain ⟨k, hk⟩ : ∃ k : Int, 2 * k = E - (121 : Nat) := ⟨(E - 121) / 2, by omega⟩
            obtain ⟨T, tm⟩ : ∃ T, Int.tmod E 2 = T := ⟨_, rfl⟩
            have tn : (T == 0) = false := by rw [beq_eq_false_iff_ne, ← tm, Int.tmod_eq_emod]; split <;> omega
            have tb0 : -1 ≤ T := by rw [← tm, Int.tmod_eq_emod]; split <;> omega
            have tb1 : T ≤ 1 := by rw [← tm, Int.tmod_eq_emod]; split <;> omega
            have td : Int.tdiv (E - 121) 2 = k := by
              rw [show E - 121 = 2 * k by omega]
              exact Int.mul_tdiv_cancel_left k (by decide)
            have KF : Hid (∀ R x w', (0 ≤ R ∧ R * R ≤ M * 2 ^ 121 ∧ M * 2 ^ 121 < (R + 1) * (R + 1)) → Ie.Rnd R 1 k (!decide (R * R = M * 2 ^ 121)) x → Below w.heap.size w w' → SqTold5 a w (.returned (.int .u64 x)) w') := fun R x w' hI hR b => KK.out R k x 121 w' (.inr rfl) hk hI hR b
            have bA : M * 2 ^ 121 < 2 ^ 200 := by
              have := Int.mul_lt_mul_of_pos_right m1 (Nm.two_pos 121)
              have e : (9007199254740992 : Int) * 2 ^ 121 ≤ 2 ^ 200 := by decide
              omega
            have BA := hid bA
            have kb0 : -2000 ≤ k := by omega
            have kb1 : k ≤ 2000 := by omega
            clear hk KK bA m0 m1 hpar
            go_enter Tryz.func8, Tryz.ntmps8
            go_wp2_with (first | (go_at_call 16; first | (with_reducible refine (GA.out _).mono ?_; rintro e w' ⟨rfl, rfl⟩)) | (go_at_call 13; first | (with_reducible refine (NA.out _).mono ?_; rintro e w' ⟨rfl, rfl⟩)) | (go_at_call 14; first | (with_reducible refine (IA.out _).mono ?_; rintro e w' ⟨rfl, rfl⟩)) | (go_at_call 23; first | (with_reducible refine (ZA.out _).mono ?_; rintro e w' ⟨rfl, rfl⟩)))
            with_reducible refine (HA.out _).mono ?_
            rintro r w1 ⟨v1, rfl, N1, hB1⟩
            obtain ⟨p, n, c, q, m, d, zs, ys, rfl, g2, g3, g4, _⟩ := N1
            have ZB := hid (RT.new w1 (.bool false) (.slice p n c) (.slice q m d) (.int .i64 E))
            have LF : Hid (∀ wx, Below w1.heap.size w1 wx → Calls Tryz.prog 25 #[.slice p n c, .int .i64 121] wx fun e w' => ∃ r os, e = .returned (.slice r (List.length os) (List.length os)) ∧ Ans wx.heap.size w' r os (M * 2 ^ 121) ∧ Below wx.heap.size wx w') := fun wx b => by
              have h := lift_any p n c zs 121 121 wx (g2.below b (Nat.le_refl _)) (by omega) rfl (by omega)
              rw [g3] at h
              exact h
            have B1 := hid hB1
            clear g2 g3 g4 hB1 HA
            go_upto_region 11 with fail
            generalize hW : w1.alloc (.cells #[.bool false, .slice p n c, .slice q m d, .int .i64 E] 41) = w2 at *
            clear hW
            obtain ⟨⟨c0, c1, c2, c3⟩, -⟩ := ZB.out.2.cells
            have zb := ZB.out.1
            go_wp2_with fail
            with_reducible refine (LF.out _ zb).mono ?_
            rintro r w3 ⟨r1, os1, rfl, A1, hB3⟩
            have Z3 := hid (ZB.out.on hB3)
            have T1 := hid (A1.tl (K := 200) BA.out (by omega))
            have RO := hid (rroot_ok r1 _ _ os1 (M * 2 ^ 121) w3 (A1.arg (by have := T1.out.2.1; omega)) (small_root A1 BA.out) A1.2.2.2.1)
            clear A1 hB3 ZB zb c0 c1 c2 c3 LF T1
            obtain ⟨⟨c0, c1, c2, c3⟩, -⟩ := Z3.out.2.cells
            go_wp2_with fail
            with_reducible refine RO.out.mono ?_
            rintro r w4 ⟨t, os, R, rfl, A2, hI, hB4⟩
            have Z4 := hid (Z3.out.on hB4)
            have T2 := hid (A2.tl (K := 4400) (root_lt hI.out BA.out) (by omega))
            have RN := hid (fun wx (h : Arg wx t (List.length os) (List.length os) os) => zround_any false t _ _ os wx h T2.out.1 R k (!decide (R * R = M * 2 ^ 121)) A2.2.2.2.1)
            have A3 := hid (A2.arg (by have := T2.out.2.1; omega))
            have HI := hid hI.out
            have B4 := hid (bel B1.out Z4.out.1)
            clear A2 hI hB4 Z3 c0 c1 c2 c3 RO T2 B1
            obtain ⟨⟨c0, c1, c2, c3⟩, -⟩ := Z4.out.2.cells
            obtain ⟨mo, hmo⟩ : ∃ b : Bool, decide (R * R = M * 2 ^ 121) = b := ⟨_, rfl⟩
            rw [hmo] at RN ⊢
            have R3 := hid (RN.out w4 A3.out)
            have KG := hid (fun x w' (hR : Ie.Rnd R 1 k (!mo) x) b => KF.out R x w' HI.out (by rw [hmo]; exact hR) b)
            clear hmo KF HI RN A3
            go_wp2_with fail
            with_reducible refine R3.out.mono ?_
            rintro r w5 ⟨x, rfl, hR, rfl⟩
            have F := hid (KG.out x w5 hR B4.out)
            clear hR R3 KG B4 c0 c1 c2 c3 Z4
            go_wp2_with fail
            go_ret
            exact F.out
        · rw [h4] at IA
          have F := hid (FF.out a w (by unfold Ie.SqrtR; simp [h1, h2, h3, h4]) BR.out)
          clear FF RA BR
          go_enter Tryz.func8, Tryz.ntmps8
          go_wp2_with (first | (go_at_call 16; first | (with_reducible refine (GA.out _).mono ?_; rintro e w' ⟨rfl, rfl⟩)) | (go_at_call 13; first | (with_reducible refine (NA.out _).mono ?_; rintro e w' ⟨rfl, rfl⟩)) | (go_at_call 14; first | (with_reducible refine (IA.out _).mono ?_; rintro e w' ⟨rfl, rfl⟩)) | (go_at_call 23; first | (with_reducible refine (ZA.out _).mono ?_; rintro e w' ⟨rfl, rfl⟩)))
          go_ret
          exact F.out
      · rw [h3] at GA
        have F := hid (FF.out 9221120237041090560 w (by unfold Ie.SqrtR; simp [h1, h2, h3]) BR.out)
        clear FF RA BR
        go_enter Tryz.func8, Tryz.ntmps8
        go_wp2_with (first | (go_at_call 16; first | (with_reducible refine (GA.out _).mono ?_; rintro e w' ⟨rfl, rfl⟩)) | (go_at_call 13; first | (with_reducible refine (NA.out _).mono ?_; rintro e w' ⟨rfl, rfl⟩)) | (go_at_call 14; first | (with_reducible refine (IA.out _).mono ?_; rintro e w' ⟨rfl, rfl⟩)) | (go_at_call 23; first | (with_reducible refine (ZA.out _).mono ?_; rintro e w' ⟨rfl, rfl⟩)))
        go_ret
        exact F.out
    · rw [h2] at ZA
      have F := hid (FF.out a w (by unfold Ie.SqrtR; simp [h1, h2]) BR.out)
      clear FF RA BR
      go_enter Tryz.func8, Tryz.ntmps8
      go_wp2_with (first | (go_at_call 16; first | (with_reducible refine (GA.out _).mono ?_; rintro e w' ⟨rfl, rfl⟩)) | (go_at_call 13; first | (with_reducible refine (NA.out _).mono ?_; rintro e w' ⟨rfl, rfl⟩)) | (go_at_call 14; first | (with_reducible refine (IA.out _).mono ?_; rintro e w' ⟨rfl, rfl⟩)) | (go_at_call 23; first | (with_reducible refine (ZA.out _).mono ?_; rintro e w' ⟨rfl, rfl⟩)))
      go_ret
      exact F.out
  · rw [h1] at NA
    have F := hid (FF.out 9221120237041090560 w (by unfold Ie.SqrtR; simp [h1]) BR.out)
    clear FF RA BR
    go_enter Tryz.func8, Tryz.ntmps8
    go_wp2_with (first | (go_at_call 16; first | (with_reducible refine (GA.out _).mono ?_; rintro e w' ⟨rfl, rfl⟩)) | (go_at_call 13; first | (with_reducible refine (NA.out _).mono ?_; rintro e w' ⟨rfl, rfl⟩)) | (go_at_call 14; first | (with_reducible refine (IA.out _).mono ?_; rintro e w' ⟨rfl, rfl⟩)) | (go_at_call 23; first | (with_reducible refine (ZA.out _).mono ?_; rintro e w' ⟨rfl, rfl⟩)))
    go_ret
    exact F.out
end Go.Proofs.YtljpmddjcfkonaaGreatDoor

namespace Go.Proofs.YtljpmddjcfkonaaGreatDoor
open Go Go.RowKit Go.Deep

namespace Ie
/-- What operation op answers, whoever makes it. -/
def AnsR (op a b c r : Int) : Prop :=
  if op = 1 then AddR a b r
  else if op = 2 then AddR a (ng b) r
  else if op = 3 then MulR a b r
  else if op = 4 then DivR a b r
  else if op = 5 then SqrtR a r
  else FmaR a b c r
end Ie

set_option maxRecDepth 100000 in
set_option maxHeartbeats 4000000 in
theorem yans1 (a b c d : Int) (w : World) (a0 : 0 ≤ a) (a1 : a < 18446744073709551616) (b0 : 0 ≤ b) (b1 : b < 18446744073709551616) (hd : ∀ x, Ie.AddR a b x → x = d) :
    Calls Tryz.prog 59 #[.int .i64 1, .int .u64 a, .int .u64 b, .int .u64 c] w fun r w' => r = .returned (.int .u64 d) ∧ Below w.heap.size w w' := by
  have AD := hid (fun wx => yadd_any a b wx a0 a1 b0 b1)
  have HD := hid hd
  clear hd
  go_enter Tryz.func59, Tryz.ntmps59
  go_wp2_with fail
  with_reducible refine (AD.out _).mono ?_
  rintro r w1 ⟨x, rfl, h, hB⟩
  obtain rfl := HD.out x h
  have B1 := hid hB
  clear h hB AD HD
  go_wp2_with fail
  go_ret
  exact ⟨rfl, B1.out⟩

set_option maxRecDepth 100000 in
set_option maxHeartbeats 4000000 in
theorem yans2 (a b c d : Int) (w : World) (a0 : 0 ≤ a) (a1 : a < 18446744073709551616) (b0 : 0 ≤ b) (b1 : b < 18446744073709551616) (hd : ∀ x, Ie.AddR a (Ie.ng b) x → x = d) :
    Calls Tryz.prog 59 #[.int .i64 2, .int .u64 a, .int .u64 b, .int .u64 c] w fun r w' => r = .returned (.int .u64 d) ∧ Below w.heap.size w w' := by
  have AD := hid (fun wx => ysub_any a b wx a0 a1 b0 b1)
  have HD := hid hd
  clear hd
  go_enter Tryz.func59, Tryz.ntmps59
  go_wp2_with fail
  with_reducible refine (AD.out _).mono ?_
  rintro r w1 ⟨x, rfl, h, hB⟩
  obtain rfl := HD.out x h
  have B1 := hid hB
  clear h hB AD HD
  go_wp2_with fail
  go_ret
  exact ⟨rfl, B1.out⟩

set_option maxRecDepth 100000 in
set_option maxHeartbeats 4000000 in
theorem yans3 (a b c d : Int) (w : World) (a0 : 0 ≤ a) (a1 : a < 18446744073709551616) (b0 : 0 ≤ b) (b1 : b < 18446744073709551616) (hd : ∀ x, Ie.MulR a b x → x = d) :
    Calls Tryz.prog 59 #[.int .i64 3, .int .u64 a, .int .u64 b, .int .u64 c] w fun r w' => r = .returned (.int .u64 d) ∧ Below w.heap.size w w' := by
  have AD := hid (fun wx => ymultiply_any a b wx a0 a1 b0 b1)
  have HD := hid hd
  clear hd
  go_enter Tryz.func59, Tryz.ntmps59
  go_wp2_with fail
  with_reducible refine (AD.out _).mono ?_
  rintro r w1 ⟨x, rfl, h, hB⟩
  obtain rfl := HD.out x h
  have B1 := hid hB
  clear h hB AD HD
  go_wp2_with fail
  go_ret
  exact ⟨rfl, B1.out⟩

set_option maxRecDepth 100000 in
set_option maxHeartbeats 4000000 in
theorem yans4 (a b c d : Int) (w : World) (a0 : 0 ≤ a) (a1 : a < 18446744073709551616) (b0 : 0 ≤ b) (b1 : b < 18446744073709551616) (hd : ∀ x, Ie.DivR a b x → x = d) :
    Calls Tryz.prog 59 #[.int .i64 4, .int .u64 a, .int .u64 b, .int .u64 c] w fun r w' => r = .returned (.int .u64 d) ∧ Below w.heap.size w w' := by
  have AD := hid (fun wx => ydivide_any a b wx a0 a1 b0 b1)
  have HD := hid hd
  clear hd
  go_enter Tryz.func59, Tryz.ntmps59
  go_wp2_with fail
  with_reducible refine (AD.out _).mono ?_
  rintro r w1 ⟨x, rfl, h, hB⟩
  obtain rfl := HD.out x h
  have B1 := hid hB
  clear h hB AD HD
  go_wp2_with fail
  go_ret
  exact ⟨rfl, B1.out⟩

set_option maxRecDepth 100000 in
set_option maxHeartbeats 4000000 in
theorem yans5 (a b c d : Int) (w : World) (a0 : 0 ≤ a) (a1 : a < 18446744073709551616) (hd : ∀ x, Ie.SqrtR a x → x = d) :
    Calls Tryz.prog 59 #[.int .i64 5, .int .u64 a, .int .u64 b, .int .u64 c] w fun r w' => r = .returned (.int .u64 d) ∧ Below w.heap.size w w' := by
  have AD := hid (fun wx => ysqrt_any a wx a0 a1)
  have HD := hid hd
  clear hd
  go_enter Tryz.func59, Tryz.ntmps59
  go_wp2_with fail
  with_reducible refine (AD.out _).mono ?_
  rintro r w1 ⟨x, rfl, h, hB⟩
  obtain rfl := HD.out x h
  have B1 := hid hB
  clear h hB AD HD
  go_wp2_with fail
  go_ret
  exact ⟨rfl, B1.out⟩

set_option maxRecDepth 100000 in
set_option maxHeartbeats 4000000 in
theorem yans6 (a b c d : Int) (w : World) (a0 : 0 ≤ a) (a1 : a < 18446744073709551616) (b0 : 0 ≤ b) (b1 : b < 18446744073709551616) (c0 : 0 ≤ c) (c1 : c < 18446744073709551616) (hd : ∀ x, Ie.FmaR a b c x → x = d) :
    Calls Tryz.prog 59 #[.int .i64 6, .int .u64 a, .int .u64 b, .int .u64 c] w fun r w' => r = .returned (.int .u64 d) ∧ Below w.heap.size w w' := by
  have AD := hid (fun wx => yfma_any a b c wx a0 a1 b0 b1 c0 c1)
  have HD := hid hd
  clear hd
  go_enter Tryz.func59, Tryz.ntmps59
  go_wp2_with fail
  with_reducible refine (AD.out _).mono ?_
  rintro r w1 ⟨x, rfl, h, hB⟩
  obtain rfl := HD.out x h
  have B1 := hid hB
  clear h hB AD HD
  go_wp2_with fail
  go_ret
  exact ⟨rfl, B1.out⟩

end Go.Proofs.YtljpmddjcfkonaaGreatDoor

namespace Go.Proofs.YtljpmddjcfkonaaGreatDoor
open Go.RowKit Go.Deep Go.ChangeShapes Go.WideShapes Go.ChangeAt

/-- A list of limbs that was read, wherever it stands. -/
theorem open_list {H : Type} {enc : TypeId × Value → H} {W : World} {fuel : Nat} {c : Value} {y : DataW H × List MemPlace} (hf : DataW.trod enc Tryz.prog W 0 (fun _ => true) true fuel 39 [c] = some y)
    (hsz : ∀ n ∈ y.1.weights Tryz.prog 39, n ≤ reachBytes) : ∃ p n cap zs, c = .slice p n cap ∧ Arg W p n cap zs ∧ cap ≤ 17592186043904 := by
  rcases open_ints Tryz.underlying39 Tryz.underlying23 (by kernel_rfl) hf with ⟨hcs, _⟩ | ⟨x, l, cp, zs, hcs, _, hl, hm, hz, hx, hcell, hwz⟩
  · simp only [List.cons.injEq, and_true] at hcs
    exact ⟨none, 0, 0, [], hcs, ⟨rfl, Nat.le_refl _, by omega, Lies.nil _ _, Nm.Limbs.nil⟩, by omega⟩
  · simp only [List.cons.injEq, and_true] at hcs
    have hz' : zs.length = cp := by simpa using hz
    have hr := hsz (((lits (H := H) .u64 (zs.take l)).length + (lits (H := H) .u64 (zs.drop l)).length) * Tryz.prog.bytesOf 23) (by rw [hx]; simp [DataW.weights, Tryz.underlying39])
    rw [show Tryz.prog.bytesOf 23 = 8 by kernel_rfl] at hr
    simp only [lits, List.length_map, List.length_take, List.length_drop, reachBytes] at hr
    have hb : cp ≤ 17592186043904 := by omega
    exact ⟨some x, l, cp, _, hcs, arg_open hl hz' hb hcell hwz, hb⟩

theorem all_mem {H : Type} {P : Program} {e : TypeId} : ∀ {l : List (DataW H)} {d : DataW H}, d ∈ l → ∀ n ∈ d.weights P e, n ∈ DataW.weightsAll P e l
  | [], _, h, _, _ => by simp at h
  | x :: r, d, h, n, hn => by
    simp only [DataW.weightsAll, List.mem_append]
    rcases List.mem_cons.1 h with rfl | h
    · exact .inl hn
    · exact .inr (all_mem h n hn)

/-- What can be told of each place can be told of a list. -/
theorem list_of_each {α : Type} {Q : Nat → α → Prop} : ∀ n, (∀ i, i < n → ∃ x, Q i x) → ∃ l : List α, l.length = n ∧ ∀ i x, l[i]? = some x → Q i x
  | 0, _ => ⟨[], rfl, by simp⟩
  | n + 1, h => by
    obtain ⟨l, h1, h2⟩ := list_of_each n (fun i hi => h i (by omega))
    obtain ⟨x, hx⟩ := h n (by omega)
    refine ⟨l ++ [x], by simp [h1], fun i y hy => ?_⟩
    by_cases hi : i < l.length
    · rw [List.getElem?_append_left hi] at hy
      exact h2 i y hy
    · have hlt := (List.getElem?_eq_some_iff.1 hy).1
      simp only [List.length_append, List.length_cons, List.length_nil] at hlt
      obtain rfl : i = n := by omega
      rw [List.getElem?_append_right (by omega), h1, Nat.sub_self] at hy
      simp at hy
      subst hy
      exact hx
end Go.Proofs.YtljpmddjcfkonaaGreatDoor

namespace Go.Proofs.YtljpmddjcfkonaaGreatDoor
open Go.RowKit Go.Deep Go.ChangeShapes Go.WideShapes Go.ChangeAt

/-- A call that was read. -/
structure O3 where
  A : Int
  B : Int
  C : Int

/-- Its three cells stand there. -/
def O3.Cells (w : World) (b o : Nat) (it : O3) : Prop :=
  w.cell? ⟨b, o, none⟩ = some (.int .u64 it.A) ∧ w.cell? ⟨b, o + 1, none⟩ = some (.int .u64 it.B) ∧ w.cell? ⟨b, o + 2, none⟩ = some (.int .u64 it.C)

def O3.Bd (it : O3) : Prop := (0 ≤ it.A ∧ it.A < 18446744073709551616) ∧ (0 ≤ it.B ∧ it.B < 18446744073709551616) ∧ (0 ≤ it.C ∧ it.C < 18446744073709551616)

def O3.Holds (w : World) (a : Option Addr) (its : List O3) : Prop := its = [] ∨ ∃ b off, a = some ⟨b, off, none⟩ ∧ ∀ i it, its[i]? = some it → O3.Cells w b (off + i * 3) it

theorem list3o {α : Type} {l : List α} (h : l.length = 3) : ∃ c0 c1 c2, l = [c0, c1, c2] := by
  match l, h with
  | [c0, c1, c2], _ => exact ⟨c0, c1, c2, rfl⟩

theorem open_three3 {H : Type} {enc : TypeId × Value → H} {W : World} {fuel : Nat} {a0 a1 a2 : Value} {y : DataW H × List MemPlace} (hf : DataW.trod enc Tryz.prog W 0 (fun _ => true) true fuel 27 [a0, a1, a2] = some y) :
    ∃ it : O3, a0 = .int .u64 it.A ∧ a1 = .int .u64 it.B ∧ a2 = .int .u64 it.C ∧ it.Bd := by
  obtain ⟨xs, n, _, hx, _, hlen, hfs⟩ := DataW.trod_struct Tryz.underlying27 hf
  obtain ⟨y0, y1, y2, rfl⟩ := list3o hlen
  have cu : Tryz.prog.cellsOf 23 = 1 := by kernel_rfl
  have f0 : DataW.trod enc Tryz.prog W 0 (fun _ => true) true n 23 [a0] = some y0 := by simpa [cu] using hfs 0 _ rfl
  have f1 : DataW.trod enc Tryz.prog W 0 (fun _ => true) true n 23 [a1] = some y1 := by simpa [cu] using hfs 1 _ rfl
  have f2 : DataW.trod enc Tryz.prog W 0 (fun _ => true) true n 23 [a2] = some y2 := by simpa [cu] using hfs 2 _ rfl
  obtain ⟨X, e0, _, w0⟩ := DataW.trod_int Tryz.underlying23 f0
  obtain ⟨Y, e1, _, w1⟩ := DataW.trod_int Tryz.underlying23 f1
  obtain ⟨Z, e2, _, w2⟩ := DataW.trod_int Tryz.underlying23 f2
  have b0 := bounds_u64 w0
  have b1 := bounds_u64 w1
  have b2 := bounds_u64 w2
  have bX : 0 ≤ X ∧ X < 18446744073709551616 := by omega
  have bY : 0 ≤ Y ∧ Y < 18446744073709551616 := by omega
  have bZ : 0 ≤ Z ∧ Z < 18446744073709551616 := by omega
  exact ⟨⟨X, Y, Z⟩, (List.cons.inj e0).1, (List.cons.inj e1).1, (List.cons.inj e2).1, bX, bY, bZ⟩

theorem open_threes {H : Type} {enc : TypeId × Value → H} {W : World} {a : Option Addr} {len cap : Nat} {d : DataW H} {p : List MemPlace} (h : DataW.Trod enc Tryz.prog W 0 (fun _ => true) true 22 (.slice a len cap) d p)
    (hsz : ∀ n ∈ d.weights Tryz.prog 22, n ≤ reachBytes) : ∃ its : List O3, its.length = len ∧ len ≤ cap ∧ cap ≤ 17592186044416 ∧ O3.Holds W a its ∧ ∀ it ∈ its, O3.Bd it := by
  obtain ⟨fuel, hf⟩ := h
  rcases DataW.trod_slice Tryz.underlying22 hf with ⟨hcs, _⟩ | ⟨x, l, c, elems, rest, n, _, hcs, hx, _, hl, hm, he, hel, hsp, _⟩
  · simp [Value.cells] at hcs
    obtain ⟨rfl, rfl, rfl⟩ := hcs
    exact ⟨[], rfl, Nat.le_refl _, by omega, .inl rfl, by intro it h; simp at h⟩
  · simp [Value.cells] at hcs
    obtain ⟨rfl, rfl, rfl⟩ := hcs
    have hd : d = .slice (elems.map (·.1)) (rest.map (·.1)) := (Prod.mk.inj hx).1
    have hw : ∀ n ∈ (DataW.slice (elems.map (·.1)) (rest.map (·.1)) : DataW H).weights Tryz.prog 22, n ≤ reachBytes := by rw [← hd]; exact hsz
    simp only [DataW.weights, Tryz.underlying22] at hw
    have hr := hw _ List.mem_cons_self
    rw [show Tryz.prog.bytesOf 27 = 24 by kernel_rfl] at hr
    have hrl := (hsp rfl).1
    simp only [List.length_map, reachBytes] at hr
    have hcap : cap ≤ 17592186044416 := by omega
    rw [show Tryz.prog.cellsOf 27 = 3 by kernel_rfl] at hel
    obtain ⟨its, i1, i2⟩ := list_of_each (Q := fun i (it : O3) => (W.cell? (x.add (i * 3)) = some (.int .u64 it.A) ∧ W.cell? ((x.add (i * 3)).add 1) = some (.int .u64 it.B) ∧ W.cell? ((x.add (i * 3)).add 2) = some (.int .u64 it.C)) ∧ it.Bd) len (fun i hi => by
      have h1 := hel i hi
      have h2 : elems[i]? = some elems[i] := List.getElem?_eq_getElem (by omega)
      rw [h2] at h1
      obtain ⟨cs, h3, h4⟩ := Option.bind_eq_some_iff.1 h1
      obtain ⟨_, h5, h6⟩ := World.cells?_some h3
      obtain ⟨v0, v1, v2, rfl⟩ := list3o h5
      have e0 := h6 0 (by omega)
      have e1 := h6 1 (by omega)
      have e2 := h6 2 (by omega)
      have h8 : (x.add (i * 3)).add 0 = x.add (i * 3) := by simp [Addr.add]
      rw [h8] at e0
      obtain ⟨it, q0, q1, q2, hA⟩ := open_three3 h4
      subst q0
      subst q1
      subst q2
      exact ⟨it, ⟨e0, e1, e2⟩, hA⟩)
    refine ⟨its, i1, hl, hcap, ?_, ?_⟩
    · rcases Nat.eq_zero_or_pos its.length with h0 | h0
      · exact .inl (List.eq_nil_of_length_eq_zero h0)
      · obtain ⟨b, off, spot⟩ := x
        have hspot : spot = none := by simpa [Addr.add] using World.cell?_spot (i2 0 _ (List.getElem?_eq_getElem h0)).1.1
        subst hspot
        refine .inr ⟨b, off, rfl, fun i it hi => ?_⟩
        obtain ⟨⟨q0, q1, q2⟩, _⟩ := i2 i it hi
        rw [Go.WideShapes.add_plain] at q0 q1 q2
        rw [Go.WideShapes.add_plain] at q1 q2
        exact ⟨q0, q1, q2⟩
    · intro it hit
      obtain ⟨i, hi⟩ := List.getElem?_of_mem hit
      exact (i2 i it hi).2
end Go.Proofs.YtljpmddjcfkonaaGreatDoor

namespace Go.Proofs.YtljpmddjcfkonaaGreatDoor
open Go Go.RowKit Go.Deep

/-- A Three in its box. -/
def One3 (w wx : World) (g : Nat) (A B C : Int) : Prop := Below w.heap.size w wx ∧ wx.heap[g]? = some (.cells #[.int .u64 A, .int .u64 B, .int .u64 C] 27 (0, 0))
theorem One3.lt {w wx : World} {g : Nat} {A B C : Int} (h : One3 w wx g A B C) : g < wx.heap.size := by
  rcases Nat.lt_or_ge g wx.heap.size with hl | hl
  · exact hl
  · have := h.2; rw [Array.getElem?_eq_none hl] at this; cases this
theorem One3.blw {w wx : World} {g : Nat} {A B C : Int} (h : One3 w wx g A B C) : Below w.heap.size w wx := h.1
theorem One3.on {w wx w' : World} {g : Nat} {A B C : Int} (h : One3 w wx g A B C) (k : Below wx.heap.size wx w') : One3 w w' g A B C := ⟨bel h.1 k, by rw [k.block g h.lt]; exact h.2⟩
theorem One3.flat {w wx : World} {g : Nat} {A B C : Int} (h : One3 w wx g A B C) : wx.cell? ⟨g, 0, none⟩ = some (.int .u64 A) ∧ wx.cell? ⟨g, 1, none⟩ = some (.int .u64 B) ∧ wx.cell? ⟨g, 2, none⟩ = some (.int .u64 C) := by
  have h2 := h.2
  refine ⟨?_, ?_, ?_⟩ <;> simp [World.cell?, h2]
theorem udrew3 (w : World) : Below w.heap.size w w.drew := ⟨rfl, rfl, rfl, Nat.le_refl _, fun _ _ => rfl⟩

theorem O3.Holds.below {w w' : World} {a : Option Addr} {its : List O3} (h : O3.Holds w a its) (hb : Below w.heap.size w w') : O3.Holds w' a its := by
  rcases h with rfl | ⟨b, off, rfl, h⟩
  · exact .inl rfl
  · refine .inr ⟨b, off, rfl, fun i it hi => ?_⟩
    obtain ⟨h0, h1, h2⟩ := h i it hi
    exact ⟨by rw [hb.cell (p := ⟨b, off + i * 3, none⟩) (cell_lt h0)]; exact h0, by rw [hb.cell (p := ⟨b, off + i * 3 + 1, none⟩) (cell_lt h1)]; exact h1, by rw [hb.cell (p := ⟨b, off + i * 3 + 2, none⟩) (cell_lt h2)]; exact h2⟩

end Go.Proofs.YtljpmddjcfkonaaGreatDoor

namespace Go.Proofs.YtljpmddjcfkonaaGreatDoor
open Go Go.RowKit Go.Deep

namespace Ie
theorem rs_bd {S Q r : Int} {z : Bool} (h : RS S Q z r) : 0 ≤ r ∧ r < 18446744073709551616 := by
  obtain ⟨neg, V, x, rfl, _, _, hN, _⟩ := h
  have h1 := hN.1.1
  have h2 := hN.1.2
  cases neg <;> simp only [sb, Bool.false_eq_true, if_true, if_false] <;> omega
theorem tsb_bd (q : Bool) (x : Int) (h0 : 0 ≤ x) (h1 : x ≤ 9218868437227405312) : 0 ≤ sb q x ∧ sb q x < 18446744073709551616 := by
  cases q <;> simp only [sb, Bool.false_eq_true, if_true, if_false] <;> omega
theorem addR_bd {a b r : Int} (a0 : 0 ≤ a ∧ a < 18446744073709551616) (b0 : 0 ≤ b ∧ b < 18446744073709551616) (h : AddR a b r) : 0 ≤ r ∧ r < 18446744073709551616 := by
  unfold AddR at h
  split at h
  · omega
  split at h
  · omega
  split at h
  · rw [h]; exact a0
  split at h
  · rw [h]; exact b0
  exact rs_bd h
theorem divR_bd {a b r : Int} (h : DivR a b r) : 0 ≤ r ∧ r < 18446744073709551616 := by
  unfold DivR at h
  split at h
  · omega
  split at h
  · omega
  split at h
  · rw [h]; exact tsb_bd _ _ (by omega) (by omega)
  split at h
  · rw [h]; exact tsb_bd _ _ (by omega) (by omega)
  split at h
  · rw [h]; exact tsb_bd _ _ (by omega) (by omega)
  exact rs_bd h
theorem sqrtR_bd {a r : Int} (a0 : 0 ≤ a ∧ a < 18446744073709551616) (h : SqrtR a r) : 0 ≤ r ∧ r < 18446744073709551616 := by
  unfold SqrtR at h
  split at h
  · omega
  split at h
  · rw [h]; exact a0
  split at h
  · omega
  split at h
  · rw [h]; exact a0
  have h1 := h.1.1
  have h2 := h.1.2
  omega
theorem fmaR_bd {a b c r : Int} (c0 : 0 ≤ c ∧ c < 18446744073709551616) (h : FmaR a b c r) : 0 ≤ r ∧ r < 18446744073709551616 := by
  unfold FmaR at h
  split at h
  · omega
  split at h
  · split at h
    · omega
    · exact addR_bd (tsb_bd _ _ (by omega) (by omega)) c0 h
  split at h
  · rw [h]; exact c0
  exact rs_bd h

theorem ans1 {a b c r : Int} : AnsR 1 a b c r = AddR a b r := by
  unfold AnsR
  rw [if_pos rfl]
theorem ans2 {a b c r : Int} : AnsR 2 a b c r = AddR a (ng b) r := by
  unfold AnsR
  rw [if_neg (by decide), if_pos rfl]
theorem ans3 {a b c r : Int} : AnsR 3 a b c r = MulR a b r := by
  unfold AnsR
  rw [if_neg (by decide), if_neg (by decide), if_pos rfl]
theorem ans4 {a b c r : Int} : AnsR 4 a b c r = DivR a b r := by
  unfold AnsR
  rw [if_neg (by decide), if_neg (by decide), if_neg (by decide), if_pos rfl]
theorem ans5 {a b c r : Int} : AnsR 5 a b c r = SqrtR a r := by
  unfold AnsR
  rw [if_neg (by decide), if_neg (by decide), if_neg (by decide), if_neg (by decide), if_pos rfl]
theorem ans6 {a b c r : Int} : AnsR 6 a b c r = FmaR a b c r := by
  unfold AnsR
  rw [if_neg (by decide), if_neg (by decide), if_neg (by decide), if_neg (by decide), if_neg (by decide)]

theorem ans_ex (op a b c : Int) (o1 : 1 ≤ op) (o6 : op ≤ 6) : ∃ r, AnsR op a b c r := by
  rcases (show op = 1 ∨ op = 2 ∨ op = 3 ∨ op = 4 ∨ op = 5 ∨ op = 6 by omega) with rfl | rfl | rfl | rfl | rfl | rfl
  · obtain ⟨r, h⟩ := addR_ex a b
    exact ⟨r, by rw [ans1]; exact h⟩
  · obtain ⟨r, h⟩ := addR_ex a (ng b)
    exact ⟨r, by rw [ans2]; exact h⟩
  · obtain ⟨r, h⟩ := mulR_ex a b
    exact ⟨r, by rw [ans3]; exact h⟩
  · obtain ⟨r, h⟩ := divR_ex a b
    exact ⟨r, by rw [ans4]; exact h⟩
  · obtain ⟨r, h⟩ := sqrtR_ex a
    exact ⟨r, by rw [ans5]; exact h⟩
  · obtain ⟨r, h⟩ := fmaR_ex a b c
    exact ⟨r, by rw [ans6]; exact h⟩
theorem TellIs.ans {op a b c r f d : Int} (o1 : 1 ≤ op) (o6 : op ≤ 6) (a0 : 0 ≤ a) (h : TellIs op a b c r f) (k : AnsR op a b c d) : r = d := by
  rcases (show op = 1 ∨ op = 2 ∨ op = 3 ∨ op = 4 ∨ op = 5 ∨ op = 6 by omega) with rfl | rfl | rfl | rfl | rfl | rfl
  · rw [tell1] at h; rw [ans1] at k; exact h.r.one k
  · rw [tell2] at h; rw [ans2] at k; exact h.r.one k
  · rw [tell3] at h; rw [ans3] at k; exact h.r.one k
  · rw [tell4] at h; rw [ans4] at k; exact h.r.one k
  · rw [tell5] at h; rw [ans5] at k; exact (SqrtIs.r a0 h).one k
  · rw [tell6] at h; rw [ans6] at k; exact h.r.one k
theorem fnb_fin {d : Int} (h : fnb d = true) : fin d := by
  rw [fnb, decide_eq_true_eq] at h; exact h
theorem sqrt_d {a d : Int} (fa : fin a) (hd : isn d = false) (h : SqrtR a d) : (isz a = false → ngd a = false) ∧ fin d ∧ (isz a = true → d = a) := by
  have na : isn a = false := by rw [isn, decide_eq_false_iff_not]; rw [fin] at fa; omega
  have ia : isi a = false := by rw [isi, decide_eq_false_iff_not]; rw [fin] at fa; omega
  unfold SqrtR at h
  rw [if_neg (by rw [na]; decide)] at h
  cases hz : isz a with
  | true =>
    rw [if_pos hz] at h
    exact ⟨fun k => (by cases k), h ▸ fa, fun _ => h⟩
  | false =>
    rw [if_neg (by rw [hz]; decide)] at h
    cases hn : ngd a with
    | true =>
      rw [if_pos hn] at h
      rw [h, nan_isn] at hd
      cases hd
    | false =>
      rw [if_neg (by rw [hn]; decide), if_neg (by rw [ia]; decide)] at h
      refine ⟨fun _ => rfl, ?_, fun k => (by cases k)⟩
      have h1 := h.1.1
      have h2 := h.1.2
      rw [fin, ab]
      omega
end Ie

/-- What Told answers. -/
def ToldV (d f e : Int) (w : World) (r : Ending) (w' : World) : Prop := r = .returned (.tuple #[.int .u64 d, .int .i64 f, .int .i64 e]) ∧ Below w.heap.size w w'

theorem rtold (op a b c d : Int) (w : World) (o1 : 1 ≤ op) (o6 : op ≤ 6) (a0 : 0 ≤ a) (a1 : a < 18446744073709551616) (b0 : 0 ≤ b) (b1 : b < 18446744073709551616) (c0 : 0 ≤ c) (c1 : c < 18446744073709551616) (hd : Ie.AnsR op a b c d) :
    Calls Tryz.prog 27 #[.int .i64 op, .int .u64 a, .int .u64 b, .int .u64 c] w fun r w' => ToldV d (Ie.FR op a b c d) 0 w r w' := by
  have NA := fun wx => ynan_any a wx a0 a1
  have NB := fun wx => ynan_any b wx b0 b1
  have NC := fun wx => ynan_any c wx c0 c1
  have FA := fun wx => yfin_any a wx a0 a1
  have FB := fun wx => yfin_any b wx b0 b1
  have FC := fun wx => yfin_any c wx c0 c1
  have nb : 0 ≤ Ie.ng b ∧ Ie.ng b < 18446744073709551616 := by unfold Ie.ng; split <;> omega
  have bz : Ie.isz b = false → Ie.ab b ≠ 0 := fun h => by rw [Ie.isz, decide_eq_false_iff_not] at h; exact h
  rw [Ie.FR, Ie.nanU, Ie.finU]
  rcases (show op = 1 ∨ op = 2 ∨ op = 3 ∨ op = 4 ∨ op = 5 ∨ op = 6 by omega) with rfl | rfl | rfl | rfl | rfl | rfl
  · rw [Ie.ans1] at hd
    obtain ⟨d0, d1⟩ := Ie.addR_bd ⟨a0, a1⟩ ⟨b0, b1⟩ hd
    have := ytold1 a b c d (Ie.FF 1 a b c d) w (fun wx => yans1 a b c d wx a0 a1 b0 b1 (fun x hx => hx.one hd)) NA NB (fun wx => ynan_any d wx d0 d1) FA FB (fun _ fa _ fb hn wx => yfl1 a b c d wx a0 a1 b0 b1 d0 d1 (Ie.fnb_fin fa) (Ie.fnb_fin fb) hn)
    refine this.mono fun r w' h => ⟨h.1.trans ?_, h.2⟩
    simp
  · rw [Ie.ans2] at hd
    obtain ⟨d0, d1⟩ := Ie.addR_bd ⟨a0, a1⟩ nb hd
    have := ytold2 a b c d (Ie.FF 2 a b c d) w (fun wx => yans2 a b c d wx a0 a1 b0 b1 (fun x hx => hx.one hd)) NA NB (fun wx => ynan_any d wx d0 d1) FA FB (fun _ fa _ fb hn wx => yfl2 a b c d wx a0 a1 b0 b1 d0 d1 (Ie.fnb_fin fa) (Ie.fnb_fin fb) hn)
    refine this.mono fun r w' h => ⟨h.1.trans ?_, h.2⟩
    simp
  · rw [Ie.ans3] at hd
    obtain ⟨d0, d1⟩ := Ie.mulR_bd hd
    have := ytold3 a b c d (Ie.FF 3 a b c d) w (fun wx => yans3 a b c d wx a0 a1 b0 b1 (fun x hx => hx.one hd)) NA NB (fun wx => ynan_any d wx d0 d1) FA FB (fun _ fa _ fb hn wx => yfl3 a b c d wx a0 a1 b0 b1 d0 d1 (Ie.fnb_fin fa) (Ie.fnb_fin fb) hn)
    refine this.mono fun r w' h => ⟨h.1.trans ?_, h.2⟩
    simp
  · rw [Ie.ans4] at hd
    obtain ⟨d0, d1⟩ := Ie.divR_bd hd
    have := ytold4 a b c d (Ie.FF 4 a b c d) w (fun wx => yans4 a b c d wx a0 a1 b0 b1 (fun x hx => hx.one hd)) NA NB (fun wx => ynan_any d wx d0 d1) FA FB (fun wx => yzero_any b wx b0 b1) (fun _ fa _ fb hn hz wx => yfl4 a b c d wx a0 a1 b0 b1 d0 d1 (Ie.fnb_fin fa) (Ie.fnb_fin fb) (bz hz) hn)
    refine this.mono fun r w' h => ⟨h.1.trans ?_, h.2⟩
    simp
  · rw [Ie.ans5] at hd
    obtain ⟨d0, d1⟩ := Ie.sqrtR_bd ⟨a0, a1⟩ hd
    have := ytold5 a b c d (Ie.FF 5 a b c d) w (fun wx => yans5 a b c d wx a0 a1 (fun x hx => hx.one hd)) NA (fun wx => ynan_any d wx d0 d1) FA (fun _ fa hn wx => by
      obtain ⟨q1, q2, q3⟩ := Ie.sqrt_d (Ie.fnb_fin fa) hn hd
      exact yfl5 a b c d wx a0 a1 d0 d1 (Ie.fnb_fin fa) q1 q2 q3)
    refine this.mono fun r w' h => ⟨h.1.trans ?_, h.2⟩
    simp
  · rw [Ie.ans6] at hd
    obtain ⟨d0, d1⟩ := Ie.fmaR_bd ⟨c0, c1⟩ hd
    have := ytold6 a b c d (Ie.FF 6 a b c d) w (fun wx => yans6 a b c d wx a0 a1 b0 b1 c0 c1 (fun x hx => hx.one hd)) NA NB NC (fun wx => ynan_any d wx d0 d1) FA FB FC (fun _ fa _ fb _ fc hn wx => yfl6 a b c d wx a0 a1 b0 b1 c0 c1 d0 d1 (Ie.fnb_fin fa) (Ie.fnb_fin fb) (Ie.fnb_fin fc) hn)
    refine this.mono fun r w' h => ⟨h.1.trans ?_, h.2⟩
    simp

theorem ptold (op a b c d : Int) (w : World) (o1 : 1 ≤ op) (o6 : op ≤ 6) (a0 : 0 ≤ a) (a1 : a < 18446744073709551616) (b0 : 0 ≤ b) (b1 : b < 18446744073709551616) (c0 : 0 ≤ c) (c1 : c < 18446744073709551616) (hd : Ie.AnsR op a b c d) (hT : Tab w) :
    Calls Tryz.prog 28 #[.int .i64 op, .int .u64 a, .int .u64 b, .int .u64 c] w fun r w' => ToldV d (Ie.FR op a b c d) 0 w r w' := by
  refine (told_any op a b c w o1 o6 a0 a1 b0 b1 c0 c1 hT).mono ?_
  rintro e w' ⟨r, f, rfl, h, hB⟩
  have e1 := h.ans o1 o6 a0 hd
  have e2 := h.fr o1 o6 a0 a1 b0 b1
  rw [e1] at e2
  rw [e1, e2]
  exact ⟨rfl, hB⟩

set_option maxRecDepth 100000 in
set_option maxHeartbeats 4000000 in
theorem rtold_no (op a b c : Int) (w : World) (ho : op < 1 ∨ 6 < op) :
    Calls Tryz.prog 27 #[.int .i64 op, .int .u64 a, .int .u64 b, .int .u64 c] w fun r w' => ToldV 0 0 50 w r w' := by
  have BR := hid (Below.refl w.heap.size w)
  unfold ToldV
  by_cases h : op < 1
  · clear ho
    go_enter Tryz.func27, Tryz.ntmps27
    go_wp2_with fail
    go_ret3
    exact ⟨rfl, BR.out⟩
  · have h2 : 6 < op := by omega
    clear ho
    go_enter Tryz.func27, Tryz.ntmps27
    go_wp2_with fail
    go_ret3
    exact ⟨rfl, BR.out⟩

set_option maxRecDepth 100000 in
set_option maxHeartbeats 4000000 in
theorem ptold_no (op a b c : Int) (w : World) (ho : op < 1 ∨ 6 < op) :
    Calls Tryz.prog 28 #[.int .i64 op, .int .u64 a, .int .u64 b, .int .u64 c] w fun r w' => ToldV 0 0 50 w r w' := by
  have OP := hid (opers_any w)
  unfold ToldV
  by_cases h : op < 1
  · clear ho
    go_enter Tryz.func28, Tryz.ntmps28
    go_wp2_with fail
    refine OP.out.mono ?_
    rintro e w1 ⟨tb, rfl, hO, hB1⟩
    have B1 := hid hB1
    clear hO hB1 OP
    go_wp2_with fail
    go_ret3
    exact ⟨rfl, B1.out⟩
  · have h2 : 7 ≤ op := by omega
    clear ho
    go_enter Tryz.func28, Tryz.ntmps28
    go_wp2_with fail
    refine OP.out.mono ?_
    rintro e w1 ⟨tb, rfl, hO, hB1⟩
    have B1 := hid hB1
    clear hO hB1 OP
    go_wp2_with fail
    go_ret3
    exact ⟨rfl, B1.out⟩

set_option maxRecDepth 100000 in
set_option maxHeartbeats 4000000 in
theorem ltold (op a b c : Int) (w : World) (a0 : 0 ≤ a) (a1 : a < 18446744073709551616) (b0 : 0 ≤ b) (b1 : b < 18446744073709551616) (c0 : 0 ≤ c) (c1 : c < 18446744073709551616) (hT : Tab w) :
    Calls Tryz.prog 9 #[.int .i64 op, .agg #[.int .u64 a, .int .u64 b, .int .u64 c]] w fun r w' => r = .returned (.bool true) ∧ Below w.heap.size w w' := by
  obtain ⟨d, f, e, RT, PT⟩ : ∃ d f e, (∀ wx, Calls Tryz.prog 27 #[.int .i64 op, .int .u64 a, .int .u64 b, .int .u64 c] wx fun r w' => ToldV d f e wx r w') ∧ (∀ wx, Below w.heap.size w wx → Calls Tryz.prog 28 #[.int .i64 op, .int .u64 a, .int .u64 b, .int .u64 c] wx fun r w' => ToldV d f e wx r w') := by
    by_cases ho : 1 ≤ op ∧ op ≤ 6
    · obtain ⟨d, hd⟩ := Ie.ans_ex op a b c ho.1 ho.2
      exact ⟨d, _, 0, fun wx => rtold op a b c d wx ho.1 ho.2 a0 a1 b0 b1 c0 c1 hd, fun wx k => ptold op a b c d wx ho.1 ho.2 a0 a1 b0 b1 c0 c1 hd (hT.below k)⟩
    · exact ⟨0, 0, 50, fun wx => rtold_no op a b c wx (by omega), fun wx _ => ptold_no op a b c wx (by omega)⟩
  have HR := hid RT
  have HP := hid PT
  have S0 : Hid (One3 w (w.alloc (.cells #[.int .u64 a, .int .u64 b, .int .u64 c] 27)) w.heap.size a b c) := ⟨alloc_b w _, heap_alloc_new w _⟩
  have e1 : (d == d) = true := beq_self_eq_true d
  have e2 : (f == f) = true := beq_self_eq_true f
  have e3 : (e == e) = true := beq_self_eq_true e
  clear RT PT hT
  go_enter Tryz.func9, Tryz.ntmps9
  go_upto_region 1 with fail
  generalize (w.alloc (.cells #[.int .u64 a, .int .u64 b, .int .u64 c] 27)) = wz at *
  obtain ⟨k0, k1, k2⟩ := S0.out.flat
  go_wp2_with fail
  with_reducible refine (HR.out _).mono ?_
  rintro r w1 ⟨rfl, hB1⟩
  have S1 := hid (S0.out.on hB1)
  clear k0 k1 k2 hB1 S0 HR
  obtain ⟨k0, k1, k2⟩ := S1.out.flat
  have b1' := S1.out.blw
  go_wp2_with fail
  with_reducible refine (HP.out _ b1').mono ?_
  rintro r w2 ⟨rfl, hB2⟩
  have S2 := hid (S1.out.on hB2)
  clear k0 k1 k2 hB2 S1 HP b1'
  go_wp2_with fail
  go_ret
  exact ⟨rfl, S2.out.blw⟩
end Go.Proofs.YtljpmddjcfkonaaGreatDoor

namespace Go.Proofs.YtljpmddjcfkonaaGreatDoor
open Go Go.RowKit Go.Deep

set_option maxRecDepth 100000 in
set_option maxHeartbeats 16000000 in
theorem tolds_law (a : Option Addr) (len cap : Nat) (its : List O3) (oth : Int) (w : World) (hl : its.length = len) (hc : len ≤ cap) (hm : cap ≤ 17592186044416) (hp : O3.Holds w a its) (hi : ∀ it ∈ its, O3.Bd it) (hT : Tab w) :
    Calls Tryz.prog 4 #[.slice a len cap, .int .i64 oth] w fun e w' => e = .returned (.bool true) ∧ Below w.heap.size w w' := by
  have HL := hid hl
  have HP := hid hp
  have HI := hid hi
  have LT := hid (fun (op A B C : Int) (wx : World) (k : Below w.heap.size w wx) (bA : 0 ≤ A ∧ A < 18446744073709551616) (bB : 0 ≤ B ∧ B < 18446744073709551616) (bC : 0 ≤ C ∧ C < 18446744073709551616) => ltold op A B C wx bA.1 bA.2 bB.1 bB.2 bC.1 bC.2 (hT.below k))
  clear hl hp hi hT
  go_enter Tryz.func4, Tryz.ntmps4
  go_wp2_with fail
  with_reducible refine (LT.out _ _ _ _ _ (Below.refl _ _) (by decide) (by decide) (by decide)).mono ?_
  rintro e w1 ⟨rfl, b1⟩
  have D1 := hid b1
  clear b1
  go_wp2_with fail
  go_loopw [5, 6] (fun i _ wr => ∃ j : Nat, j ≤ len ∧ i = .int .i64 j ∧ Hid (Below w.heap.size w wr)) (fun i _ _ => len - (intOf i).toNat)
  case atStart => exact ⟨0, Nat.zero_le _, rfl, D1.out⟩
  case round =>
    clear D1
    obtain ⟨j, hj, rfl, D⟩ := hrel
    by_cases hlt : j < len
    · obtain ⟨it, hit⟩ : ∃ it, its[j]? = some it := ⟨_, List.getElem?_eq_getElem (by have := HL.out; omega)⟩
      obtain ⟨bdA, bdB, bdC⟩ := HI.out it (List.mem_of_getElem? hit)
      rcases HP.out with h | ⟨b0, off, rfl, h⟩
      · rw [h] at hit
        simp at hit
      · obtain ⟨A, B, C⟩ := it
        simp only at bdA bdB bdC
        have BD := hid (And.intro bdA (And.intro bdB bdC))
        have CC : Hid (∀ wx, Below w.heap.size w wx → wx.cell? ⟨b0, off + j * 3, none⟩ = some (.int .u64 A) ∧ wx.cell? ⟨b0, off + j * 3 + 1, none⟩ = some (.int .u64 B) ∧ wx.cell? ⟨b0, off + j * 3 + 2, none⟩ = some (.int .u64 C)) := fun wx k => by
          rcases HP.out.below k with h | ⟨b, o, e, h⟩
          · rw [h] at hit
            simp at hit
          · cases e
            exact h j _ hit
        have hjl : (j : Int) < (len : Int) := by omega
        clear h hit HP HI HL bdA bdB bdC
        go_wp2_with fail
        go_loopw [6] (fun o wr => ∃ k : Nat, k ≤ 8 ∧ o = .int .i64 k ∧ Hid (Below w.heap.size w wr)) (fun o _ => 8 - (intOf o).toNat)
        case atStart => exact ⟨0, by omega, rfl, D⟩
        case round =>
          clear D
          obtain ⟨k, hk, rfl, D⟩ := hrel
          have dd := D.out
          obtain ⟨c0, c1, c2⟩ := CC.out _ dd
          by_cases h7 : k ≤ 7
          · have h7' : (k : Int) ≤ 7 := by omega
            go_wp2_with fail
            with_reducible refine (LT.out _ A B C _ dd BD.out.1 BD.out.2.1 BD.out.2.2).mono ?_
            rintro e w2 ⟨rfl, hB⟩
            have D2 := hid (bel dd hB)
            clear dd hB D c0 c1 c2
            go_wp2_with fail
            go_roundw
            case rel => exact ⟨k + 1, by omega, by go_num, D2.out⟩
            case measure => simp [intOf]; omega
          · have h7' : ¬(k : Int) ≤ 7 := by omega
            go_wp2_with fail
            with_reducible refine (LT.out _ A B C _ dd BD.out.1 BD.out.2.1 BD.out.2.2).mono ?_
            rintro e w2 ⟨rfl, hB⟩
            have D2 := hid (bel dd hB)
            clear dd hB D c0 c1 c2
            go_wp2_with fail
            go_roundw
            case rel => exact ⟨j + 1, by omega, by go_num, D2.out⟩
            case measure => simp [intOf]; omega
    · have hjl : ¬ (j : Int) < (len : Int) := by omega
      go_wp2_with fail
      go_ret
      exact ⟨rfl, D.out⟩
end Go.Proofs.YtljpmddjcfkonaaGreatDoor
