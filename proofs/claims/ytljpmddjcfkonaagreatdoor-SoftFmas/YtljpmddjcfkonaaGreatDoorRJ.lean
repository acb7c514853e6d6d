/-
  Texts put together: YRef10, OpenList, OpenThrees, YThree, XSpecD, XSpec2, YFmas.
-/
import Derived.Test.YtljpmddjcfkonaaGreatDoorRF
import Derived.Test.YtljpmddjcfkonaaGreatDoorRH
import Derived.Test.YtljpmddjcfkonaaGreatDoorRI
import Derived.Test.YtljpmddjcfkonaaGreatDoorMem
import Derived.SizedLaws
import Derived.ProofKit
import Derived.Test.YtljpmddjcfkonaaGreatDoorRB
import Derived.Test.YtljpmddjcfkonaaGreatDoorRE
import Derived.Test.YtljpmddjcfkonaaGreatDoorRC
import Derived.Test.YtljpmddjcfkonaaGreatDoorRG
import Derived.Deep.RegionWith
import Derived.Deep.RegionHeld3
namespace Go.Proofs.YtljpmddjcfkonaaGreatDoor
open Go Go.RowKit Go.Deep

def SqTold5 (a : Int) (w : World) (r : Ending) (w' : World) : Prop := ∃ x, r = .returned (.int .u64 x) ∧ Ie.SqrtR a x ∧ Below w.heap.size w w'

theorem small_root {B : Nat} {w : World} {p : Option Addr} {ys : List Int} {n : Int} (h : Ans B w p ys n) (hn : n < 2 ^ 200) : Nm.tsize ys ≤ 256 :=
  (Nm.tsize_le_iff h.2.1 256).2 (by
    rw [h.2.2.2.1, Nm.pw_two]
    have := Nm.two_mono (show 200 ≤ 64 * 256 by omega)
    omega)
theorem root_lt {R A : Int} (h : 0 ≤ R ∧ R * R ≤ A ∧ A < (R + 1) * (R + 1)) (hA : A < 2 ^ 200) : R < 2 ^ 4400 := by
  have h1 : R ≤ R * R := by
    rcases (show R = 0 ∨ 1 ≤ R by omega) with g | g
    · subst g; decide
    · have : R * 1 ≤ R * R := Int.mul_le_mul_of_nonneg_left g (by omega)
      omega
  have := Nm.two_mono (show 200 ≤ 4400 by omega)
  omega

set_option maxRecDepth 100000 in
set_option maxHeartbeats 4000000 in
theorem ysqrt_any (a : Int) (w : World) (a0 : 0 ≤ a) (a1 : a < 18446744073709551616) :
    Calls Tryz.prog 8 #[.int .u64 a] w fun e w' => SqTold5 a w e w' := by
  have GA := hid (fun wx => yngd_any a wx)
  have NA := hid (fun wx => ynan_any a wx a0 a1)
  have IA := hid (fun wx => yinf_any a wx a0 a1)
  have ZA := hid (fun wx => yzero_any a wx a0 a1)
  have FF : Hid (∀ x w', Ie.SqrtR a x → Below w.heap.size w w' → SqTold5 a w (.returned (.int .u64 x)) w') := fun x w' h k => ⟨x, rfl, h, k⟩
  have BR := hid (Below.refl w.heap.size w)
  have RA : Hid (Ie.isn a = false → Ie.isi a = false → (∀ wx, Calls Tryz.prog 22 #[.int .u64 a] wx (fun r w' => NumTold5 (Ie.ngd a) (Ie.dm a) 1 (Ie.de a) wx r w')) ∧ Ie.fin a ∧ (0 ≤ Ie.dm a ∧ Ie.dm a < 9007199254740992) ∧ (-1100 ≤ Ie.de a ∧ Ie.de a ≤ 1000)) := fun h1 h2 => by
    have fa := Ie.fin_of h1 h2
    obtain ⟨⟨da0, da1⟩, ⟨ea0, ea1⟩, _, _⟩ := Ie.dec_f a fa
    exact ⟨fun wx => yof2 a _ _ _ wx a0 a1 rfl rfl rfl da0 da1, fa, ⟨da0, da1⟩, by omega, by omega⟩
  clear a0 a1
  cases h1 : Ie.isn a
  · rw [h1] at NA
    cases h2 : Ie.isz a
    · rw [h2] at ZA
      cases h3 : Ie.ngd a
      · rw [h3] at GA RA
        cases h4 : Ie.isi a
        · rw [h4] at IA
          obtain ⟨OA, fa, ⟨m0, m1⟩, e0, e1⟩ := RA.out h1 h4
          have KK : Hid (∀ R k x (d : Nat) w', (d = 120 ∨ d = 121) → 2 * k = Ie.de a - d → (0 ≤ R ∧ R * R ≤ Ie.dm a * 2 ^ d ∧ Ie.dm a * 2 ^ d < (R + 1) * (R + 1)) → Ie.Rnd R 1 k (!decide (R * R = Ie.dm a * 2 ^ d)) x → Below w.heap.size w w' → SqTold5 a w (.returned (.int .u64 x)) w') := fun R k x d w' hd hk hI hR b => FF.out x w' (by unfold Ie.SqrtR; simp only [h1, h2, h3, h4, Bool.false_eq_true, if_false]; exact Ie.yroot_is fa (fun c => by rw [Ie.isz, c] at h2; exact absurd h2 (by decide)) hd hk hI hR) b
          have HA := hid OA
          clear OA fa FF RA BR
          generalize Ie.dm a = M at *
          generalize Ie.de a = E at *
          rcases (show E % 2 = 0 ∨ E % 2 = 1 by omega) with hpar | hpar
          · obtain ⟨k, hk⟩ : ∃ k : Int, 2 * k = E - (120 : Nat) := ⟨(E - 120) / 2, by omega⟩
            have tm : Int.tmod E 2 = 0 := by rw [Int.tmod_eq_emod]; split <;> omega
            have td : Int.tdiv (E - 120) 2 = k := by
              rw [show E - 120 = 2 * k by omega]
              exact Int.mul_tdiv_cancel_left k (by decide)
            have KF : Hid (∀ R x w', (0 ≤ R ∧ R * R ≤ M * 2 ^ 120 ∧ M * 2 ^ 120 < (R + 1) * (R + 1)) → Ie.Rnd R 1 k (!decide (R * R = M * 2 ^ 120)) x → Below w.heap.size w w' → SqTold5 a w (.returned (.int .u64 x)) w') := fun R x w' hI hR b => KK.out R k x 120 w' (.inl rfl) hk hI hR b
            have bA : M * 2 ^ 120 < 2 ^ 200 := by
              have := Int.mul_lt_mul_of_pos_right m1 (Nm.two_pos 120)
              have e : (9007199254740992 : Int) * 2 ^ 120 ≤ 2 ^ 200 := by decide
              omega
            have BA := hid bA
            have kb0 : -2000 ≤ k := by omega
            have kb1 : k ≤ 2000 := by omega
            clear hk KK bA m0 m1 hpar
            go_enter Tryz.func8, Tryz.ntmps8
            go_wp2_with (first | (go_at_call 16; first | (with_reducible refine (GA.out _).mono ?_; rintro e w' ⟨rfl, rfl⟩)) | (go_at_call 13; first | (with_reducible refine (NA.out _).mono ?_; rintro e w' ⟨rfl, rfl⟩)) | (go_at_call 14; first | (with_reducible refine (IA.out _).mono ?_; rintro e w' ⟨rfl, rfl⟩)) | (go_at_call 23; first | (with_reducible refine (ZA.out _).mono ?_; rintro e w' ⟨rfl, rfl⟩)))
            with_reducible refine (HA.out _).mono ?_
            rintro r w1 ⟨v1, rfl, N1, hB1⟩
            obtain ⟨p, n, c, q, m, d, zs, ys, rfl, g2, g3, g4, _⟩ := N1
            have ZB := hid (RT.new w1 (.bool false) (.slice p n c) (.slice q m d) (.int .i64 E))
            have LF : Hid (∀ wx, Below w1.heap.size w1 wx → Calls Tryz.prog 25 #[.slice p n c, .int .i64 120] wx fun e w' => ∃ r os, e = .returned (.slice r (List.length os) (List.length os)) ∧ Ans wx.heap.size w' r os (M * 2 ^ 120) ∧ Below wx.heap.size wx w') := fun wx b => by
              have h := lift_any p n c zs 120 120 wx (g2.below b (Nat.le_refl _)) (by omega) rfl (by omega)
              rw [g3] at h
              exact h
            have B1 := hid hB1
            clear g2 g3 g4 hB1 HA
            go_upto_region 11 with fail
            generalize hW : w1.alloc (.cells #[.bool false, .slice p n c, .slice q m d, .int .i64 E] 41) = w2 at *
            clear hW
            obtain ⟨⟨c0, c1, c2, c3⟩, -⟩ := ZB.out.2.cells
            have zb := ZB.out.1
            go_wp2_with fail
            with_reducible refine (LF.out _ zb).mono ?_
            rintro r w3 ⟨r1, os1, rfl, A1, hB3⟩
            have Z3 := hid (ZB.out.on hB3)
            have T1 := hid (A1.tl (K := 200) BA.out (by omega))
            have RO := hid (rroot_ok r1 _ _ os1 (M * 2 ^ 120) w3 (A1.arg (by have := T1.out.2.1; omega)) (small_root A1 BA.out) A1.2.2.2.1)
            clear A1 hB3 ZB zb c0 c1 c2 c3 LF T1
            obtain ⟨⟨c0, c1, c2, c3⟩, -⟩ := Z3.out.2.cells
            go_wp2_with fail
            with_reducible refine RO.out.mono ?_
            rintro r w4 ⟨t, os, R, rfl, A2, hI, hB4⟩
            have Z4 := hid (Z3.out.on hB4)
            have T2 := hid (A2.tl (K := 4400) (root_lt hI.out BA.out) (by omega))
            have RN := hid (fun wx (h : Arg wx t (List.length os) (List.length os) os) => zround_any false t _ _ os wx h T2.out.1 R k (!decide (R * R = M * 2 ^ 120)) A2.2.2.2.1)
            have A3 := hid (A2.arg (by have := T2.out.2.1; omega))
            have HI := hid hI.out
            have B4 := hid (bel B1.out Z4.out.1)
            clear A2 hI hB4 Z3 c0 c1 c2 c3 RO T2 B1
            obtain ⟨⟨c0, c1, c2, c3⟩, -⟩ := Z4.out.2.cells
            obtain ⟨mo, hmo⟩ : ∃ b : Bool, decide (R * R = M * 2 ^ 120) = b := ⟨_, rfl⟩
            rw [hmo] at RN ⊢
            have R3 := hid (RN.out w4 A3.out)
            have KG := hid (fun x w' (hR : Ie.Rnd R 1 k (!mo) x) b => KF.out R x w' HI.out (by rw [hmo]; exact hR) b)
            clear hmo KF HI RN A3
            go_wp2_with fail
            with_reducible refine R3.out.mono ?_
            rintro r w5 ⟨x, rfl, hR, rfl⟩
            have F := hid (KG.out x w5 hR B4.out)
            clear hR R3 KG B4 c0 c1 c2 c3 Z4
            go_wp2_with fail
            go_ret
            exact F.out
          · obtain ⟨k, hk⟩ : ∃ k : Int, 2 * k = E - (121 : Nat) := ⟨(E - 121) / 2, by omega⟩
            obtain ⟨T, tm⟩ : ∃ T, Int.tmod E 2 = T := ⟨_, rfl⟩
            have tn : (T == 0) = false := by rw [beq_eq_false_iff_ne, ← tm, Int.tmod_eq_emod]; split <;> omega
            have tb0 : -1 ≤ T := by rw [← tm, Int.tmod_eq_emod]; split <;> omega
            have tb1 : T ≤ 1 := by rw [← tm, Int.tmod_eq_emod]; split <;> omega
            have td : Int.tdiv (E - 121) 2 = k := by
              rw [show E - 121 = 2 * k by omega]
              exact Int.mul_tdiv_cancel_left k (by decide)
            have KF : Hid (∀ R x w', (0 ≤ R ∧ R * R ≤ M * 2 ^ 121 ∧ M * 2 ^ 121 < (R + 1) * (R + 1)) → Ie.Rnd R 1 k (!decide (R * R = M * 2 ^ 121)) x → Below w.heap.size w w' → SqTold5 a w (.returned (.int .u64 x)) w') := fun R x w' hI hR b => KK.out R k x 121 w' (.inr rfl) hk hI hR b
            have bA : M * 2 ^ 121 < 2 ^ 200 := by
              have := Int.mul_lt_mul_of_pos_right m1 (Nm.two_pos 121)
              have e : (9007199254740992 : Int) * 2 ^ 121 ≤ 2 ^ 200 := by decide
              omega
            have BA := hid bA
            have kb0 : -2000 ≤ k := by omega
            have kb1 : k ≤ 2000 := by omega
            clear hk KK bA m0 m1 hpar
            go_enter Tryz.func8, Tryz.ntmps8
            go_wp2_with (first | (go_at_call 16; first | (with_reducible refine (GA.out _).mono ?_; rintro e w' ⟨rfl, rfl⟩)) | (go_at_call 13; first | (with_reducible refine (NA.out _).mono ?_; rintro e w' ⟨rfl, rfl⟩)) | (go_at_call 14; first | (with_reducible refine (IA.out _).mono ?_; rintro e w' ⟨rfl, rfl⟩)) | (go_at_call 23; first | (with_reducible refine (ZA.out _).mono ?_; rintro e w' ⟨rfl, rfl⟩)))
            with_reducible refine (HA.out _).mono ?_
            rintro r w1 ⟨v1, rfl, N1, hB1⟩
            obtain ⟨p, n, c, q, m, d, zs, ys, rfl, g2, g3, g4, _⟩ := N1
            have ZB := hid (RT.new w1 (.bool false) (.slice p n c) (.slice q m d) (.int .i64 E))
            have LF : Hid (∀ wx, Below w1.heap.size w1 wx → Calls Tryz.prog 25 #[.slice p n c, .int .i64 121] wx fun e w' => ∃ r os, e = .returned (.slice r (List.length os) (List.length os)) ∧ Ans wx.heap.size w' r os (M * 2 ^ 121) ∧ Below wx.heap.size wx w') := fun wx b => by
              have h := lift_any p n c zs 121 121 wx (g2.below b (Nat.le_refl _)) (by omega) rfl (by omega)
              rw [g3] at h
              exact h
            have B1 := hid hB1
            clear g2 g3 g4 hB1 HA
            go_upto_region 11 with fail
            generalize hW : w1.alloc (.cells #[.bool false, .slice p n c, .slice q m d, .int .i64 E] 41) = w2 at *
            clear hW
            obtain ⟨⟨c0, c1, c2, c3⟩, -⟩ := ZB.out.2.cells
            have zb := ZB.out.1
            go_wp2_with fail
            with_reducible refine (LF.out _ zb).mono ?_
            rintro r w3 ⟨r1, os1, rfl, A1, hB3⟩
            have Z3 := hid (ZB.out.on hB3)
            have T1 := hid (A1.tl (K := 200) BA.out (by omega))
            have RO := hid (rroot_ok r1 _ _ os1 (M * 2 ^ 121) w3 (A1.arg (by have := T1.out.2.1; omega)) (small_root A1 BA.out) A1.2.2.2.1)
            clear A1 hB3 ZB zb c0 c1 c2 c3 LF T1
            obtain ⟨⟨c0, c1, c2, c3⟩, -⟩ := Z3.out.2.cells
            go_wp2_with fail
            with_reducible refine RO.out.mono ?_
            rintro r w4 ⟨t, os, R, rfl, A2, hI, hB4⟩
            have Z4 := hid (Z3.out.on hB4)
            have T2 := hid (A2.tl (K := 4400) (root_lt hI.out BA.out) (by omega))
            have RN := hid (fun wx (h : Arg wx t (List.length os) (List.length os) os) => zround_any false t _ _ os wx h T2.out.1 R k (!decide (R * R = M * 2 ^ 121)) A2.2.2.2.1)
            have A3 := hid (A2.arg (by have := T2.out.2.1; omega))
            have HI := hid hI.out
            have B4 := hid (bel B1.out Z4.out.1)
            clear A2 hI hB4 Z3 c0 c1 c2 c3 RO T2 B1
            obtain ⟨⟨c0, c1, c2, c3⟩, -⟩ := Z4.out.2.cells
            obtain ⟨mo, hmo⟩ : ∃ b : Bool, decide (R * R = M * 2 ^ 121) = b := ⟨_, rfl⟩
            rw [hmo] at RN ⊢
            have R3 := hid (RN.out w4 A3.out)
            have KG := hid (fun x w' (hR : Ie.Rnd R 1 k (!mo) x) b => KF.out R x w' HI.out (by rw [hmo]; exact hR) b)
            clear hmo KF HI RN A3
            go_wp2_with fail
            with_reducible refine R3.out.mono ?_
            rintro r w5 ⟨x, rfl, hR, rfl⟩
            have F := hid (KG.out x w5 hR B4.out)
            clear hR R3 KG B4 c0 c1 c2 c3 Z4
            go_wp2_with fail
            go_ret
            exact F.out
        · rw [h4] at IA
          have F := hid (FF.out a w (by unfold Ie.SqrtR; simp [h1, h2, h3, h4]) BR.out)
          clear FF RA BR
          go_enter Tryz.func8, Tryz.ntmps8
          go_wp2_with (first | (go_at_call 16; first | (with_reducible refine (GA.out _).mono ?_; rintro e w' ⟨rfl, rfl⟩)) | (go_at_call 13; first | (with_reducible refine (NA.out _).mono ?_; rintro e w' ⟨rfl, rfl⟩)) | (go_at_call 14; first | (with_reducible refine (IA.out _).mono ?_; rintro e w' ⟨rfl, rfl⟩)) | (go_at_call 23; first | (with_reducible refine (ZA.out _).mono ?_; rintro e w' ⟨rfl, rfl⟩)))
          go_ret
          exact F.out
      · rw [h3] at GA
        have F := hid (FF.out 9221120237041090560 w (by unfold Ie.SqrtR; simp [h1, h2, h3]) BR.out)
        clear FF RA BR
        go_enter Tryz.func8, Tryz.ntmps8
        go_wp2_with (first | (go_at_call 16; first | (with_reducible refine (GA.out _).mono ?_; rintro e w' ⟨rfl, rfl⟩)) | (go_at_call 13; first | (with_reducible refine (NA.out _).mono ?_; rintro e w' ⟨rfl, rfl⟩)) | (go_at_call 14; first | (with_reducible refine (IA.out _).mono ?_; rintro e w' ⟨rfl, rfl⟩)) | (go_at_call 23; first | (with_reducible refine (ZA.out _).mono ?_; rintro e w' ⟨rfl, rfl⟩)))
        go_ret
        exact F.out
    · rw [h2] at ZA
      have F := hid (FF.out a w (by unfold Ie.SqrtR; simp [h1, h2]) BR.out)
      clear FF RA BR
      go_enter Tryz.func8, Tryz.ntmps8
      go_wp2_with (first | (go_at_call 16; first | (with_reducible refine (GA.out _).mono ?_; rintro e w' ⟨rfl, rfl⟩)) | (go_at_call 13; first | (with_reducible refine (NA.out _).mono ?_; rintro e w' ⟨rfl, rfl⟩)) | (go_at_call 14; first | (with_reducible refine (IA.out _).mono ?_; rintro e w' ⟨rfl, rfl⟩)) | (go_at_call 23; first | (with_reducible refine (ZA.out _).mono ?_; rintro e w' ⟨rfl, rfl⟩)))
      go_ret
      exact F.out
  · rw [h1] at NA
    have F := hid (FF.out 9221120237041090560 w (by unfold Ie.SqrtR; simp [h1]) BR.out)
    clear FF RA BR
    go_enter Tryz.func8, Tryz.ntmps8
    go_wp2_with (first | (go_at_call 16; first | (with_reducible refine (GA.out _).mono ?_; rintro e w' ⟨rfl, rfl⟩)) | (go_at_call 13; first | (with_reducible refine (NA.out _).mono ?_; rintro e w' ⟨rfl, rfl⟩)) | (go_at_call 14; first | (with_reducible refine (IA.out _).mono ?_; rintro e w' ⟨rfl, rfl⟩)) | (go_at_call 23; first | (with_reducible refine (ZA.out _).mono ?_; rintro e w' ⟨rfl, rfl⟩)))
    go_ret
    exact F.out
end Go.Proofs.YtljpmddjcfkonaaGreatDoor

namespace Go.Proofs.YtljpmddjcfkonaaGreatDoor
open Go.RowKit Go.Deep Go.ChangeShapes Go.WideShapes Go.ChangeAt

/-- A list of limbs that was read, wherever it stands. -/
theorem open_list {H : Type} {enc : TypeId × Value → H} {W : World} {fuel : Nat} {c : Value} {y : DataW H × List MemPlace} (hf : DataW.trod enc Tryz.prog W 0 (fun _ => true) true fuel 39 [c] = some y)
    (hsz : ∀ n ∈ y.1.weights Tryz.prog 39, n ≤ reachBytes) : ∃ p n cap zs, c = .slice p n cap ∧ Arg W p n cap zs ∧ cap ≤ 17592186043904 := by
  rcases open_ints Tryz.underlying39 Tryz.underlying23 (by kernel_rfl) hf with ⟨hcs, _⟩ | ⟨x, l, cp, zs, hcs, _, hl, hm, hz, hx, hcell, hwz⟩
  · simp only [List.cons.injEq, and_true] at hcs
    exact ⟨none, 0, 0, [], hcs, ⟨rfl, Nat.le_refl _, by omega, Lies.nil _ _, Nm.Limbs.nil⟩, by omega⟩
  · simp only [List.cons.injEq, and_true] at hcs
    have hz' : zs.length = cp := by simpa using hz
    have hr := hsz (((lits (H := H) .u64 (zs.take l)).length + (lits (H := H) .u64 (zs.drop l)).length) * Tryz.prog.bytesOf 23) (by rw [hx]; simp [DataW.weights, Tryz.underlying39])
    rw [show Tryz.prog.bytesOf 23 = 8 by kernel_rfl] at hr
    simp only [lits, List.length_map, List.length_take, List.length_drop, reachBytes] at hr
    have hb : cp ≤ 17592186043904 := by omega
    exact ⟨some x, l, cp, _, hcs, arg_open hl hz' hb hcell hwz, hb⟩

theorem all_mem {H : Type} {P : Program} {e : TypeId} : ∀ {l : List (DataW H)} {d : DataW H}, d ∈ l → ∀ n ∈ d.weights P e, n ∈ DataW.weightsAll P e l
  | [], _, h, _, _ => by simp at h
  | x :: r, d, h, n, hn => by
    simp only [DataW.weightsAll, List.mem_append]
    rcases List.mem_cons.1 h with rfl | h
    · exact .inl hn
    · exact .inr (all_mem h n hn)

/-- What can be told of each place can be told of a list. -/
theorem list_of_each {α : Type} {Q : Nat → α → Prop} : ∀ n, (∀ i, i < n → ∃ x, Q i x) → ∃ l : List α, l.length = n ∧ ∀ i x, l[i]? = some x → Q i x
  | 0, _ => ⟨[], rfl, by simp⟩
  | n + 1, h => by
    obtain ⟨l, h1, h2⟩ := list_of_each n (fun i hi => h i (by omega))
    obtain ⟨x, hx⟩ := h n (by omega)
    refine ⟨l ++ [x], by simp [h1], fun i y hy => ?_⟩
    by_cases hi : i < l.length
    · rw [List.getElem?_append_left hi] at hy
      exact h2 i y hy
    · have hlt := (List.getElem?_eq_some_iff.1 hy).1
      simp only [List.length_append, List.length_cons, List.length_nil] at hlt
      obtain rfl : i = n := by omega
      rw [List.getElem?_append_right (by omega), h1, Nat.sub_self] at hy
      simp at hy
      subst hy
      exact hx
end Go.Proofs.YtljpmddjcfkonaaGreatDoor

namespace Go.Proofs.YtljpmddjcfkonaaGreatDoor
open Go.RowKit Go.Deep Go.ChangeShapes Go.WideShapes Go.ChangeAt

/-- A call that was read. -/
structure O3 where
  A : Int
  B : Int
  C : Int

/-- Its three cells stand there. -/
def O3.Cells (w : World) (b o : Nat) (it : O3) : Prop :=
  w.cell? ⟨b, o, none⟩ = some (.int .u64 it.A) ∧ w.cell? ⟨b, o + 1, none⟩ = some (.int .u64 it.B) ∧ w.cell? ⟨b, o + 2, none⟩ = some (.int .u64 it.C)

def O3.Bd (it : O3) : Prop := (0 ≤ it.A ∧ it.A < 18446744073709551616) ∧ (0 ≤ it.B ∧ it.B < 18446744073709551616) ∧ (0 ≤ it.C ∧ it.C < 18446744073709551616)

def O3.Holds (w : World) (a : Option Addr) (its : List O3) : Prop := its = [] ∨ ∃ b off, a = some ⟨b, off, none⟩ ∧ ∀ i it, its[i]? = some it → O3.Cells w b (off + i * 3) it

theorem list3o {α : Type} {l : List α} (h : l.length = 3) : ∃ c0 c1 c2, l = [c0, c1, c2] := by
  match l, h with
  | [c0, c1, c2], _ => exact ⟨c0, c1, c2, rfl⟩

theorem open_three3 {H : Type} {enc : TypeId × Value → H} {W : World} {fuel : Nat} {a0 a1 a2 : Value} {y : DataW H × List MemPlace} (hf : DataW.trod enc Tryz.prog W 0 (fun _ => true) true fuel 27 [a0, a1, a2] = some y) :
    ∃ it : O3, a0 = .int .u64 it.A ∧ a1 = .int .u64 it.B ∧ a2 = .int .u64 it.C ∧ it.Bd := by
  obtain ⟨xs, n, _, hx, _, hlen, hfs⟩ := DataW.trod_struct Tryz.underlying27 hf
  obtain ⟨y0, y1, y2, rfl⟩ := list3o hlen
  have cu : Tryz.prog.cellsOf 23 = 1 := by kernel_rfl
  have f0 : DataW.trod enc Tryz.prog W 0 (fun _ => true) true n 23 [a0] = some y0 := by simpa [cu] using hfs 0 _ rfl
  have f1 : DataW.trod enc Tryz.prog W 0 (fun _ => true) true n 23 [a1] = some y1 := by simpa [cu] using hfs 1 _ rfl
  have f2 : DataW.trod enc Tryz.prog W 0 (fun _ => true) true n 23 [a2] = some y2 := by simpa [cu] using hfs 2 _ rfl
  obtain ⟨X, e0, _, w0⟩ := DataW.trod_int Tryz.underlying23 f0
  obtain ⟨Y, e1, _, w1⟩ := DataW.trod_int Tryz.underlying23 f1
  obtain ⟨Z, e2, _, w2⟩ := DataW.trod_int Tryz.underlying23 f2
  have b0 := bounds_u64 w0
  have b1 := bounds_u64 w1
  have b2 := bounds_u64 w2
  have bX : 0 ≤ X ∧ X < 18446744073709551616 := by omega
  have bY : 0 ≤ Y ∧ Y < 18446744073709551616 := by omega
  have bZ : 0 ≤ Z ∧ Z < 18446744073709551616 := by omega
  exact ⟨⟨X, Y, Z⟩, (List.cons.inj e0).1, (List.cons.inj e1).1, (List.cons.inj e2).1, bX, bY, bZ⟩

theorem open_threes {H : Type} {enc : TypeId × Value → H} {W : World} {a : Option Addr} {len cap : Nat} {d : DataW H} {p : List MemPlace} (h : DataW.Trod enc Tryz.prog W 0 (fun _ => true) true 22 (.slice a len cap) d p)
    (hsz : ∀ n ∈ d.weights Tryz.prog 22, n ≤ reachBytes) : ∃ its : List O3, its.length = len ∧ len ≤ cap ∧ cap ≤ 17592186044416 ∧ O3.Holds W a its ∧ ∀ it ∈ its, O3.Bd it := by
  obtain ⟨fuel, hf⟩ := h
  rcases DataW.trod_slice Tryz.underlying22 hf with ⟨hcs, _⟩ | ⟨x, l, c, elems, rest, n, _, hcs, hx, _, hl, hm, he, hel, hsp, _⟩
  · simp [Value.cells] at hcs
    obtain ⟨rfl, rfl, rfl⟩ := hcs
    exact ⟨[], rfl, Nat.le_refl _, by omega, .inl rfl, by intro it h; simp at h⟩
  · simp [Value.cells] at hcs
    obtain ⟨rfl, rfl, rfl⟩ := hcs
    have hd : d = .slice (elems.map (·.1)) (rest.map (·.1)) := (Prod.mk.inj hx).1
    have hw : ∀ n ∈ (DataW.slice (elems.map (·.1)) (rest.map (·.1)) : DataW H).weights Tryz.prog 22, n ≤ reachBytes := by rw [← hd]; exact hsz
    simp only [DataW.weights, Tryz.underlying22] at hw
    have hr := hw _ List.mem_cons_self
    rw [show Tryz.prog.bytesOf 27 = 24 by kernel_rfl] at hr
    have hrl := (hsp rfl).1
    simp only [List.length_map, reachBytes] at hr
    have hcap : cap ≤ 17592186044416 := by omega
    rw [show Tryz.prog.cellsOf 27 = 3 by kernel_rfl] at hel
    obtain ⟨its, i1, i2⟩ := list_of_each (Q := fun i (it : O3) => (W.cell? (x.add (i * 3)) = some (.int .u64 it.A) ∧ W.cell? ((x.add (i * 3)).add 1) = some (.int .u64 it.B) ∧ W.cell? ((x.add (i * 3)).add 2) = some (.int .u64 it.C)) ∧ it.Bd) len (fun i hi => by
      have h1 := hel i hi
      have h2 : elems[i]? = some elems[i] := List.getElem?_eq_getElem (by omega)
      rw [h2] at h1
      obtain ⟨cs, h3, h4⟩ := Option.bind_eq_some_iff.1 h1
      obtain ⟨_, h5, h6⟩ := World.cells?_some h3
      obtain ⟨v0, v1, v2, rfl⟩ := list3o h5
      have e0 := h6 0 (by omega)
      have e1 := h6 1 (by omega)
      have e2 := h6 2 (by omega)
      have h8 : (x.add (i * 3)).add 0 = x.add (i * 3) := by simp [Addr.add]
      rw [h8] at e0
      obtain ⟨it, q0, q1, q2, hA⟩ := open_three3 h4
      subst q0
      subst q1
      subst q2
      exact ⟨it, ⟨e0, e1, e2⟩, hA⟩)
    refine ⟨its, i1, hl, hcap, ?_, ?_⟩
    · rcases Nat.eq_zero_or_pos its.length with h0 | h0
      · exact .inl (List.eq_nil_of_length_eq_zero h0)
      · obtain ⟨b, off, spot⟩ := x
        have hspot : spot = none := by simpa [Addr.add] using World.cell?_spot (i2 0 _ (List.getElem?_eq_getElem h0)).1.1
        subst hspot
        refine .inr ⟨b, off, rfl, fun i it hi => ?_⟩
        obtain ⟨⟨q0, q1, q2⟩, _⟩ := i2 i it hi
        rw [Go.WideShapes.add_plain] at q0 q1 q2
        rw [Go.WideShapes.add_plain] at q1 q2
        exact ⟨q0, q1, q2⟩
    · intro it hit
      obtain ⟨i, hi⟩ := List.getElem?_of_mem hit
      exact (i2 i it hi).2
end Go.Proofs.YtljpmddjcfkonaaGreatDoor

namespace Go.Proofs.YtljpmddjcfkonaaGreatDoor
open Go Go.RowKit Go.Deep

/-- A Three in its box. -/
def One3 (w wx : World) (g : Nat) (A B C : Int) : Prop := Below w.heap.size w wx ∧ wx.heap[g]? = some (.cells #[.int .u64 A, .int .u64 B, .int .u64 C] 27 (0, 0))
theorem One3.lt {w wx : World} {g : Nat} {A B C : Int} (h : One3 w wx g A B C) : g < wx.heap.size := by
  rcases Nat.lt_or_ge g wx.heap.size with hl | hl
  · exact hl
  · have := h.2; rw [Array.getElem?_eq_none hl] at this; cases this
theorem One3.blw {w wx : World} {g : Nat} {A B C : Int} (h : One3 w wx g A B C) : Below w.heap.size w wx := h.1
theorem One3.on {w wx w' : World} {g : Nat} {A B C : Int} (h : One3 w wx g A B C) (k : Below wx.heap.size wx w') : One3 w w' g A B C := ⟨bel h.1 k, by rw [k.block g h.lt]; exact h.2⟩
theorem One3.flat {w wx : World} {g : Nat} {A B C : Int} (h : One3 w wx g A B C) : wx.cell? ⟨g, 0, none⟩ = some (.int .u64 A) ∧ wx.cell? ⟨g, 1, none⟩ = some (.int .u64 B) ∧ wx.cell? ⟨g, 2, none⟩ = some (.int .u64 C) := by
  have h2 := h.2
  refine ⟨?_, ?_, ?_⟩ <;> simp [World.cell?, h2]
theorem udrew3 (w : World) : Below w.heap.size w w.drew := ⟨rfl, rfl, rfl, Nat.le_refl _, fun _ _ => rfl⟩

theorem O3.Holds.below {w w' : World} {a : Option Addr} {its : List O3} (h : O3.Holds w a its) (hb : Below w.heap.size w w') : O3.Holds w' a its := by
  rcases h with rfl | ⟨b, off, rfl, h⟩
  · exact .inl rfl
  · refine .inr ⟨b, off, rfl, fun i it hi => ?_⟩
    obtain ⟨h0, h1, h2⟩ := h i it hi
    exact ⟨by rw [hb.cell (p := ⟨b, off + i * 3, none⟩) (cell_lt h0)]; exact h0, by rw [hb.cell (p := ⟨b, off + i * 3 + 1, none⟩) (cell_lt h1)]; exact h1, by rw [hb.cell (p := ⟨b, off + i * 3 + 2, none⟩) (cell_lt h2)]; exact h2⟩

end Go.Proofs.YtljpmddjcfkonaaGreatDoor

/-
  Closed products, quotients (of XSpec2).
-/
namespace Go.Proofs.YtljpmddjcfkonaaGreatDoor
namespace Ie

theorem un_32 : un 4613937818241073152 * un 4611686018427387904 = un 4618441417868443648 * 2 ^ 1074 := by
  rw [un_3, un_2, un_6]
  have e1 : (2 : Int) ^ 1074 = 4503599627370496 * 2 ^ 1022 := by rw [show 1074 = 52 + 1022 by rfl, Nm.two_add]; rfl
  have e2 : (2 : Int) ^ 1024 = 2 * 2 ^ 1023 := Nm.two_succ 1023
  have e3 : (2 : Int) ^ 1023 = 2 * 2 ^ 1022 := Nm.two_succ 1022
  rw [e1, e2, e3]
  generalize (2 : Int) ^ 1022 = P
  ac_rfl

theorem mul_32 {r f : Int} (h : MulIs 4613937818241073152 4611686018427387904 r f) : r = 4618441417868443648 := by
  refine (h.rs (by rw [fin]; decide) (by rw [fin]; decide)).lit (Nm.two_pos _) _ (by omega) (by omega) ?_
  rw [uv_pos (by omega) (by omega), uv_pos (by omega) (by omega), un_32]

theorem div_62 {r f : Int} (h : DivIs 4618441417868443648 4611686018427387904 r f) : r = 4613937818241073152 := by
  have h1 := h.rs (by rw [fin]; decide) (by rw [fin]; decide) (by decide)
  have e1 : ab 4611686018427387904 = 4611686018427387904 := by decide
  have e2 : ab 4618441417868443648 = 4618441417868443648 := by decide
  have e3 : (ngd 4618441417868443648 != ngd 4611686018427387904) = false := by decide
  rw [e1, e2, e3] at h1
  refine h1.lit (un_pos (by omega)) _ (by omega) (by omega) ?_
  rw [sn_false, un_32]
end Ie
end Go.Proofs.YtljpmddjcfkonaaGreatDoor

/-
  Closed sums, products, quotients.
-/
namespace Go.Proofs.YtljpmddjcfkonaaGreatDoor
namespace Ie


theorem un_63 : un 4618441417868443648 + un 4613937818241073152 = un 4621256167635550208 := by
  rw [un_3, un_6, un_9, p1022.1, p1022.2.1, p1022.2.2]
  generalize (2 : Int) ^ 1022 = P
  omega

theorem fma_233 {r f : Int} (h : FmaIs 4611686018427387904 4613937818241073152 4613937818241073152 r f) : r = 4621256167635550208 := by
  refine (h.rs (by rw [fin]; decide) (by rw [fin]; decide) (by rw [fin]; decide)).lit (Nm.two_pos _) _ (by omega) (by omega) ?_
  rw [uv_pos (by omega) (by omega), uv_pos (by omega) (by omega), Int.mul_comm (un 4611686018427387904), un_32, ← Int.add_mul, un_63]

end Ie
end Go.Proofs.YtljpmddjcfkonaaGreatDoor

namespace Go.Proofs.YtljpmddjcfkonaaGreatDoor
open Go Go.RowKit Go.Deep

theorem pFma_is (a b c : Int) (w : World) (X : Int) (a0 : 0 ≤ a) (a1 : a < 18446744073709551616) (b0 : 0 ≤ b) (b1 : b < 18446744073709551616) (c0 : 0 ≤ c) (c1 : c < 18446744073709551616) (h : Ie.FmaR a b c X) (hT : Tab w) :
    Calls Tryz.prog 5 #[.int .u64 a, .int .u64 b, .int .u64 c] w fun e w' => e = .returned (.int .u64 X) ∧ Below w.heap.size w w' := by
  refine (softFma_any a b c w a0 a1 b0 b1 c0 c1 hT).mono ?_
  rintro e w' ⟨r, f, rfl, hr, hB⟩
  rw [hr.r.one h]
  exact ⟨rfl, hB⟩
theorem rFma_is (a b c : Int) (w : World) (X : Int) (a0 : 0 ≤ a) (a1 : a < 18446744073709551616) (b0 : 0 ≤ b) (b1 : b < 18446744073709551616) (c0 : 0 ≤ c) (c1 : c < 18446744073709551616) (h : Ie.FmaR a b c X) :
    Calls Tryz.prog 7 #[.int .u64 a, .int .u64 b, .int .u64 c] w fun e w' => e = .returned (.int .u64 X) ∧ Below w.heap.size w w' := by
  refine (yfma_any a b c w a0 a1 b0 b1 c0 c1).mono ?_
  rintro e w' ⟨r, rfl, hr, hB⟩
  rw [hr.one h]
  exact ⟨rfl, hB⟩
theorem pSqrt_is (a : Int) (w : World) (X : Int) (a0 : 0 ≤ a) (a1 : a < 18446744073709551616) (h : Ie.SqrtR a X) (hT : Tab w) :
    Calls Tryz.prog 6 #[.int .u64 a] w fun e w' => e = .returned (.int .u64 X) ∧ Below w.heap.size w w' := by
  refine (softSqrt_any a w a0 a1 hT).mono ?_
  rintro e w' ⟨r, f, rfl, hr, hB⟩
  rw [(Ie.SqrtIs.r a0 hr).one h]
  exact ⟨rfl, hB⟩
theorem rSqrt_is (a : Int) (w : World) (X : Int) (a0 : 0 ≤ a) (a1 : a < 18446744073709551616) (h : Ie.SqrtR a X) :
    Calls Tryz.prog 8 #[.int .u64 a] w fun e w' => e = .returned (.int .u64 X) ∧ Below w.heap.size w w' := by
  refine (ysqrt_any a w a0 a1).mono ?_
  rintro e w' ⟨r, rfl, hr, hB⟩
  rw [hr.one h]
  exact ⟨rfl, hB⟩

set_option maxRecDepth 100000 in
set_option maxHeartbeats 16000000 in
theorem fmas_law (a : Option Addr) (len cap : Nat) (its : List O3) (w : World) (hl : its.length = len) (hc : len ≤ cap) (hm : cap ≤ 17592186044416) (hp : O3.Holds w a its) (hi : ∀ it ∈ its, O3.Bd it) (hT : Tab w) :
    Calls Tryz.prog 3 #[.slice a len cap] w fun e w' => e = .returned (.bool true) ∧ Below w.heap.size w w' := by
  have HL := hid hl
  have HP := hid hp
  have HI := hid hi
  have HT := hid hT
  have A1 : Hid (∀ wx, Below w.heap.size w wx → Calls Tryz.prog 5 #[.int .u64 4611686018427387904, .int .u64 4613937818241073152, .int .u64 4613937818241073152] wx fun e w' => e = .returned (.int .u64 4621256167635550208) ∧ Below wx.heap.size wx w') := fun wx k => by
    refine (softFma_any _ _ _ wx (by decide) (by decide) (by decide) (by decide) (by decide) (by decide) (hT.below k)).mono ?_
    rintro e w' ⟨r, f, rfl, h, hB⟩
    rw [Ie.fma_233 h]; exact ⟨rfl, hB⟩
  have A2 : Hid (∀ wx, Below w.heap.size w wx → Calls Tryz.prog 6 #[.int .u64 4621256167635550208] wx fun e w' => e = .returned (.int .u64 4613937818241073152) ∧ Below wx.heap.size wx w') := fun wx k => by
    refine (softSqrt_any _ wx (by decide) (by decide) (hT.below k)).mono ?_
    rintro e w' ⟨r, f, rfl, h, hB⟩
    rw [Ie.sqrt_9 h]; exact ⟨rfl, hB⟩
  clear hl hp hi hT
  go_enter Tryz.func3, Tryz.ntmps3
  go_wp2_with fail
  with_reducible refine (A1.out _ (Below.refl _ _)).mono ?_
  rintro e w1 ⟨rfl, b1⟩
  go_wp2_with fail
  with_reducible refine (A2.out _ b1).mono ?_
  rintro e w2 ⟨rfl, hB⟩
  have D1 := hid (bel b1 hB)
  clear b1 hB A1 A2
  go_wp2_with fail
  go_loopw [3, 4] (fun i _ wr => ∃ j : Nat, j ≤ len ∧ i = .int .i64 j ∧ Hid (Below w.heap.size w wr)) (fun i _ _ => len - (intOf i).toNat)
  case atStart => exact ⟨0, Nat.zero_le _, rfl, D1.out⟩
  case round =>
    clear D1
    obtain ⟨j, hj, rfl, D⟩ := hrel
    by_cases hlt : j < len
    · obtain ⟨it, hit⟩ : ∃ it, its[j]? = some it := ⟨_, List.getElem?_eq_getElem (by have := HL.out; omega)⟩
      have hPH := HP.out.below D.out
      obtain ⟨bdA, bdB, bdC⟩ := HI.out it (List.mem_of_getElem? hit)
      rcases hPH with h | ⟨b0, off, rfl, h⟩
      · rw [h] at hit
        simp at hit
      · obtain ⟨c0, c1, c2⟩ := h j it hit
        obtain ⟨A, B, C⟩ := it
        simp only at c0 c1 c2 bdA bdB bdC
        have hjl : (j : Int) < (len : Int) := by omega
        clear h hit HP HI HL
        go_upto_region 7 with fail
        have S0 : Hid (One3 w (wr.alloc (.cells #[.int .u64 A, .int .u64 B, .int .u64 C] 27)) wr.heap.size A B C) := ⟨bel D.out (alloc_b wr _), heap_alloc_new wr _⟩
        generalize hW : wr.alloc (.cells #[.int .u64 A, .int .u64 B, .int .u64 C] 27) = wA at *
        clear hW
        generalize wr.heap.size = g at *
        clear c0 c1 c2 D
        obtain ⟨X, hX⟩ := Ie.fmaR_ex A B C
        obtain ⟨Y, hY⟩ := Ie.sqrtR_ex A
        obtain ⟨Z, hZ⟩ := Ie.sqrtR_ex B
        have P1 := hid (fun wx (k : Below w.heap.size w wx) => pFma_is A B C wx X bdA.1 bdA.2 bdB.1 bdB.2 bdC.1 bdC.2 hX (HT.out.below k))
        have R1 := hid (fun wx (k : Below w.heap.size w wx) => rFma_is A B C wx X bdA.1 bdA.2 bdB.1 bdB.2 bdC.1 bdC.2 hX)
        have P2 := hid (fun wx (k : Below w.heap.size w wx) => pSqrt_is A wx Y bdA.1 bdA.2 hY (HT.out.below k))
        have R2 := hid (fun wx (k : Below w.heap.size w wx) => rSqrt_is A wx Y bdA.1 bdA.2 hY)
        have P3 := hid (fun wx (k : Below w.heap.size w wx) => pSqrt_is B wx Z bdB.1 bdB.2 hZ (HT.out.below k))
        have R3 := hid (fun wx (k : Below w.heap.size w wx) => rSqrt_is B wx Z bdB.1 bdB.2 hZ)
        have xx : (X == X) = true := beq_self_eq_true X
        have yy : (Y == Y) = true := beq_self_eq_true Y
        have zz : (Z == Z) = true := beq_self_eq_true Z
        clear hX hY hZ
        have SD := hid (S0.out.on (udrew3 wA))
        clear S0
        go_region_held3 (fun w' => w'.cell? ⟨g, 0, none⟩ = some (.int .u64 A) ∧ w'.cell? ⟨g, 1, none⟩ = some (.int .u64 B) ∧ w'.cell? ⟨g, 2, none⟩ = some (.int .u64 C)) (first | (with_reducible exact T6.out.flat) | (with_reducible exact T5.out.flat) | (with_reducible exact T4.out.flat) | (with_reducible exact T3.out.flat) | (with_reducible exact T2.out.flat) | (with_reducible exact T1.out.flat) | (with_reducible exact SD.out.flat)) (first | (go_at_call 5; first | (with_reducible refine (P1.out _ T5.out.blw).mono ?_; rintro e wT6 ⟨rfl, hB⟩; have T6 := hid (T5.out.on hB); clear hB) | (with_reducible refine (P1.out _ T4.out.blw).mono ?_; rintro e wT5 ⟨rfl, hB⟩; have T5 := hid (T4.out.on hB); clear hB) | (with_reducible refine (P1.out _ T3.out.blw).mono ?_; rintro e wT4 ⟨rfl, hB⟩; have T4 := hid (T3.out.on hB); clear hB) | (with_reducible refine (P1.out _ T2.out.blw).mono ?_; rintro e wT3 ⟨rfl, hB⟩; have T3 := hid (T2.out.on hB); clear hB) | (with_reducible refine (P1.out _ T1.out.blw).mono ?_; rintro e wT2 ⟨rfl, hB⟩; have T2 := hid (T1.out.on hB); clear hB) | (with_reducible refine (P1.out _ SD.out.blw).mono ?_; rintro e wT1 ⟨rfl, hB⟩; have T1 := hid (SD.out.on hB); clear hB)) | (go_at_call 7; first | (with_reducible refine (R1.out _ T5.out.blw).mono ?_; rintro e wT6 ⟨rfl, hB⟩; have T6 := hid (T5.out.on hB); clear hB) | (with_reducible refine (R1.out _ T4.out.blw).mono ?_; rintro e wT5 ⟨rfl, hB⟩; have T5 := hid (T4.out.on hB); clear hB) | (with_reducible refine (R1.out _ T3.out.blw).mono ?_; rintro e wT4 ⟨rfl, hB⟩; have T4 := hid (T3.out.on hB); clear hB) | (with_reducible refine (R1.out _ T2.out.blw).mono ?_; rintro e wT3 ⟨rfl, hB⟩; have T3 := hid (T2.out.on hB); clear hB) | (with_reducible refine (R1.out _ T1.out.blw).mono ?_; rintro e wT2 ⟨rfl, hB⟩; have T2 := hid (T1.out.on hB); clear hB) | (with_reducible refine (R1.out _ SD.out.blw).mono ?_; rintro e wT1 ⟨rfl, hB⟩; have T1 := hid (SD.out.on hB); clear hB)) | (go_at_call 6; first | (with_reducible refine (P2.out _ T5.out.blw).mono ?_; rintro e wT6 ⟨rfl, hB⟩; have T6 := hid (T5.out.on hB); clear hB) | (with_reducible refine (P3.out _ T5.out.blw).mono ?_; rintro e wT6 ⟨rfl, hB⟩; have T6 := hid (T5.out.on hB); clear hB) | (with_reducible refine (P2.out _ T4.out.blw).mono ?_; rintro e wT5 ⟨rfl, hB⟩; have T5 := hid (T4.out.on hB); clear hB) | (with_reducible refine (P3.out _ T4.out.blw).mono ?_; rintro e wT5 ⟨rfl, hB⟩; have T5 := hid (T4.out.on hB); clear hB) | (with_reducible refine (P2.out _ T3.out.blw).mono ?_; rintro e wT4 ⟨rfl, hB⟩; have T4 := hid (T3.out.on hB); clear hB) | (with_reducible refine (P3.out _ T3.out.blw).mono ?_; rintro e wT4 ⟨rfl, hB⟩; have T4 := hid (T3.out.on hB); clear hB) | (with_reducible refine (P2.out _ T2.out.blw).mono ?_; rintro e wT3 ⟨rfl, hB⟩; have T3 := hid (T2.out.on hB); clear hB) | (with_reducible refine (P3.out _ T2.out.blw).mono ?_; rintro e wT3 ⟨rfl, hB⟩; have T3 := hid (T2.out.on hB); clear hB) | (with_reducible refine (P2.out _ T1.out.blw).mono ?_; rintro e wT2 ⟨rfl, hB⟩; have T2 := hid (T1.out.on hB); clear hB) | (with_reducible refine (P3.out _ T1.out.blw).mono ?_; rintro e wT2 ⟨rfl, hB⟩; have T2 := hid (T1.out.on hB); clear hB) | (with_reducible refine (P2.out _ SD.out.blw).mono ?_; rintro e wT1 ⟨rfl, hB⟩; have T1 := hid (SD.out.on hB); clear hB) | (with_reducible refine (P3.out _ SD.out.blw).mono ?_; rintro e wT1 ⟨rfl, hB⟩; have T1 := hid (SD.out.on hB); clear hB)) | (go_at_call 8; first | (with_reducible refine (R2.out _ T5.out.blw).mono ?_; rintro e wT6 ⟨rfl, hB⟩; have T6 := hid (T5.out.on hB); clear hB) | (with_reducible refine (R3.out _ T5.out.blw).mono ?_; rintro e wT6 ⟨rfl, hB⟩; have T6 := hid (T5.out.on hB); clear hB) | (with_reducible refine (R2.out _ T4.out.blw).mono ?_; rintro e wT5 ⟨rfl, hB⟩; have T5 := hid (T4.out.on hB); clear hB) | (with_reducible refine (R3.out _ T4.out.blw).mono ?_; rintro e wT5 ⟨rfl, hB⟩; have T5 := hid (T4.out.on hB); clear hB) | (with_reducible refine (R2.out _ T3.out.blw).mono ?_; rintro e wT4 ⟨rfl, hB⟩; have T4 := hid (T3.out.on hB); clear hB) | (with_reducible refine (R3.out _ T3.out.blw).mono ?_; rintro e wT4 ⟨rfl, hB⟩; have T4 := hid (T3.out.on hB); clear hB) | (with_reducible refine (R2.out _ T2.out.blw).mono ?_; rintro e wT3 ⟨rfl, hB⟩; have T3 := hid (T2.out.on hB); clear hB) | (with_reducible refine (R3.out _ T2.out.blw).mono ?_; rintro e wT3 ⟨rfl, hB⟩; have T3 := hid (T2.out.on hB); clear hB) | (with_reducible refine (R2.out _ T1.out.blw).mono ?_; rintro e wT2 ⟨rfl, hB⟩; have T2 := hid (T1.out.on hB); clear hB) | (with_reducible refine (R3.out _ T1.out.blw).mono ?_; rintro e wT2 ⟨rfl, hB⟩; have T2 := hid (T1.out.on hB); clear hB) | (with_reducible refine (R2.out _ SD.out.blw).mono ?_; rintro e wT1 ⟨rfl, hB⟩; have T1 := hid (SD.out.on hB); clear hB) | (with_reducible refine (R3.out _ SD.out.blw).mono ?_; rintro e wT1 ⟨rfl, hB⟩; have T1 := hid (SD.out.on hB); clear hB)))
        all_goals (go_wp2_with fail; go_roundw; all_goals (first | exact ⟨j + 1, by omega, by go_num, T6.out.blw⟩ | (simp [intOf]; omega)))
    · have hjl : ¬ (j : Int) < (len : Int) := by omega
      go_wp2_with fail
      go_ret
      exact ⟨rfl, D.out⟩
end Go.Proofs.YtljpmddjcfkonaaGreatDoor
