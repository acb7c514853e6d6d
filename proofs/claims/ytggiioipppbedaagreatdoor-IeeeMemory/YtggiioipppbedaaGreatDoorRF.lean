/-
  Texts put together: ZRound, ZRef12, ZRound2, ZFromU, ZAgainst, ZRatio, IDown, IOrdC, IOrd1, IOrd2, IOrd3.
-/
import Derived.Test.YtggiioipppbedaaGreatDoorRC
import Derived.Test.YtggiioipppbedaaGreatDoorRE
import Derived.Test.YtggiioipppbedaaGreatDoorINum2
import Derived.Test.YtggiioipppbedaaGreatDoorShr
import Derived.Test.YtggiioipppbedaaGreatDoorTrailW
import Derived.Test.YtggiioipppbedaaGreatDoorIWalk1C
import Derived.Test.YtggiioipppbedaaGreatDoorRB
import Derived.Test.YtggiioipppbedaaGreatDoorRA
/-
  The document's Round (made by mkzround.py).
-/
namespace Go.Proofs.YtggiioipppbedaaGreatDoor
open Go Go.RowKit Go.Deep

/-- What the document's Round tells, once the digits are read. -/
def ZRTold (neg more rs : Bool) (hb : Int) (U : Nat) (g : Int) (r : Ending) : Prop :=
  ∃ up : Bool, r = .returned (.tuple #[.int .u64 (Ie.sg neg ((U : Int) * 4503599627370496 + g + if up = true then 1 else 0)), .int .i64 0]) ∧ (up = true ↔ (hb = 1 ∧ (rs = true ∨ more = true ∨ g % 2 = 1)))


set_option maxRecDepth 100000 in
set_option maxHeartbeats 8000000 in
theorem zround_core (neg : Bool) (p : Option Addr) (n cap : Nat) (w : World) (e u : Int) (L U J T : Nat) (more rs : Bool) (G : Nat → Int) (bv : Nat → Int) (hb : Int)
    (BG : Calls Tryz.prog 61 #[.slice p n cap] w fun r w' => r = .returned (.bool false) ∧ w' = w)
    (BL : Calls Tryz.prog 62 #[.slice p n cap] w fun r w' => r = .returned (.int .i64 (L : Int)) ∧ w' = w)
    (BT : ∀ j, j < J → ∀ ii, ii = u + (j : Int) - e → Calls Tryz.prog 63 #[.slice p n cap, .int .i64 ii] w fun r w' => r = .returned (.int .i64 (bv j)) ∧ w' = w)
    (BH : ∀ ii, ii = u - 1 - e → Calls Tryz.prog 63 #[.slice p n cap, .int .i64 ii] w fun r w' => r = .returned (.int .i64 hb) ∧ w' = w)
    (TR : Calls Tryz.prog 57 #[.slice p n cap] w fun r w' => r = .returned (.int .i64 (T : Int)) ∧ w' = w)
    (hL0 : 0 < L) (hL2 : L ≤ 262144) (he0 : -1048576 ≤ e) (he1 : e ≤ 1048576) (hbig : (L : Int) + e ≤ 1024) (hT : T ≤ 17592186044000)
    (hU : u + 1074 = (U : Int)) (hU2 : U ≤ 2045) (hmax : ((L : Int) + e - 53 < -1074 ∧ u = -1074) ∨ (-1074 ≤ (L : Int) + e - 53 ∧ u = (L : Int) + e - 53))
    (hJ : u + (J : Int) = (L : Int) + e ∨ (J = 0 ∧ (L : Int) + e ≤ u)) (GB : ∀ j, j ≤ J → 0 ≤ G j ∧ G j < 9007199254740992) (GJ : G J = 0) (GS : ∀ j, j < J → G j = 2 * G (j + 1) + bv j ∧ 0 ≤ bv j ∧ bv j ≤ 1)
    (hbb : hb = 0 ∨ hb = 1) (hrs : decide ((T : Int) + e < u - 1) = rs) (hUm : 0 < U → 4503599627370496 ≤ G 0) :
    Calls Tryz.prog 30 #[.bool neg, .slice p n cap, .int .i64 e, .bool more] w fun r w' => ZRTold neg more rs hb U (G 0) r ∧ w' = w := by
  have HBG := hid BG
  have HBL := hid BL
  have HBT := hid BT
  have HBH := hid BH
  have HTR := hid TR
  have HGB := hid GB
  have HGS := hid GS
  have HGJ := hid GJ
  have HRS := hid hrs
  have g0 := GB 0 (Nat.zero_le _)
  obtain ⟨G0, hG0⟩ : ∃ g, G 0 = g := ⟨_, rfl⟩
  rw [hG0] at g0 hUm ⊢
  have HG0 := hid hG0
  clear hG0
  obtain ⟨g00, g01⟩ := g0
  have PZ : Hid (∀ (wx : World) (m : Int), 0 ≤ m → m < 4503599627370496 → U = 0 → Calls Tryz.prog 53 #[.bool neg, .int .i64 0, .int .u64 m] wx fun r w' => r = .returned (.int .u64 (Ie.sg neg ((U : Int) * 4503599627370496 + m))) ∧ w' = wx) := by
    intro wx m m0 m1 hu
    have := zput_any neg 0 m wx (by omega) (by omega) m0 (by omega) (by omega)
    rw [hu]
    exact this
  have PU : Hid (∀ (wx : World) (m ee : Int), 0 ≤ m → m ≤ 9007199254740992 → ee = (U : Int) → Calls Tryz.prog 53 #[.bool neg, .int .i64 ee, .int .u64 m] wx fun r w' => r = .returned (.int .u64 (Ie.sg neg ((U : Int) * 4503599627370496 + m))) ∧ w' = wx) := by
    intro wx m ee m0 m1 hu
    subst hu
    exact zput_any neg U m wx (by omega) (by omega) m0 m1 (by omega)
  have l0 : ((L : Int) == 0) = false := by rw [beq_eq_false_iff_ne]; omega
  have l1 : ¬ 1023 < (L : Int) - 1 + e := by omega
  have l2 : (L : Int) ≤ 262144 := by omega
  have l3 : ¬ e < -1048576 := by omega
  have l4 : ¬ 1048576 < e := by omega
  have t1 : (T : Int) ≤ 17592186044000 := by omega
  have u0 : -1074 ≤ u := by omega
  have u1 : u ≤ 971 := by omega
  have hJ2 : (J : Int) ≤ 1100000 := by omega
  have HUM := hid hUm
  have HU := hid hU
  have HJ := hid hJ
  clear BG BL BT BH TR GB GS GJ hrs hL2 hT hUm hU hJ
  rcases hmax with ⟨hx, hue⟩ | ⟨hx, hue⟩
  · have HUE := hid hue
    clear hue
    go_enter Tryz.func30, Tryz.ntmps30
    go_wp2_with fail
    refine HBG.out.mono ?_
    rintro e' w' ⟨rfl, rfl⟩
    go_wp2_with fail
    refine HBL.out.mono ?_
    rintro e' w' ⟨rfl, rfl⟩
    go_wp2_with fail
    rw [← HUE.out]
    go_loopw [13, 14] (fun a i wr => ∃ (j : Nat) (M z : Int), a = .int .u64 M ∧ i = .int .i64 z ∧ j ≤ J ∧ 0 ≤ M ∧ M < 9007199254740992 ∧ -2000000 ≤ z ∧ z ≤ 1100 ∧ Hid (M = G j ∧ (z = u + (j : Int) - 1 ∨ (j = 0 ∧ z ≤ u - 1))) ∧ wr = w') (fun _ i _ => (intOf i + 2000001).toNat)
    case atStart => exact ⟨J, 0, _, rfl, rfl, Nat.le_refl _, by omega, by omega, by omega, by omega, ⟨HGJ.out.symm, by have := HJ.out; omega⟩, rfl⟩
    case round =>
      obtain ⟨j, M, z, rfl, rfl, hj, M0, M1, z0, z1, I, rfl⟩ := hrel
      cases j with
      | zero =>
        have hM : M = G0 := I.out.1.trans HG0.out
        have hz : z < u := by have := I.out.2; omega
        have hM2 := hM.symm
        clear hM
        subst hM2
        clear I HGS HBT
        go_wp2_with fail
        refine (HBH.out _ (by omega)).mono ?_
        rintro e' w' ⟨rfl, rfl⟩
        rcases hbb with rfl | rfl
        · go_wp2_with fail
          refine HTR.out.mono ?_
          rintro e' w' ⟨rfl, rfl⟩
          by_cases hsm : G0 < 4503599627370496
          · have hu0 : U = 0 := Nat.eq_zero_of_not_pos (fun h => absurd (HUM.out h) (by omega))
            go_wp2_with fail
            refine (PZ.out _ _ (by omega) (by omega) hu0).mono ?_
            rintro e' w' ⟨rfl, rfl⟩
            go_wp2_with fail
            go_ret2
            exact ⟨⟨false, ret_sg (by simp <;> omega), by simp⟩, rfl⟩
          · go_wp2_with fail
            refine (PU.out _ _ _ (by omega) (by omega) (by have := HU.out; omega)).mono ?_
            rintro e' w' ⟨rfl, rfl⟩
            go_wp2_with fail
            go_ret2
            exact ⟨⟨false, ret_sg (by simp <;> omega), by simp⟩, rfl⟩
        · cases rs
          · have HF := of_decide_eq_false HRS.out
            cases more
            · rcases (show G0 % 2 = 0 ∨ G0 % 2 = 1 by omega) with hp | hp
              · go_wp2_with fail
                refine HTR.out.mono ?_
                rintro e' w' ⟨rfl, rfl⟩
                by_cases hsm : G0 < 4503599627370496
                · have hu0 : U = 0 := Nat.eq_zero_of_not_pos (fun h => absurd (HUM.out h) (by omega))
                  go_wp2_with fail
                  refine (PZ.out _ _ (by omega) (by omega) hu0).mono ?_
                  rintro e' w' ⟨rfl, rfl⟩
                  go_wp2_with fail
                  go_ret2
                  exact ⟨⟨false, ret_sg (by simp <;> omega), by simp [hp]⟩, rfl⟩
                · go_wp2_with fail
                  refine (PU.out _ _ _ (by omega) (by omega) (by have := HU.out; omega)).mono ?_
                  rintro e' w' ⟨rfl, rfl⟩
                  go_wp2_with fail
                  go_ret2
                  exact ⟨⟨false, ret_sg (by simp <;> omega), by simp [hp]⟩, rfl⟩
              · go_wp2_with fail
                refine HTR.out.mono ?_
                rintro e' w' ⟨rfl, rfl⟩
                by_cases hsm : G0 + 1 < 4503599627370496
                · have hu0 : U = 0 := Nat.eq_zero_of_not_pos (fun h => absurd (HUM.out h) (by omega))
                  go_wp2_with fail
                  refine (PZ.out _ _ (by omega) (by omega) hu0).mono ?_
                  rintro e' w' ⟨rfl, rfl⟩
                  go_wp2_with fail
                  go_ret2
                  exact ⟨⟨true, ret_sg (by simp <;> omega), by simp [hp]⟩, rfl⟩
                · go_wp2_with fail
                  refine (PU.out _ _ _ (by omega) (by omega) (by have := HU.out; omega)).mono ?_
                  rintro e' w' ⟨rfl, rfl⟩
                  go_wp2_with fail
                  go_ret2
                  exact ⟨⟨true, ret_sg (by simp <;> omega), by simp [hp]⟩, rfl⟩
            · go_wp2_with fail
              refine HTR.out.mono ?_
              rintro e' w' ⟨rfl, rfl⟩
              by_cases hsm : G0 + 1 < 4503599627370496
              · have hu0 : U = 0 := Nat.eq_zero_of_not_pos (fun h => absurd (HUM.out h) (by omega))
                go_wp2_with fail
                refine (PZ.out _ _ (by omega) (by omega) hu0).mono ?_
                rintro e' w' ⟨rfl, rfl⟩
                go_wp2_with fail
                go_ret2
                exact ⟨⟨true, ret_sg (by simp <;> omega), by simp⟩, rfl⟩
              · go_wp2_with fail
                refine (PU.out _ _ _ (by omega) (by omega) (by have := HU.out; omega)).mono ?_
                rintro e' w' ⟨rfl, rfl⟩
                go_wp2_with fail
                go_ret2
                exact ⟨⟨true, ret_sg (by simp <;> omega), by simp⟩, rfl⟩
          · have HF := of_decide_eq_true HRS.out
            go_wp2_with fail
            refine HTR.out.mono ?_
            rintro e' w' ⟨rfl, rfl⟩
            by_cases hsm : G0 + 1 < 4503599627370496
            · have hu0 : U = 0 := Nat.eq_zero_of_not_pos (fun h => absurd (HUM.out h) (by omega))
              go_wp2_with fail
              refine (PZ.out _ _ (by omega) (by omega) hu0).mono ?_
              rintro e' w' ⟨rfl, rfl⟩
              go_wp2_with fail
              go_ret2
              exact ⟨⟨true, ret_sg (by simp <;> omega), by simp⟩, rfl⟩
            · go_wp2_with fail
              refine (PU.out _ _ _ (by omega) (by omega) (by have := HU.out; omega)).mono ?_
              rintro e' w' ⟨rfl, rfl⟩
              go_wp2_with fail
              go_ret2
              exact ⟨⟨true, ret_sg (by simp <;> omega), by simp⟩, rfl⟩
      | succ k =>
        have hz : z = u + (k : Int) := by have := I.out.2; omega
        have hz2 : u ≤ z := by omega
        obtain ⟨s1, s2, s3⟩ := HGS.out k (by omega)
        have B1 := hid (HBT.out k (by omega))
        have gb := HGB.out k (by omega)
        obtain ⟨b, hbk⟩ : ∃ b, bv k = b := ⟨_, rfl⟩
        rw [hbk] at s1 s2 s3 B1
        have HZ := hid hz
        have S1 : Hid (2 * M + b = G k) := by rw [Hid, s1, I.out.1]
        have n1 : 2 * M + b < 9007199254740992 := by rw [S1.out]; exact gb.2
        clear s1 I hz gb hbk
        go_wp2_with fail
        refine (B1.out _ (by have := HZ.out; omega)).mono ?_
        rintro e' wq ⟨rfl, rfl⟩
        go_wp2_with fail
        go_roundw
        case measure => simp only [intOf]; omega
        case rel => exact ⟨k, _, _, rfl, rfl, by omega, by omega, by omega, by omega, by omega, ⟨S1.out, .inl (by have := HZ.out; omega)⟩, by first | rfl | trivial⟩
  · subst hue
    go_enter Tryz.func30, Tryz.ntmps30
    go_wp2_with fail
    refine HBG.out.mono ?_
    rintro e' w' ⟨rfl, rfl⟩
    go_wp2_with fail
    refine HBL.out.mono ?_
    rintro e' w' ⟨rfl, rfl⟩
    go_wp2_with fail
    go_loopw [13, 14] (fun a i wr => ∃ (j : Nat) (M z : Int), a = .int .u64 M ∧ i = .int .i64 z ∧ j ≤ J ∧ 0 ≤ M ∧ M < 9007199254740992 ∧ -2000000 ≤ z ∧ z ≤ 1100 ∧ Hid (M = G j ∧ (z = ((L : Int) + e - 53) + (j : Int) - 1 ∨ (j = 0 ∧ z ≤ ((L : Int) + e - 53) - 1))) ∧ wr = w') (fun _ i _ => (intOf i + 2000001).toNat)
    case atStart => exact ⟨J, 0, _, rfl, rfl, Nat.le_refl _, by omega, by omega, by omega, by omega, ⟨HGJ.out.symm, by have := HJ.out; omega⟩, rfl⟩
    case round =>
      obtain ⟨j, M, z, rfl, rfl, hj, M0, M1, z0, z1, I, rfl⟩ := hrel
      cases j with
      | zero =>
        have hM : M = G0 := I.out.1.trans HG0.out
        have hz : z < ((L : Int) + e - 53) := by have := I.out.2; omega
        have hM2 := hM.symm
        clear hM
        subst hM2
        clear I HGS HBT
        go_wp2_with fail
        refine (HBH.out _ (by omega)).mono ?_
        rintro e' w' ⟨rfl, rfl⟩
        rcases hbb with rfl | rfl
        · go_wp2_with fail
          refine HTR.out.mono ?_
          rintro e' w' ⟨rfl, rfl⟩
          by_cases hsm : G0 < 4503599627370496
          · have hu0 : U = 0 := Nat.eq_zero_of_not_pos (fun h => absurd (HUM.out h) (by omega))
            go_wp2_with fail
            refine (PZ.out _ _ (by omega) (by omega) hu0).mono ?_
            rintro e' w' ⟨rfl, rfl⟩
            go_wp2_with fail
            go_ret2
            exact ⟨⟨false, ret_sg (by simp <;> omega), by simp⟩, rfl⟩
          · go_wp2_with fail
            refine (PU.out _ _ _ (by omega) (by omega) (by have := HU.out; omega)).mono ?_
            rintro e' w' ⟨rfl, rfl⟩
            go_wp2_with fail
            go_ret2
            exact ⟨⟨false, ret_sg (by simp <;> omega), by simp⟩, rfl⟩
        · cases rs
          · have HF := of_decide_eq_false HRS.out
            cases more
            · rcases (show G0 % 2 = 0 ∨ G0 % 2 = 1 by omega) with hp | hp
              · go_wp2_with fail
                refine HTR.out.mono ?_
                rintro e' w' ⟨rfl, rfl⟩
                by_cases hsm : G0 < 4503599627370496
                · have hu0 : U = 0 := Nat.eq_zero_of_not_pos (fun h => absurd (HUM.out h) (by omega))
                  go_wp2_with fail
                  refine (PZ.out _ _ (by omega) (by omega) hu0).mono ?_
                  rintro e' w' ⟨rfl, rfl⟩
                  go_wp2_with fail
                  go_ret2
                  exact ⟨⟨false, ret_sg (by simp <;> omega), by simp [hp]⟩, rfl⟩
                · go_wp2_with fail
                  refine (PU.out _ _ _ (by omega) (by omega) (by have := HU.out; omega)).mono ?_
                  rintro e' w' ⟨rfl, rfl⟩
                  go_wp2_with fail
                  go_ret2
                  exact ⟨⟨false, ret_sg (by simp <;> omega), by simp [hp]⟩, rfl⟩
              · go_wp2_with fail
                refine HTR.out.mono ?_
                rintro e' w' ⟨rfl, rfl⟩
                by_cases hsm : G0 + 1 < 4503599627370496
                · have hu0 : U = 0 := Nat.eq_zero_of_not_pos (fun h => absurd (HUM.out h) (by omega))
                  go_wp2_with fail
                  refine (PZ.out _ _ (by omega) (by omega) hu0).mono ?_
                  rintro e' w' ⟨rfl, rfl⟩
                  go_wp2_with fail
                  go_ret2
                  exact ⟨⟨true, ret_sg (by simp <;> omega), by simp [hp]⟩, rfl⟩
                · go_wp2_with fail
                  refine (PU.out _ _ _ (by omega) (by omega) (by have := HU.out; omega)).mono ?_
                  rintro e' w' ⟨rfl, rfl⟩
                  go_wp2_with fail
                  go_ret2
                  exact ⟨⟨true, ret_sg (by simp <;> omega), by simp [hp]⟩, rfl⟩
            · go_wp2_with fail
              refine HTR.out.mono ?_
              rintro e' w' ⟨rfl, rfl⟩
              by_cases hsm : G0 + 1 < 4503599627370496
              · have hu0 : U = 0 := Nat.eq_zero_of_not_pos (fun h => absurd (HUM.out h) (by omega))
                go_wp2_with fail
                refine (PZ.out _ _ (by omega) (by omega) hu0).mono ?_
                rintro e' w' ⟨rfl, rfl⟩
                go_wp2_with fail
                go_ret2
                exact ⟨⟨true, ret_sg (by simp <;> omega), by simp⟩, rfl⟩
              · go_wp2_with fail
                refine (PU.out _ _ _ (by omega) (by omega) (by have := HU.out; omega)).mono ?_
                rintro e' w' ⟨rfl, rfl⟩
                go_wp2_with fail
                go_ret2
                exact ⟨⟨true, ret_sg (by simp <;> omega), by simp⟩, rfl⟩
          · have HF := of_decide_eq_true HRS.out
            go_wp2_with fail
            refine HTR.out.mono ?_
            rintro e' w' ⟨rfl, rfl⟩
            by_cases hsm : G0 + 1 < 4503599627370496
            · have hu0 : U = 0 := Nat.eq_zero_of_not_pos (fun h => absurd (HUM.out h) (by omega))
              go_wp2_with fail
              refine (PZ.out _ _ (by omega) (by omega) hu0).mono ?_
              rintro e' w' ⟨rfl, rfl⟩
              go_wp2_with fail
              go_ret2
              exact ⟨⟨true, ret_sg (by simp <;> omega), by simp⟩, rfl⟩
            · go_wp2_with fail
              refine (PU.out _ _ _ (by omega) (by omega) (by have := HU.out; omega)).mono ?_
              rintro e' w' ⟨rfl, rfl⟩
              go_wp2_with fail
              go_ret2
              exact ⟨⟨true, ret_sg (by simp <;> omega), by simp⟩, rfl⟩
      | succ k =>
        have hz : z = ((L : Int) + e - 53) + (k : Int) := by have := I.out.2; omega
        have hz2 : ((L : Int) + e - 53) ≤ z := by omega
        obtain ⟨s1, s2, s3⟩ := HGS.out k (by omega)
        have B1 := hid (HBT.out k (by omega))
        have gb := HGB.out k (by omega)
        obtain ⟨b, hbk⟩ : ∃ b, bv k = b := ⟨_, rfl⟩
        rw [hbk] at s1 s2 s3 B1
        have HZ := hid hz
        have S1 : Hid (2 * M + b = G k) := by rw [Hid, s1, I.out.1]
        have n1 : 2 * M + b < 9007199254740992 := by rw [S1.out]; exact gb.2
        clear s1 I hz gb hbk
        go_wp2_with fail
        refine (B1.out _ (by have := HZ.out; omega)).mono ?_
        rintro e' wq ⟨rfl, rfl⟩
        go_wp2_with fail
        go_roundw
        case measure => simp only [intOf]; omega
        case rel => exact ⟨k, _, _, rfl, rfl, by omega, by omega, by omega, by omega, by omega, ⟨S1.out, .inl (by have := HZ.out; omega)⟩, by first | rfl | trivial⟩
end Go.Proofs.YtggiioipppbedaaGreatDoor

namespace Go.Proofs.YtggiioipppbedaaGreatDoor
open Go.RowKit Go.Deep

theorem val_zero_of {zs : List Int} (h : ∀ j, zs.getD j 0 = 0) : Nm.val zs = 0 := by
  rw [← Nm.val_take_of_zero zs 0 (fun j _ => h j)]
  rfl

set_option maxRecDepth 20000 in
set_option maxRecDepth 100000 in
set_option maxHeartbeats 2000000 in
theorem refTrail_any (p : Option Addr) (n cap : Nat) (zs : List Int) (w : World) (ha : Arg w p n cap zs) :
    Calls Tryz.prog 57 #[.slice p n cap] w fun e w' => (∃ t : Nat, e = .returned (.int .i64 (t : Int)) ∧ Nm.Trl (Nm.val zs) t) ∧ w' = w := by
  obtain ⟨a1, a2, a3, a4, a5⟩ := ha
  rcases a4 with rfl | ⟨b, off, rfl, hcell⟩
  · have hn0 : n = 0 := by simpa using a1.symm
    subst hn0
    clear a1 a5
    go_enter Tryz.func57, Tryz.ntmps57
    go_wp2
    refine wp_loop_rounds 1 ?_
    rw [rounds_succ]
    go_wp2
    go_ret
    exact ⟨⟨0, rfl, .inl ⟨rfl, rfl⟩⟩, rfl⟩
  · have H : Hid (zs.length = n) := a1
    have HC : Hid (∀ i, i < zs.length → w.cell? ⟨b, off + i, none⟩ = some (.int .u64 (zs.getD i 0))) := hcell
    have HL := hid a5
    clear a1 hcell a5
    go_enter Tryz.func57, Tryz.ntmps57
    go_wp2
    go_loop [3] (fun i => ∃ k : Nat, k ≤ n ∧ i = .int .i64 k ∧ Hid (∀ j, j < k → zs.getD j 0 = 0)) (fun i => n - (intOf i).toNat)
    case atStart => exact ⟨0, Nat.zero_le _, rfl, fun j hj => by omega⟩
    case round =>
      obtain ⟨k, hk, rfl, Z⟩ := hrel
      by_cases hlt : k < n
      · have hlt' : (k : Int) < (n : Int) := by omega
        obtain ⟨x, hx, X⟩ : ∃ x, w.cell? ⟨b, off + k, none⟩ = some (.int .u64 x) ∧ Hid (x = zs.getD k 0) := ⟨_, HC.out k (by have := H.out; omega), rfl⟩
        have hx0 : 0 ≤ x := by have := HL.out.at k; have := X.out; omega
        have hx1 : x < 18446744073709551616 := by have := HL.out.at k; have := X.out; omega
        by_cases hz : x = 0
        · have hz' : (x != 0) = false := by simp [hz]
          have Z2 : Hid (∀ j, j < k + 1 → zs.getD j 0 = 0) := by
            intro j hj
            by_cases e : j = k
            · rw [e, ← X.out]; exact hz
            · exact Z.out j (by omega)
          clear hz
          go_wp2
          go_round
          case rel => exact ⟨k + 1, by omega, by go_num, Z2.out⟩
          case measure => simp [intOf]; omega
        · have hz' : (x != 0) = true := by simp [hz]
          have XP : Hid (0 < x) := by show 0 < x; omega
          have FIN : Hid (∀ (c : Nat) (m : Int), x = 2 ^ c * (2 * m + 1) → c ≤ 63 → Nm.Trl (Nm.val zs) (64 * k + c)) := fun c m h hc => Nm.trl_at zs k c m (by have := H.out; omega) Z.out (by rw [← X.out]; exact h) hc
          have CB : Hid (∀ (c : Nat) (y : Int), 1 ≤ y → x = 2 ^ c * y → c ≤ 63) := by
            intro c y hy h
            rcases Nat.lt_or_ge c 64 with h1 | h1
            · omega
            · exfalso
              have h2 := Nm.two_mono h1
              rw [Nm.two_64] at h2
              have h3 : (2 : Int) ^ c * 1 ≤ 2 ^ c * y := Int.mul_le_mul_of_nonneg_left hy (by omega)
              omega
          have hkb : k ≤ 17592186044000 := by omega
          clear hz
          go_wp2_with fail
          go_loop [4, 5] (fun s y => ∃ (c S : Nat) (v : Int), Hid (S = 64 * k + c) ∧ S ≤ 1125899906842688 ∧ s = .int .i64 S ∧ y = .int .u64 v ∧ 1 ≤ v ∧ v ≤ x ∧ Hid (x = 2 ^ c * v)) (fun _ y => (intOf y).toNat)
          case atStart => exact ⟨0, 64 * k, x, rfl, by omega, by first | rfl | go_num, rfl, by have := XP.out; omega, by omega, by simp [Hid]⟩
          case round =>
            obtain ⟨c, S, v, HS, hS, rfl, rfl, hv1, hv2, HX⟩ := hrel
            have hc63 := CB.out c v hv1 HX.out
            by_cases hodd : v % 2 = 0
            · have hodd' : (v % 2 == 0) = true := by simp [hodd]
              obtain ⟨u, hu, U⟩ : ∃ u, v / 2 = u ∧ Hid (u = v / 2) := ⟨_, rfl, rfl⟩
              have hu1 : 1 ≤ u := by omega
              have huv : u < v := by omega
              have HX2 : Hid (x = 2 ^ (c + 1) * u) := by
                rw [Hid, Nm.two_succ, HX.out, Int.mul_assoc, Int.mul_left_comm]
                congr 1
                omega
              have hc2 := CB.out (c + 1) u hu1 HX2.out
              have hS2 : S + 1 ≤ 1125899906842688 := by have := HS.out; omega
              clear hodd
              go_wp2
              go_round
              case rel => exact ⟨c + 1, S + 1, u, by have := HS.out; show _ = _; omega, hS2, by go_num, by rw [hu], hu1, by omega, HX2.out⟩
              case measure => simp [intOf]; omega
            · have hodd' : (v % 2 == 0) = false := by simp; omega
              have E : Hid (Nm.Trl (Nm.val zs) S) := by
                rw [HS.out]
                exact FIN.out c (v / 2) (by rw [HX.out]; congr 1; omega) hc63
              clear hodd
              go_wp2
              go_ret
              exact ⟨⟨S, rfl, E.out⟩, rfl⟩
      · have hlt' : ¬ (k : Int) < (n : Int) := by omega
        have E : Hid (Nm.Trl (Nm.val zs) 0) := by
          refine .inl ⟨val_zero_of (fun j => ?_), rfl⟩
          by_cases hj : j < k
          · exact Z.out j hj
          · simp [List.getD, List.getElem?_eq_none (show zs.length ≤ j by have := H.out; omega)]
        go_wp2
        go_ret
        exact ⟨⟨0, rfl, E.out⟩, rfl⟩
end Go.Proofs.YtggiioipppbedaaGreatDoor

/-
  The document's Round, whole.
-/
namespace Go.Proofs.YtggiioipppbedaaGreatDoor
open Go Go.RowKit Go.Deep

theorem ztrl_ex : ∀ (n : Nat) (V : Int), 0 < V → V.toNat ≤ n → ∃ t, Nm.Trl V t
  | 0, V, h0, h => by omega
  | n + 1, V, h0, h => by
    rcases (show V % 2 = 1 ∨ V % 2 = 0 by omega) with g | g
    · exact ⟨0, .inr ⟨V / 2, by rw [Int.pow_zero, Int.one_mul]; omega⟩⟩
    · obtain ⟨t, ht⟩ := ztrl_ex n (V / 2) (by omega) (by omega)
      rcases ht with ⟨hz, _⟩ | ⟨m, hm⟩
      · omega
      · exact ⟨t + 1, .inr ⟨m, by rw [Nm.two_succ, Int.mul_assoc, ← hm]; omega⟩⟩

/-- The digits of V from the place z on. -/
def Ie.dgs (V z : Int) : Int := if 0 ≤ z then V / 2 ^ z.toNat else V * 2 ^ (-z).toNat
/-- The digit at the place z. -/
def Ie.dgt (V z : Int) : Int := if 0 ≤ z then V / 2 ^ z.toNat % 2 else 0

theorem Ie.dgs_step (V z : Int) : Ie.dgs V z = 2 * Ie.dgs V (z + 1) + Ie.dgt V z ∧ 0 ≤ Ie.dgt V z ∧ Ie.dgt V z ≤ 1 := by
  by_cases h : 0 ≤ z
  · rw [Ie.dgs, Ie.dgs, Ie.dgt, if_pos h, if_pos (by omega), if_pos h]
    have e : (z + 1).toNat = z.toNat + 1 := by omega
    have : V / 2 ^ (z.toNat + 1) = V / 2 ^ z.toNat / 2 := by
      rw [Int.ediv_ediv_of_nonneg (Int.le_of_lt (Nm.two_pos _)), Int.mul_comm, ← Nm.two_succ]
    rw [e, this]
    omega
  · by_cases h1 : z = -1
    · subst h1
      rw [Ie.dgs, Ie.dgs, Ie.dgt, if_neg (by omega), if_pos (by omega), if_neg (by omega)]
      have e1 : (2 : Int) ^ ((-(-1) : Int)).toNat = 2 := rfl
      have e2 : (2 : Int) ^ ((-1 + 1 : Int)).toNat = 1 := rfl
      rw [e1, e2, Int.ediv_one]
      omega
    · rw [Ie.dgs, Ie.dgs, Ie.dgt, if_neg h, if_neg (by omega), if_neg h]
      have e : (-z).toNat = (-(z + 1)).toNat + 1 := by omega
      rw [e, Nm.two_succ, Int.mul_left_comm]
      omega

theorem Ie.dgs_bd (V z : Int) (L : Nat) (h0 : 0 ≤ V) (h1 : V < 2 ^ L) (hz : (L : Int) ≤ z + 53) : 0 ≤ Ie.dgs V z ∧ Ie.dgs V z < 9007199254740992 := by
  have e53 : (2 : Int) ^ 53 = 9007199254740992 := by decide
  by_cases h : 0 ≤ z
  · rw [Ie.dgs, if_pos h]
    have hp := Nm.two_pos z.toNat
    refine ⟨Int.ediv_nonneg h0 (by omega), ?_⟩
    rw [Int.ediv_lt_iff_lt_mul hp]
    have g := Nm.two_mono (show L ≤ z.toNat + 53 by omega)
    rw [Nm.two_add, e53] at g
    rw [Int.mul_comm]
    omega
  · rw [Ie.dgs, if_neg h]
    have hp := Nm.two_pos (-z).toNat
    refine ⟨Int.mul_nonneg h0 (by omega), ?_⟩
    have g1 : V * 2 ^ (-z).toNat < 2 ^ (L + (-z).toNat) := by rw [Nm.two_add]; exact Int.mul_lt_mul_of_pos_right h1 hp
    have g2 := Nm.two_mono (show L + (-z).toNat ≤ 53 by omega)
    omega

theorem Ie.dgs_top (V z : Int) (L : Nat) (h0 : 0 ≤ V) (h1 : V < 2 ^ L) (hz : (L : Int) ≤ z) : Ie.dgs V z = 0 := by
  rw [Ie.dgs, if_pos (by omega)]
  have := Nm.two_mono (show L ≤ z.toNat by omega)
  exact Int.ediv_eq_zero_of_lt h0 (by omega)

theorem refBit_dgt (p : Option Addr) (n cap : Nat) (zs : List Int) (V z : Int) (w : World) (ha : Arg w p n cap zs) (hV : Nm.val zs = V) (hz : z ≤ 9223372036854775807) :
    Calls Tryz.prog 63 #[.slice p n cap, .int .i64 z] w fun e w' => e = .returned (.int .i64 (Ie.dgt V z)) ∧ w' = w := by
  by_cases h : 0 ≤ z
  · have := refBit_any p n cap zs z.toNat z w ha hz (by omega)
    rw [hV] at this
    rw [Ie.dgt, if_pos h]
    exact this
  · rw [Ie.dgt, if_neg h]
    exact refBit_neg p n cap z w (by omega)

set_option maxRecDepth 100000 in
set_option maxHeartbeats 4000000 in
theorem zround_any (neg : Bool) (p : Option Addr) (n cap : Nat) (zs : List Int) (w : World) (ha : Arg w p n cap zs) (tz : Nm.tsize zs ≤ 4096) (V e : Int) (more : Bool) (hV : Nm.val zs = V) :
    Calls Tryz.prog 30 #[.bool neg, .slice p n cap, .int .i64 e, .bool more] w fun r w' => ∃ x, r = .returned (.tuple #[.int .u64 (Ie.sg neg x), .int .i64 0]) ∧ Ie.Rnd V 1 e more x ∧ w' = w := by
  obtain ⟨L, hL, BL, hl, _⟩ := blen_is zs ha.2.2.2.2
  have v0 : 0 ≤ V := by rw [← hV]; exact (Nm.val_bd zs ha.2.2.2.2).1
  rw [hV] at BL
  have hL2 : L ≤ 262144 := by omega
  have BG := refBig_is false p n cap zs w ha (by simp; omega)
  have B1 : Calls Tryz.prog 62 #[.slice p n cap] w fun r w' => r = .returned (.int .i64 (L : Int)) ∧ w' = w := by
    refine (refBitLen_any p n cap zs w ha).mono ?_
    rintro r w' ⟨⟨L', rfl, h⟩, rfl⟩
    rw [hV] at h
    rw [Nm.BLen.unique v0 h BL]
    exact ⟨rfl, rfl⟩
  rcases (show V = 0 ∨ 0 < V by omega) with hv | hv
  · have hL0 : L = 0 := BL.2.1 hv
    subst hL0
    have R := hid (Ie.rnd_zero 1 e more (by omega))
    subst hv
    have H1 := hid BG
    have H2 := hid B1
    have PP := hid (zput_any neg 0 0 w (by omega) (by omega) (by omega) (by omega) (by omega))
    clear ha tz hV hL BL hl hL2 v0 BG B1
    go_enter Tryz.func30, Tryz.ntmps30
    go_wp2_with fail
    refine H1.out.mono ?_
    rintro e' w' ⟨rfl, rfl⟩
    go_wp2_with fail
    refine H2.out.mono ?_
    rintro e' w' ⟨rfl, rfl⟩
    go_wp2_with fail
    refine PP.out.mono ?_
    rintro e' w' ⟨rfl, rfl⟩
    go_wp2_with fail
    go_ret2
    exact ⟨0, ret_sg (by simp), R.out, rfl⟩
  · obtain ⟨hL1, hp⟩ := BL.2.2 hv
    have l0 : ((L : Int) == 0) = false := by rw [beq_eq_false_iff_ne]; omega
    have l2 : (L : Int) ≤ 262144 := by omega
    by_cases c1 : e < -1048576
    · have R := hid (Ie.rnd_small V 1 e L 0 more BL.1 (by decide) (by omega))
      have H1 := hid BG
      have H2 := hid B1
      have PP := hid (zput_any neg 0 0 w (by omega) (by omega) (by omega) (by omega) (by omega))
      clear ha tz hV hL BL hl hL2 v0 hv hp hL1 BG B1
      go_enter Tryz.func30, Tryz.ntmps30
      go_wp2_with fail
      refine H1.out.mono ?_
      rintro e' w' ⟨rfl, rfl⟩
      go_wp2_with fail
      refine H2.out.mono ?_
      rintro e' w' ⟨rfl, rfl⟩
      go_wp2_with fail
      refine PP.out.mono ?_
      rintro e' w' ⟨rfl, rfl⟩
      go_wp2_with fail
      go_ret2
      exact ⟨0, ret_sg (by simp), R.out, rfl⟩
    · by_cases c2 : 1048576 < e
      · have R := hid (Ie.rnd_inf V 1 e (L - 1) 0 more hp (by decide) (by omega))
        have H1 := hid BG
        have H2 := hid B1
        have PP := hid (zput_any neg 2047 0 w (by omega) (by omega) (by omega) (by omega) (by omega))
        clear ha tz hV hL BL hl hL2 v0 hv hp hL1 BG B1
        go_enter Tryz.func30, Tryz.ntmps30
        go_wp2_with fail
        refine H1.out.mono ?_
        rintro e' w' ⟨rfl, rfl⟩
        go_wp2_with fail
        refine H2.out.mono ?_
        rintro e' w' ⟨rfl, rfl⟩
        go_wp2_with fail
        refine PP.out.mono ?_
        rintro e' w' ⟨rfl, rfl⟩
        go_wp2_with fail
        go_ret2
        exact ⟨_, ret_sg (by simp), R.out, rfl⟩
      · by_cases c3 : 1023 < (L : Int) - 1 + e
        · have R := hid (Ie.rnd_inf V 1 e (L - 1) 0 more hp (by decide) (by omega))
          have H1 := hid BG
          have H2 := hid B1
          have PP := hid (zput_any neg 2047 0 w (by omega) (by omega) (by omega) (by omega) (by omega))
          clear ha tz hV hL BL hl hL2 v0 hv hp hL1 BG B1
          go_enter Tryz.func30, Tryz.ntmps30
          go_wp2_with fail
          refine H1.out.mono ?_
          rintro e' w' ⟨rfl, rfl⟩
          go_wp2_with fail
          refine H2.out.mono ?_
          rintro e' w' ⟨rfl, rfl⟩
          go_wp2_with fail
          refine PP.out.mono ?_
          rintro e' w' ⟨rfl, rfl⟩
          go_wp2_with fail
          go_ret2
          exact ⟨_, ret_sg (by simp), R.out, rfl⟩
        · obtain ⟨u, hu⟩ : ∃ u : Int, ((L : Int) + e - 53 < -1074 ∧ u = -1074) ∨ (-1074 ≤ (L : Int) + e - 53 ∧ u = (L : Int) + e - 53) := by
            rcases (show (L : Int) + e - 53 < -1074 ∨ -1074 ≤ (L : Int) + e - 53 by omega) with h | h
            · exact ⟨_, .inl ⟨h, rfl⟩⟩
            · exact ⟨_, .inr ⟨h, rfl⟩⟩
          obtain ⟨U, hU⟩ : ∃ U : Nat, u + 1074 = (U : Int) := ⟨(u + 1074).toNat, by omega⟩
          obtain ⟨T, hT⟩ := ztrl_ex V.toNat V hv (Nat.le_refl _)
          have hTb : T ≤ 262144 := by
            rcases hT with ⟨h, _⟩ | ⟨m, hm⟩
            · omega
            · rcases Nat.lt_or_ge T (L + 1) with g | g
              · omega
              · exfalso
                have g1 := Nm.two_mono (show L ≤ T by omega)
                have hm1 : 1 ≤ 2 * m + 1 := by
                  rcases (show 1 ≤ 2 * m + 1 ∨ 2 * m + 1 ≤ 0 by omega) with q | q
                  · exact q
                  · have := Int.mul_le_mul_of_nonneg_left q (Int.le_of_lt (Nm.two_pos T)); rw [Int.mul_zero] at this; omega
                have g2 : (2 : Int) ^ T * 1 ≤ 2 ^ T * (2 * m + 1) := Int.mul_le_mul_of_nonneg_left hm1 (Int.le_of_lt (Nm.two_pos T))
                have := BL.1
                omega
          have TR : Calls Tryz.prog 57 #[.slice p n cap] w fun r w' => r = .returned (.int .i64 (T : Int)) ∧ w' = w := by
            refine (refTrail_any p n cap zs w ha).mono ?_
            rintro r w' ⟨⟨t, rfl, h⟩, rfl⟩
            rw [hV] at h
            rw [Nm.Trl.unique h hT]
            exact ⟨rfl, rfl⟩
          obtain ⟨J, hJ⟩ : ∃ J : Nat, u + (J : Int) = (L : Int) + e ∨ (J = 0 ∧ (L : Int) + e ≤ u) := ⟨((L : Int) + e - u).toNat, by omega⟩
          have key := zround_core neg p n cap w e u L U J T more (decide ((T : Int) + e < u - 1)) (fun j => Ie.dgs V (u + (j : Int) - e)) (fun j => Ie.dgt V (u + (j : Int) - e)) (Ie.dgt V (u - 1 - e)) BG B1
            (fun j hj ii hii => by subst hii; exact refBit_dgt p n cap zs V _ w ha hV (by omega)) (fun ii hii => by subst hii; exact refBit_dgt p n cap zs V _ w ha hV (by omega)) TR
            (by omega) hL2 (by omega) (by omega) (by omega) (by omega) hU (by omega) hu hJ (fun j _ => Ie.dgs_bd V _ L v0 BL.1 (by omega))
            (Ie.dgs_top V _ L v0 BL.1 (by omega)) (fun j _ => by
              have := Ie.dgs_step V (u + (j : Int) - e)
              rw [show u + (j : Int) - e + 1 = u + ((j + 1 : Nat) : Int) - e by omega] at this
              exact this)
            (by have := (Ie.dgs_step V (u - 1 - e)).2; omega) rfl ?_
          · refine key.mono ?_
            rintro r w' ⟨⟨up, rfl, hup⟩, rfl⟩
            refine ⟨_, rfl, ?_, rfl⟩
            simp only [Int.natCast_zero, Int.add_zero] at hup ⊢
            by_cases hk : u ≤ e
            · obtain ⟨j, hj⟩ : ∃ j : Nat, e - u = (j : Int) := ⟨(e - u).toNat, by omega⟩
              have hd : Ie.dgt V (u - 1 - e) = 0 := by rw [Ie.dgt, if_neg (by omega)]
              have hup' : up = false := by
                cases up
                · rfl
                · have := (hup.1 rfl).1; omega
              have hg : Ie.dgs V (u - e) = V * 2 ^ j := by
                rw [Ie.dgs]
                rcases Nat.eq_zero_or_pos j with h | h
                · rw [if_pos (by omega), h, show (u - e).toNat = 0 by omega, Int.pow_zero, Int.ediv_one, Int.mul_one]
                · rw [if_neg (by omega), show (-(u - e)).toNat = j by omega]
              rw [hup', hg]
              have := Ie.rnd_exact V e L j U more hv hp hL1 BL.1 (by omega) (by omega) (by omega) (by omega)
              simpa using this
            · obtain ⟨k, hk⟩ : ∃ k : Nat, u - e = (k : Int) + 1 := ⟨(u - e - 1).toNat, by omega⟩
              have hg : Ie.dgs V (u - e) = V / 2 ^ (k + 1) := by rw [Ie.dgs, if_pos (by omega), show (u - e).toNat = k + 1 by omega]
              have hd : Ie.dgt V (u - 1 - e) = V / 2 ^ k % 2 := by rw [Ie.dgt, if_pos (by omega), show (u - 1 - e).toNat = k by omega]
              have hl := Sh.lost_iff (n := k) hT hv
              rw [hg] at hup ⊢
              refine Ie.rnd_cut V e L (k + 1) U more up hv hp hL1 BL.1 (by omega) (by omega) (by omega) (by omega) ?_
              rw [hup, Nat.add_sub_cancel, hd]
              have hr : decide ((T : Int) + e < u - 1) = true ↔ V % 2 ^ k ≠ 0 := by
                rw [decide_eq_true_iff]
                have h2 : (T : Int) < (k : Int) ↔ V % 2 ^ k ≠ 0 := by simpa only [decide_eq_decide] using hl
                rw [← h2]
                omega
              constructor
              · rintro ⟨g1, g | g | g⟩
                · exact ⟨by omega, g1, .inr (.inr (hr.1 g))⟩
                · exact ⟨by omega, g1, .inl g⟩
                · exact ⟨by omega, g1, .inr (.inl g)⟩
              · rintro ⟨_, g1, g | g | g⟩
                · exact ⟨g1, .inr (.inl g)⟩
                · exact ⟨g1, .inr (.inr g)⟩
                · exact ⟨g1, .inl (hr.2 g)⟩
          · intro hU0
            have hue : u = (L : Int) + e - 53 := by omega
            rw [Ie.dgs]
            have e52 : (2 : Int) ^ 52 = 4503599627370496 := by decide
            by_cases hz : 0 ≤ u + ((0 : Nat) : Int) - e
            · rw [if_pos hz, Int.le_ediv_iff_mul_le (Nm.two_pos _)]
              rw [show L - 1 = 52 + (u + ((0 : Nat) : Int) - e).toNat by omega, Nm.two_add, e52] at hp
              exact hp
            · rw [if_neg hz]
              have g1 : (2 : Int) ^ (L - 1 + (-(u + ((0 : Nat) : Int) - e)).toNat) ≤ V * 2 ^ (-(u + ((0 : Nat) : Int) - e)).toNat := by rw [Nm.two_add]; exact Int.mul_le_mul_of_nonneg_right hp (Int.le_of_lt (Nm.two_pos _))
              rw [show L - 1 + (-(u + ((0 : Nat) : Int) - e)).toNat = 52 by omega, e52] at g1
              exact g1

set_option maxRecDepth 100000 in
theorem zround_big (neg : Bool) (p : Option Addr) (n cap : Nat) (zs : List Int) (w : World) (ha : Arg w p n cap zs) (tz : 4096 < Nm.tsize zs) (e : Int) (more : Bool) :
    Calls Tryz.prog 30 #[.bool neg, .slice p n cap, .int .i64 e, .bool more] w fun r w' => r = .returned (.tuple #[.int .u64 0, .int .i64 2]) ∧ w' = w := by
  have H1 := hid (refBig_is true p n cap zs w ha (by simp; omega))
  clear ha tz
  go_enter Tryz.func30, Tryz.ntmps30
  go_wp2_with fail
  refine H1.out.mono ?_
  rintro e' w' ⟨rfl, rfl⟩
  go_wp2_with fail
  go_ret2
  exact ⟨rfl, rfl⟩
end Go.Proofs.YtggiioipppbedaaGreatDoor

namespace Go.Proofs.YtggiioipppbedaaGreatDoor
open Go Go.RowKit Go.Deep

set_option maxRecDepth 100000 in
set_option maxHeartbeats 2000000 in
theorem zfromU_any (u : Int) (w : World) (h0 : 0 ≤ u) (h1 : u < 18446744073709551616) :
    Calls Tryz.prog 27 #[.int .u64 u] w fun e w' => ∃ x, e = .returned (.int .u64 x) ∧ Ie.Rnd u 1 0 false x ∧ Below w.heap.size w w' := by
  have R : Hid (∀ g : Obj, g = .cells #[.int .u64 u] 25 → Calls Tryz.prog 30 #[.bool false, .slice (some ⟨w.heap.size, 0, none⟩) 1 1, .int .i64 0, .bool false] (w.alloc g) fun r w' => ∃ x, r = .returned (.tuple #[.int .u64 x, .int .i64 0]) ∧ Ie.Rnd u 1 0 false x ∧ Below w.heap.size w w') := by
    intro g hg
    subst hg
    have hB := alloc_below w (.cells #[.int .u64 u] 25)
    have hv : Nm.val [u] = u := by simp [Nm.val]
    refine (zround_any false _ 1 1 [u] _ (arg_z (heap_alloc_new w _) h0 h1) (by have := Nm.tsize_le [u]; simp at this; omega) u 0 false hv).mono ?_
    rintro r w' ⟨x, h2, h3, rfl⟩
    exact ⟨x, h2, h3, hB⟩
  go_enter Tryz.func27, Tryz.ntmps27
  go_wp2_with fail
  refine (R.out _ rfl).mono ?_
  rintro e w1 ⟨x, rfl, rx, hB⟩
  have K := hid (And.intro rx hB)
  clear rx hB R
  go_wp2_with fail
  go_ret
  exact ⟨x, rfl, K.out⟩

end Go.Proofs.YtggiioipppbedaaGreatDoor

/-
  The document's against: how a double, or the middle above it, lies against a fraction.
-/
namespace Go.Proofs.YtggiioipppbedaaGreatDoor
open Go Go.RowKit Go.Deep

/-- The double's mantissa, doubled, and one more for the middle. -/
def Ie.mm (x : Int) (middle : Bool) : Int := if middle = true then 2 * Ie.man x + 1 else 2 * Ie.man x

set_option maxRecDepth 100000 in
set_option maxHeartbeats 8000000 in
theorem against_any (x : Int) (middle : Bool) (p q : Option Addr) (n cap n' cap' : Nat) (zs ys : List Int) (w : World) (ha : Arg w p n cap zs) (hb : Arg w q n' cap' ys) (tz : Nm.tsize zs ≤ 4096) (ty : Nm.tsize ys ≤ 4096) (x0 : 0 ≤ x) (x1 : x ≤ 9218868437227405312)
    (e : Int) (e0 : -1048576 ≤ e) (e1 : e ≤ 1048576) (V D : Int) (hV : Nm.val zs = V) (hD : Nm.val ys = D) (s t : Nat) (hst : (s : Int) - t = (Ie.ex x : Int) - 1075 - e) (h0 : s = 0 ∨ t = 0) :
    Calls Tryz.prog 65 #[.int .u64 x, .bool middle, .slice p n cap, .slice q n' cap', .int .i64 e] w fun r w' => r = .returned (.int .i64 (cmpI (D * Ie.mm x middle * 2 ^ s) (V * 2 ^ t))) ∧ Below w.heap.size w w' := by
  obtain ⟨m, hm⟩ : ∃ m, Ie.mm x middle = m := ⟨_, rfl⟩
  obtain ⟨k, hk⟩ : ∃ k, (Ie.ex x : Int) - 1075 = k := ⟨_, rfl⟩
  have mb := Ie.man_nn x x0
  have m0 : 0 ≤ m ∧ m < 18446744073709551616 := by rw [← hm, Ie.mm]; split <;> omega
  have kb : -1075 ≤ k ∧ k ≤ 972 := by rw [← hk]; have : (Ie.ex x : Int) ≤ 2046 := by simp only [Ie.ex]; omega
                                      omega
  have d0 : 0 ≤ D := by rw [← hD]; exact (Nm.val_bd ys hb.2.2.2.2).1
  have d1 : D < Nm.pw 4096 := by rw [← hD]; exact (Nm.tsize_le_iff hb.2.2.2.2 4096).1 ty
  have v1 : V < Nm.pw 4096 := by rw [← hV]; exact (Nm.tsize_le_iff ha.2.2.2.2 4096).1 tz
  have dm : D * m < Nm.pw 4097 := by
    have g1 : D * m ≤ D * 18446744073709551616 := Int.mul_le_mul_of_nonneg_left (by omega) d0
    have e2 : Nm.pw 4097 = 18446744073709551616 * Nm.pw 4096 := Nm.pw_succ 4096
    omega
  -- the product
  have MU : Hid (∀ g : Obj, g = .cells #[.int .u64 m] 25 → Calls Tryz.prog 83 #[.slice q n' cap', .slice (some ⟨w.heap.size, 0, none⟩) 1 1] (w.alloc g) fun e w' => ∃ r os, e = .returned (.slice r (List.length os) (List.length os)) ∧ (Arg w' r os.length os.length os ∧ Nm.val os = D * m ∧ Nm.tsize os ≤ 1099511627776) ∧ Below w.heap.size w w') := by
    intro g hg
    subst hg
    have hB := alloc_below w (.cells #[.int .u64 m] 25)
    have hmv : Nm.val [m] = m := by simp [Nm.val]
    have := times_any q (some ⟨w.heap.size, 0, none⟩) n' cap' 1 1 ys [m] _ (hb.below hB (Nat.le_refl _)) (arg_z (heap_alloc_new w _) m0.1 m0.2) (by omega) (by have := Nm.tsize_le [m]; simp at this; omega)
    rw [hD, hmv] at this
    refine this.mono ?_
    rintro e w' ⟨r, os, rfl, A, hB2⟩
    have l := ans_small A 4097 dm
    exact ⟨r, os, rfl, ⟨A.arg (by omega), A.2.2.2.1, by rw [A.2.2.1]; omega⟩, hB.trans (hB2.mono hB.size)⟩
  have LI : Hid (∀ (wx : World) (r : Option Addr) (n1 c1 : Nat) (os : List Int) (v kk : Int) (j : Nat), Arg wx r n1 c1 os → Nm.val os = v → Nm.tsize os ≤ 1099511627776 → kk = (j : Int) → j ≤ 4194304 → v < Nm.pw 4097 → Calls Tryz.prog 59 #[.slice r n1 c1, .int .i64 kk] wx fun e w' => ∃ r os, e = .returned (.slice r (List.length os) (List.length os)) ∧ (Arg w' r os.length os.length os ∧ Nm.val os = v * 2 ^ j) ∧ Below wx.heap.size wx w') := by
    intro wx r n1 c1 os v kk j A hv hs hkk hj hvb
    have := lift_any r n1 c1 os kk j wx A hs hkk hj
    rw [hv] at this
    refine this.mono ?_
    rintro e w' ⟨r', os', rfl, A', hB2⟩
    have hb2 : v * 2 ^ j < Nm.pw 100000 := by
      have g1 : v * 2 ^ j < Nm.pw 4097 * 2 ^ j := Int.mul_lt_mul_of_pos_right hvb (Nm.two_pos j)
      have g2 : Nm.pw 4097 * 2 ^ j ≤ Nm.pw 100000 := by rw [Nm.pw_two, Nm.pw_two, ← Nm.two_add]; exact Nm.two_mono (by omega)
      exact Int.lt_of_lt_of_le g1 g2
    have l := ans_small A' 100000 hb2
    exact ⟨r', os', rfl, ⟨A'.arg (by omega), A'.2.2.2.1⟩, hB2⟩
  have CM := hid (fun (wx : World) (r r' : Option Addr) (n1 c1 n2 c2 : Nat) (os os' : List Int) (A : Arg wx r n1 c1 os) (A' : Arg wx r' n2 c2 os') => refCmp_any r r' n1 c1 n2 c2 os os' wx A A')
  have HA := hid ha
  have HV := hid hV
  have TZ := hid tz
  have V1 : Hid (V < Nm.pw 4097) := by
    have e2 : Nm.pw 4097 = 18446744073709551616 * Nm.pw 4096 := Nm.pw_succ 4096
    have := Nm.pw_pos 4096
    rw [Hid]; omega
  have DM := hid dm
  rw [hk] at hst
  have HST := hid hst
  have HM : Hid (Ie.mm x middle = m) := hm
  have MX : (x < 4503599627370496 ∧ Ie.man x = x ∧ k = -1075) ∨ (4503599627370496 ≤ x ∧ Ie.man x = x % 4503599627370496 + 4503599627370496 ∧ k = x / 4503599627370496 - 1076) := by
    by_cases h : x < 4503599627370496
    · left; refine ⟨h, by rw [Ie.man, if_pos h], ?_⟩; rw [← hk, Ie.ex]; omega
    · right; refine ⟨by omega, by rw [Ie.man, if_neg h]; omega, ?_⟩; rw [← hk, Ie.ex]; omega
  obtain ⟨kb0, kb1⟩ := kb
  have MM : Hid (m = if middle = true then 2 * Ie.man x + 1 else 2 * Ie.man x) := by rw [Hid, ← hm, Ie.mm]
  rw [hm]
  clear ha hb tz ty hV hD d0 d1 v1 dm hst hm hk mb m0
  rcases MX with ⟨hx, hmx, hkx⟩ | ⟨hx, hmx, hkx⟩ <;> cases middle <;> rcases (show e ≤ k ∨ k < e by omega) with hke | hke
  · have hM : m = 2 * x := by rw [MM.out, hmx]; rfl
    have HMM := hid hM
    have HKX := hid hkx
    clear hmx hM MM
    have hz : t = 0 := by have := HST.out; omega
    subst hz
    rw [Int.pow_zero, Int.mul_one]
    have c1 : ¬ (-1075) < e := by have := HKX.out; omega
    clear hkx hke
    go_enter Tryz.func65, Tryz.ntmps65
    go_wp2_with fail
    have EM := HMM.out
    refine (MU.out _ (by rw [EM])).mono ?_
    rintro e' w1 ⟨r, os, rfl, A, hB1⟩
    have AA := hid A
    have HB1 := hid hB1
    clear A hB1 MU EM
    go_wp2_with fail
    refine (LI.out _ r _ _ os _ _ s AA.out.1 AA.out.2.1 AA.out.2.2 (by have := HST.out; have := HKX.out; omega) (by have := HST.out; omega) DM.out).mono ?_
    rintro e' w2 ⟨r2, o2, rfl, A2, hB2⟩
    have HB2 := hid (HB1.out.trans (hB2.mono HB1.out.size))
    have C1 := CM.out w2 r2 p _ _ n cap o2 zs A2.1 (HA.out.below HB2.out (Nat.le_refl _))
    rw [A2.2, HV.out] at C1
    have CC := hid C1
    clear A2 hB2 C1 LI
    go_wp2_with fail
    refine CC.out.mono ?_
    rintro e' w3 ⟨rfl, hB3⟩
    have HB3 := hid (HB2.out.trans (hB3.mono HB2.out.size))
    clear hB3
    go_wp2_with fail
    go_ret
    exact ⟨rfl, HB3.out⟩
  · have hM : m = 2 * x := by rw [MM.out, hmx]; rfl
    have HMM := hid hM
    have HKX := hid hkx
    clear hmx hM MM
    have hz : s = 0 := by have := HST.out; omega
    subst hz
    rw [Int.pow_zero, Int.mul_one]
    have c1 : (-1075) < e := by have := HKX.out; omega
    clear hkx hke
    go_enter Tryz.func65, Tryz.ntmps65
    go_wp2_with fail
    have EM := HMM.out
    refine (MU.out _ (by rw [EM])).mono ?_
    rintro e' w1 ⟨r, os, rfl, A, hB1⟩
    have AA := hid A
    have HB1 := hid hB1
    clear A hB1 MU EM
    go_wp2_with fail
    refine (LI.out _ p n cap zs V _ t (HA.out.below HB1.out (Nat.le_refl _)) HV.out (by have := TZ.out; omega) (by have := HST.out; have := HKX.out; omega) (by have := HST.out; omega) V1.out).mono ?_
    rintro e' w2 ⟨r2, o2, rfl, A2, hB2⟩
    have HB2 := hid (HB1.out.trans (hB2.mono HB1.out.size))
    have C1 := CM.out w2 r r2 _ _ _ _ os o2 (AA.out.1.below hB2 (Nat.le_refl _)) A2.1
    rw [A2.2, AA.out.2.1] at C1
    have CC := hid C1
    clear A2 hB2 C1 LI
    go_wp2_with fail
    refine CC.out.mono ?_
    rintro e' w3 ⟨rfl, hB3⟩
    have HB3 := hid (HB2.out.trans (hB3.mono HB2.out.size))
    clear hB3
    go_wp2_with fail
    go_ret
    exact ⟨rfl, HB3.out⟩
  · have hM : m = 2 * x + 1 := by rw [MM.out, hmx]; rfl
    have HMM := hid hM
    have HKX := hid hkx
    clear hmx hM MM
    have hz : t = 0 := by have := HST.out; omega
    subst hz
    rw [Int.pow_zero, Int.mul_one]
    have c1 : ¬ (-1075) < e := by have := HKX.out; omega
    clear hkx hke
    go_enter Tryz.func65, Tryz.ntmps65
    go_wp2_with fail
    have EM := HMM.out
    refine (MU.out _ (by rw [EM])).mono ?_
    rintro e' w1 ⟨r, os, rfl, A, hB1⟩
    have AA := hid A
    have HB1 := hid hB1
    clear A hB1 MU EM
    go_wp2_with fail
    refine (LI.out _ r _ _ os _ _ s AA.out.1 AA.out.2.1 AA.out.2.2 (by have := HST.out; have := HKX.out; omega) (by have := HST.out; omega) DM.out).mono ?_
    rintro e' w2 ⟨r2, o2, rfl, A2, hB2⟩
    have HB2 := hid (HB1.out.trans (hB2.mono HB1.out.size))
    have C1 := CM.out w2 r2 p _ _ n cap o2 zs A2.1 (HA.out.below HB2.out (Nat.le_refl _))
    rw [A2.2, HV.out] at C1
    have CC := hid C1
    clear A2 hB2 C1 LI
    go_wp2_with fail
    refine CC.out.mono ?_
    rintro e' w3 ⟨rfl, hB3⟩
    have HB3 := hid (HB2.out.trans (hB3.mono HB2.out.size))
    clear hB3
    go_wp2_with fail
    go_ret
    exact ⟨rfl, HB3.out⟩
  · have hM : m = 2 * x + 1 := by rw [MM.out, hmx]; rfl
    have HMM := hid hM
    have HKX := hid hkx
    clear hmx hM MM
    have hz : s = 0 := by have := HST.out; omega
    subst hz
    rw [Int.pow_zero, Int.mul_one]
    have c1 : (-1075) < e := by have := HKX.out; omega
    clear hkx hke
    go_enter Tryz.func65, Tryz.ntmps65
    go_wp2_with fail
    have EM := HMM.out
    refine (MU.out _ (by rw [EM])).mono ?_
    rintro e' w1 ⟨r, os, rfl, A, hB1⟩
    have AA := hid A
    have HB1 := hid hB1
    clear A hB1 MU EM
    go_wp2_with fail
    refine (LI.out _ p n cap zs V _ t (HA.out.below HB1.out (Nat.le_refl _)) HV.out (by have := TZ.out; omega) (by have := HST.out; have := HKX.out; omega) (by have := HST.out; omega) V1.out).mono ?_
    rintro e' w2 ⟨r2, o2, rfl, A2, hB2⟩
    have HB2 := hid (HB1.out.trans (hB2.mono HB1.out.size))
    have C1 := CM.out w2 r r2 _ _ _ _ os o2 (AA.out.1.below hB2 (Nat.le_refl _)) A2.1
    rw [A2.2, AA.out.2.1] at C1
    have CC := hid C1
    clear A2 hB2 C1 LI
    go_wp2_with fail
    refine CC.out.mono ?_
    rintro e' w3 ⟨rfl, hB3⟩
    have HB3 := hid (HB2.out.trans (hB3.mono HB2.out.size))
    clear hB3
    go_wp2_with fail
    go_ret
    exact ⟨rfl, HB3.out⟩
  · have hM : m = 2 * (x % 4503599627370496 + 4503599627370496) := by rw [MM.out, hmx]; rfl
    have y1 : x % 4503599627370496 < 4503599627370496 := by omega
    have y0 : 0 ≤ x % 4503599627370496 := by omega
    have f0 : 0 ≤ x / 4503599627370496 := by omega
    have f1 : x / 4503599627370496 ≤ 2047 := by omega
    have HMM := hid hM
    have HKX := hid hkx
    clear hmx hM MM
    have hz : t = 0 := by have := HST.out; omega
    subst hz
    rw [Int.pow_zero, Int.mul_one]
    have c1 : ¬ (x / 4503599627370496 - 1076) < e := by have := HKX.out; omega
    clear hkx hke
    go_enter Tryz.func65, Tryz.ntmps65
    go_wp2_with fail
    have EM := HMM.out
    refine (MU.out _ (by rw [EM])).mono ?_
    rintro e' w1 ⟨r, os, rfl, A, hB1⟩
    have AA := hid A
    have HB1 := hid hB1
    clear A hB1 MU EM
    go_wp2_with fail
    refine (LI.out _ r _ _ os _ _ s AA.out.1 AA.out.2.1 AA.out.2.2 (by have := HST.out; have := HKX.out; omega) (by have := HST.out; omega) DM.out).mono ?_
    rintro e' w2 ⟨r2, o2, rfl, A2, hB2⟩
    have HB2 := hid (HB1.out.trans (hB2.mono HB1.out.size))
    have C1 := CM.out w2 r2 p _ _ n cap o2 zs A2.1 (HA.out.below HB2.out (Nat.le_refl _))
    rw [A2.2, HV.out] at C1
    have CC := hid C1
    clear A2 hB2 C1 LI
    go_wp2_with fail
    refine CC.out.mono ?_
    rintro e' w3 ⟨rfl, hB3⟩
    have HB3 := hid (HB2.out.trans (hB3.mono HB2.out.size))
    clear hB3
    go_wp2_with fail
    go_ret
    exact ⟨rfl, HB3.out⟩
  · have hM : m = 2 * (x % 4503599627370496 + 4503599627370496) := by rw [MM.out, hmx]; rfl
    have y1 : x % 4503599627370496 < 4503599627370496 := by omega
    have y0 : 0 ≤ x % 4503599627370496 := by omega
    have f0 : 0 ≤ x / 4503599627370496 := by omega
    have f1 : x / 4503599627370496 ≤ 2047 := by omega
    have HMM := hid hM
    have HKX := hid hkx
    clear hmx hM MM
    have hz : s = 0 := by have := HST.out; omega
    subst hz
    rw [Int.pow_zero, Int.mul_one]
    have c1 : (x / 4503599627370496 - 1076) < e := by have := HKX.out; omega
    clear hkx hke
    go_enter Tryz.func65, Tryz.ntmps65
    go_wp2_with fail
    have EM := HMM.out
    refine (MU.out _ (by rw [EM])).mono ?_
    rintro e' w1 ⟨r, os, rfl, A, hB1⟩
    have AA := hid A
    have HB1 := hid hB1
    clear A hB1 MU EM
    go_wp2_with fail
    refine (LI.out _ p n cap zs V _ t (HA.out.below HB1.out (Nat.le_refl _)) HV.out (by have := TZ.out; omega) (by have := HST.out; have := HKX.out; omega) (by have := HST.out; omega) V1.out).mono ?_
    rintro e' w2 ⟨r2, o2, rfl, A2, hB2⟩
    have HB2 := hid (HB1.out.trans (hB2.mono HB1.out.size))
    have C1 := CM.out w2 r r2 _ _ _ _ os o2 (AA.out.1.below hB2 (Nat.le_refl _)) A2.1
    rw [A2.2, AA.out.2.1] at C1
    have CC := hid C1
    clear A2 hB2 C1 LI
    go_wp2_with fail
    refine CC.out.mono ?_
    rintro e' w3 ⟨rfl, hB3⟩
    have HB3 := hid (HB2.out.trans (hB3.mono HB2.out.size))
    clear hB3
    go_wp2_with fail
    go_ret
    exact ⟨rfl, HB3.out⟩
  · have hM : m = 2 * (x % 4503599627370496 + 4503599627370496) + 1 := by rw [MM.out, hmx]; rfl
    have y1 : x % 4503599627370496 < 4503599627370496 := by omega
    have y0 : 0 ≤ x % 4503599627370496 := by omega
    have f0 : 0 ≤ x / 4503599627370496 := by omega
    have f1 : x / 4503599627370496 ≤ 2047 := by omega
    have HMM := hid hM
    have HKX := hid hkx
    clear hmx hM MM
    have hz : t = 0 := by have := HST.out; omega
    subst hz
    rw [Int.pow_zero, Int.mul_one]
    have c1 : ¬ (x / 4503599627370496 - 1076) < e := by have := HKX.out; omega
    clear hkx hke
    go_enter Tryz.func65, Tryz.ntmps65
    go_wp2_with fail
    have EM := HMM.out
    refine (MU.out _ (by rw [EM])).mono ?_
    rintro e' w1 ⟨r, os, rfl, A, hB1⟩
    have AA := hid A
    have HB1 := hid hB1
    clear A hB1 MU EM
    go_wp2_with fail
    refine (LI.out _ r _ _ os _ _ s AA.out.1 AA.out.2.1 AA.out.2.2 (by have := HST.out; have := HKX.out; omega) (by have := HST.out; omega) DM.out).mono ?_
    rintro e' w2 ⟨r2, o2, rfl, A2, hB2⟩
    have HB2 := hid (HB1.out.trans (hB2.mono HB1.out.size))
    have C1 := CM.out w2 r2 p _ _ n cap o2 zs A2.1 (HA.out.below HB2.out (Nat.le_refl _))
    rw [A2.2, HV.out] at C1
    have CC := hid C1
    clear A2 hB2 C1 LI
    go_wp2_with fail
    refine CC.out.mono ?_
    rintro e' w3 ⟨rfl, hB3⟩
    have HB3 := hid (HB2.out.trans (hB3.mono HB2.out.size))
    clear hB3
    go_wp2_with fail
    go_ret
    exact ⟨rfl, HB3.out⟩
  · have hM : m = 2 * (x % 4503599627370496 + 4503599627370496) + 1 := by rw [MM.out, hmx]; rfl
    have y1 : x % 4503599627370496 < 4503599627370496 := by omega
    have y0 : 0 ≤ x % 4503599627370496 := by omega
    have f0 : 0 ≤ x / 4503599627370496 := by omega
    have f1 : x / 4503599627370496 ≤ 2047 := by omega
    have HMM := hid hM
    have HKX := hid hkx
    clear hmx hM MM
    have hz : s = 0 := by have := HST.out; omega
    subst hz
    rw [Int.pow_zero, Int.mul_one]
    have c1 : (x / 4503599627370496 - 1076) < e := by have := HKX.out; omega
    clear hkx hke
    go_enter Tryz.func65, Tryz.ntmps65
    go_wp2_with fail
    have EM := HMM.out
    refine (MU.out _ (by rw [EM])).mono ?_
    rintro e' w1 ⟨r, os, rfl, A, hB1⟩
    have AA := hid A
    have HB1 := hid hB1
    clear A hB1 MU EM
    go_wp2_with fail
    refine (LI.out _ p n cap zs V _ t (HA.out.below HB1.out (Nat.le_refl _)) HV.out (by have := TZ.out; omega) (by have := HST.out; have := HKX.out; omega) (by have := HST.out; omega) V1.out).mono ?_
    rintro e' w2 ⟨r2, o2, rfl, A2, hB2⟩
    have HB2 := hid (HB1.out.trans (hB2.mono HB1.out.size))
    have C1 := CM.out w2 r r2 _ _ _ _ os o2 (AA.out.1.below hB2 (Nat.le_refl _)) A2.1
    rw [A2.2, AA.out.2.1] at C1
    have CC := hid C1
    clear A2 hB2 C1 LI
    go_wp2_with fail
    refine CC.out.mono ?_
    rintro e' w3 ⟨rfl, hB3⟩
    have HB3 := hid (HB2.out.trans (hB3.mono HB2.out.size))
    clear hB3
    go_wp2_with fail
    go_ret
    exact ⟨rfl, HB3.out⟩
end Go.Proofs.YtggiioipppbedaaGreatDoor

/-
  The document's RoundRatio (made by mkzratio.py).
-/
namespace Go.Proofs.YtggiioipppbedaaGreatDoor
open Go Go.RowKit Go.Deep

namespace Ie
/-- One comparison, said at another scale. -/
theorem scale_cmp (D M V Y e : Int) (E s t a b : Nat) (hY : Y = M * 2 ^ E) (hst : (s : Int) - t = (E : Int) - 1075 - e) (hab : (a : Int) - b = e + 1075) :
    (D * M * 2 ^ s < V * 2 ^ t ↔ Y * (D * 2 ^ b) < V * 2 ^ a) ∧ (D * M * 2 ^ s = V * 2 ^ t ↔ Y * (D * 2 ^ b) = V * 2 ^ a) := by
  have p1 := Nm.two_pos (E + b)
  have p2 := Nm.two_pos s
  have e1 : D * M * 2 ^ s * 2 ^ (E + b) = Y * (D * 2 ^ b) * 2 ^ s := by rw [hY, Nm.two_add]; ac_rfl
  have e2 : V * 2 ^ t * 2 ^ (E + b) = V * 2 ^ a * 2 ^ s := by
    rw [Int.mul_assoc, Int.mul_assoc, ← Nm.two_add, ← Nm.two_add]; congr 2; omega
  refine ⟨⟨fun h => ?_, fun h => ?_⟩, ⟨fun h => ?_, fun h => ?_⟩⟩
  · have := Int.mul_lt_mul_of_pos_right h p1
    rw [e1, e2] at this
    exact Int.lt_of_mul_lt_mul_right this (Int.le_of_lt p2)
  · have := Int.mul_lt_mul_of_pos_right h p2
    rw [← e1, ← e2] at this
    exact Int.lt_of_mul_lt_mul_right this (Int.le_of_lt p1)
  · have : Y * (D * 2 ^ b) * 2 ^ s = V * 2 ^ a * 2 ^ s := by rw [← e1, ← e2, h]
    exact Int.eq_of_mul_eq_mul_right (by omega) this
  · have : D * M * 2 ^ s * 2 ^ (E + b) = V * 2 ^ t * 2 ^ (E + b) := by rw [e1, e2, h]
    exact Int.eq_of_mul_eq_mul_right (by omega) this

/-- The search's end. -/
theorem near_search (P Q lo x : Int) (hQ : 0 < Q) (h0 : 0 ≤ lo) (h1 : lo ≤ 9218868437227405312) (hlo : vl lo * Q ≤ P) (hhi : lo < 9218868437227405312 → P < vl (lo + 1) * Q)
    (hx : (lo = 9218868437227405312 ∧ x = lo) ∨ (lo < 9218868437227405312 ∧ x = lo + 1 ∧ (md lo * Q < P ∨ (md lo * Q = P ∧ lo % 2 = 1))) ∨ (lo < 9218868437227405312 ∧ x = lo ∧ (P < md lo * Q ∨ (md lo * Q = P ∧ lo % 2 = 0)))) : Near P Q false x := by
  rcases hx with ⟨h, rfl⟩ | ⟨h, rfl, hm⟩ | ⟨h, rfl, hm⟩
  · refine ⟨⟨h0, h1⟩, fun hp => .inl ?_, fun hc => by omega⟩
    have g := md_lt_vl (x - 1) (by omega)
    rw [show x - 1 + 1 = x by omega] at g
    have := Int.mul_lt_mul_of_pos_right g hQ
    omega
  · refine ⟨⟨by omega, by omega⟩, fun _ => ?_, fun hc => .inl ?_⟩
    · rw [show lo + 1 - 1 = lo by omega]
      rcases hm with g | ⟨g, g'⟩
      · exact .inl g
      · exact .inr ⟨g, .inl (by omega)⟩
    · have := Int.mul_lt_mul_of_pos_right (vl_lt_md (lo + 1)) hQ
      have := hhi h
      omega
  · refine ⟨⟨h0, h1⟩, fun hp => .inl ?_, fun _ => ?_⟩
    · have g := md_lt_vl (x - 1) (by omega)
      rw [show x - 1 + 1 = x by omega] at g
      have := Int.mul_lt_mul_of_pos_right g hQ
      omega
    · rcases hm with g | ⟨g, g'⟩
      · exact .inl g
      · exact .inr ⟨g.symm, g', rfl⟩
end Ie

theorem ret_sg0 {a b : Int} (h : a = b) : Ending.returned (.tuple #[.int .u64 a, .int .i64 0]) = .returned (.tuple #[.int .u64 b, .int .i64 0]) := by rw [h]

theorem split_nat' (z : Int) : ∃ s t : Nat, (s : Int) - t = z ∧ (s = 0 ∨ t = 0) := ⟨z.toNat, (-z).toNat, by omega, by omega⟩

/-- What the search asks. -/
theorem against_vl (p q : Option Addr) (n cap n' cap' : Nat) (zs ys : List Int) (w : World) (ha : Arg w p n cap zs) (hb : Arg w q n' cap' ys) (tz : Nm.tsize zs ≤ 4096) (ty : Nm.tsize ys ≤ 4096) (e : Int) (e0 : -1048576 ≤ e) (e1 : e ≤ 1048576) (V D : Int) (hV : Nm.val zs = V) (hD : Nm.val ys = D)
    (a b : Nat) (hab : (a : Int) - b = e + 1075) (x : Int) (x0 : 0 ≤ x) (x1 : x ≤ 9218868437227405312) (middle : Bool) :
    ∃ c, (c < 0 ↔ (if middle = true then Ie.md x else Ie.vl x) * (D * 2 ^ b) < V * 2 ^ a) ∧ (c = 0 ↔ (if middle = true then Ie.md x else Ie.vl x) * (D * 2 ^ b) = V * 2 ^ a) ∧ (c = -1 ∨ c = 0 ∨ c = 1) ∧
      Calls Tryz.prog 65 #[.int .u64 x, .bool middle, .slice p n cap, .slice q n' cap', .int .i64 e] w fun r w' => r = .returned (.int .i64 c) ∧ Below w.heap.size w w' := by
  obtain ⟨s, t, hst, h0⟩ := split_nat' ((Ie.ex x : Int) - 1075 - e)
  have C := against_any x middle p q n cap n' cap' zs ys w ha hb tz ty x0 x1 e e0 e1 V D hV hD s t hst h0
  have hY : (if middle = true then Ie.md x else Ie.vl x) = Ie.mm x middle * 2 ^ Ie.ex x := by cases middle <;> rfl
  obtain ⟨S1, S2⟩ := Ie.scale_cmp D (Ie.mm x middle) V _ e (Ie.ex x) s t a b hY hst hab
  refine ⟨_, ?_, ?_, ?_, C⟩
  · rw [← S1, cmpI]
    constructor
    · intro h
      by_cases g : D * Ie.mm x middle * 2 ^ s < V * 2 ^ t
      · exact g
      · rw [if_neg g] at h
        by_cases g2 : D * Ie.mm x middle * 2 ^ s = V * 2 ^ t
        · rw [if_pos g2] at h; omega
        · rw [if_neg g2] at h; omega
    · intro h; rw [if_pos h]; omega
  · rw [← S2, cmpI]
    constructor
    · intro h
      by_cases g : D * Ie.mm x middle * 2 ^ s < V * 2 ^ t
      · rw [if_pos g] at h; omega
      · rw [if_neg g] at h
        by_cases g2 : D * Ie.mm x middle * 2 ^ s = V * 2 ^ t
        · exact g2
        · rw [if_neg g2] at h; omega
    · intro h; rw [if_neg (by omega), if_pos h]
  · rw [cmpI]
    split
    · omega
    · split <;> omega

set_option maxRecDepth 100000 in
set_option maxHeartbeats 8000000 in
theorem zratio_any (neg : Bool) (p q : Option Addr) (n cap n' cap' : Nat) (zs ys : List Int) (w : World) (ha : Arg w p n cap zs) (hb : Arg w q n' cap' ys) (tz : Nm.tsize zs ≤ 4096) (ty : Nm.tsize ys ≤ 4096) (V D e : Int) (hV : Nm.val zs = V) (hD : Nm.val ys = D) (hd : 0 < D) (hv : 0 < V) (e0 : -1048576 ≤ e) (e1 : e ≤ 1048576) :
    Calls Tryz.prog 31 #[.bool neg, .slice p n cap, .slice q n' cap', .int .i64 e] w fun r w' => ∃ x, r = .returned (.tuple #[.int .u64 (Ie.sg neg x), .int .i64 0]) ∧ Ie.Rnd V D e false x ∧ Below w.heap.size w w' := by
  obtain ⟨a, b, hab⟩ : ∃ a b : Nat, (a : Int) - b = e + 1075 := ⟨(e + 1075).toNat, (-(e + 1075)).toNat, by omega⟩
  have dpos := Int.mul_pos hd (Nm.two_pos b)
  have AG := hid (fun (wx : World) (hx : Below w.heap.size w wx) (x : Int) (x0 : 0 ≤ x) (x1 : x ≤ 9218868437227405312) (middle : Bool) => against_vl p q n cap n' cap' zs ys wx (ha.below hx (Nat.le_refl _)) (hb.below hx (Nat.le_refl _)) tz ty e e0 e1 V D hV hD a b hab x x0 x1 middle)
  have FIN : Hid (∀ lo x : Int, 0 ≤ lo → lo ≤ 9218868437227405312 → Ie.vl lo * (D * 2 ^ b) ≤ V * 2 ^ a → (lo < 9218868437227405312 → V * 2 ^ a < Ie.vl (lo + 1) * (D * 2 ^ b)) →
      ((lo = 9218868437227405312 ∧ x = lo) ∨ (lo < 9218868437227405312 ∧ x = lo + 1 ∧ (Ie.md lo * (D * 2 ^ b) < V * 2 ^ a ∨ (Ie.md lo * (D * 2 ^ b) = V * 2 ^ a ∧ lo % 2 = 1))) ∨ (lo < 9218868437227405312 ∧ x = lo ∧ (V * 2 ^ a < Ie.md lo * (D * 2 ^ b) ∨ (Ie.md lo * (D * 2 ^ b) = V * 2 ^ a ∧ lo % 2 = 0)))) → Ie.Rnd V D e false x) :=
    fun lo x h0 h1 h2 h3 h4 => Ie.Rnd.of hab (Ie.near_search _ _ lo x dpos h0 h1 h2 h3 h4)
  have B1 := hid (refBig_is false p n cap zs w ha (by simp; omega))
  have B2 := hid (refBig_is false q n' cap' ys w hb (by simp; omega))
  have tp : 0 < Nm.tsize zs := by
    rcases Nat.eq_zero_or_pos (Nm.tsize zs) with h | h
    · have := (Nm.tsize_zero_iff ha.2.2.2.2).1 h; omega
    · exact h
  have tq : 0 < Nm.tsize ys := by
    rcases Nat.eq_zero_or_pos (Nm.tsize ys) with h | h
    · have := (Nm.tsize_zero_iff hb.2.2.2.2).1 h; omega
    · exact h
  obtain ⟨S1, hS1⟩ : ∃ S, Nm.tsize zs = S := ⟨_, rfl⟩
  obtain ⟨S2, hS2⟩ : ∃ S, Nm.tsize ys = S := ⟨_, rfl⟩
  have Z1 := refSize_any p n cap zs w ha.1 (by have := ha.2.1; have := ha.2.2.1; omega) ha.2.2.2.1
  have Z2 := refSize_any q n' cap' ys w hb.1 (by have := hb.2.1; have := hb.2.2.1; omega) hb.2.2.2.1
  rw [hS1] at Z1 tp
  rw [hS2] at Z2 tq
  have Z1 := hid Z1
  have Z2 := hid Z2
  have s1 : ((S1 : Int) == 0) = false := by rw [beq_eq_false_iff_ne]; omega
  have s2 : ((S2 : Int) == 0) = false := by rw [beq_eq_false_iff_ne]; omega
  have l3 : ¬ e < -1048576 := by omega
  have l4 : ¬ 1048576 < e := by omega
  have V0 : Hid (Ie.vl 0 * (D * 2 ^ b) ≤ V * 2 ^ a) := by
    rw [Hid, Ie.vl_zero, Int.zero_mul]
    exact Int.mul_nonneg (by omega) (Int.le_of_lt (Nm.two_pos a))
  generalize D * 2 ^ b = Q at *
  generalize V * 2 ^ a = PP at *
  clear ha hb tz ty hV hD hd hv hab tp tq hS1 hS2 dpos
  go_enter Tryz.func31, Tryz.ntmps31
  go_wp2_with fail
  refine B1.out.mono ?_
  rintro e' w' ⟨rfl, rfl⟩
  go_wp2_with fail
  refine B2.out.mono ?_
  rintro e' w' ⟨rfl, rfl⟩
  go_wp2_with fail
  refine Z2.out.mono ?_
  rintro e' w' ⟨rfl, rfl⟩
  go_wp2_with fail
  refine Z1.out.mono ?_
  rintro e' w0 ⟨rfl, rfl⟩
  go_wp2_with fail
  go_loopw [10, 11, 12] (fun s t _ wr => ∃ lo hi : Int, s = .int .u64 lo ∧ t = .int .u64 hi ∧ 0 ≤ lo ∧ lo ≤ hi ∧ hi ≤ 9218868437227405312 ∧ Hid (Ie.vl lo * Q ≤ PP ∧ (hi < 9218868437227405312 → PP < Ie.vl (hi + 1) * Q)) ∧ Hid (Below w0.heap.size w0 wr)) (fun s t _ _ => (intOf t - intOf s).toNat)
  case atStart => exact ⟨0, _, rfl, rfl, by omega, by omega, by omega, ⟨V0.out, fun h => by omega⟩, Below.refl _ _⟩
  case round =>
    obtain ⟨lo, hi, rfl, rfl, h0, h1, h2, I, HB⟩ := hrel
    rcases (show lo < hi ∨ lo = hi by omega) with hlt | heq
    · obtain ⟨m, hm⟩ : ∃ m, lo + (hi - lo + 1) / 2 = m := ⟨_, rfl⟩
      have m1 : lo < m := by omega
      have m2 : m ≤ hi := by omega
      obtain ⟨c, c1, c2, c3, hc⟩ := AG.out wr HB.out m (by omega) (by omega) false
      simp only [Bool.false_eq_true, if_false] at c1 c2
      have C1 := hid c1
      have C2 := hid c2
      have HC := hid hc
      clear c1 c2 hc
      rcases (show c ≤ 0 ∨ 0 < c by omega) with hc0 | hc0
      · have L1 : Hid (Ie.vl m * Q ≤ PP) := by
          rcases (show c < 0 ∨ c = 0 by omega) with g | g
          · have := C1.out.1 g; rw [Hid]; omega
          · have := C2.out.1 g; rw [Hid]; omega
        clear C1 C2
        go_wp2_with fail
        refine HC.out.mono ?_
        rintro e' w2 ⟨rfl, hB2⟩
        have HB2 := hid (HB.out.trans (hB2.mono HB.out.size))
        clear hB2
        go_wp2_with fail
        go_roundw
        case measure => simp only [intOf]; omega
        case rel => exact ⟨_, _, rfl, rfl, by omega, by omega, by omega, ⟨L1.out, I.out.2⟩, HB2⟩
      · have L1 : Hid (PP < Ie.vl m * Q) := by
          have g1 : ¬ Ie.vl m * Q < PP := fun g => by have := C1.out.2 g; omega
          have g2 : ¬ Ie.vl m * Q = PP := fun g => by have := C2.out.2 g; omega
          rw [Hid]; omega
        have c4 : ¬ c ≤ 0 := by omega
        clear C1 C2
        go_wp2_with fail
        refine HC.out.mono ?_
        rintro e' w2 ⟨rfl, hB2⟩
        have HB2 := hid (HB.out.trans (hB2.mono HB.out.size))
        clear hB2
        go_wp2_with fail
        go_roundw
        case measure => simp only [intOf]; omega
        case rel => exact ⟨_, _, rfl, rfl, by omega, by omega, by omega, ⟨I.out.1, fun _ => by rw [show m - 1 + 1 = m by omega]; exact L1.out⟩, HB2⟩
    · subst heq
      have FF := hid (fun (x : Int) => FIN.out lo x h0 h2 I.out.1 I.out.2)
      clear FIN
      rcases (show lo = 9218868437227405312 ∨ lo < 9218868437227405312 by omega) with hi' | hi'
      · have R := hid (FF.out lo (.inl ⟨hi', rfl⟩))
        subst hi'
        clear I FF AG
        cases neg
        · go_wp2_with fail
          go_ret2
          exact ⟨_, ret_sg0 rfl, R.out, HB.out⟩
        · go_wp2_with fail
          go_ret2
          exact ⟨_, ret_sg0 rfl, R.out, HB.out⟩
      · obtain ⟨c, c1, c2, c3, hc⟩ := AG.out wr HB.out lo h0 h2 true
        simp only [if_true] at c1 c2
        have C1 := hid c1
        have C2 := hid c2
        have HC := hid hc
        have par : lo % 2 = 0 ∨ lo % 2 = 1 := by omega
        clear c1 c2 hc AG I
        rcases c3 with rfl | rfl | rfl
        · have R := hid (FF.out _ (.inr (.inl ⟨hi', rfl, .inl (C1.out.1 (by omega))⟩)))
          clear FF C1 C2
          cases neg
          · go_wp2_with fail
            refine HC.out.mono ?_
            rintro e' w2 ⟨rfl, hB2⟩
            have HB2 := hid (HB.out.trans (hB2.mono HB.out.size))
            clear hB2
            go_wp2_with fail
            go_ret2
            exact ⟨_, ret_sg0 rfl, R.out, HB2.out⟩
          · go_wp2_with fail
            refine HC.out.mono ?_
            rintro e' w2 ⟨rfl, hB2⟩
            have HB2 := hid (HB.out.trans (hB2.mono HB.out.size))
            clear hB2
            go_wp2_with fail
            go_ret2
            exact ⟨_, ret_sg0 rfl, R.out, HB2.out⟩
        · rcases par with hp | hp
          · have R := hid (FF.out _ (.inr (.inr ⟨hi', rfl, .inr ⟨C2.out.1 rfl, hp⟩⟩)))
            clear FF C1 C2
            cases neg
            · go_wp2_with fail
              refine HC.out.mono ?_
              rintro e' w2 ⟨rfl, hB2⟩
              have HB2 := hid (HB.out.trans (hB2.mono HB.out.size))
              clear hB2
              go_wp2_with fail
              go_ret2
              exact ⟨_, ret_sg0 rfl, R.out, HB2.out⟩
            · go_wp2_with fail
              refine HC.out.mono ?_
              rintro e' w2 ⟨rfl, hB2⟩
              have HB2 := hid (HB.out.trans (hB2.mono HB.out.size))
              clear hB2
              go_wp2_with fail
              go_ret2
              exact ⟨_, ret_sg0 rfl, R.out, HB2.out⟩
          · have R := hid (FF.out _ (.inr (.inl ⟨hi', rfl, .inr ⟨C2.out.1 rfl, hp⟩⟩)))
            clear FF C1 C2
            cases neg
            · go_wp2_with fail
              refine HC.out.mono ?_
              rintro e' w2 ⟨rfl, hB2⟩
              have HB2 := hid (HB.out.trans (hB2.mono HB.out.size))
              clear hB2
              go_wp2_with fail
              go_ret2
              exact ⟨_, ret_sg0 rfl, R.out, HB2.out⟩
            · go_wp2_with fail
              refine HC.out.mono ?_
              rintro e' w2 ⟨rfl, hB2⟩
              have HB2 := hid (HB.out.trans (hB2.mono HB.out.size))
              clear hB2
              go_wp2_with fail
              go_ret2
              exact ⟨_, ret_sg0 rfl, R.out, HB2.out⟩
        · have lt : PP < Ie.md lo * Q := by
            have g1 : ¬ Ie.md lo * Q < PP := fun g => by have := C1.out.2 g; omega
            have g2 : ¬ Ie.md lo * Q = PP := fun g => by have := C2.out.2 g; omega
            omega
          have R := hid (FF.out _ (.inr (.inr ⟨hi', rfl, .inl lt⟩)))
          clear FF C1 C2 lt
          cases neg
          · go_wp2_with fail
            refine HC.out.mono ?_
            rintro e' w2 ⟨rfl, hB2⟩
            have HB2 := hid (HB.out.trans (hB2.mono HB.out.size))
            clear hB2
            go_wp2_with fail
            go_ret2
            exact ⟨_, ret_sg0 rfl, R.out, HB2.out⟩
          · go_wp2_with fail
            refine HC.out.mono ?_
            rintro e' w2 ⟨rfl, hB2⟩
            have HB2 := hid (HB.out.trans (hB2.mono HB.out.size))
            clear hB2
            go_wp2_with fail
            go_ret2
            exact ⟨_, ret_sg0 rfl, R.out, HB2.out⟩
end Go.Proofs.YtggiioipppbedaaGreatDoor

/-
  ieee: Down.
-/
namespace Go.Proofs.YtggiioipppbedaaGreatDoor
open Go Go.RowKit Go.Deep

theorem Ie.ng_bd (d : Int) (h0 : 0 ≤ d) (h1 : d < 18446744073709551616) : 0 ≤ Ie.ng d ∧ Ie.ng d < 18446744073709551616 := by
  simp only [Ie.ng]; split <;> omega

theorem Ie.upd_bd (d : Int) (h0 : 0 ≤ d) (h1 : d < 18446744073709551616) : 0 ≤ Ie.upd d ∧ Ie.upd d < 18446744073709551616 := by
  simp only [Ie.upd]
  split
  · omega
  · split
    · omega
    · split
      · omega
      · split <;> omega

set_option maxRecDepth 100000 in
set_option maxHeartbeats 2000000 in
theorem down_any (d : Int) (w : World) (h0 : 0 ≤ d) (h1 : d < 18446744073709551616) :
    Calls Tryz.prog 40 #[.int .u64 d] w fun e w' => e = .returned (.int .u64 (Ie.dnd d)) ∧ w' = w := by
  have CL := hid (class_any d w h0 h1)
  have c4 := Ie.cls4 d
  obtain ⟨c, hc⟩ : ∃ c, Ie.cls d = c := ⟨_, rfl⟩
  rw [hc] at CL c4
  by_cases hn : c = 4
  · have E : Hid (9221120237041090560 = Ie.dnd d) := by rw [Hid, Ie.dnd, if_pos (c4.1 hn)]
    subst hn
    clear hc c4
    go_enter Tryz.func40, Tryz.ntmps40
    go_wp2_with fail
    refine CL.out.mono ?_
    rintro e w' ⟨rfl, rfl⟩
    go_wp2_with fail
    go_ret
    exact ⟨i_retU E.out, rfl⟩
  · have ok : Ie.okd d = true := by
      cases h : Ie.okd d
      · exact absurd (c4.2 h) hn
      · rfl
    have hn' : (c == 4) = false := by rw [beq_eq_false_iff_ne]; exact hn
    have E : Hid (Ie.dnd d = Ie.ng (Ie.upd (Ie.ng d))) := by rw [Hid, Ie.dnd, ok, if_neg (by decide)]
    have b1 := Ie.ng_bd d h0 h1
    have b2 := Ie.upd_bd _ b1.1 b1.2
    have N1 := hid (neg_any d w h0 h1)
    have U1 := hid (up_any _ w b1.1 b1.2)
    have N2 := hid (neg_any _ w b2.1 b2.2)
    clear hc c4 ok hn b1 b2
    go_enter Tryz.func40, Tryz.ntmps40
    go_wp2_with fail
    refine CL.out.mono ?_
    rintro e w' ⟨rfl, rfl⟩
    go_wp2_with fail
    refine N1.out.mono ?_
    rintro e w' ⟨rfl, rfl⟩
    go_wp2_with fail
    refine U1.out.mono ?_
    rintro e w' ⟨rfl, rfl⟩
    go_wp2_with fail
    refine N2.out.mono ?_
    rintro e w' ⟨rfl, rfl⟩
    go_wp2_with fail
    go_ret
    exact ⟨i_retU E.out.symm, rfl⟩
end Go.Proofs.YtggiioipppbedaaGreatDoor

/-
  Orders as numbers.
-/
namespace Go.Proofs.YtggiioipppbedaaGreatDoor
open Go Go.RowKit Go.Deep

namespace Ie
/-- Where a pattern stands in the order of all. -/
def plc (d : Int) : Int := if d < 9223372036854775808 then d else 9223372036854775807 - d
/-- -1, 0 or 1. -/
def cm (a b : Int) : Int := if a < b then -1 else if b < a then 1 else 0
end Ie

namespace Ie
/-- Compare's number. -/
def cmv (a b : Int) : Int := if okd a = true ∧ okd b = true then cm (rk a) (rk b) else 0
end Ie
end Go.Proofs.YtggiioipppbedaaGreatDoor

/-
  ieee: place, Total, Rank, Compare, AtRank, Up, Down; cmp.Compare of two int64.
-/
namespace Go.Proofs.YtggiioipppbedaaGreatDoor
open Go Go.RowKit Go.Deep


set_option maxRecDepth 100000 in
theorem isNaN_any (x : Int) (w : World) : Calls Tryz.prog 85 #[.int .i64 x] w fun e w' => e = .returned (.bool false) ∧ w' = w := by
  go_enter Tryz.func85, Tryz.ntmps85
  go_wp2
  go_ret
  exact ⟨by simp, rfl⟩

set_option maxRecDepth 100000 in
theorem ccmp_any (x y : Int) (w : World) : Calls Tryz.prog 67 #[.int .i64 x, .int .i64 y] w fun e w' => e = .returned (.int .i64 (Ie.cm x y)) ∧ w' = w := by
  by_cases h1 : x < y
  · have E : Hid (Ie.cm x y = -1) := by rw [Hid, Ie.cm, if_pos h1]
    go_enter Tryz.func67, Tryz.ntmps67
    go_wp2_with fail
    refine (isNaN_any x w).mono ?_
    rintro e w' ⟨rfl, rfl⟩
    go_wp2_with fail
    refine (isNaN_any y _).mono ?_
    rintro e w' ⟨rfl, rfl⟩
    go_wp2_with fail
    go_ret
    exact ⟨i_retI E.out.symm, rfl⟩
  · by_cases h2 : y < x
    · have E : Hid (Ie.cm x y = 1) := by rw [Hid, Ie.cm, if_neg h1, if_pos h2]
      go_enter Tryz.func67, Tryz.ntmps67
      go_wp2_with fail
      refine (isNaN_any x w).mono ?_
      rintro e w' ⟨rfl, rfl⟩
      go_wp2_with fail
      refine (isNaN_any y _).mono ?_
      rintro e w' ⟨rfl, rfl⟩
      go_wp2_with fail
      go_ret
      exact ⟨i_retI E.out.symm, rfl⟩
    · have E : Hid (Ie.cm x y = 0) := by rw [Hid, Ie.cm, if_neg h1, if_neg h2]
      go_enter Tryz.func67, Tryz.ntmps67
      go_wp2_with fail
      refine (isNaN_any x w).mono ?_
      rintro e w' ⟨rfl, rfl⟩
      go_wp2_with fail
      refine (isNaN_any y _).mono ?_
      rintro e w' ⟨rfl, rfl⟩
      go_wp2_with fail
      go_ret
      exact ⟨i_retI E.out.symm, rfl⟩
end Go.Proofs.YtggiioipppbedaaGreatDoor

/-
  ieee: Rank, Compare, Total, AtRank, Up, Down.
-/
namespace Go.Proofs.YtggiioipppbedaaGreatDoor
open Go Go.RowKit Go.Deep


set_option maxRecDepth 100000 in
set_option maxHeartbeats 1000000 in
theorem rank_any (d : Int) (w : World) (h0 : 0 ≤ d) (h1 : d < 18446744073709551616) :
    Calls Tryz.prog 38 #[.int .u64 d] w fun e w' => e = .returned (.tuple #[.int .i64 (Ie.rkv d), .bool (Ie.okd d)]) ∧ w' = w := by
  have B := Ib.sign_and d h0 h1
  have CL := hid (class_any d w h0 h1)
  have AB := hid (abs_any d w h0 h1)
  have c4 := Ie.cls4 d
  obtain ⟨c, hc⟩ : ∃ c, Ie.cls d = c := ⟨_, rfl⟩
  rw [hc] at CL c4
  obtain ⟨sv, hsv⟩ : ∃ sv, d / 9223372036854775808 * 9223372036854775808 = sv := ⟨_, rfl⟩
  rw [hsv] at B
  obtain ⟨r, hr⟩ : ∃ r, d % 9223372036854775808 = r := ⟨_, rfl⟩
  rw [hr] at AB
  have r0 : 0 ≤ r := by omega
  have r1 : r < 9223372036854775808 := by omega
  by_cases hn : c = 4
  · have E : Hid (0 = Ie.rkv d ∧ false = Ie.okd d) := by
      have := c4.1 hn
      exact ⟨by rw [Ie.rkv, this]; rfl, this.symm⟩
    subst hn
    clear hc hsv hr c4
    go_enter Tryz.func38, Tryz.ntmps38
    go_wp2_with fail
    refine CL.out.mono ?_
    rintro e w' ⟨rfl, rfl⟩
    go_wp2_with fail
    go_ret2
    exact ⟨ret_i64b E.out.1 E.out.2, rfl⟩
  · have ok : Ie.okd d = true := by
      cases h : Ie.okd d
      · exact absurd (c4.2 h) hn
      · rfl
    have hn' : (c == 4) = false := by rw [beq_eq_false_iff_ne]; exact hn
    rcases (show d < 9223372036854775808 ∨ 9223372036854775808 ≤ d by omega) with hs | hs
    · have E : Hid (r = Ie.rkv d ∧ true = Ie.okd d) := ⟨by rw [Ie.rkv, ok, if_pos rfl, Ie.rk, if_pos hs]; omega, ok.symm⟩
      have hz : sv = 0 := by omega
      subst hz
      clear hc hsv hr c4 ok hs hn
      go_enter Tryz.func38, Tryz.ntmps38
      go_wp2_with fail
      refine CL.out.mono ?_
      rintro e w' ⟨rfl, rfl⟩
      go_wp2_with fail
      refine AB.out.mono ?_
      rintro e w' ⟨rfl, rfl⟩
      go_wp2_with fail
      go_ret2
      exact ⟨ret_i64b E.out.1 E.out.2, rfl⟩
    · have E : Hid (-r = Ie.rkv d ∧ true = Ie.okd d) := ⟨by rw [Ie.rkv, ok, if_pos rfl, Ie.rk, if_neg (by omega)]; omega, ok.symm⟩
      have hz : sv = 9223372036854775808 := by omega
      subst hz
      clear hc hsv hr c4 ok hs hn
      go_enter Tryz.func38, Tryz.ntmps38
      go_wp2_with fail
      refine CL.out.mono ?_
      rintro e w' ⟨rfl, rfl⟩
      go_wp2_with fail
      refine AB.out.mono ?_
      rintro e w' ⟨rfl, rfl⟩
      go_wp2_with fail
      go_ret2
      exact ⟨ret_i64b E.out.1 E.out.2, rfl⟩

set_option maxRecDepth 100000 in
set_option maxHeartbeats 1000000 in
theorem compare_any (a b : Int) (w : World) (a0 : 0 ≤ a) (a1 : a < 18446744073709551616) (b0 : 0 ≤ b) (b1 : b < 18446744073709551616) :
    Calls Tryz.prog 36 #[.int .u64 a, .int .u64 b] w fun e w' => e = .returned (.tuple #[.int .i64 (Ie.cmv a b), .bool (Ie.okd a && Ie.okd b)]) ∧ w' = w := by
  have P1 := hid (rank_any a w a0 a1)
  have P2 := hid (rank_any b w b0 b1)
  have X1 : Hid (Ie.okd a = true → Ie.rkv a = Ie.rk a) := by intro h; rw [Ie.rkv, if_pos h]
  have X2 : Hid (Ie.okd b = true → Ie.rkv b = Ie.rk b) := by intro h; rw [Ie.rkv, if_pos h]
  have V : Hid (Ie.cmv a b = if Ie.okd a = true ∧ Ie.okd b = true then Ie.cm (Ie.rk a) (Ie.rk b) else 0) := rfl
  generalize Ie.cmv a b = cv at *
  generalize Ie.rkv a = x at *
  generalize Ie.rkv b = y at *
  generalize Ie.okd a = oa at *
  generalize Ie.okd b = ob at *
  clear a0 a1 b0 b1
  cases oa
  · go_enter Tryz.func36, Tryz.ntmps36
    go_wp2_with fail
    refine P1.out.mono ?_
    rintro e w' ⟨rfl, rfl⟩
    go_wp2_with fail
    refine P2.out.mono ?_
    rintro e w' ⟨rfl, rfl⟩
    go_wp2_with fail
    go_ret2
    exact ⟨ret_i64b (by rw [V.out]; rfl) rfl, rfl⟩
  · cases ob
    · go_enter Tryz.func36, Tryz.ntmps36
      go_wp2_with fail
      refine P1.out.mono ?_
      rintro e w' ⟨rfl, rfl⟩
      go_wp2_with fail
      refine P2.out.mono ?_
      rintro e w' ⟨rfl, rfl⟩
      go_wp2_with fail
      go_ret2
      exact ⟨ret_i64b (by rw [V.out]; rfl) rfl, rfl⟩
    · go_enter Tryz.func36, Tryz.ntmps36
      go_wp2_with fail
      refine P1.out.mono ?_
      rintro e w' ⟨rfl, rfl⟩
      go_wp2_with fail
      refine P2.out.mono ?_
      rintro e w' ⟨rfl, rfl⟩
      go_wp2_with fail
      refine (ccmp_any _ _ _).mono ?_
      rintro e w' ⟨rfl, rfl⟩
      go_wp2_with fail
      go_ret2
      exact ⟨ret_i64b (by rw [V.out, if_pos ⟨trivial, trivial⟩, X1.out trivial, X2.out trivial]) rfl, rfl⟩

end Go.Proofs.YtggiioipppbedaaGreatDoor

/-
  ieee: place, Total, AtRank, Down.
-/
namespace Go.Proofs.YtggiioipppbedaaGreatDoor
open Go Go.RowKit Go.Deep

set_option maxRecDepth 100000 in
theorem place_any (d : Int) (w : World) (h0 : 0 ≤ d) (h1 : d < 18446744073709551616) :
    Calls Tryz.prog 68 #[.int .u64 d] w fun e w' => e = .returned (.int .i64 (Ie.plc d)) ∧ w' = w := by
  have B := Ib.sign_and d h0 h1
  by_cases hs : d < 9223372036854775808
  · have E : Hid (Ie.plc d = d) := by rw [Hid, Ie.plc, if_pos hs]
    have q : d / 9223372036854775808 = 0 := by omega
    rw [q, Int.zero_mul] at B
    clear q
    go_enter Tryz.func68, Tryz.ntmps68
    go_wp2
    go_ret
    exact ⟨i_retI E.out.symm, rfl⟩
  · have E : Hid (Ie.plc d = 9223372036854775807 - d) := by rw [Hid, Ie.plc, if_neg hs]
    have q : d / 9223372036854775808 = 1 := by omega
    rw [q, Int.one_mul] at B
    have X := Ib.low_xor d (by omega) h1
    obtain ⟨y, hy, Y⟩ : ∃ y, bits .xor .u64 d 9223372036854775807 = y ∧ Hid (y = 27670116110564327423 - d) := ⟨_, X, rfl⟩
    have y0 : 9223372036854775808 ≤ y := by have := Y.out; omega
    have y1 : y < 18446744073709551616 := by have := Y.out; omega
    have W : IntKind.i64.wrap y = y - 18446744073709551616 := by rw [IntKind.wrap_i64]; omega
    clear q X
    go_enter Tryz.func68, Tryz.ntmps68
    go_wp2
    go_ret
    exact ⟨i_retI (by rw [E.out]; have := Y.out; omega), rfl⟩

set_option maxRecDepth 100000 in
set_option maxHeartbeats 1000000 in
theorem total_any (a b : Int) (w : World) (a0 : 0 ≤ a) (a1 : a < 18446744073709551616) (b0 : 0 ≤ b) (b1 : b < 18446744073709551616) :
    Calls Tryz.prog 37 #[.int .u64 a, .int .u64 b] w fun e w' => e = .returned (.int .i64 (Ie.cm (Ie.plc a) (Ie.plc b))) ∧ w' = w := by
  have P1 := hid (place_any a w a0 a1)
  have P2 := hid (place_any b w b0 b1)
  go_enter Tryz.func37, Tryz.ntmps37
  go_wp2_with fail
  refine P1.out.mono ?_
  rintro e w' ⟨rfl, rfl⟩
  go_wp2_with fail
  refine P2.out.mono ?_
  rintro e w' ⟨rfl, rfl⟩
  go_wp2_with fail
  refine (ccmp_any _ _ _).mono ?_
  rintro e w' ⟨rfl, rfl⟩
  go_wp2_with fail
  go_ret
  exact ⟨rfl, rfl⟩

set_option maxRecDepth 100000 in
set_option maxHeartbeats 1000000 in
theorem atRank_in (i : Int) (w : World) (h0 : -9218868437227405312 ≤ i) (h1 : i ≤ 9218868437227405312) :
    Calls Tryz.prog 39 #[.int .i64 i] w fun e w' => e = .returned (.tuple #[.int .u64 (Ie.atr i), .bool true]) ∧ w' = w := by
  rcases (show i < 0 ∨ 0 ≤ i by omega) with h | h
  · have E : Hid (Ie.sg true (-i) = Ie.atr i) := by rw [Hid, Ie.sg, if_pos rfl, Ie.atr, if_pos h]; omega
    have W1 : IntKind.u64.wrap i = i + 18446744073709551616 := by rw [IntKind.wrap_u64]; omega
    have W2 : IntKind.u64.wrap (-(i + 18446744073709551616)) = -i := by rw [IntKind.wrap_u64]; omega
    have SG := hid (fun (x : Int) (hx : x = -i) => signed_any true x w (by omega) (by omega))
    go_enter Tryz.func39, Tryz.ntmps39
    go_wp2_with fail
    refine (SG.out _ (by omega)).mono ?_
    rintro e w' ⟨rfl, rfl⟩
    go_wp2_with fail
    go_ret2
    exact ⟨ret_u64b E.out rfl, rfl⟩
  · have E : Hid (Ie.sg false i = Ie.atr i) := by rw [Hid, Ie.sg, if_neg (by decide), Ie.atr, if_neg (by omega)]
    have SG := hid (fun (x : Int) (hx : x = i) => signed_any false x w (by omega) (by omega))
    have hf : decide (i < 0) = false := by simp; omega
    go_enter Tryz.func39, Tryz.ntmps39
    go_wp2_with fail
    refine (SG.out _ (by omega)).mono ?_
    rintro e w' ⟨rfl, rfl⟩
    go_wp2_with fail
    go_ret2
    exact ⟨ret_u64b E.out rfl, rfl⟩

set_option maxRecDepth 100000 in
set_option maxHeartbeats 1000000 in
theorem atRank_out (i : Int) (w : World) (l0 : -9223372036854775808 ≤ i) (l1 : i ≤ 9223372036854775807) (h : i < -9218868437227405312 ∨ 9218868437227405312 < i) :
    Calls Tryz.prog 39 #[.int .i64 i] w fun e w' => e = .returned (.tuple #[.int .u64 0, .bool false]) ∧ w' = w := by
  rcases h with h | h
  · have W1 : IntKind.u64.wrap i = i + 18446744073709551616 := by rw [IntKind.wrap_u64]; omega
    have W2 : IntKind.u64.wrap (-(i + 18446744073709551616)) = -i := by rw [IntKind.wrap_u64]; omega
    go_enter Tryz.func39, Tryz.ntmps39
    go_wp2
    go_ret2
    exact ⟨rfl, rfl⟩
  · go_enter Tryz.func39, Tryz.ntmps39
    go_wp2
    go_ret2
    exact ⟨rfl, rfl⟩
end Go.Proofs.YtggiioipppbedaaGreatDoor
