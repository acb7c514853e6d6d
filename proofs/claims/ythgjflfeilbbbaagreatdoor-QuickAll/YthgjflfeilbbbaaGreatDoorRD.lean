/-
  Texts put together: ZRound, ZRound2, IRoomA, ZArg, Low, IShift, IRatio, ZAgainst.
-/
import Derived.Test.YthgjflfeilbbbaaGreatDoorRC
import Derived.Test.YthgjflfeilbbbaaGreatDoorINum2
import Derived.Test.YthgjflfeilbbbaaGreatDoorShr
import Derived.Test.YthgjflfeilbbbaaGreatDoorZRef12
import Derived.Test.YthgjflfeilbbbaaGreatDoorMem
import Derived.Deep.RegionWith
import Derived.Test.YthgjflfeilbbbaaGreatDoorShl
import Derived.Test.YthgjflfeilbbbaaGreatDoorRA
import Derived.Test.YthgjflfeilbbbaaGreatDoorIShiftA
import Derived.Test.YthgjflfeilbbbaaGreatDoorZRef13
/-
  The document's Round (made by mkzround.py).
-/
namespace Go.Proofs.YthgjflfeilbbbaaGreatDoor
open Go Go.RowKit Go.Deep

/-- What the document's Round tells, once the digits are read. -/
def ZRTold (neg more rs : Bool) (hb : Int) (U : Nat) (g : Int) (r : Ending) : Prop :=
  ∃ up : Bool, r = .returned (.tuple #[.int .u64 (Ie.sg neg ((U : Int) * 4503599627370496 + g + if up = true then 1 else 0)), .int .i64 0]) ∧ (up = true ↔ (hb = 1 ∧ (rs = true ∨ more = true ∨ g % 2 = 1)))

theorem ret_sg {neg : Bool} {a b : Int} (h : a = b) : Ending.returned (.tuple #[.int .u64 (Ie.sg neg a), .int .i64 0]) = .returned (.tuple #[.int .u64 (Ie.sg neg b), .int .i64 0]) := by rw [h]

set_option maxRecDepth 100000 in
set_option maxHeartbeats 8000000 in
theorem zround_core (neg : Bool) (p : Option Addr) (n cap : Nat) (w : World) (e u : Int) (L U J T : Nat) (more rs : Bool) (G : Nat → Int) (bv : Nat → Int) (hb : Int)
    (BG : Calls Tryz.prog 96 #[.slice p n cap] w fun r w' => r = .returned (.bool false) ∧ w' = w)
    (BL : Calls Tryz.prog 90 #[.slice p n cap] w fun r w' => r = .returned (.int .i64 (L : Int)) ∧ w' = w)
    (BT : ∀ j, j < J → ∀ ii, ii = u + (j : Int) - e → Calls Tryz.prog 98 #[.slice p n cap, .int .i64 ii] w fun r w' => r = .returned (.int .i64 (bv j)) ∧ w' = w)
    (BH : ∀ ii, ii = u - 1 - e → Calls Tryz.prog 98 #[.slice p n cap, .int .i64 ii] w fun r w' => r = .returned (.int .i64 hb) ∧ w' = w)
    (TR : Calls Tryz.prog 99 #[.slice p n cap] w fun r w' => r = .returned (.int .i64 (T : Int)) ∧ w' = w)
    (hL0 : 0 < L) (hL2 : L ≤ 262144) (he0 : -1048576 ≤ e) (he1 : e ≤ 1048576) (hbig : (L : Int) + e ≤ 1024) (hT : T ≤ 17592186044416)
    (hU : u + 1074 = (U : Int)) (hU2 : U ≤ 2045) (hmax : ((L : Int) + e - 53 < -1074 ∧ u = -1074) ∨ (-1074 ≤ (L : Int) + e - 53 ∧ u = (L : Int) + e - 53))
    (hJ : u + (J : Int) = (L : Int) + e ∨ (J = 0 ∧ (L : Int) + e ≤ u)) (GB : ∀ j, j ≤ J → 0 ≤ G j ∧ G j < 9007199254740992) (GJ : G J = 0) (GS : ∀ j, j < J → G j = 2 * G (j + 1) + bv j ∧ 0 ≤ bv j ∧ bv j ≤ 1)
    (hbb : hb = 0 ∨ hb = 1) (hrs : decide ((T : Int) + e < u - 1) = rs) (hUm : 0 < U → 4503599627370496 ≤ G 0) :
    Calls Tryz.prog 68 #[.bool neg, .slice p n cap, .int .i64 e, .bool more] w fun r w' => ZRTold neg more rs hb U (G 0) r ∧ w' = w := by
  have HBG := hid BG
  have HBL := hid BL
  have HBT := hid BT
  have HBH := hid BH
  have HTR := hid TR
  have HGB := hid GB
  have HGS := hid GS
  have HGJ := hid GJ
  have HRS := hid hrs
  have g0 := GB 0 (Nat.zero_le _)
  obtain ⟨G0, hG0⟩ : ∃ g, G 0 = g := ⟨_, rfl⟩
  rw [hG0] at g0 hUm ⊢
  have HG0 := hid hG0
  clear hG0
  obtain ⟨g00, g01⟩ := g0
  have PZ : Hid (∀ (wx : World) (m : Int), 0 ≤ m → m < 4503599627370496 → U = 0 → Calls Tryz.prog 97 #[.bool neg, .int .i64 0, .int .u64 m] wx fun r w' => r = .returned (.int .u64 (Ie.sg neg ((U : Int) * 4503599627370496 + m))) ∧ w' = wx) := by
    intro wx m m0 m1 hu
    have := zput_any neg 0 m wx (by omega) (by omega) m0 (by omega) (by omega)
    rw [hu]
    exact this
  have PU : Hid (∀ (wx : World) (m ee : Int), 0 ≤ m → m ≤ 9007199254740992 → ee = (U : Int) → Calls Tryz.prog 97 #[.bool neg, .int .i64 ee, .int .u64 m] wx fun r w' => r = .returned (.int .u64 (Ie.sg neg ((U : Int) * 4503599627370496 + m))) ∧ w' = wx) := by
    intro wx m ee m0 m1 hu
    subst hu
    exact zput_any neg U m wx (by omega) (by omega) m0 m1 (by omega)
  have l0 : ((L : Int) == 0) = false := by rw [beq_eq_false_iff_ne]; omega
  have l1 : ¬ 1023 < (L : Int) - 1 + e := by omega
  have l2 : (L : Int) ≤ 262144 := by omega
  have l3 : ¬ e < -1048576 := by omega
  have l4 : ¬ 1048576 < e := by omega
  have t1 : (T : Int) ≤ 17592186044416 := by omega
  have u0 : -1074 ≤ u := by omega
  have u1 : u ≤ 971 := by omega
  have hJ2 : (J : Int) ≤ 1100000 := by omega
  have HUM := hid hUm
  have HU := hid hU
  have HJ := hid hJ
  clear BG BL BT BH TR GB GS GJ hrs hL2 hT hUm hU hJ
  rcases hmax with ⟨hx, hue⟩ | ⟨hx, hue⟩
  · have HUE := hid hue
    clear hue
    go_enter Tryz.func68, Tryz.ntmps68
    go_wp2_with fail
    refine HBG.out.mono ?_
    rintro e' w' ⟨rfl, rfl⟩
    go_wp2_with fail
    refine HBL.out.mono ?_
    rintro e' w' ⟨rfl, rfl⟩
    go_wp2_with fail
    rw [← HUE.out]
    go_loopw [13, 14] (fun a i wr => ∃ (j : Nat) (M z : Int), a = .int .u64 M ∧ i = .int .i64 z ∧ j ≤ J ∧ 0 ≤ M ∧ M < 9007199254740992 ∧ -2000000 ≤ z ∧ z ≤ 1100 ∧ Hid (M = G j ∧ (z = u + (j : Int) - 1 ∨ (j = 0 ∧ z ≤ u - 1))) ∧ wr = w') (fun _ i _ => (intOf i + 2000001).toNat)
    case atStart => exact ⟨J, 0, _, rfl, rfl, Nat.le_refl _, by omega, by omega, by omega, by omega, ⟨HGJ.out.symm, by have := HJ.out; omega⟩, rfl⟩
    case round =>
      obtain ⟨j, M, z, rfl, rfl, hj, M0, M1, z0, z1, I, rfl⟩ := hrel
      cases j with
      | zero =>
        have hM : M = G0 := I.out.1.trans HG0.out
        have hz : z < u := by have := I.out.2; omega
        have hM2 := hM.symm
        clear hM
        subst hM2
        clear I HGS HBT
        go_wp2_with fail
        refine (HBH.out _ (by omega)).mono ?_
        rintro e' w' ⟨rfl, rfl⟩
        rcases hbb with rfl | rfl
        · go_wp2_with fail
          refine HTR.out.mono ?_
          rintro e' w' ⟨rfl, rfl⟩
          by_cases hsm : G0 < 4503599627370496
          · have hu0 : U = 0 := Nat.eq_zero_of_not_pos (fun h => absurd (HUM.out h) (by omega))
            go_wp2_with fail
            refine (PZ.out _ _ (by omega) (by omega) hu0).mono ?_
            rintro e' w' ⟨rfl, rfl⟩
            go_wp2_with fail
            go_ret2
            exact ⟨⟨false, ret_sg (by simp <;> omega), by simp⟩, rfl⟩
          · go_wp2_with fail
            refine (PU.out _ _ _ (by omega) (by omega) (by have := HU.out; omega)).mono ?_
            rintro e' w' ⟨rfl, rfl⟩
            go_wp2_with fail
            go_ret2
            exact ⟨⟨false, ret_sg (by simp <;> omega), by simp⟩, rfl⟩
        · cases rs
          · have HF := of_decide_eq_false HRS.out
            cases more
            · rcases (show G0 % 2 = 0 ∨ G0 % 2 = 1 by omega) with hp | hp
              · go_wp2_with fail
                refine HTR.out.mono ?_
                rintro e' w' ⟨rfl, rfl⟩
                by_cases hsm : G0 < 4503599627370496
                · have hu0 : U = 0 := Nat.eq_zero_of_not_pos (fun h => absurd (HUM.out h) (by omega))
                  go_wp2_with fail
                  refine (PZ.out _ _ (by omega) (by omega) hu0).mono ?_
                  rintro e' w' ⟨rfl, rfl⟩
                  go_wp2_with fail
                  go_ret2
                  exact ⟨⟨false, ret_sg (by simp <;> omega), by simp [hp]⟩, rfl⟩
                · go_wp2_with fail
                  refine (PU.out _ _ _ (by omega) (by omega) (by have := HU.out; omega)).mono ?_
                  rintro e' w' ⟨rfl, rfl⟩
                  go_wp2_with fail
                  go_ret2
                  exact ⟨⟨false, ret_sg (by simp <;> omega), by simp [hp]⟩, rfl⟩
              · go_wp2_with fail
                refine HTR.out.mono ?_
                rintro e' w' ⟨rfl, rfl⟩
                by_cases hsm : G0 + 1 < 4503599627370496
                · have hu0 : U = 0 := Nat.eq_zero_of_not_pos (fun h => absurd (HUM.out h) (by omega))
                  go_wp2_with fail
                  refine (PZ.out _ _ (by omega) (by omega) hu0).mono ?_
                  rintro e' w' ⟨rfl, rfl⟩
                  go_wp2_with fail
                  go_ret2
                  exact ⟨⟨true, ret_sg (by simp <;> omega), by simp [hp]⟩, rfl⟩
                · go_wp2_with fail
                  refine (PU.out _ _ _ (by omega) (by omega) (by have := HU.out; omega)).mono ?_
                  rintro e' w' ⟨rfl, rfl⟩
                  go_wp2_with fail
                  go_ret2
                  exact ⟨⟨true, ret_sg (by simp <;> omega), by simp [hp]⟩, rfl⟩
            · go_wp2_with fail
              refine HTR.out.mono ?_
              rintro e' w' ⟨rfl, rfl⟩
              by_cases hsm : G0 + 1 < 4503599627370496
              · have hu0 : U = 0 := Nat.eq_zero_of_not_pos (fun h => absurd (HUM.out h) (by omega))
                go_wp2_with fail
                refine (PZ.out _ _ (by omega) (by omega) hu0).mono ?_
                rintro e' w' ⟨rfl, rfl⟩
                go_wp2_with fail
                go_ret2
                exact ⟨⟨true, ret_sg (by simp <;> omega), by simp⟩, rfl⟩
              · go_wp2_with fail
                refine (PU.out _ _ _ (by omega) (by omega) (by have := HU.out; omega)).mono ?_
                rintro e' w' ⟨rfl, rfl⟩
                go_wp2_with fail
                go_ret2
                exact ⟨⟨true, ret_sg (by simp <;> omega), by simp⟩, rfl⟩
          · have HF := of_decide_eq_true HRS.out
            go_wp2_with fail
            refine HTR.out.mono ?_
            rintro e' w' ⟨rfl, rfl⟩
            by_cases hsm : G0 + 1 < 4503599627370496
            · have hu0 : U = 0 := Nat.eq_zero_of_not_pos (fun h => absurd (HUM.out h) (by omega))
              go_wp2_with fail
              refine (PZ.out _ _ (by omega) (by omega) hu0).mono ?_
              rintro e' w' ⟨rfl, rfl⟩
              go_wp2_with fail
              go_ret2
              exact ⟨⟨true, ret_sg (by simp <;> omega), by simp⟩, rfl⟩
            · go_wp2_with fail
              refine (PU.out _ _ _ (by omega) (by omega) (by have := HU.out; omega)).mono ?_
              rintro e' w' ⟨rfl, rfl⟩
              go_wp2_with fail
              go_ret2
              exact ⟨⟨true, ret_sg (by simp <;> omega), by simp⟩, rfl⟩
      | succ k =>
        have hz : z = u + (k : Int) := by have := I.out.2; omega
        have hz2 : u ≤ z := by omega
        obtain ⟨s1, s2, s3⟩ := HGS.out k (by omega)
        have B1 := hid (HBT.out k (by omega))
        have gb := HGB.out k (by omega)
        obtain ⟨b, hbk⟩ : ∃ b, bv k = b := ⟨_, rfl⟩
        rw [hbk] at s1 s2 s3 B1
        have HZ := hid hz
        have S1 : Hid (2 * M + b = G k) := by rw [Hid, s1, I.out.1]
        have n1 : 2 * M + b < 9007199254740992 := by rw [S1.out]; exact gb.2
        clear s1 I hz gb hbk
        go_wp2_with fail
        refine (B1.out _ (by have := HZ.out; omega)).mono ?_
        rintro e' wq ⟨rfl, rfl⟩
        go_wp2_with fail
        go_roundw
        case measure => simp only [intOf]; omega
        case rel => exact ⟨k, _, _, rfl, rfl, by omega, by omega, by omega, by omega, by omega, ⟨S1.out, .inl (by have := HZ.out; omega)⟩, by first | rfl | trivial⟩
  · subst hue
    go_enter Tryz.func68, Tryz.ntmps68
    go_wp2_with fail
    refine HBG.out.mono ?_
    rintro e' w' ⟨rfl, rfl⟩
    go_wp2_with fail
    refine HBL.out.mono ?_
    rintro e' w' ⟨rfl, rfl⟩
    go_wp2_with fail
    go_loopw [13, 14] (fun a i wr => ∃ (j : Nat) (M z : Int), a = .int .u64 M ∧ i = .int .i64 z ∧ j ≤ J ∧ 0 ≤ M ∧ M < 9007199254740992 ∧ -2000000 ≤ z ∧ z ≤ 1100 ∧ Hid (M = G j ∧ (z = ((L : Int) + e - 53) + (j : Int) - 1 ∨ (j = 0 ∧ z ≤ ((L : Int) + e - 53) - 1))) ∧ wr = w') (fun _ i _ => (intOf i + 2000001).toNat)
    case atStart => exact ⟨J, 0, _, rfl, rfl, Nat.le_refl _, by omega, by omega, by omega, by omega, ⟨HGJ.out.symm, by have := HJ.out; omega⟩, rfl⟩
    case round =>
      obtain ⟨j, M, z, rfl, rfl, hj, M0, M1, z0, z1, I, rfl⟩ := hrel
      cases j with
      | zero =>
        have hM : M = G0 := I.out.1.trans HG0.out
        have hz : z < ((L : Int) + e - 53) := by have := I.out.2; omega
        have hM2 := hM.symm
        clear hM
        subst hM2
        clear I HGS HBT
        go_wp2_with fail
        refine (HBH.out _ (by omega)).mono ?_
        rintro e' w' ⟨rfl, rfl⟩
        rcases hbb with rfl | rfl
        · go_wp2_with fail
          refine HTR.out.mono ?_
          rintro e' w' ⟨rfl, rfl⟩
          by_cases hsm : G0 < 4503599627370496
          · have hu0 : U = 0 := Nat.eq_zero_of_not_pos (fun h => absurd (HUM.out h) (by omega))
            go_wp2_with fail
            refine (PZ.out _ _ (by omega) (by omega) hu0).mono ?_
            rintro e' w' ⟨rfl, rfl⟩
            go_wp2_with fail
            go_ret2
            exact ⟨⟨false, ret_sg (by simp <;> omega), by simp⟩, rfl⟩
          · go_wp2_with fail
            refine (PU.out _ _ _ (by omega) (by omega) (by have := HU.out; omega)).mono ?_
            rintro e' w' ⟨rfl, rfl⟩
            go_wp2_with fail
            go_ret2
            exact ⟨⟨false, ret_sg (by simp <;> omega), by simp⟩, rfl⟩
        · cases rs
          · have HF := of_decide_eq_false HRS.out
            cases more
            · rcases (show G0 % 2 = 0 ∨ G0 % 2 = 1 by omega) with hp | hp
              · go_wp2_with fail
                refine HTR.out.mono ?_
                rintro e' w' ⟨rfl, rfl⟩
                by_cases hsm : G0 < 4503599627370496
                · have hu0 : U = 0 := Nat.eq_zero_of_not_pos (fun h => absurd (HUM.out h) (by omega))
                  go_wp2_with fail
                  refine (PZ.out _ _ (by omega) (by omega) hu0).mono ?_
                  rintro e' w' ⟨rfl, rfl⟩
                  go_wp2_with fail
                  go_ret2
                  exact ⟨⟨false, ret_sg (by simp <;> omega), by simp [hp]⟩, rfl⟩
                · go_wp2_with fail
                  refine (PU.out _ _ _ (by omega) (by omega) (by have := HU.out; omega)).mono ?_
                  rintro e' w' ⟨rfl, rfl⟩
                  go_wp2_with fail
                  go_ret2
                  exact ⟨⟨false, ret_sg (by simp <;> omega), by simp [hp]⟩, rfl⟩
              · go_wp2_with fail
                refine HTR.out.mono ?_
                rintro e' w' ⟨rfl, rfl⟩
                by_cases hsm : G0 + 1 < 4503599627370496
                · have hu0 : U = 0 := Nat.eq_zero_of_not_pos (fun h => absurd (HUM.out h) (by omega))
                  go_wp2_with fail
                  refine (PZ.out _ _ (by omega) (by omega) hu0).mono ?_
                  rintro e' w' ⟨rfl, rfl⟩
                  go_wp2_with fail
                  go_ret2
                  exact ⟨⟨true, ret_sg (by simp <;> omega), by simp [hp]⟩, rfl⟩
                · go_wp2_with fail
                  refine (PU.out _ _ _ (by omega) (by omega) (by have := HU.out; omega)).mono ?_
                  rintro e' w' ⟨rfl, rfl⟩
                  go_wp2_with fail
                  go_ret2
                  exact ⟨⟨true, ret_sg (by simp <;> omega), by simp [hp]⟩, rfl⟩
            · go_wp2_with fail
              refine HTR.out.mono ?_
              rintro e' w' ⟨rfl, rfl⟩
              by_cases hsm : G0 + 1 < 4503599627370496
              · have hu0 : U = 0 := Nat.eq_zero_of_not_pos (fun h => absurd (HUM.out h) (by omega))
                go_wp2_with fail
                refine (PZ.out _ _ (by omega) (by omega) hu0).mono ?_
                rintro e' w' ⟨rfl, rfl⟩
                go_wp2_with fail
                go_ret2
                exact ⟨⟨true, ret_sg (by simp <;> omega), by simp⟩, rfl⟩
              · go_wp2_with fail
                refine (PU.out _ _ _ (by omega) (by omega) (by have := HU.out; omega)).mono ?_
                rintro e' w' ⟨rfl, rfl⟩
                go_wp2_with fail
                go_ret2
                exact ⟨⟨true, ret_sg (by simp <;> omega), by simp⟩, rfl⟩
          · have HF := of_decide_eq_true HRS.out
            go_wp2_with fail
            refine HTR.out.mono ?_
            rintro e' w' ⟨rfl, rfl⟩
            by_cases hsm : G0 + 1 < 4503599627370496
            · have hu0 : U = 0 := Nat.eq_zero_of_not_pos (fun h => absurd (HUM.out h) (by omega))
              go_wp2_with fail
              refine (PZ.out _ _ (by omega) (by omega) hu0).mono ?_
              rintro e' w' ⟨rfl, rfl⟩
              go_wp2_with fail
              go_ret2
              exact ⟨⟨true, ret_sg (by simp <;> omega), by simp⟩, rfl⟩
            · go_wp2_with fail
              refine (PU.out _ _ _ (by omega) (by omega) (by have := HU.out; omega)).mono ?_
              rintro e' w' ⟨rfl, rfl⟩
              go_wp2_with fail
              go_ret2
              exact ⟨⟨true, ret_sg (by simp <;> omega), by simp⟩, rfl⟩
      | succ k =>
        have hz : z = ((L : Int) + e - 53) + (k : Int) := by have := I.out.2; omega
        have hz2 : ((L : Int) + e - 53) ≤ z := by omega
        obtain ⟨s1, s2, s3⟩ := HGS.out k (by omega)
        have B1 := hid (HBT.out k (by omega))
        have gb := HGB.out k (by omega)
        obtain ⟨b, hbk⟩ : ∃ b, bv k = b := ⟨_, rfl⟩
        rw [hbk] at s1 s2 s3 B1
        have HZ := hid hz
        have S1 : Hid (2 * M + b = G k) := by rw [Hid, s1, I.out.1]
        have n1 : 2 * M + b < 9007199254740992 := by rw [S1.out]; exact gb.2
        clear s1 I hz gb hbk
        go_wp2_with fail
        refine (B1.out _ (by have := HZ.out; omega)).mono ?_
        rintro e' wq ⟨rfl, rfl⟩
        go_wp2_with fail
        go_roundw
        case measure => simp only [intOf]; omega
        case rel => exact ⟨k, _, _, rfl, rfl, by omega, by omega, by omega, by omega, by omega, ⟨S1.out, .inl (by have := HZ.out; omega)⟩, by first | rfl | trivial⟩
end Go.Proofs.YthgjflfeilbbbaaGreatDoor

/-
  The document's Round, whole.
-/
namespace Go.Proofs.YthgjflfeilbbbaaGreatDoor
open Go Go.RowKit Go.Deep

theorem ztrl_ex : ∀ (n : Nat) (V : Int), 0 < V → V.toNat ≤ n → ∃ t, Nm.Trl V t
  | 0, V, h0, h => by omega
  | n + 1, V, h0, h => by
    rcases (show V % 2 = 1 ∨ V % 2 = 0 by omega) with g | g
    · exact ⟨0, .inr ⟨V / 2, by rw [Int.pow_zero, Int.one_mul]; omega⟩⟩
    · obtain ⟨t, ht⟩ := ztrl_ex n (V / 2) (by omega) (by omega)
      rcases ht with ⟨hz, _⟩ | ⟨m, hm⟩
      · omega
      · exact ⟨t + 1, .inr ⟨m, by rw [Nm.two_succ, Int.mul_assoc, ← hm]; omega⟩⟩

/-- The digits of V from the place z on. -/
def Ie.dgs (V z : Int) : Int := if 0 ≤ z then V / 2 ^ z.toNat else V * 2 ^ (-z).toNat
/-- The digit at the place z. -/
def Ie.dgt (V z : Int) : Int := if 0 ≤ z then V / 2 ^ z.toNat % 2 else 0

theorem Ie.dgs_step (V z : Int) : Ie.dgs V z = 2 * Ie.dgs V (z + 1) + Ie.dgt V z ∧ 0 ≤ Ie.dgt V z ∧ Ie.dgt V z ≤ 1 := by
  by_cases h : 0 ≤ z
  · rw [Ie.dgs, Ie.dgs, Ie.dgt, if_pos h, if_pos (by omega), if_pos h]
    have e : (z + 1).toNat = z.toNat + 1 := by omega
    have : V / 2 ^ (z.toNat + 1) = V / 2 ^ z.toNat / 2 := by
      rw [Int.ediv_ediv_of_nonneg (Int.le_of_lt (Nm.two_pos _)), Int.mul_comm, ← Nm.two_succ]
    rw [e, this]
    omega
  · by_cases h1 : z = -1
    · subst h1
      rw [Ie.dgs, Ie.dgs, Ie.dgt, if_neg (by omega), if_pos (by omega), if_neg (by omega)]
      have e1 : (2 : Int) ^ ((-(-1) : Int)).toNat = 2 := rfl
      have e2 : (2 : Int) ^ ((-1 + 1 : Int)).toNat = 1 := rfl
      rw [e1, e2, Int.ediv_one]
      omega
    · rw [Ie.dgs, Ie.dgs, Ie.dgt, if_neg h, if_neg (by omega), if_neg h]
      have e : (-z).toNat = (-(z + 1)).toNat + 1 := by omega
      rw [e, Nm.two_succ, Int.mul_left_comm]
      omega

theorem Ie.dgs_bd (V z : Int) (L : Nat) (h0 : 0 ≤ V) (h1 : V < 2 ^ L) (hz : (L : Int) ≤ z + 53) : 0 ≤ Ie.dgs V z ∧ Ie.dgs V z < 9007199254740992 := by
  have e53 : (2 : Int) ^ 53 = 9007199254740992 := by decide
  by_cases h : 0 ≤ z
  · rw [Ie.dgs, if_pos h]
    have hp := Nm.two_pos z.toNat
    refine ⟨Int.ediv_nonneg h0 (by omega), ?_⟩
    rw [Int.ediv_lt_iff_lt_mul hp]
    have g := Nm.two_mono (show L ≤ z.toNat + 53 by omega)
    rw [Nm.two_add, e53] at g
    rw [Int.mul_comm]
    omega
  · rw [Ie.dgs, if_neg h]
    have hp := Nm.two_pos (-z).toNat
    refine ⟨Int.mul_nonneg h0 (by omega), ?_⟩
    have g1 : V * 2 ^ (-z).toNat < 2 ^ (L + (-z).toNat) := by rw [Nm.two_add]; exact Int.mul_lt_mul_of_pos_right h1 hp
    have g2 := Nm.two_mono (show L + (-z).toNat ≤ 53 by omega)
    omega

theorem Ie.dgs_top (V z : Int) (L : Nat) (h0 : 0 ≤ V) (h1 : V < 2 ^ L) (hz : (L : Int) ≤ z) : Ie.dgs V z = 0 := by
  rw [Ie.dgs, if_pos (by omega)]
  have := Nm.two_mono (show L ≤ z.toNat by omega)
  exact Int.ediv_eq_zero_of_lt h0 (by omega)

theorem refBit_dgt (p : Option Addr) (n cap : Nat) (zs : List Int) (V z : Int) (w : World) (ha : Arg w p n cap zs) (hV : Nm.val zs = V) (hz : z ≤ 9223372036854775807) :
    Calls Tryz.prog 98 #[.slice p n cap, .int .i64 z] w fun e w' => e = .returned (.int .i64 (Ie.dgt V z)) ∧ w' = w := by
  by_cases h : 0 ≤ z
  · have := refBit_any p n cap zs z.toNat z w ha hz (by omega)
    rw [hV] at this
    rw [Ie.dgt, if_pos h]
    exact this
  · rw [Ie.dgt, if_neg h]
    exact refBit_neg p n cap z w (by omega)

set_option maxRecDepth 100000 in
set_option maxHeartbeats 4000000 in
theorem zround_any (neg : Bool) (p : Option Addr) (n cap : Nat) (zs : List Int) (w : World) (ha : Arg w p n cap zs) (tz : Nm.tsize zs ≤ 4096) (V e : Int) (more : Bool) (hV : Nm.val zs = V) :
    Calls Tryz.prog 68 #[.bool neg, .slice p n cap, .int .i64 e, .bool more] w fun r w' => ∃ x, r = .returned (.tuple #[.int .u64 (Ie.sg neg x), .int .i64 0]) ∧ Ie.Rnd V 1 e more x ∧ w' = w := by
  obtain ⟨L, hL, BL, hl, _⟩ := blen_is zs ha.2.2.2.2
  have v0 : 0 ≤ V := by rw [← hV]; exact (Nm.val_bd zs ha.2.2.2.2).1
  rw [hV] at BL
  have hL2 : L ≤ 262144 := by omega
  have BG := refBig_is false p n cap zs w ha (by simp; omega)
  have B1 : Calls Tryz.prog 90 #[.slice p n cap] w fun r w' => r = .returned (.int .i64 (L : Int)) ∧ w' = w := by
    refine (refBitLen_any p n cap zs w ha).mono ?_
    rintro r w' ⟨⟨L', rfl, h⟩, rfl⟩
    rw [hV] at h
    rw [Nm.BLen.unique v0 h BL]
    exact ⟨rfl, rfl⟩
  rcases (show V = 0 ∨ 0 < V by omega) with hv | hv
  · have hL0 : L = 0 := BL.2.1 hv
    subst hL0
    have R := hid (Ie.rnd_zero 1 e more (by omega))
    subst hv
    have H1 := hid BG
    have H2 := hid B1
    have PP := hid (zput_any neg 0 0 w (by omega) (by omega) (by omega) (by omega) (by omega))
    clear ha tz hV hL BL hl hL2 v0 BG B1
    go_enter Tryz.func68, Tryz.ntmps68
    go_wp2_with fail
    refine H1.out.mono ?_
    rintro e' w' ⟨rfl, rfl⟩
    go_wp2_with fail
    refine H2.out.mono ?_
    rintro e' w' ⟨rfl, rfl⟩
    go_wp2_with fail
    refine PP.out.mono ?_
    rintro e' w' ⟨rfl, rfl⟩
    go_wp2_with fail
    go_ret2
    exact ⟨0, ret_sg (by simp), R.out, rfl⟩
  · obtain ⟨hL1, hp⟩ := BL.2.2 hv
    have l0 : ((L : Int) == 0) = false := by rw [beq_eq_false_iff_ne]; omega
    have l2 : (L : Int) ≤ 262144 := by omega
    by_cases c1 : e < -1048576
    · have R := hid (Ie.rnd_small V 1 e L 0 more BL.1 (by decide) (by omega))
      have H1 := hid BG
      have H2 := hid B1
      have PP := hid (zput_any neg 0 0 w (by omega) (by omega) (by omega) (by omega) (by omega))
      clear ha tz hV hL BL hl hL2 v0 hv hp hL1 BG B1
      go_enter Tryz.func68, Tryz.ntmps68
      go_wp2_with fail
      refine H1.out.mono ?_
      rintro e' w' ⟨rfl, rfl⟩
      go_wp2_with fail
      refine H2.out.mono ?_
      rintro e' w' ⟨rfl, rfl⟩
      go_wp2_with fail
      refine PP.out.mono ?_
      rintro e' w' ⟨rfl, rfl⟩
      go_wp2_with fail
      go_ret2
      exact ⟨0, ret_sg (by simp), R.out, rfl⟩
    · by_cases c2 : 1048576 < e
      · have R := hid (Ie.rnd_inf V 1 e (L - 1) 0 more hp (by decide) (by omega))
        have H1 := hid BG
        have H2 := hid B1
        have PP := hid (zput_any neg 2047 0 w (by omega) (by omega) (by omega) (by omega) (by omega))
        clear ha tz hV hL BL hl hL2 v0 hv hp hL1 BG B1
        go_enter Tryz.func68, Tryz.ntmps68
        go_wp2_with fail
        refine H1.out.mono ?_
        rintro e' w' ⟨rfl, rfl⟩
        go_wp2_with fail
        refine H2.out.mono ?_
        rintro e' w' ⟨rfl, rfl⟩
        go_wp2_with fail
        refine PP.out.mono ?_
        rintro e' w' ⟨rfl, rfl⟩
        go_wp2_with fail
        go_ret2
        exact ⟨_, ret_sg (by simp), R.out, rfl⟩
      · by_cases c3 : 1023 < (L : Int) - 1 + e
        · have R := hid (Ie.rnd_inf V 1 e (L - 1) 0 more hp (by decide) (by omega))
          have H1 := hid BG
          have H2 := hid B1
          have PP := hid (zput_any neg 2047 0 w (by omega) (by omega) (by omega) (by omega) (by omega))
          clear ha tz hV hL BL hl hL2 v0 hv hp hL1 BG B1
          go_enter Tryz.func68, Tryz.ntmps68
          go_wp2_with fail
          refine H1.out.mono ?_
          rintro e' w' ⟨rfl, rfl⟩
          go_wp2_with fail
          refine H2.out.mono ?_
          rintro e' w' ⟨rfl, rfl⟩
          go_wp2_with fail
          refine PP.out.mono ?_
          rintro e' w' ⟨rfl, rfl⟩
          go_wp2_with fail
          go_ret2
          exact ⟨_, ret_sg (by simp), R.out, rfl⟩
        · obtain ⟨u, hu⟩ : ∃ u : Int, ((L : Int) + e - 53 < -1074 ∧ u = -1074) ∨ (-1074 ≤ (L : Int) + e - 53 ∧ u = (L : Int) + e - 53) := by
            rcases (show (L : Int) + e - 53 < -1074 ∨ -1074 ≤ (L : Int) + e - 53 by omega) with h | h
            · exact ⟨_, .inl ⟨h, rfl⟩⟩
            · exact ⟨_, .inr ⟨h, rfl⟩⟩
          obtain ⟨U, hU⟩ : ∃ U : Nat, u + 1074 = (U : Int) := ⟨(u + 1074).toNat, by omega⟩
          obtain ⟨T, hT⟩ := ztrl_ex V.toNat V hv (Nat.le_refl _)
          have hTb : T ≤ 262144 := by
            rcases hT with ⟨h, _⟩ | ⟨m, hm⟩
            · omega
            · rcases Nat.lt_or_ge T (L + 1) with g | g
              · omega
              · exfalso
                have g1 := Nm.two_mono (show L ≤ T by omega)
                have hm1 : 1 ≤ 2 * m + 1 := by
                  rcases (show 1 ≤ 2 * m + 1 ∨ 2 * m + 1 ≤ 0 by omega) with q | q
                  · exact q
                  · have := Int.mul_le_mul_of_nonneg_left q (Int.le_of_lt (Nm.two_pos T)); rw [Int.mul_zero] at this; omega
                have g2 : (2 : Int) ^ T * 1 ≤ 2 ^ T * (2 * m + 1) := Int.mul_le_mul_of_nonneg_left hm1 (Int.le_of_lt (Nm.two_pos T))
                have := BL.1
                omega
          have TR : Calls Tryz.prog 99 #[.slice p n cap] w fun r w' => r = .returned (.int .i64 (T : Int)) ∧ w' = w := by
            refine (refTrail_any p n cap zs w ha).mono ?_
            rintro r w' ⟨⟨t, rfl, h⟩, rfl⟩
            rw [hV] at h
            rw [Nm.Trl.unique h hT]
            exact ⟨rfl, rfl⟩
          obtain ⟨J, hJ⟩ : ∃ J : Nat, u + (J : Int) = (L : Int) + e ∨ (J = 0 ∧ (L : Int) + e ≤ u) := ⟨((L : Int) + e - u).toNat, by omega⟩
          have key := zround_core neg p n cap w e u L U J T more (decide ((T : Int) + e < u - 1)) (fun j => Ie.dgs V (u + (j : Int) - e)) (fun j => Ie.dgt V (u + (j : Int) - e)) (Ie.dgt V (u - 1 - e)) BG B1
            (fun j hj ii hii => by subst hii; exact refBit_dgt p n cap zs V _ w ha hV (by omega)) (fun ii hii => by subst hii; exact refBit_dgt p n cap zs V _ w ha hV (by omega)) TR
            (by omega) hL2 (by omega) (by omega) (by omega) (by omega) hU (by omega) hu hJ (fun j _ => Ie.dgs_bd V _ L v0 BL.1 (by omega))
            (Ie.dgs_top V _ L v0 BL.1 (by omega)) (fun j _ => by
              have := Ie.dgs_step V (u + (j : Int) - e)
              rw [show u + (j : Int) - e + 1 = u + ((j + 1 : Nat) : Int) - e by omega] at this
              exact this)
            (by have := (Ie.dgs_step V (u - 1 - e)).2; omega) rfl ?_
          · refine key.mono ?_
            rintro r w' ⟨⟨up, rfl, hup⟩, rfl⟩
            refine ⟨_, rfl, ?_, rfl⟩
            simp only [Int.natCast_zero, Int.add_zero] at hup ⊢
            by_cases hk : u ≤ e
            · obtain ⟨j, hj⟩ : ∃ j : Nat, e - u = (j : Int) := ⟨(e - u).toNat, by omega⟩
              have hd : Ie.dgt V (u - 1 - e) = 0 := by rw [Ie.dgt, if_neg (by omega)]
              have hup' : up = false := by
                cases up
                · rfl
                · have := (hup.1 rfl).1; omega
              have hg : Ie.dgs V (u - e) = V * 2 ^ j := by
                rw [Ie.dgs]
                rcases Nat.eq_zero_or_pos j with h | h
                · rw [if_pos (by omega), h, show (u - e).toNat = 0 by omega, Int.pow_zero, Int.ediv_one, Int.mul_one]
                · rw [if_neg (by omega), show (-(u - e)).toNat = j by omega]
              rw [hup', hg]
              have := Ie.rnd_exact V e L j U more hv hp hL1 BL.1 (by omega) (by omega) (by omega) (by omega)
              simpa using this
            · obtain ⟨k, hk⟩ : ∃ k : Nat, u - e = (k : Int) + 1 := ⟨(u - e - 1).toNat, by omega⟩
              have hg : Ie.dgs V (u - e) = V / 2 ^ (k + 1) := by rw [Ie.dgs, if_pos (by omega), show (u - e).toNat = k + 1 by omega]
              have hd : Ie.dgt V (u - 1 - e) = V / 2 ^ k % 2 := by rw [Ie.dgt, if_pos (by omega), show (u - 1 - e).toNat = k by omega]
              have hl := Sh.lost_iff (n := k) hT hv
              rw [hg] at hup ⊢
              refine Ie.rnd_cut V e L (k + 1) U more up hv hp hL1 BL.1 (by omega) (by omega) (by omega) (by omega) ?_
              rw [hup, Nat.add_sub_cancel, hd]
              have hr : decide ((T : Int) + e < u - 1) = true ↔ V % 2 ^ k ≠ 0 := by
                rw [decide_eq_true_iff]
                have h2 : (T : Int) < (k : Int) ↔ V % 2 ^ k ≠ 0 := by simpa only [decide_eq_decide] using hl
                rw [← h2]
                omega
              constructor
              · rintro ⟨g1, g | g | g⟩
                · exact ⟨by omega, g1, .inr (.inr (hr.1 g))⟩
                · exact ⟨by omega, g1, .inl g⟩
                · exact ⟨by omega, g1, .inr (.inl g)⟩
              · rintro ⟨_, g1, g | g | g⟩
                · exact ⟨g1, .inr (.inl g)⟩
                · exact ⟨g1, .inr (.inr g)⟩
                · exact ⟨g1, .inl (hr.2 g)⟩
          · intro hU0
            have hue : u = (L : Int) + e - 53 := by omega
            rw [Ie.dgs]
            have e52 : (2 : Int) ^ 52 = 4503599627370496 := by decide
            by_cases hz : 0 ≤ u + ((0 : Nat) : Int) - e
            · rw [if_pos hz, Int.le_ediv_iff_mul_le (Nm.two_pos _)]
              rw [show L - 1 = 52 + (u + ((0 : Nat) : Int) - e).toNat by omega, Nm.two_add, e52] at hp
              exact hp
            · rw [if_neg hz]
              have g1 : (2 : Int) ^ (L - 1 + (-(u + ((0 : Nat) : Int) - e)).toNat) ≤ V * 2 ^ (-(u + ((0 : Nat) : Int) - e)).toNat := by rw [Nm.two_add]; exact Int.mul_le_mul_of_nonneg_right hp (Int.le_of_lt (Nm.two_pos _))
              rw [show L - 1 + (-(u + ((0 : Nat) : Int) - e)).toNat = 52 by omega, e52] at g1
              exact g1

set_option maxRecDepth 100000 in
theorem zround_big (neg : Bool) (p : Option Addr) (n cap : Nat) (zs : List Int) (w : World) (ha : Arg w p n cap zs) (tz : 4096 < Nm.tsize zs) (e : Int) (more : Bool) :
    Calls Tryz.prog 68 #[.bool neg, .slice p n cap, .int .i64 e, .bool more] w fun r w' => r = .returned (.tuple #[.int .u64 0, .int .i64 2]) ∧ w' = w := by
  have H1 := hid (refBig_is true p n cap zs w ha (by simp; omega))
  clear ha tz
  go_enter Tryz.func68, Tryz.ntmps68
  go_wp2_with fail
  refine H1.out.mono ?_
  rintro e' w' ⟨rfl, rfl⟩
  go_wp2_with fail
  go_ret2
  exact ⟨rfl, rfl⟩
end Go.Proofs.YthgjflfeilbbbaaGreatDoor

/-
  Room for products and shifts.
-/
namespace Go.Proofs.YthgjflfeilbbbaaGreatDoor
open Go Go.RowKit Go.Deep

theorem alloc_below (w : World) (A : Obj) : Below w.heap.size w (w.alloc A) := Below.alloc (Below.refl _ _) (Nat.le_refl _) A

theorem lit_small {D m : Int} {L s : Nat} (hD : 0 ≤ D) (h1 : D < Nm.pw L) (m0 : 0 ≤ m) (h2 : m < 18446744073709551616) (hs : 64 * L + 64 + s ≤ 262144) : D * m * 2 ^ s < Nm.pw 4096 ∧ D * m < Nm.pw 4096 := by
  have e64 : (2 : Int) ^ 64 = 18446744073709551616 := by decide
  rw [Nm.pw_two] at h1
  have p0 := Nm.two_pos s
  have g1 : D * m ≤ D * 2 ^ 64 := Int.mul_le_mul_of_nonneg_left (by omega) hD
  have g2 : D * 2 ^ 64 < 2 ^ (64 * L) * 2 ^ 64 := Int.mul_lt_mul_of_pos_right h1 (by omega)
  rw [← Nm.two_add] at g2
  have g3 : D * m < 2 ^ (64 * L + 64) := by omega
  have g4 : D * m * 2 ^ s < 2 ^ (64 * L + 64) * 2 ^ s := Int.mul_lt_mul_of_pos_right g3 p0
  rw [← Nm.two_add] at g4
  rw [Nm.pw_two]
  have g5 := Nm.two_mono (show 64 * L + 64 + s ≤ 64 * 4096 by omega)
  have g6 := Nm.two_mono (show 64 * L + 64 ≤ 64 * 4096 by omega)
  omega

theorem shl_room {V : Int} {L t : Nat} (h1 : V < Nm.pw L) (ht : 64 * L + t ≤ 262144) : V * 2 ^ t < Nm.pw 4096 := by
  rw [Nm.pw_two] at h1
  have g1 : V * 2 ^ t < 2 ^ (64 * L) * 2 ^ t := Int.mul_lt_mul_of_pos_right h1 (Nm.two_pos t)
  rw [← Nm.two_add] at g1
  have g2 := Nm.two_mono (show 64 * L + t ≤ 64 * 4096 by omega)
  rw [Nm.pw_two]
  omega

end Go.Proofs.YthgjflfeilbbbaaGreatDoor

/-
  The document's FromUint.
-/
namespace Go.Proofs.YthgjflfeilbbbaaGreatDoor
open Go Go.RowKit Go.Deep

theorem arg_z {w : World} {g : Nat} {x : Int} (h : w.heap[g]? = some (.cells #[.int .u64 x] 25 (0, 0))) (h0 : 0 ≤ x) (h1 : x < 18446744073709551616) : Arg w (some ⟨g, 0, none⟩) 1 1 [x] := by
  refine ⟨rfl, Nat.le_refl _, by omega, .inr ⟨g, 0, rfl, fun i hi => ?_⟩, Nm.Limbs.mk h0 h1 Nm.Limbs.nil⟩
  obtain rfl : i = 0 := by simpa using hi
  simp [World.cell?, h]
end Go.Proofs.YthgjflfeilbbbaaGreatDoor

namespace Go.Proofs.YthgjflfeilbbbaaGreatDoor
open Go.RowKit Go.Deep

theorem mask_low (x : Int) (r : Nat) (hr : r ≤ 63) (h0 : 0 ≤ x) (h1 : x < 18446744073709551616) : bits .and .u64 x (2 ^ r - 1) = x % 2 ^ r := by
  obtain ⟨n, rfl⟩ := Int.eq_ofNat_of_zero_le h0
  have hP : ((2 ^ r : Nat) : Int) = (2 : Int) ^ r := by simp
  have hp : 0 < 2 ^ r := Nat.pow_pos (by omega)
  have hm : (2 : Int) ^ r - 1 = ((2 ^ r - 1 : Nat) : Int) := by omega
  have hle : 2 ^ r ≤ 2 ^ 63 := Nat.pow_le_pow_right (by omega) hr
  have e63 : 2 ^ 63 = 9223372036854775808 := by decide
  have h := bits_and_u64_nat n (2 ^ r - 1) (by omega) (by omega)
  rw [hm, h, Nat.and_two_pow_sub_one_eq_mod, ← hP]
  omega

set_option maxRecDepth 100000 in
set_option maxHeartbeats 1000000 in
/-- From the number of its digits on it is the number itself. -/
theorem low_all (p : Option Addr) (n cap : Nat) (zs : List Int) (k : Int) (L : Nat) (w : World) (ha : Arg w p n cap zs) (tz : Nm.tsize zs ≤ 4096) (hk : 0 ≤ k) (hL : blen (Nm.trim zs) = (L : Int)) (hb : (L : Int) ≤ k) :
    Calls Tryz.prog 115 #[.slice p n cap, .int .i64 k] w fun e w' => ∃ r os, e = .returned (.tuple #[.slice r (List.length os) (List.length os), .int .i64 0]) ∧ Ans w.heap.size w' r os (Nm.val zs) ∧ Below w.heap.size w w' := by
  have HT := hid (lshift_ok p n cap zs k w ha tz hk)
  have HB := hid (bitLen_n L p _ _ (Nm.trim zs) w ha.trim' hL)
  have TR := trim_any p _ _ (Nm.trim zs) w ha.trim'
  rw [Nm.val_trim] at TR
  have HTR := hid TR
  clear hL ha TR
  go_enter Tryz.func115, Tryz.ntmps115
  go_wp2_with fail
  refine HT.out.mono ?_
  rintro e w' ⟨rfl, rfl⟩
  go_wp2_with fail
  refine HB.out.mono ?_
  rintro e w' ⟨rfl, rfl⟩
  go_wp2_with fail
  refine HTR.out.mono ?_
  rintro e w1 ⟨r, os, rfl, -, hans, hb1⟩
  have HA := hid hans
  have D1 := hid hb1
  clear hans hb1
  go_wp2_with fail
  go_ret2
  exact ⟨r, os, rfl, HA.out, D1.out⟩

set_option maxRecDepth 100000 in
set_option maxHeartbeats 1000000 in
theorem low_ok (p : Option Addr) (n cap : Nat) (zs : List Int) (kk : Int) (k L : Nat) (w : World) (ha : Arg w p n cap zs) (tz : Nm.tsize zs ≤ 4096) (hkk : kk = (k : Int)) (hL : blen (Nm.trim zs) = (L : Int)) (hLt : L ≤ 64 * Nm.tsize zs) (hb : k < L) :
    Calls Tryz.prog 115 #[.slice p n cap, .int .i64 kk] w fun e w' => ∃ r os, e = .returned (.tuple #[.slice r (List.length os) (List.length os), .int .i64 0]) ∧ Ans w.heap.size w' r os (Nm.val zs % 2 ^ k) ∧ Below w.heap.size w w' := by
  have hk0 : 0 ≤ kk := by omega
  have T1 := lshift_ok p n cap zs kk w ha tz hk0
  have B1 := bitLen_n L p _ _ (Nm.trim zs) w ha.trim' hL
  obtain ⟨N, HN⟩ : ∃ N, Hid (Nm.tsize zs = N) := ⟨_, rfl⟩
  rw [HN.out] at T1 B1 hLt
  have HT := hid T1
  have HB := hid B1
  have hN1 : N ≤ 4096 := by rw [← HN.out]; exact tz
  have hb1 : ¬ (L : Int) ≤ kk := by omega
  obtain ⟨sk, hsk⟩ : ∃ sk, k / 64 = sk := ⟨_, rfl⟩
  obtain ⟨r, hr⟩ : ∃ r, k % 64 = r := ⟨_, rfl⟩
  have r1 : kk / 64 = (sk : Int) := by omega
  have r2 : kk % 64 = (r : Int) := by omega
  have hr63 : r ≤ 63 := by omega
  have hskN : sk < N := by omega
  have hskN' : (sk : Int) < (N : Int) := by omega
  have hkb : kk ≤ 262144 := by omega
  have KE : Hid (k = 64 * sk + r) := by show _ = _; omega
  have L1 := hid ((Nm.trim_length zs).trans HN.out)
  have A5 := hid ha.2.2.2.2.trim
  obtain ⟨b, off, rfl, hbw, HC⟩ := ha.2.2.2.1.trim.at (by rw [L1.out]; omega)
  have V := hid (Nm.val_trim zs)
  have LT := hid (ha.2.2.2.1.trim.take sk)
  have TL : Hid (((Nm.trim zs).take sk).length = sk) := by rw [Hid, List.length_take, L1.out]; omega
  obtain ⟨x, X⟩ : ∃ x, Hid (x = (Nm.trim zs).getD sk 0) := ⟨_, rfl⟩
  have hxc := HC.out sk (by rw [L1.out]; exact hskN)
  rw [← X.out] at hxc
  have HXC := hid hxc
  have hx0 := A5.out.at sk
  rw [← X.out] at hx0
  obtain ⟨hx0, hx1⟩ := hx0
  have hP0 := Nm.two_pos r
  have hP63 : (2 : Int) ^ r ≤ 9223372036854775808 := by
    have := Nm.two_mono (show r ≤ 63 by omega)
    have e : (2 : Int) ^ 63 = 9223372036854775808 := by decide
    omega
  obtain ⟨y, hy⟩ : ∃ y, bits .and .u64 x (2 ^ r - 1) = y := ⟨_, rfl⟩
  have YE := hid ((mask_low x r hr63 hx0 hx1).symm.trans hy)
  have y0 : 0 ≤ y := by rw [← YE.out]; exact Int.emod_nonneg _ (by omega)
  have y1 : y < 2 ^ r := by rw [← YE.out]; exact Int.emod_lt_of_pos _ hP0
  have hw1 : IntKind.u64.wrap (2 ^ r) = 2 ^ r := by rw [Sh.wrap_mod]; omega
  have QE : Hid (Nm.val zs % 2 ^ k = Nm.val ((Nm.trim zs).take sk) + Nm.pw sk * y) := by
    have h1 := Nm.val_drop (Nm.trim zs) sk (by rw [L1.out]; omega)
    have h2 := Nm.val_bd _ (A5.out.take sk)
    rw [TL.out] at h2
    have h3 : Nm.val ((Nm.trim zs).drop sk) = x + 18446744073709551616 * Nm.val ((Nm.trim zs).drop (sk + 1)) := by
      rw [X.out, List.drop_eq_getElem_cons (by rw [L1.out]; exact hskN), Nm.val]
      simp [List.getD, L1.out, hskN]
    have hp := Nm.pw_pos sk
    have c1 := Int.emod_add_mul_ediv x (2 ^ r)
    rw [YE.out] at c1
    have hPQ := Sh.split64 r hr63
    have e1 : Nm.val zs = Nm.val ((Nm.trim zs).take sk) + Nm.pw sk * y + 2 ^ k * (x / 2 ^ r + 2 ^ (64 - r) * Nm.val ((Nm.trim zs).drop (sk + 1))) := by
      rw [KE.out, Nm.two_add, ← Nm.pw_two, Int.mul_assoc, Int.mul_add (2 ^ r), ← Int.mul_assoc (2 ^ r), hPQ, ← V.out, h1, h3]
      have : x + 18446744073709551616 * Nm.val ((Nm.trim zs).drop (sk + 1)) = y + (2 ^ r * (x / 2 ^ r) + 18446744073709551616 * Nm.val ((Nm.trim zs).drop (sk + 1))) := by omega
      rw [this, Int.mul_add]
      omega
    have e2 : 0 ≤ Nm.pw sk * y := Int.mul_nonneg (by omega) y0
    have e3 : Nm.pw sk * (y + 1) ≤ Nm.pw sk * 2 ^ r := Int.mul_le_mul_of_nonneg_left (by omega) (by omega)
    rw [Int.mul_add, Int.mul_one, Nm.pw_two, ← Nm.two_add, ← KE.out, ← Nm.pw_two] at e3
    show _ = _
    rw [e1, Int.add_mul_emod_self_left, Int.emod_eq_of_lt (by omega) (by omega)]
  have Y64 : Hid (0 ≤ y ∧ y < 18446744073709551616) := by show _ ∧ _; omega
  clear T1 B1 ha tz hL hkk hsk hr hLt hb hxc y0 y1
  go_enter Tryz.func115, Tryz.ntmps115
  go_wp2_with fail
  refine HT.out.mono ?_
  rintro e w' ⟨rfl, rfl⟩
  go_wp2_with fail
  refine HB.out.mono ?_
  rintro e w' ⟨rfl, rfl⟩
  go_wp2_with fail
  refine (widened_any _ sk _ 1 1 ((Nm.trim zs).take sk) _ rfl TL.out (by omega) LT.out).mono ?_
  rintro e w1 ⟨rfl, ho, hb2, hz2⟩
  have hxc1 : w1.cell? ⟨b, off + sk, none⟩ = some (.int .u64 x) := (hb2.cell (p := ⟨b, off + sk, none⟩) hbw).trans HXC.out
  obtain ⟨u, hu⟩ : ∃ u, w1.cell? ⟨w'.heap.size, sk, none⟩ = some (.int .u64 u) := ⟨_, ho.cell sk (by rw [List.length_append, TL.out]; simp)⟩
  have hfr := ho.free sk
  have O1 := hid (ho.set sk y)
  have LL : ((Nm.trim zs).take sk ++ List.replicate 1 0).length = sk + 1 := by rw [List.length_append, TL.out, List.length_replicate]
  have O2 : Hid ((((Nm.trim zs).take sk ++ List.replicate 1 0).set sk y).length = sk + 1) := by rw [Hid, List.length_set, LL]
  have O3 := hid (((A5.out.take sk).append (Nm.Limbs.replicate 1)).set sk Y64.out.1 Y64.out.2)
  have O4 : Hid (Nm.val (((Nm.trim zs).take sk ++ List.replicate 1 0).set sk y) = Nm.val zs % 2 ^ k) := by
    have e0 : ((Nm.trim zs).take sk ++ List.replicate 1 0).getD sk 0 = 0 := by
      rw [List.getD, List.getElem?_append_right (by rw [TL.out]; omega), TL.out, Nat.sub_self]
      rfl
    rw [Hid, Nm.val_set _ _ _ (by omega), e0, Int.sub_zero, Nm.val_append, Nm.val_replicate, Int.mul_zero, Int.add_zero, QE.out]
  have O5 := hid (hb2.setCell (p := ⟨w'.heap.size, sk, none⟩) (Nat.le_refl _) (.int .u64 y))
  clear ho hb2 hz2 LL
  go_wp2_with fail
  refine (trimmed_any _ (sk + 1) (sk + 1) (((Nm.trim zs).take sk ++ List.replicate 1 0).set sk y) _ O2.out (Nat.le_refl _) (by omega) O1.out.lies).mono ?_
  rintro e w3 ⟨rfl, rfl⟩
  go_wp2_with fail
  go_ret2
  refine ⟨some ⟨w'.heap.size, 0, none⟩, Nm.trim (((Nm.trim zs).take sk ++ List.replicate 1 0).set sk y), ret_two (Nm.trim_length _).symm, ⟨O1.out.lies.trim, O3.out.trim, ?_, ?_, ?_⟩, O5.out⟩
  · rw [Nm.trim_trim, Nm.trim_length]
  · rw [Nm.val_trim, O4.out]
  · intro a h
    cases h
    exact Nat.le_refl _
end Go.Proofs.YthgjflfeilbbbaaGreatDoor

/-
  Low, whatever the number of bits.
-/
namespace Go.Proofs.YthgjflfeilbbbaaGreatDoor
open Go.RowKit Go.Deep

theorem low_any (p : Option Addr) (n cap : Nat) (zs : List Int) (kk : Int) (k : Nat) (w : World) (ha : Arg w p n cap zs) (tz : Nm.tsize zs ≤ 4096) (hkk : kk = (k : Int)) :
    Calls Tryz.prog 115 #[.slice p n cap, .int .i64 kk] w fun e w' => ∃ r os, e = .returned (.tuple #[.slice r (List.length os) (List.length os), .int .i64 0]) ∧ Ans w.heap.size w' r os (Nm.val zs % 2 ^ k) ∧ Below w.heap.size w w' := by
  obtain ⟨L, hL, BL, hl, _⟩ := blen_is zs ha.2.2.2.2
  have hv0 := (Nm.val_bd zs ha.2.2.2.2).1
  rw [← blen_trim_eq] at hL
  by_cases hb : k < L
  · exact low_ok p n cap zs kk k L w ha tz hkk hL hl hb
  · have hlt : Nm.val zs < 2 ^ k := by
      have := BL.1
      have := Nm.two_mono (show L ≤ k by omega)
      omega
    rw [Int.emod_eq_of_lt hv0 hlt]
    exact low_all p n cap zs kk L w ha tz (by omega) hL (by omega)
end Go.Proofs.YthgjflfeilbbbaaGreatDoor

/-
  ieee: ratio (where the divisor leaves room), Round, RoundRatio.
-/
namespace Go.Proofs.YthgjflfeilbbbaaGreatDoor
open Go Go.RowKit Go.Deep

namespace Ie
/-- What is told of a fraction: the whole part of it moved, how far, and whether there is a rest. -/
def Quo (n d Q sh : Int) (rest : Bool) : Prop := ∀ e x, Rnd Q 1 (e - sh) rest x → Rnd n d e false x

theorem quo_up (V D : Int) (L M s : Nat) (hv : 2 ^ (L - 1) ≤ V) (hl : 1 ≤ L) (d0 : 0 < D) (hd : D < 2 ^ M) (hs : L + s = M + 64) : Quo V D (V * 2 ^ s / D) s (decide (V * 2 ^ s % D ≠ 0)) := by
  intro e x h
  refine Rnd.num s (rnd_floor (V * 2 ^ s) D (e - s) x d0 ?_ h)
  rw [Int.le_ediv_iff_mul_le d0]
  have g1 : (2 : Int) ^ (L - 1 + s) ≤ V * 2 ^ s := by rw [Nm.two_add]; exact Int.mul_le_mul_of_nonneg_right hv (by have := Nm.two_pos s; omega)
  rw [show L - 1 + s = 63 + M by omega, Nm.two_add] at g1
  have e63 : (2 : Int) ^ 63 = 9223372036854775808 := by decide
  rw [e63] at g1
  have := Nm.two_pos M
  omega

theorem quo_down (V D : Int) (L M s : Nat) (v0 : 0 < V) (hv : 2 ^ (L - 1) ≤ V) (hl : 1 ≤ L) (d0 : 0 < D) (hd : D < 2 ^ M) (hs : L = M + 64 + s) : Quo V D (V / 2 ^ s / D) (-(s : Int)) (decide (V % 2 ^ s ≠ 0) || decide (V / 2 ^ s % D ≠ 0)) := by
  have hp := Nm.two_pos s
  have hD : 0 < D * 2 ^ s := Int.mul_pos d0 hp
  have a1 := Int.mul_ediv_add_emod V (2 ^ s)
  have a2 := Int.emod_nonneg V (show (2 : Int) ^ s ≠ 0 by omega)
  have a3 := Int.emod_lt_of_pos V hp
  have b1 := Int.mul_ediv_add_emod (V / 2 ^ s) D
  have b2 := Int.emod_nonneg (V / 2 ^ s) (show D ≠ 0 by omega)
  have b3 := Int.emod_lt_of_pos (V / 2 ^ s) d0
  generalize V % 2 ^ s = r1 at *
  generalize V / 2 ^ s = q1 at *
  generalize q1 % D = r2 at *
  generalize q1 / D = q at *
  have c0 : 0 ≤ 2 ^ s * r2 := Int.mul_nonneg (by omega) b2
  have c1 : 2 ^ s * (r2 + 1) ≤ 2 ^ s * D := Int.mul_le_mul_of_nonneg_left (by omega) (by omega)
  rw [Int.mul_add, Int.mul_one, Int.mul_comm (2 ^ s) D] at c1
  have key : q * (D * 2 ^ s) + (2 ^ s * r2 + r1) = V := by
    rw [← a1, ← b1, Int.mul_add, ← Int.add_assoc]
    congr 2
    ac_rfl
  obtain ⟨k1, k2⟩ := div_is (A := V) (B := D * 2 ^ s) (q := q) (r := 2 ^ s * r2 + r1) (by omega) (by omega) key
  intro e x h
  refine Rnd.den s (rnd_floor V (D * 2 ^ s) (e + s) x hD ?_ ?_)
  · rw [Int.le_ediv_iff_mul_le hD]
    rw [show L - 1 = 63 + (M + s) by omega, Nm.two_add, Nm.two_add] at hv
    have e63 : (2 : Int) ^ 63 = 9223372036854775808 := by decide
    have g : D * 2 ^ s ≤ 2 ^ M * 2 ^ s := Int.mul_le_mul_of_nonneg_right (by omega) (by omega)
    rw [e63] at hv
    omega
  · rw [k1, k2]
    have e1 : decide (2 ^ s * r2 + r1 ≠ 0) = (decide (r1 ≠ 0) || decide (r2 ≠ 0)) := by
      rw [Bool.eq_iff_iff, Bool.or_eq_true, decide_eq_true_iff, decide_eq_true_iff, decide_eq_true_iff]
      rcases (show r2 = 0 ∨ 0 < r2 by omega) with h0 | h0
      · subst h0
        rw [Int.mul_zero]
        omega
      · have := Int.mul_pos hp h0
        omega
    rw [e1]
    rw [show e - -(s : Int) = e + s by omega] at h
    exact h
end Ie

/-- What ratio tells. -/
def RatioTold (V D : Int) (w : World) (e : Ending) (w' : World) : Prop :=
  ∃ r os Q sh rest, e = .returned (.tuple #[.slice r (List.length os) (List.length os), .int .i64 sh, .bool rest]) ∧ Ans w.heap.size w' r os Q ∧ Below w.heap.size w w' ∧ Nm.tsize os ≤ 4096 ∧ (-262144 ≤ sh ∧ sh ≤ 262208) ∧ Ie.Quo V D Q sh rest

theorem pos_len {B : Nat} {w : World} {r : Option Addr} {os : List Int} {v : Int} (h : Ans B w r os v) : decide (0 < os.length) = decide (v ≠ 0) := by
  have h1 := Nm.tsize_zero_iff h.2.1
  rw [h.2.2.1, h.2.2.2.1] at h1
  rw [decide_eq_decide]
  omega

theorem ans_small {B : Nat} {w : World} {r : Option Addr} {os : List Int} {v : Int} (h : Ans B w r os v) (k : Nat) (hv : v < Nm.pw k) : os.length ≤ k := by
  have := (Nm.tsize_le_iff h.2.1 k).2 (by rw [h.2.2.2.1]; exact hv)
  rw [h.2.2.1] at this
  exact this

set_option maxRecDepth 100000 in
set_option maxHeartbeats 2000000 in
theorem ratio_up (p q : Option Addr) (n cap m cap' : Nat) (zs ys : List Int) (w : World) (ha : Arg w p n cap zs) (hb : Arg w q m cap' ys) (tz : Nm.tsize zs ≤ 4096) (ty : Nm.tsize ys ≤ 4096) (V D : Int) (L M s : Nat) (hV : Nm.val zs = V) (hD : Nm.val ys = D) (hv : 0 < V) (hd : 0 < D)
    (hL : blen zs = (L : Int)) (hM : blen ys = (M : Int)) (BL : Nm.BLen V L) (BM : Nm.BLen D M) (hM2 : M + 64 ≤ 262144) (hs : L + s = M + 64) :
    Calls Tryz.prog 64 #[.slice p n cap, .slice q m cap'] w fun e w' => RatioTold V D w e w' := by
  have B1 := hid (bitLen_n L p n cap zs w ha hL)
  have B2 := hid (bitLen_n M q m cap' ys w hb hM)
  have hpw : V * 2 ^ s < Nm.pw 4096 := by
    have g1 : V * 2 ^ s < 2 ^ (L + s) := by rw [Nm.two_add]; exact Int.mul_lt_mul_of_pos_right BL.1 (Nm.two_pos s)
    have g2 := Nm.two_mono (show L + s ≤ 64 * 4096 by omega)
    rw [Nm.pw_two]
    omega
  have S := hid (fun (kk : Int) (hkk : kk = (s : Int)) => shl_any p n cap zs kk s w ha tz hkk (by rw [hV]; exact hpw))
  have Q := hid (Ie.quo_up V D L M s (BL.2.2 hv).2 (BL.2.2 hv).1 hd BM.1 hs)
  have HV := hid hV
  have HD := hid hD
  have HP := hid hpw
  have HB := hid hb
  have TY := hid ty
  have v1 : 0 < Nm.tsize ys := by
    rcases Nat.eq_zero_or_pos (Nm.tsize ys) with h | h
    · have := (Nm.tsize_zero_iff hb.2.2.2.2).1 h; omega
    · exact h
  have HY := hid v1
  have l1 : decide (262144 < (M : Int) + 64) = false := by simp; omega
  have l2 : decide ((M : Int) + 64 - (L : Int) < 0) = false := by simp; omega
  have l3 : (L : Int) ≤ 300000 := by omega
  have l4 : (M : Int) ≤ 300000 := by omega
  have ls := hid (show (M : Int) + 64 - (L : Int) = (s : Int) by omega)
  have HS := hid (show (s : Int) ≤ 262208 by omega)
  have vp := hid (show 0 ≤ V * 2 ^ s from Int.mul_nonneg (by omega) (by have := Nm.two_pos s; omega))
  have hdd := hid hd
  clear ha hb tz ty hV hD hv hd hL hM BL BM hM2 hs hpw v1
  go_enter Tryz.func64, Tryz.ntmps64
  go_wp2_with fail
  refine B2.out.mono ?_
  rintro e w' ⟨rfl, rfl⟩
  go_wp2_with fail
  refine B1.out.mono ?_
  rintro e w' ⟨rfl, rfl⟩
  go_wp2_with fail
  refine (S.out _ ls.out).mono ?_
  rintro e w1 ⟨r, os, rfl, A, hB⟩
  rw [HV.out] at A
  have A1 := ans_small A 4096 HP.out
  have hb1 := HB.out.below hB (Nat.le_refl _)
  have DM := divMod_ok r q _ _ m cap' os ys w1 (A.arg (by omega)) hb1 (by rw [A.2.2.1]; exact A1) TY.out HY.out
  rw [A.2.2.2.1, HD.out] at DM
  have DM := hid DM
  have HB1 := hid hB
  clear A A1 hb1 hB S B1 B2 HB
  go_wp2_with fail
  refine DM.out.mono ?_
  rintro e w2 ⟨r1, qs, r2, rs, rfl, A2, A3, hB2⟩
  have P3 := hid (pos_len A3)
  have vq : V * 2 ^ s / D < Nm.pw 4096 := by
    have := Int.ediv_le_self D vp.out
    have := HP.out
    omega
  have ch := HB1.out.trans (hB2.mono HB1.out.size)
  have K : Hid (∀ sh rest, sh = (s : Int) → rest = decide (V * 2 ^ s % D ≠ 0) → RatioTold V D w' (.returned (.tuple #[.slice r1 (List.length qs) (List.length qs), .int .i64 sh, .bool rest])) w2) := by
    intro sh rest hsh hrest
    subst hsh hrest
    have A2' : Ans w'.heap.size w2 r1 qs (V * 2 ^ s / D) := ⟨A2.1, A2.2.1, A2.2.2.1, A2.2.2.2.1, fun a h => by have := A2.2.2.2.2 a h; have := HB1.out.size; omega⟩
    exact ⟨r1, qs, _, _, _, rfl, A2', ch, by rw [A2.2.2.1]; exact ans_small A2 4096 vq, ⟨by have := HS.out; omega, by have := HS.out; omega⟩, Q.out⟩
  clear A2 A3 vq ch hB2 DM HB1 Q HV HD HP TY HY vp hdd
  go_wp2_with fail
  go_ret3
  exact K.out _ _ ls.out P3.out
set_option maxRecDepth 100000 in
set_option maxHeartbeats 2000000 in
theorem ratio_down (p q : Option Addr) (n cap m cap' : Nat) (zs ys : List Int) (w : World) (ha : Arg w p n cap zs) (hb : Arg w q m cap' ys) (tz : Nm.tsize zs ≤ 4096) (ty : Nm.tsize ys ≤ 4096) (V D : Int) (L M s : Nat) (hV : Nm.val zs = V) (hD : Nm.val ys = D) (hv : 0 < V) (hd : 0 < D)
    (hL : blen zs = (L : Int)) (hM : blen ys = (M : Int)) (BL : Nm.BLen V L) (BM : Nm.BLen D M) (hM2 : M + 64 ≤ 262144) (hL2 : L ≤ 262144) (hs : L = M + 64 + s) (hs0 : 0 < s) (hT : Tab w) :
    Calls Tryz.prog 64 #[.slice p n cap, .slice q m cap'] w fun e w' => RatioTold V D w e w' := by
  have B1 := hid (bitLen_n L p n cap zs w ha hL)
  have B2 := hid (bitLen_n M q m cap' ys w hb hM)
  have hp := Nm.two_pos s
  have hpw : V / 2 ^ s < Nm.pw 4096 := by
    have g1 := Int.ediv_le_self (2 ^ s) (show 0 ≤ V by omega)
    have g2 := Nm.two_mono (show L ≤ 64 * 4096 by omega)
    have := BL.1
    rw [Nm.pw_two]
    omega
  have S := hid (fun (kk : Int) (hkk : kk = (s : Int)) => shr_any p n cap zs kk s w ha hT tz hkk)
  have Q := hid (Ie.quo_down V D L M s hv (BL.2.2 hv).2 (BL.2.2 hv).1 hd BM.1 hs)
  have HV := hid hV
  have HD := hid hD
  have HP := hid hpw
  have HB := hid hb
  have TY := hid ty
  have v1 : 0 < Nm.tsize ys := by
    rcases Nat.eq_zero_or_pos (Nm.tsize ys) with h | h
    · have := (Nm.tsize_zero_iff hb.2.2.2.2).1 h; omega
    · exact h
  have HY := hid v1
  have l1 : decide (262144 < (M : Int) + 64) = false := by simp; omega
  have l2 : (M : Int) + 64 - (L : Int) < 0 := by omega
  have l3 : (L : Int) ≤ 300000 := by omega
  have l4 : (M : Int) ≤ 300000 := by omega
  have ls := hid (show (M : Int) + 64 - (L : Int) = -(s : Int) by omega)
  have HS := hid (show (s : Int) ≤ 262144 by omega)
  have vp := hid (show 0 ≤ V / 2 ^ s from Int.ediv_nonneg (by omega) (by omega))
  obtain ⟨lost, hlost⟩ : ∃ lost, decide (V % 2 ^ s ≠ 0) = lost := ⟨_, rfl⟩
  rw [hlost] at Q
  have HLO := hid hlost
  have hdd := hid hd
  clear ha hb tz ty hV hD hv hd hL hM BL BM hM2 hs hs0 hpw v1 hT hL2 hp hlost
  go_enter Tryz.func64, Tryz.ntmps64
  go_wp2_with fail
  refine B2.out.mono ?_
  rintro e w' ⟨rfl, rfl⟩
  go_wp2_with fail
  refine B1.out.mono ?_
  rintro e w' ⟨rfl, rfl⟩
  go_wp2_with fail
  refine (S.out _ (by have := ls.out; omega)).mono ?_
  rintro e w1 ⟨r, os, rfl, A, hB⟩
  rw [HV.out] at A ⊢
  rw [HLO.out]
  have A1 := ans_small A 4096 HP.out
  have hb1 := HB.out.below hB (Nat.le_refl _)
  have DM := divMod_ok r q _ _ m cap' os ys w1 (A.arg (by omega)) hb1 (by rw [A.2.2.1]; exact A1) TY.out HY.out
  rw [A.2.2.2.1, HD.out] at DM
  have DM := hid DM
  have HB1 := hid hB
  clear A A1 hb1 hB S B1 B2 HB
  go_wp2_with fail
  refine DM.out.mono ?_
  rintro e w2 ⟨r1, qs, r2, rs, rfl, A2, A3, hB2⟩
  have P3 := hid (pos_len A3)
  have vq : V / 2 ^ s / D < Nm.pw 4096 := by
    have := Int.ediv_le_self D vp.out
    have := HP.out
    omega
  have ch := HB1.out.trans (hB2.mono HB1.out.size)
  have K : Hid (∀ sh rest, sh = -(s : Int) → rest = (lost || decide (V / 2 ^ s % D ≠ 0)) → RatioTold V D w' (.returned (.tuple #[.slice r1 (List.length qs) (List.length qs), .int .i64 sh, .bool rest])) w2) := by
    intro sh rest hsh hrest
    subst hsh hrest
    have A2' : Ans w'.heap.size w2 r1 qs (V / 2 ^ s / D) := ⟨A2.1, A2.2.1, A2.2.2.1, A2.2.2.2.1, fun a h => by have := A2.2.2.2.2 a h; have := HB1.out.size; omega⟩
    exact ⟨r1, qs, _, _, _, rfl, A2', ch, by rw [A2.2.2.1]; exact ans_small A2 4096 vq, ⟨by have := HS.out; omega, by have := HS.out; omega⟩, Q.out⟩
  clear A2 A3 vq ch hB2 DM HB1 Q HV HD HP TY HY vp hdd
  cases lost
  · go_wp2_with fail
    go_ret3
    exact K.out _ _ ls.out (by rw [Bool.false_or]; exact P3.out)
  · go_wp2_with fail
    go_ret3
    exact K.out _ _ ls.out (by simp)

theorem ratio_any (p q : Option Addr) (n cap m cap' : Nat) (zs ys : List Int) (w : World) (ha : Arg w p n cap zs) (hb : Arg w q m cap' ys) (hT : Tab w) (tz : Nm.tsize zs ≤ 4096) (ty : Nm.tsize ys ≤ 4095) (V D : Int) (hV : Nm.val zs = V) (hD : Nm.val ys = D) (hv : 0 < V) (hd : 0 < D) :
    Calls Tryz.prog 64 #[.slice p n cap, .slice q m cap'] w fun e w' => RatioTold V D w e w' := by
  obtain ⟨L, hL, BL, hl, _⟩ := blen_is zs ha.2.2.2.2
  obtain ⟨M, hM, BM, hm, _⟩ := blen_is ys hb.2.2.2.2
  rw [hV] at BL
  rw [hD] at BM
  rcases Nat.lt_or_ge (M + 64) L with h | h
  · exact ratio_down p q n cap m cap' zs ys w ha hb tz (by omega) V D L M (L - (M + 64)) hV hD hv hd hL hM BL BM (by omega) (by omega) (by omega) (by omega) hT
  · exact ratio_up p q n cap m cap' zs ys w ha hb tz (by omega) V D L M (M + 64 - L) hV hD hv hd hL hM BL BM (by omega) (by omega)

set_option maxRecDepth 100000 in
set_option maxHeartbeats 2000000 in
theorem roundRatio_any (neg : Bool) (p q : Option Addr) (n cap m cap' : Nat) (zs ys : List Int) (w : World) (ha : Arg w p n cap zs) (hb : Arg w q m cap' ys) (hT : Tab w) (tz : Nm.tsize zs ≤ 4096) (ty : Nm.tsize ys ≤ 4095) (V D e : Int) (hV : Nm.val zs = V) (hD : Nm.val ys = D) (hd : 0 < D) :
    Calls Tryz.prog 43 #[.bool neg, .slice p n cap, .slice q m cap', .int .i64 e] w fun r w' => ∃ x, r = .returned (.tuple #[.int .u64 (Ie.sg neg x), .int .i64 0]) ∧ Ie.Rnd V D e false x ∧ Below w.heap.size w w' := by
  obtain ⟨L, hL, BL, hl, _⟩ := blen_is zs ha.2.2.2.2
  obtain ⟨M, hM, BM, hm, _⟩ := blen_is ys hb.2.2.2.2
  rw [hV] at BL
  rw [hD] at BM
  have B1 := hid (bitLen_n L p n cap zs w ha hL)
  have B2 := hid (bitLen_n M q m cap' ys w hb hM)
  have v0 : 0 ≤ V := by rw [← hV]; exact (Nm.val_bd zs ha.2.2.2.2).1
  have l1 : decide (262144 < (L : Int)) = false := by simp; omega
  have l2 : decide (262144 < (M : Int)) = false := by simp; omega
  have m0 : 0 < M := (BM.2.2 hd).1
  have l3 : ((M : Int) == 0) = false := by rw [beq_eq_false_iff_ne]; omega
  rcases (show V = 0 ∨ 0 < V by omega) with hv | hv
  · have hL0 : L = 0 := BL.2.1 hv
    subst hL0
    have R := hid (Ie.rnd_zero D e false hd)
    have SG := hid (signed_any neg 0 w (by omega) (by omega))
    subst hv
    clear ha hb hT tz ty hV hD hd hL hM BL BM hl hm v0 m0
    go_enter Tryz.func43, Tryz.ntmps43
    go_wp2_with fail
    refine B1.out.mono ?_
    rintro e' w' ⟨rfl, rfl⟩
    go_wp2_with fail
    refine B2.out.mono ?_
    rintro e' w' ⟨rfl, rfl⟩
    go_wp2_with fail
    refine B2.out.mono ?_
    rintro e' w' ⟨rfl, rfl⟩
    go_wp2_with fail
    refine B1.out.mono ?_
    rintro e' w' ⟨rfl, rfl⟩
    go_wp2_with fail
    refine SG.out.mono ?_
    rintro e' w' ⟨rfl, rfl⟩
    go_wp2_with fail
    go_ret2
    exact ⟨0, rfl, R.out, Below.refl _ _⟩
  · have RA := hid (ratio_any p q n cap m cap' zs ys w ha hb hT tz ty V D hV hD hv hd)
    have WI := hid (fun (x : Int) => Ie.win_ok (n := V) (d := D) (e := e) (x := x) (more := false) L M v0 BL.1 hd (by have := BM.1; omega) (by omega) (by omega))
    have W0 := hid (fun (wx : World) => within_any e wx)
    obtain ⟨we, hwe⟩ : ∃ we, Ie.win e = we := ⟨_, rfl⟩
    have wb := Ie.win_bd e
    rw [hwe] at wb W0 WI
    obtain ⟨wb1, wb2⟩ := wb
    have l0 : 0 < L := (BL.2.2 hv).1
    have l4 : ((L : Int) == 0) = false := by rw [beq_eq_false_iff_ne]; omega
    have HT := hid hT
    clear ha hb hT tz ty hV hD hd hL hM BL BM hl hm v0 m0 hwe l0 hv
    go_enter Tryz.func43, Tryz.ntmps43
    go_wp2_with fail
    refine B1.out.mono ?_
    rintro e' w' ⟨rfl, rfl⟩
    go_wp2_with fail
    refine B2.out.mono ?_
    rintro e' w' ⟨rfl, rfl⟩
    go_wp2_with fail
    refine B2.out.mono ?_
    rintro e' w' ⟨rfl, rfl⟩
    go_wp2_with fail
    refine B1.out.mono ?_
    rintro e' w' ⟨rfl, rfl⟩
    go_wp2_with fail
    refine RA.out.mono ?_
    rintro e' w1 ⟨r, os, Q, sh, rest, rfl, A, hB, to4, ⟨s1, s2⟩, QU⟩
    have lo : os.length ≤ 4096 := by rw [← A.2.2.1]; exact to4
    have NR := hid (nearest_any r _ _ os w1 (A.arg (by omega)) (HT.out.below hB) to4 Q (we - sh) rest A.2.2.2.1 (by omega) (by omega))
    have HB := hid hB
    have QQ := hid QU
    clear A hB to4 QU lo B1 B2 RA HT
    go_wp2_with fail
    refine (W0.out w1).mono ?_
    rintro e' w' ⟨rfl, rfl⟩
    go_wp2_with fail
    refine NR.out.mono ?_
    rintro e' w2 ⟨x, rfl, R, hB⟩
    have bd := R.bd
    have R1 := hid (WI.out x (QQ.out we x R))
    have SG := hid (signed_any neg x w2 bd.1 (by omega))
    have HB2 := hid (HB.out.trans (hB.mono HB.out.size))
    clear R bd hB
    go_wp2_with fail
    refine SG.out.mono ?_
    rintro e' w3 ⟨rfl, rfl⟩
    go_wp2_with fail
    go_ret2
    exact ⟨x, rfl, R1.out, HB2.out⟩
end Go.Proofs.YthgjflfeilbbbaaGreatDoor

/-
  The document's against: how a double, or the middle above it, lies against a fraction.
-/
namespace Go.Proofs.YthgjflfeilbbbaaGreatDoor
open Go Go.RowKit Go.Deep

/-- The double's mantissa, doubled, and one more for the middle. -/
def Ie.mm (x : Int) (middle : Bool) : Int := if middle = true then 2 * Ie.man x + 1 else 2 * Ie.man x

set_option maxRecDepth 100000 in
set_option maxHeartbeats 8000000 in
theorem against_any (x : Int) (middle : Bool) (p q : Option Addr) (n cap n' cap' : Nat) (zs ys : List Int) (w : World) (ha : Arg w p n cap zs) (hb : Arg w q n' cap' ys) (tz : Nm.tsize zs ≤ 4096) (ty : Nm.tsize ys ≤ 4096) (x0 : 0 ≤ x) (x1 : x ≤ 9218868437227405312)
    (e : Int) (e0 : -1048576 ≤ e) (e1 : e ≤ 1048576) (V D : Int) (hV : Nm.val zs = V) (hD : Nm.val ys = D) (s t : Nat) (hst : (s : Int) - t = (Ie.ex x : Int) - 1075 - e) (h0 : s = 0 ∨ t = 0) :
    Calls Tryz.prog 101 #[.int .u64 x, .bool middle, .slice p n cap, .slice q n' cap', .int .i64 e] w fun r w' => r = .returned (.int .i64 (cmpI (D * Ie.mm x middle * 2 ^ s) (V * 2 ^ t))) ∧ Below w.heap.size w w' := by
  obtain ⟨m, hm⟩ : ∃ m, Ie.mm x middle = m := ⟨_, rfl⟩
  obtain ⟨k, hk⟩ : ∃ k, (Ie.ex x : Int) - 1075 = k := ⟨_, rfl⟩
  have mb := Ie.man_nn x x0
  have m0 : 0 ≤ m ∧ m < 18446744073709551616 := by rw [← hm, Ie.mm]; split <;> omega
  have kb : -1075 ≤ k ∧ k ≤ 972 := by rw [← hk]; have : (Ie.ex x : Int) ≤ 2046 := by simp only [Ie.ex]; omega
                                      omega
  have d0 : 0 ≤ D := by rw [← hD]; exact (Nm.val_bd ys hb.2.2.2.2).1
  have d1 : D < Nm.pw 4096 := by rw [← hD]; exact (Nm.tsize_le_iff hb.2.2.2.2 4096).1 ty
  have v1 : V < Nm.pw 4096 := by rw [← hV]; exact (Nm.tsize_le_iff ha.2.2.2.2 4096).1 tz
  have dm : D * m < Nm.pw 4097 := by
    have g1 : D * m ≤ D * 18446744073709551616 := Int.mul_le_mul_of_nonneg_left (by omega) d0
    have e2 : Nm.pw 4097 = 18446744073709551616 * Nm.pw 4096 := Nm.pw_succ 4096
    omega
  -- the product
  have MU : Hid (∀ g : Obj, g = .cells #[.int .u64 m] 25 → Calls Tryz.prog 66 #[.slice q n' cap', .slice (some ⟨w.heap.size, 0, none⟩) 1 1] (w.alloc g) fun e w' => ∃ r os, e = .returned (.slice r (List.length os) (List.length os)) ∧ (Arg w' r os.length os.length os ∧ Nm.val os = D * m ∧ Nm.tsize os ≤ 1099511627776) ∧ Below w.heap.size w w') := by
    intro g hg
    subst hg
    have hB := alloc_below w (.cells #[.int .u64 m] 25)
    have hmv : Nm.val [m] = m := by simp [Nm.val]
    have := times_any q (some ⟨w.heap.size, 0, none⟩) n' cap' 1 1 ys [m] _ (hb.below hB (Nat.le_refl _)) (arg_z (heap_alloc_new w _) m0.1 m0.2) (by omega) (by have := Nm.tsize_le [m]; simp at this; omega)
    rw [hD, hmv] at this
    refine this.mono ?_
    rintro e w' ⟨r, os, rfl, A, hB2⟩
    have l := ans_small A 4097 dm
    exact ⟨r, os, rfl, ⟨A.arg (by omega), A.2.2.2.1, by rw [A.2.2.1]; omega⟩, hB.trans (hB2.mono hB.size)⟩
  have LI : Hid (∀ (wx : World) (r : Option Addr) (n1 c1 : Nat) (os : List Int) (v kk : Int) (j : Nat), Arg wx r n1 c1 os → Nm.val os = v → Nm.tsize os ≤ 1099511627776 → kk = (j : Int) → j ≤ 4194304 → v < Nm.pw 4097 → Calls Tryz.prog 91 #[.slice r n1 c1, .int .i64 kk] wx fun e w' => ∃ r os, e = .returned (.slice r (List.length os) (List.length os)) ∧ (Arg w' r os.length os.length os ∧ Nm.val os = v * 2 ^ j) ∧ Below wx.heap.size wx w') := by
    intro wx r n1 c1 os v kk j A hv hs hkk hj hvb
    have := lift_any r n1 c1 os kk j wx A hs hkk hj
    rw [hv] at this
    refine this.mono ?_
    rintro e w' ⟨r', os', rfl, A', hB2⟩
    have hb2 : v * 2 ^ j < Nm.pw 100000 := by
      have g1 : v * 2 ^ j < Nm.pw 4097 * 2 ^ j := Int.mul_lt_mul_of_pos_right hvb (Nm.two_pos j)
      have g2 : Nm.pw 4097 * 2 ^ j ≤ Nm.pw 100000 := by rw [Nm.pw_two, Nm.pw_two, ← Nm.two_add]; exact Nm.two_mono (by omega)
      exact Int.lt_of_lt_of_le g1 g2
    have l := ans_small A' 100000 hb2
    exact ⟨r', os', rfl, ⟨A'.arg (by omega), A'.2.2.2.1⟩, hB2⟩
  have CM := hid (fun (wx : World) (r r' : Option Addr) (n1 c1 n2 c2 : Nat) (os os' : List Int) (A : Arg wx r n1 c1 os) (A' : Arg wx r' n2 c2 os') => refCmp_any r r' n1 c1 n2 c2 os os' wx A A')
  have HA := hid ha
  have HV := hid hV
  have TZ := hid tz
  have V1 : Hid (V < Nm.pw 4097) := by
    have e2 : Nm.pw 4097 = 18446744073709551616 * Nm.pw 4096 := Nm.pw_succ 4096
    have := Nm.pw_pos 4096
    rw [Hid]; omega
  have DM := hid dm
  rw [hk] at hst
  have HST := hid hst
  have HM : Hid (Ie.mm x middle = m) := hm
  have MX : (x < 4503599627370496 ∧ Ie.man x = x ∧ k = -1075) ∨ (4503599627370496 ≤ x ∧ Ie.man x = x % 4503599627370496 + 4503599627370496 ∧ k = x / 4503599627370496 - 1076) := by
    by_cases h : x < 4503599627370496
    · left; refine ⟨h, by rw [Ie.man, if_pos h], ?_⟩; rw [← hk, Ie.ex]; omega
    · right; refine ⟨by omega, by rw [Ie.man, if_neg h]; omega, ?_⟩; rw [← hk, Ie.ex]; omega
  obtain ⟨kb0, kb1⟩ := kb
  have MM : Hid (m = if middle = true then 2 * Ie.man x + 1 else 2 * Ie.man x) := by rw [Hid, ← hm, Ie.mm]
  rw [hm]
  clear ha hb tz ty hV hD d0 d1 v1 dm hst hm hk mb m0
  rcases MX with ⟨hx, hmx, hkx⟩ | ⟨hx, hmx, hkx⟩ <;> cases middle <;> rcases (show e ≤ k ∨ k < e by omega) with hke | hke
  · have hM : m = 2 * x := by rw [MM.out, hmx]; rfl
    have HMM := hid hM
    have HKX := hid hkx
    clear hmx hM MM
    have hz : t = 0 := by have := HST.out; omega
    subst hz
    rw [Int.pow_zero, Int.mul_one]
    have c1 : ¬ (-1075) < e := by have := HKX.out; omega
    clear hkx hke
    go_enter Tryz.func101, Tryz.ntmps101
    go_wp2_with fail
    have EM := HMM.out
    refine (MU.out _ (by rw [EM])).mono ?_
    rintro e' w1 ⟨r, os, rfl, A, hB1⟩
    have AA := hid A
    have HB1 := hid hB1
    clear A hB1 MU EM
    go_wp2_with fail
    refine (LI.out _ r _ _ os _ _ s AA.out.1 AA.out.2.1 AA.out.2.2 (by have := HST.out; have := HKX.out; omega) (by have := HST.out; omega) DM.out).mono ?_
    rintro e' w2 ⟨r2, o2, rfl, A2, hB2⟩
    have HB2 := hid (HB1.out.trans (hB2.mono HB1.out.size))
    have C1 := CM.out w2 r2 p _ _ n cap o2 zs A2.1 (HA.out.below HB2.out (Nat.le_refl _))
    rw [A2.2, HV.out] at C1
    have CC := hid C1
    clear A2 hB2 C1 LI
    go_wp2_with fail
    refine CC.out.mono ?_
    rintro e' w3 ⟨rfl, hB3⟩
    have HB3 := hid (HB2.out.trans (hB3.mono HB2.out.size))
    clear hB3
    go_wp2_with fail
    go_ret
    exact ⟨rfl, HB3.out⟩
  · have hM : m = 2 * x := by rw [MM.out, hmx]; rfl
    have HMM := hid hM
    have HKX := hid hkx
    clear hmx hM MM
    have hz : s = 0 := by have := HST.out; omega
    subst hz
    rw [Int.pow_zero, Int.mul_one]
    have c1 : (-1075) < e := by have := HKX.out; omega
    clear hkx hke
    go_enter Tryz.func101, Tryz.ntmps101
    go_wp2_with fail
    have EM := HMM.out
    refine (MU.out _ (by rw [EM])).mono ?_
    rintro e' w1 ⟨r, os, rfl, A, hB1⟩
    have AA := hid A
    have HB1 := hid hB1
    clear A hB1 MU EM
    go_wp2_with fail
    refine (LI.out _ p n cap zs V _ t (HA.out.below HB1.out (Nat.le_refl _)) HV.out (by have := TZ.out; omega) (by have := HST.out; have := HKX.out; omega) (by have := HST.out; omega) V1.out).mono ?_
    rintro e' w2 ⟨r2, o2, rfl, A2, hB2⟩
    have HB2 := hid (HB1.out.trans (hB2.mono HB1.out.size))
    have C1 := CM.out w2 r r2 _ _ _ _ os o2 (AA.out.1.below hB2 (Nat.le_refl _)) A2.1
    rw [A2.2, AA.out.2.1] at C1
    have CC := hid C1
    clear A2 hB2 C1 LI
    go_wp2_with fail
    refine CC.out.mono ?_
    rintro e' w3 ⟨rfl, hB3⟩
    have HB3 := hid (HB2.out.trans (hB3.mono HB2.out.size))
    clear hB3
    go_wp2_with fail
    go_ret
    exact ⟨rfl, HB3.out⟩
  · have hM : m = 2 * x + 1 := by rw [MM.out, hmx]; rfl
    have HMM := hid hM
    have HKX := hid hkx
    clear hmx hM MM
    have hz : t = 0 := by have := HST.out; omega
    subst hz
    rw [Int.pow_zero, Int.mul_one]
    have c1 : ¬ (-1075) < e := by have := HKX.out; omega
    clear hkx hke
    go_enter Tryz.func101, Tryz.ntmps101
    go_wp2_with fail
    have EM := HMM.out
    refine (MU.out _ (by rw [EM])).mono ?_
    rintro e' w1 ⟨r, os, rfl, A, hB1⟩
    have AA := hid A
    have HB1 := hid hB1
    clear A hB1 MU EM
    go_wp2_with fail
    refine (LI.out _ r _ _ os _ _ s AA.out.1 AA.out.2.1 AA.out.2.2 (by have := HST.out; have := HKX.out; omega) (by have := HST.out; omega) DM.out).mono ?_
    rintro e' w2 ⟨r2, o2, rfl, A2, hB2⟩
    have HB2 := hid (HB1.out.trans (hB2.mono HB1.out.size))
    have C1 := CM.out w2 r2 p _ _ n cap o2 zs A2.1 (HA.out.below HB2.out (Nat.le_refl _))
    rw [A2.2, HV.out] at C1
    have CC := hid C1
    clear A2 hB2 C1 LI
    go_wp2_with fail
    refine CC.out.mono ?_
    rintro e' w3 ⟨rfl, hB3⟩
    have HB3 := hid (HB2.out.trans (hB3.mono HB2.out.size))
    clear hB3
    go_wp2_with fail
    go_ret
    exact ⟨rfl, HB3.out⟩
  · have hM : m = 2 * x + 1 := by rw [MM.out, hmx]; rfl
    have HMM := hid hM
    have HKX := hid hkx
    clear hmx hM MM
    have hz : s = 0 := by have := HST.out; omega
    subst hz
    rw [Int.pow_zero, Int.mul_one]
    have c1 : (-1075) < e := by have := HKX.out; omega
    clear hkx hke
    go_enter Tryz.func101, Tryz.ntmps101
    go_wp2_with fail
    have EM := HMM.out
    refine (MU.out _ (by rw [EM])).mono ?_
    rintro e' w1 ⟨r, os, rfl, A, hB1⟩
    have AA := hid A
    have HB1 := hid hB1
    clear A hB1 MU EM
    go_wp2_with fail
    refine (LI.out _ p n cap zs V _ t (HA.out.below HB1.out (Nat.le_refl _)) HV.out (by have := TZ.out; omega) (by have := HST.out; have := HKX.out; omega) (by have := HST.out; omega) V1.out).mono ?_
    rintro e' w2 ⟨r2, o2, rfl, A2, hB2⟩
    have HB2 := hid (HB1.out.trans (hB2.mono HB1.out.size))
    have C1 := CM.out w2 r r2 _ _ _ _ os o2 (AA.out.1.below hB2 (Nat.le_refl _)) A2.1
    rw [A2.2, AA.out.2.1] at C1
    have CC := hid C1
    clear A2 hB2 C1 LI
    go_wp2_with fail
    refine CC.out.mono ?_
    rintro e' w3 ⟨rfl, hB3⟩
    have HB3 := hid (HB2.out.trans (hB3.mono HB2.out.size))
    clear hB3
    go_wp2_with fail
    go_ret
    exact ⟨rfl, HB3.out⟩
  · have hM : m = 2 * (x % 4503599627370496 + 4503599627370496) := by rw [MM.out, hmx]; rfl
    have y1 : x % 4503599627370496 < 4503599627370496 := by omega
    have y0 : 0 ≤ x % 4503599627370496 := by omega
    have f0 : 0 ≤ x / 4503599627370496 := by omega
    have f1 : x / 4503599627370496 ≤ 2047 := by omega
    have HMM := hid hM
    have HKX := hid hkx
    clear hmx hM MM
    have hz : t = 0 := by have := HST.out; omega
    subst hz
    rw [Int.pow_zero, Int.mul_one]
    have c1 : ¬ (x / 4503599627370496 - 1076) < e := by have := HKX.out; omega
    clear hkx hke
    go_enter Tryz.func101, Tryz.ntmps101
    go_wp2_with fail
    have EM := HMM.out
    refine (MU.out _ (by rw [EM])).mono ?_
    rintro e' w1 ⟨r, os, rfl, A, hB1⟩
    have AA := hid A
    have HB1 := hid hB1
    clear A hB1 MU EM
    go_wp2_with fail
    refine (LI.out _ r _ _ os _ _ s AA.out.1 AA.out.2.1 AA.out.2.2 (by have := HST.out; have := HKX.out; omega) (by have := HST.out; omega) DM.out).mono ?_
    rintro e' w2 ⟨r2, o2, rfl, A2, hB2⟩
    have HB2 := hid (HB1.out.trans (hB2.mono HB1.out.size))
    have C1 := CM.out w2 r2 p _ _ n cap o2 zs A2.1 (HA.out.below HB2.out (Nat.le_refl _))
    rw [A2.2, HV.out] at C1
    have CC := hid C1
    clear A2 hB2 C1 LI
    go_wp2_with fail
    refine CC.out.mono ?_
    rintro e' w3 ⟨rfl, hB3⟩
    have HB3 := hid (HB2.out.trans (hB3.mono HB2.out.size))
    clear hB3
    go_wp2_with fail
    go_ret
    exact ⟨rfl, HB3.out⟩
  · have hM : m = 2 * (x % 4503599627370496 + 4503599627370496) := by rw [MM.out, hmx]; rfl
    have y1 : x % 4503599627370496 < 4503599627370496 := by omega
    have y0 : 0 ≤ x % 4503599627370496 := by omega
    have f0 : 0 ≤ x / 4503599627370496 := by omega
    have f1 : x / 4503599627370496 ≤ 2047 := by omega
    have HMM := hid hM
    have HKX := hid hkx
    clear hmx hM MM
    have hz : s = 0 := by have := HST.out; omega
    subst hz
    rw [Int.pow_zero, Int.mul_one]
    have c1 : (x / 4503599627370496 - 1076) < e := by have := HKX.out; omega
    clear hkx hke
    go_enter Tryz.func101, Tryz.ntmps101
    go_wp2_with fail
    have EM := HMM.out
    refine (MU.out _ (by rw [EM])).mono ?_
    rintro e' w1 ⟨r, os, rfl, A, hB1⟩
    have AA := hid A
    have HB1 := hid hB1
    clear A hB1 MU EM
    go_wp2_with fail
    refine (LI.out _ p n cap zs V _ t (HA.out.below HB1.out (Nat.le_refl _)) HV.out (by have := TZ.out; omega) (by have := HST.out; have := HKX.out; omega) (by have := HST.out; omega) V1.out).mono ?_
    rintro e' w2 ⟨r2, o2, rfl, A2, hB2⟩
    have HB2 := hid (HB1.out.trans (hB2.mono HB1.out.size))
    have C1 := CM.out w2 r r2 _ _ _ _ os o2 (AA.out.1.below hB2 (Nat.le_refl _)) A2.1
    rw [A2.2, AA.out.2.1] at C1
    have CC := hid C1
    clear A2 hB2 C1 LI
    go_wp2_with fail
    refine CC.out.mono ?_
    rintro e' w3 ⟨rfl, hB3⟩
    have HB3 := hid (HB2.out.trans (hB3.mono HB2.out.size))
    clear hB3
    go_wp2_with fail
    go_ret
    exact ⟨rfl, HB3.out⟩
  · have hM : m = 2 * (x % 4503599627370496 + 4503599627370496) + 1 := by rw [MM.out, hmx]; rfl
    have y1 : x % 4503599627370496 < 4503599627370496 := by omega
    have y0 : 0 ≤ x % 4503599627370496 := by omega
    have f0 : 0 ≤ x / 4503599627370496 := by omega
    have f1 : x / 4503599627370496 ≤ 2047 := by omega
    have HMM := hid hM
    have HKX := hid hkx
    clear hmx hM MM
    have hz : t = 0 := by have := HST.out; omega
    subst hz
    rw [Int.pow_zero, Int.mul_one]
    have c1 : ¬ (x / 4503599627370496 - 1076) < e := by have := HKX.out; omega
    clear hkx hke
    go_enter Tryz.func101, Tryz.ntmps101
    go_wp2_with fail
    have EM := HMM.out
    refine (MU.out _ (by rw [EM])).mono ?_
    rintro e' w1 ⟨r, os, rfl, A, hB1⟩
    have AA := hid A
    have HB1 := hid hB1
    clear A hB1 MU EM
    go_wp2_with fail
    refine (LI.out _ r _ _ os _ _ s AA.out.1 AA.out.2.1 AA.out.2.2 (by have := HST.out; have := HKX.out; omega) (by have := HST.out; omega) DM.out).mono ?_
    rintro e' w2 ⟨r2, o2, rfl, A2, hB2⟩
    have HB2 := hid (HB1.out.trans (hB2.mono HB1.out.size))
    have C1 := CM.out w2 r2 p _ _ n cap o2 zs A2.1 (HA.out.below HB2.out (Nat.le_refl _))
    rw [A2.2, HV.out] at C1
    have CC := hid C1
    clear A2 hB2 C1 LI
    go_wp2_with fail
    refine CC.out.mono ?_
    rintro e' w3 ⟨rfl, hB3⟩
    have HB3 := hid (HB2.out.trans (hB3.mono HB2.out.size))
    clear hB3
    go_wp2_with fail
    go_ret
    exact ⟨rfl, HB3.out⟩
  · have hM : m = 2 * (x % 4503599627370496 + 4503599627370496) + 1 := by rw [MM.out, hmx]; rfl
    have y1 : x % 4503599627370496 < 4503599627370496 := by omega
    have y0 : 0 ≤ x % 4503599627370496 := by omega
    have f0 : 0 ≤ x / 4503599627370496 := by omega
    have f1 : x / 4503599627370496 ≤ 2047 := by omega
    have HMM := hid hM
    have HKX := hid hkx
    clear hmx hM MM
    have hz : s = 0 := by have := HST.out; omega
    subst hz
    rw [Int.pow_zero, Int.mul_one]
    have c1 : (x / 4503599627370496 - 1076) < e := by have := HKX.out; omega
    clear hkx hke
    go_enter Tryz.func101, Tryz.ntmps101
    go_wp2_with fail
    have EM := HMM.out
    refine (MU.out _ (by rw [EM])).mono ?_
    rintro e' w1 ⟨r, os, rfl, A, hB1⟩
    have AA := hid A
    have HB1 := hid hB1
    clear A hB1 MU EM
    go_wp2_with fail
    refine (LI.out _ p n cap zs V _ t (HA.out.below HB1.out (Nat.le_refl _)) HV.out (by have := TZ.out; omega) (by have := HST.out; have := HKX.out; omega) (by have := HST.out; omega) V1.out).mono ?_
    rintro e' w2 ⟨r2, o2, rfl, A2, hB2⟩
    have HB2 := hid (HB1.out.trans (hB2.mono HB1.out.size))
    have C1 := CM.out w2 r r2 _ _ _ _ os o2 (AA.out.1.below hB2 (Nat.le_refl _)) A2.1
    rw [A2.2, AA.out.2.1] at C1
    have CC := hid C1
    clear A2 hB2 C1 LI
    go_wp2_with fail
    refine CC.out.mono ?_
    rintro e' w3 ⟨rfl, hB3⟩
    have HB3 := hid (HB2.out.trans (hB3.mono HB2.out.size))
    clear hB3
    go_wp2_with fail
    go_ret
    exact ⟨rfl, HB3.out⟩
end Go.Proofs.YthgjflfeilbbbaaGreatDoor
