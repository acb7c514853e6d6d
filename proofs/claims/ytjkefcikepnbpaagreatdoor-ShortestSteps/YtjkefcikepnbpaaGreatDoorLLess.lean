/-
  abacuslaw12: less.
-/
import Derived.Test.YtjkefcikepnbpaaGreatDoorWAJ
import Derived.Test.YtjkefcikepnbpaaGreatDoorWAT
import Derived.Test.YtjkefcikepnbpaaGreatDoorWAA
import Derived.Test.YtjkefcikepnbpaaGreatDoorWAM
import Derived.Deep.RegionHeld3
import Derived.Deep.CutBlock
import Derived.OwnWalk
import Derived.Deep.CutRange
import Derived.Deep.LoopGhost
namespace Go.Proofs.YtjkefcikepnbpaaGreatDoor
open Go Go.RowKit Go.Deep

set_option maxRecDepth 100000 in
set_option maxHeartbeats 4000000 in
/-- Two rows of digits, held against each other place by place. -/
theorem less_any (ga gb na nb ca cb : Nat) (Ta Tb la lb : Int) (w : World) (oa : OwnB w ga (Dn.dg 10 na Ta)) (ob : OwnB w gb (Dn.dg 10 nb Tb)) (a0 : 0 ≤ Ta) (a1 : Ta < 10 ^ na) (b0 : 0 ≤ Tb) (b1 : Tb < 10 ^ nb)
    (m : Int) (sa sb : Nat) (hsa : la = m + sa) (hsb : lb = m + sb) (hm : sa = 0 ∨ sb = 0) (ba : na ≤ 5000) (bb : nb ≤ 5000) (m0 : -5000 ≤ m) (m1 : m ≤ 5000) (s1 : sa ≤ 10000) (s2 : sb ≤ 10000) :
    Calls Tryz.prog 17 #[.slice (some ⟨ga, 0, none⟩) na ca, .int .i64 la, .slice (some ⟨gb, 0, none⟩) nb cb, .int .i64 lb] w fun r w' => r = .returned (.int .i64 (Sc.cmpI (Ta * 10 ^ sa) (Tb * 10 ^ sb))) ∧ w' = w := by
  obtain ⟨M, hM⟩ : ∃ M, M = max (sa + na) (sb + nb) := ⟨_, rfl⟩
  have PA : Hid (∀ j : Nat, (sa ≤ j → j < sa + na → (Dn.dg 10 na Ta).getD (na - 1 - (j - sa)) 0 = Ta * 10 ^ sa / 10 ^ j % 10) ∧ (¬ (sa ≤ j ∧ j < sa + na) → Ta * 10 ^ sa / 10 ^ j % 10 = 0)) := fun j => Sh.place_dig a0 a1
  have PB : Hid (∀ j : Nat, (sb ≤ j → j < sb + nb → (Dn.dg 10 nb Tb).getD (nb - 1 - (j - sb)) 0 = Tb * 10 ^ sb / 10 ^ j % 10) ∧ (¬ (sb ≤ j ∧ j < sb + nb) → Tb * 10 ^ sb / 10 ^ j % 10 = 0)) := fun j => Sh.place_dig b0 b1
  have top : ∀ (T : Int) (n s : Nat), 0 ≤ T → T < 10 ^ n → s + n ≤ M → T * 10 ^ s / 10 ^ M = 0 := by
    intro T n s h0 h1 h2
    apply Int.ediv_eq_zero_of_lt (Int.mul_nonneg h0 (Int.le_of_lt (Fx.p_pos s)))
    refine Int.lt_of_lt_of_le (Int.mul_lt_mul_of_pos_right h1 (Fx.p_pos s)) ?_
    rw [← Int.pow_add]
    exact Fx.p_le (by omega)
  have E0 : Ta * 10 ^ sa / 10 ^ M = Tb * 10 ^ sb / 10 ^ M := by rw [top Ta na sa a0 a1 (by omega), top Tb nb sb b0 b1 (by omega)]
  obtain ⟨A, hA⟩ : ∃ A, Ta * 10 ^ sa = A := ⟨_, rfl⟩
  obtain ⟨B, hB⟩ : ∃ B, Tb * 10 ^ sb = B := ⟨_, rfl⟩
  rw [hA] at PA
  rw [hB] at PB
  rw [hA, hB] at E0
  rw [hA, hB]
  have mn : min (m + (sa : Int)) (m + (sb : Int)) = m := by omega
  have mx : max (m + (sa : Int) + (na : Int)) (m + (sb : Int) + (nb : Int)) = m + (M : Int) := by omega
  have OA := hid oa
  have OB := hid ob
  have HM := hid hM
  have Mb : (M : Int) ≤ 15000 := by omega
  clear oa ob a0 a1 b0 b1 top hA hB hM
  subst hsa
  subst hsb
  go_enter Tryz.func17, Tryz.ntmps17
  go_wp2_with fail
  go_loopg [10] M (fun k p wr => wr = w ∧ p = .int .i64 (m + (k : Int) - 1) ∧ k ≤ M ∧ Hid (A / 10 ^ k = B / 10 ^ k))
  case atStart => exact ⟨rfl, rfl, Nat.le_refl _, E0⟩
  case round =>
    obtain ⟨hw, hp, hk, I⟩ := hrel
    subst hw
    subst hp
    cases gk with
    | zero =>
      have K : Hid (Sc.cmpI A B = 0) := by
        have q := I.out
        rw [Int.pow_zero, Int.ediv_one, Int.ediv_one] at q
        rw [q]
        rcases Sc.cmpI_c B B with k | k | k
        · omega
        · exact k.2
        · omega
      clear I PA PB OA OB
      go_wp2_with fail
      go_ret
      exact ⟨by rw [K.out]; rfl, rfl⟩
    | succ j =>
      rw [show m + ((j + 1 : Nat) : Int) - 1 = m + (j : Int) by omega]
      obtain ⟨c1, c2, c3⟩ := Sh.cmp_dig I.out
      have pa := PA.out j
      have pb := PB.out j
      obtain ⟨x, hx⟩ : ∃ x, A / 10 ^ j % 10 = x := ⟨_, rfl⟩
      obtain ⟨y, hy⟩ : ∃ y, B / 10 ^ j % 10 = y := ⟨_, rfl⟩
      rw [hx] at pa c1 c2 c3
      rw [hy] at pb c1 c2 c3
      have xb : 0 ≤ x ∧ x < 10 := by omega
      have yb : 0 ≤ y ∧ y < 10 := by omega
      have L1 : Hid (x < y → Sc.cmpI A B = -1) := fun q => by rcases Sc.cmpI_c A B with k | k | k <;> have := c1 q <;> omega
      have L2 : Hid (y < x → Sc.cmpI A B = 1) := fun q => by rcases Sc.cmpI_c A B with k | k | k <;> have := c2 q <;> omega
      have L3 : Hid (x = y → A / 10 ^ j = B / 10 ^ j) := fun q => c3 q
      have jb : (j : Int) ≤ 15000 := by omega
      clear c1 c2 c3 I hx hy
      by_cases ra : sa ≤ j ∧ j < sa + na
      · have ia : sa ≤ j ∧ j < sa + na := ra
        obtain ⟨ka, hka⟩ : ∃ ka : Nat, ka = na - 1 - (j - sa) := ⟨_, rfl⟩
        have za : m + (sa : Int) + (na : Int) - 1 - (m + (j : Int)) = (ka : Int) := by omega
        have wa : (ka : Int) < (na : Int) := by omega
        have ea := pa.1 ia.1 ia.2
        have fa := OA.out.cell ka (by rw [Sh.dg_len]; omega)
        rw [hka, ea, ← hka] at fa
        clear hka ea
        by_cases rb : sb ≤ j ∧ j < sb + nb
        · have ib : sb ≤ j ∧ j < sb + nb := rb
          obtain ⟨kb, hkb⟩ : ∃ kb : Nat, kb = nb - 1 - (j - sb) := ⟨_, rfl⟩
          have zb : m + (sb : Int) + (nb : Int) - 1 - (m + (j : Int)) = (kb : Int) := by omega
          have wb : (kb : Int) < (nb : Int) := by omega
          have eb := pb.1 ib.1 ib.2
          have fb := OB.out.cell kb (by rw [Sh.dg_len]; omega)
          rw [hkb, eb, ← hkb] at fb
          clear hkb eb
          rcases Int.lt_trichotomy x y with q | q | q
          · have K := hid (L1.out q)
            clear L1 L2 L3 PA PB OA OB pa pb
            go_wp2_with fail
            all_goals go_ret
            all_goals exact ⟨by rw [K.out]; rfl, rfl⟩
          · have K := hid (L3.out q)
            have q1 : ¬ x < y := by omega
            have q2 : ¬ y < x := by omega
            clear L1 L2 L3 pa pb
            go_wp2_with fail
            all_goals go_roundg j
            all_goals first | exact ⟨rfl, by go_num, by omega, K.out⟩ | omega
          · have K := hid (L2.out q)
            have q1 : ¬ x < y := by omega
            clear L1 L2 L3 PA PB OA OB pa pb
            go_wp2_with fail
            all_goals go_ret
            all_goals exact ⟨by rw [K.out]; rfl, rfl⟩
        · have xb0 : y = 0 := pb.2 rb
          subst xb0
          rcases (show m + (sb : Int) + (nb : Int) - 1 - (m + (j : Int)) < 0 ∨ (0 ≤ m + (sb : Int) + (nb : Int) - 1 - (m + (j : Int)) ∧ (nb : Int) ≤ m + (sb : Int) + (nb : Int) - 1 - (m + (j : Int))) by omega) with ob | ⟨ob, ob'⟩
          · rcases Int.lt_trichotomy x (0 : Int) with q | q | q
            · have K := hid (L1.out q)
              clear L1 L2 L3 PA PB OA OB pa pb
              go_wp2_with fail
              all_goals go_ret
              all_goals exact ⟨by rw [K.out]; rfl, rfl⟩
            · have K := hid (L3.out q)
              have q1 : ¬ x < (0 : Int) := by omega
              have q2 : ¬ (0 : Int) < x := by omega
              clear L1 L2 L3 pa pb
              go_wp2_with fail
              all_goals go_roundg j
              all_goals first | exact ⟨rfl, by go_num, by omega, K.out⟩ | omega
            · have K := hid (L2.out q)
              have q1 : ¬ x < (0 : Int) := by omega
              clear L1 L2 L3 PA PB OA OB pa pb
              go_wp2_with fail
              all_goals go_ret
              all_goals exact ⟨by rw [K.out]; rfl, rfl⟩
          · rcases Int.lt_trichotomy x (0 : Int) with q | q | q
            · have K := hid (L1.out q)
              clear L1 L2 L3 PA PB OA OB pa pb
              go_wp2_with fail
              all_goals go_ret
              all_goals exact ⟨by rw [K.out]; rfl, rfl⟩
            · have K := hid (L3.out q)
              have q1 : ¬ x < (0 : Int) := by omega
              have q2 : ¬ (0 : Int) < x := by omega
              clear L1 L2 L3 pa pb
              go_wp2_with fail
              all_goals go_roundg j
              all_goals first | exact ⟨rfl, by go_num, by omega, K.out⟩ | omega
            · have K := hid (L2.out q)
              have q1 : ¬ x < (0 : Int) := by omega
              clear L1 L2 L3 PA PB OA OB pa pb
              go_wp2_with fail
              all_goals go_ret
              all_goals exact ⟨by rw [K.out]; rfl, rfl⟩
      · have xa0 : x = 0 := pa.2 ra
        subst xa0
        rcases (show m + (sa : Int) + (na : Int) - 1 - (m + (j : Int)) < 0 ∨ (0 ≤ m + (sa : Int) + (na : Int) - 1 - (m + (j : Int)) ∧ (na : Int) ≤ m + (sa : Int) + (na : Int) - 1 - (m + (j : Int))) by omega) with oa | ⟨oa, oa'⟩
        · by_cases rb : sb ≤ j ∧ j < sb + nb
          · have ib : sb ≤ j ∧ j < sb + nb := rb
            obtain ⟨kb, hkb⟩ : ∃ kb : Nat, kb = nb - 1 - (j - sb) := ⟨_, rfl⟩
            have zb : m + (sb : Int) + (nb : Int) - 1 - (m + (j : Int)) = (kb : Int) := by omega
            have wb : (kb : Int) < (nb : Int) := by omega
            have eb := pb.1 ib.1 ib.2
            have fb := OB.out.cell kb (by rw [Sh.dg_len]; omega)
            rw [hkb, eb, ← hkb] at fb
            clear hkb eb
            rcases Int.lt_trichotomy (0 : Int) y with q | q | q
            · have K := hid (L1.out q)
              clear L1 L2 L3 PA PB OA OB pa pb
              go_wp2_with fail
              all_goals go_ret
              all_goals exact ⟨by rw [K.out]; rfl, rfl⟩
            · have K := hid (L3.out q)
              have q1 : ¬ (0 : Int) < y := by omega
              have q2 : ¬ y < (0 : Int) := by omega
              clear L1 L2 L3 pa pb
              go_wp2_with fail
              all_goals go_roundg j
              all_goals first | exact ⟨rfl, by go_num, by omega, K.out⟩ | omega
            · have K := hid (L2.out q)
              have q1 : ¬ (0 : Int) < y := by omega
              clear L1 L2 L3 PA PB OA OB pa pb
              go_wp2_with fail
              all_goals go_ret
              all_goals exact ⟨by rw [K.out]; rfl, rfl⟩
          · have xb0 : y = 0 := pb.2 rb
            subst xb0
            rcases (show m + (sb : Int) + (nb : Int) - 1 - (m + (j : Int)) < 0 ∨ (0 ≤ m + (sb : Int) + (nb : Int) - 1 - (m + (j : Int)) ∧ (nb : Int) ≤ m + (sb : Int) + (nb : Int) - 1 - (m + (j : Int))) by omega) with ob | ⟨ob, ob'⟩
            · rcases Int.lt_trichotomy (0 : Int) (0 : Int) with q | q | q
              · have K := hid (L1.out q)
                clear L1 L2 L3 PA PB OA OB pa pb
                go_wp2_with fail
                all_goals go_ret
                all_goals exact ⟨by rw [K.out]; rfl, rfl⟩
              · have K := hid (L3.out q)
                have q1 : ¬ (0 : Int) < (0 : Int) := by omega
                have q2 : ¬ (0 : Int) < (0 : Int) := by omega
                clear L1 L2 L3 pa pb
                go_wp2_with fail
                all_goals go_roundg j
                all_goals first | exact ⟨rfl, by go_num, by omega, K.out⟩ | omega
              · have K := hid (L2.out q)
                have q1 : ¬ (0 : Int) < (0 : Int) := by omega
                clear L1 L2 L3 PA PB OA OB pa pb
                go_wp2_with fail
                all_goals go_ret
                all_goals exact ⟨by rw [K.out]; rfl, rfl⟩
            · rcases Int.lt_trichotomy (0 : Int) (0 : Int) with q | q | q
              · have K := hid (L1.out q)
                clear L1 L2 L3 PA PB OA OB pa pb
                go_wp2_with fail
                all_goals go_ret
                all_goals exact ⟨by rw [K.out]; rfl, rfl⟩
              · have K := hid (L3.out q)
                have q1 : ¬ (0 : Int) < (0 : Int) := by omega
                have q2 : ¬ (0 : Int) < (0 : Int) := by omega
                clear L1 L2 L3 pa pb
                go_wp2_with fail
                all_goals go_roundg j
                all_goals first | exact ⟨rfl, by go_num, by omega, K.out⟩ | omega
              · have K := hid (L2.out q)
                have q1 : ¬ (0 : Int) < (0 : Int) := by omega
                clear L1 L2 L3 PA PB OA OB pa pb
                go_wp2_with fail
                all_goals go_ret
                all_goals exact ⟨by rw [K.out]; rfl, rfl⟩
        · by_cases rb : sb ≤ j ∧ j < sb + nb
          · have ib : sb ≤ j ∧ j < sb + nb := rb
            obtain ⟨kb, hkb⟩ : ∃ kb : Nat, kb = nb - 1 - (j - sb) := ⟨_, rfl⟩
            have zb : m + (sb : Int) + (nb : Int) - 1 - (m + (j : Int)) = (kb : Int) := by omega
            have wb : (kb : Int) < (nb : Int) := by omega
            have eb := pb.1 ib.1 ib.2
            have fb := OB.out.cell kb (by rw [Sh.dg_len]; omega)
            rw [hkb, eb, ← hkb] at fb
            clear hkb eb
            rcases Int.lt_trichotomy (0 : Int) y with q | q | q
            · have K := hid (L1.out q)
              clear L1 L2 L3 PA PB OA OB pa pb
              go_wp2_with fail
              all_goals go_ret
              all_goals exact ⟨by rw [K.out]; rfl, rfl⟩
            · have K := hid (L3.out q)
              have q1 : ¬ (0 : Int) < y := by omega
              have q2 : ¬ y < (0 : Int) := by omega
              clear L1 L2 L3 pa pb
              go_wp2_with fail
              all_goals go_roundg j
              all_goals first | exact ⟨rfl, by go_num, by omega, K.out⟩ | omega
            · have K := hid (L2.out q)
              have q1 : ¬ (0 : Int) < y := by omega
              clear L1 L2 L3 PA PB OA OB pa pb
              go_wp2_with fail
              all_goals go_ret
              all_goals exact ⟨by rw [K.out]; rfl, rfl⟩
          · have xb0 : y = 0 := pb.2 rb
            subst xb0
            rcases (show m + (sb : Int) + (nb : Int) - 1 - (m + (j : Int)) < 0 ∨ (0 ≤ m + (sb : Int) + (nb : Int) - 1 - (m + (j : Int)) ∧ (nb : Int) ≤ m + (sb : Int) + (nb : Int) - 1 - (m + (j : Int))) by omega) with ob | ⟨ob, ob'⟩
            · rcases Int.lt_trichotomy (0 : Int) (0 : Int) with q | q | q
              · have K := hid (L1.out q)
                clear L1 L2 L3 PA PB OA OB pa pb
                go_wp2_with fail
                all_goals go_ret
                all_goals exact ⟨by rw [K.out]; rfl, rfl⟩
              · have K := hid (L3.out q)
                have q1 : ¬ (0 : Int) < (0 : Int) := by omega
                have q2 : ¬ (0 : Int) < (0 : Int) := by omega
                clear L1 L2 L3 pa pb
                go_wp2_with fail
                all_goals go_roundg j
                all_goals first | exact ⟨rfl, by go_num, by omega, K.out⟩ | omega
              · have K := hid (L2.out q)
                have q1 : ¬ (0 : Int) < (0 : Int) := by omega
                clear L1 L2 L3 PA PB OA OB pa pb
                go_wp2_with fail
                all_goals go_ret
                all_goals exact ⟨by rw [K.out]; rfl, rfl⟩
            · rcases Int.lt_trichotomy (0 : Int) (0 : Int) with q | q | q
              · have K := hid (L1.out q)
                clear L1 L2 L3 PA PB OA OB pa pb
                go_wp2_with fail
                all_goals go_ret
                all_goals exact ⟨by rw [K.out]; rfl, rfl⟩
              · have K := hid (L3.out q)
                have q1 : ¬ (0 : Int) < (0 : Int) := by omega
                have q2 : ¬ (0 : Int) < (0 : Int) := by omega
                clear L1 L2 L3 pa pb
                go_wp2_with fail
                all_goals go_roundg j
                all_goals first | exact ⟨rfl, by go_num, by omega, K.out⟩ | omega
              · have K := hid (L2.out q)
                have q1 : ¬ (0 : Int) < (0 : Int) := by omega
                clear L1 L2 L3 PA PB OA OB pa pb
                go_wp2_with fail
                all_goals go_ret
                all_goals exact ⟨by rw [K.out]; rfl, rfl⟩
end Go.Proofs.YtjkefcikepnbpaaGreatDoor
