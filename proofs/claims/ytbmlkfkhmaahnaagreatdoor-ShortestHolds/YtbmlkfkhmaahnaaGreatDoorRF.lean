/-
  Texts put together: VRead, VNumb, VCompare, VCmp, VCmp2, LHolds, VItoa, LPuL, LFmt, VDl, LFmt2.
-/
import Derived.Test.YtbmlkfkhmaahnaaGreatDoorRE
import Derived.BigRegion
import Derived.Deep.Cut
import Derived.Test.YtbmlkfkhmaahnaaGreatDoorRB
import Derived.Deep.RegionHeld3
import Derived.Test.YtbmlkfkhmaahnaaGreatDoorRA
import Derived.Test.YtbmlkfkhmaahnaaGreatDoorVOrd
import Derived.Shelf.Small.Strs
import Derived.Shelf.Strconv.Itoa3
import Derived.Shelf.Pu.ParseUintPublic10
import Derived.Lib.AppendIntMem
import Derived.Shelf.Abstract
import Derived.Test.YtbmlkfkhmaahnaaGreatDoorRD
import Derived.Lib.ItoaNum
namespace Go.Proofs.YtbmlkfkhmaahnaaGreatDoor
open Go Go.RowKit Go.Deep

set_option maxRecDepth 100000 in
set_option maxHeartbeats 4000000 in
theorem vread_any (s : ByteArray) (xs : List Int) (k : Nat) (w : World) (hs : Str s xs) (hn : xs.length ≤ 562949953421312) (hk : k ≤ xs.length) : Calls Tryz.prog 39 #[.string s, .int .i64 k] w fun e w' => RdTold xs k w e w' := by
  have PK := hid (fun (j : Nat) (wx : World) => peek_any s xs j wx hs hn)
  have DG := hid (fun (j : Nat) (wx : World) => digit_any (Sc.pk xs j) wx (hs.atb j).1 (hs.atb j).2)
  have PS : Hid (∀ (j p : Nat) (wx : World), p = j + Sc.sg xs j → j ≤ xs.length + 1 → Calls Tryz.prog 58 #[.string s, .int .i64 j] wx fun e w' => e = .returned (.int .i64 (p : Int)) ∧ w' = wx) := fun j p wx hp hj => by subst hp; exact past_any s xs j wx hs hn hj
  have PKz : Hid (∀ (z : Int) (j : Nat) (wx : World), z = j → Calls Tryz.prog 57 #[.string s, .int .i64 z] wx fun e w' => e = .returned (.int .u8 (Sc.pk xs j)) ∧ w' = wx) := fun z j wx hz => by subst hz; exact peek_any s xs j wx hs hn
  have PSz : Hid (∀ (z : Int) (j p : Nat) (wx : World), z = j → p = j + Sc.sg xs j → j ≤ xs.length + 1 → Calls Tryz.prog 58 #[.string s, .int .i64 z] wx fun e w' => e = .returned (.int .i64 (p : Int)) ∧ w' = wx) := fun z j p wx hz hp hj => by subst hz hp; exact past_any s xs j wx hs hn hj
  have HS := hid hs
  have HN := hid hn
  have HK := hid hk
  have hsz := hs.size
  have BE := hid (Sc.en_le xs k hk)
  have B1 := hid (Sc.p1_le xs k hk)
  have B2 := hid (Sc.p2_le xs k hk)
  have B3 := hid (Sc.p3_le xs k hk)
  have B12 : Hid (Sc.p1 xs k ≤ Sc.p2 xs k) := by show _ ≤ _; unfold Sc.p2; omega
  have B23 := hid (Sc.p2_p3 xs k)
  clear hs hn hk
  go_enter Tryz.func39, Tryz.ntmps39
  go_wp2_with fail
  refine wp_scope_falls (RJ s xs k w) (rmu xs) (fun F => ?_) ?_
  · replace F := hid F
    go_wp2_with fail
    refine (PK.out k _).mono ?_
    rintro e w1 ⟨rfl, rfl⟩
    go_wp2_with fail
    refine (PS.out k (Sc.p1 xs k) _ rfl (by have := HK.out; omega)).mono ?_
    rintro e w1 ⟨rfl, rfl⟩
    go_wp2_with fail
    go_step3
    (try simp only [Exit.then])
    rename_i hK
    refine hK _ _ ?_
    exact F.out 0 _ _ _ ⟨rfl, rfl, _, _, _, rfl, rfl, rfl, rfl, rfl, rfl, Sc.p1 xs k, rfl, RI.ahead _ _ (Nat.le_refl _) rfl (RM.new w _)⟩ rfl
  · intro l a w' hJ
    obtain ⟨u, j, bel, frm, rfl, I⟩ := hJ.open
    clear hJ
    cases I with
    | ahead j bel h1 h2 m =>
      refine ⟨_, rfl, fun F => ?_⟩
      replace F := hid F
      replace h1 := hid h1
      replace h2 := hid h2
      have hj : (j : Int) ≤ 562949953421312 := by have := HN.out; have := B2.out; have := h2.out; omega
      have D := hid (fun wx => DG.out j wx)
      cases hd : Sc.dg (Sc.pk xs j) with
      | true =>
        rw [hd] at D
        have R := hid (Sc.run_succ Sc.dg0 hd)
        have hlt : Hid (j < xs.length) := Sc.pk_lt (by have := Sc.dg_iff.1 hd; omega)
        replace m := hid m
        clear hd
        go_wp2_with fail
        refine (PK.out j _).mono ?_; rintro e w1 ⟨rfl, rfl⟩
        go_wp2_with fail
        refine (D.out _).mono ?_; rintro e w1 ⟨rfl, rfl⟩
        go_wp2_with fail
        go_step3; exact ⟨⟨rfl, rfl, _, _, _, rfl, rfl, rfl, rfl, rfl, rfl, j + 1, rfl, RI.ahead _ _ (by have := h1.out; omega) (by have := h2.out; have := R.out; omega) m.out⟩, (show 3 * (xs.length + 3) + (xs.length + 2 - Int.toNat ((j : Int) + 1)) < 3 * (xs.length + 3) + (xs.length + 2 - Int.toNat (j : Int)) by have := HN.out; have := hlt.out; have := B1.out; have := B2.out; have := B3.out; omega)⟩
      | false =>
        rw [hd] at D
        have hj2 : j = Sc.p2 xs k := by have := h2.out; rw [Sc.run_zero Sc.dg0 hd] at this; exact this
        clear hd
        subst hj2
        have q1 : (Sc.p1 xs k : Int) ≤ (Sc.p2 xs k : Int) := by have := B12.out; omega
        have q2 : (Sc.p2 xs k : Int) ≤ (xs.length : Int) := by have := B2.out; omega
        obtain ⟨⟨c0, c1, c2, c3, c4⟩, f0, f1, f2, f3, f4⟩ := m.cells
        have M2 := hid (m.ahead (s.extract (Sc.p1 xs k) (Sc.p2 xs k)))
        have SA : Hid (Str (s.extract (Sc.p1 xs k) (Sc.p2 xs k)) (Sc.lit xs k).ah) := by
          have := HS.out.extract (Sc.p1 xs k) (Sc.p2 xs k)
          rw [show Sc.p2 xs k - Sc.p1 xs k = Sc.run Sc.dg xs (Sc.p1 xs k) by unfold Sc.p2; omega] at this
          exact this
        clear m
        have hp : Sc.pk xs (Sc.p2 xs k) = 46 ∨ ((Sc.pk xs (Sc.p2 xs k) == 46) = false ∧ Sc.pk xs (Sc.p2 xs k) ≠ 46) := by
          by_cases c : Sc.pk xs (Sc.p2 xs k) = 46
          · exact .inl c
          · exact .inr ⟨by rw [beq_eq_false_iff_ne]; exact c, c⟩
        rcases hp with hp | ⟨hp, hp2⟩
        · have HP := hid hp
          clear hp
          go_wp2_with fail
          refine (PK.out (Sc.p2 xs k) _).mono ?_; rintro e w1 ⟨rfl, rfl⟩
          go_wp2_with fail
          refine (D.out _).mono ?_; rintro e w1 ⟨rfl, rfl⟩
          go_wp2_with fail
          refine (PK.out (Sc.p2 xs k) _).mono ?_; rintro e w1 ⟨rfl, rfl⟩
          have hp := HP.out
          go_wp2_with fail
          go_step3; (try simp only [Exit.then]); rename_i hK; refine hK _ _ ?_; exact F.out 2 _ _ _ ⟨rfl, rfl, _, _, _, rfl, rfl, rfl, rfl, rfl, rfl, Sc.p2 xs k + 1, rfl, RI.behind _ _ _ SA.out HP.out (Nat.le_refl _) (by unfold Sc.p3; rw [if_pos HP.out]) M2.out⟩ (show 2 * (xs.length + 3) + (xs.length + 2 - Int.toNat ((Sc.p2 xs k : Int) + 1)) < 3 * (xs.length + 3) + (xs.length + 2 - Int.toNat (Sc.p2 xs k : Int)) by have := HN.out; have := B1.out; have := B2.out; have := B3.out; omega) rfl
        · have hp3 : (Sc.pk xs (Sc.p2 xs k) != 46) = true := by simpa using hp2
          have E3 : Hid (Sc.p3 xs k = Sc.p2 xs k) := by show _ = _; unfold Sc.p3; rw [if_neg hp2]
          have EB : Hid (Str ⟨#[]⟩ (Sc.lit xs k).bh) := by
            show Str _ ((xs.drop _).take (Sc.bn xs k))
            rw [show Sc.bn xs k = 0 by unfold Sc.bn; rw [if_neg hp2]]
            exact str_nil0
          replace hp2 := hid hp2
          go_wp2_with fail
          refine (PK.out (Sc.p2 xs k) _).mono ?_; rintro e w1 ⟨rfl, rfl⟩
          go_wp2_with fail
          refine (D.out _).mono ?_; rintro e w1 ⟨rfl, rfl⟩
          go_wp2_with fail
          refine (PK.out (Sc.p2 xs k) _).mono ?_; rintro e w1 ⟨rfl, rfl⟩
          go_wp2_with fail
          go_step3; exact ⟨⟨rfl, rfl, _, _, _, rfl, rfl, rfl, rfl, rfl, rfl, Sc.p3 xs k, by rw [E3.out], RI.number _ _ _ _ SA.out EB.out M2.out⟩, (show 1 * (xs.length + 3) + (xs.length + 2 - Int.toNat (Sc.p2 xs k : Int)) < 3 * (xs.length + 3) + (xs.length + 2 - Int.toNat (Sc.p2 xs k : Int)) by have := HN.out; have := B1.out; have := B2.out; have := B3.out; omega)⟩
    | behind j bel A hA hp h1 h2 m =>
      refine ⟨_, rfl, fun F => ?_⟩
      replace F := hid F
      replace h1 := hid h1
      replace h2 := hid h2
      replace hp := hid hp
      replace hA := hid hA
      have hj : (j : Int) ≤ 562949953421312 := by have := HN.out; have := B3.out; have := h2.out; omega
      have D := hid (fun wx => DG.out j wx)
      cases hd : Sc.dg (Sc.pk xs j) with
      | true =>
        rw [hd] at D
        have R := hid (Sc.run_succ Sc.dg0 hd)
        have hlt : Hid (j < xs.length) := Sc.pk_lt (by have := Sc.dg_iff.1 hd; omega)
        replace m := hid m
        clear hd
        go_wp2_with fail
        refine (PK.out j _).mono ?_; rintro e w1 ⟨rfl, rfl⟩
        go_wp2_with fail
        refine (D.out _).mono ?_; rintro e w1 ⟨rfl, rfl⟩
        go_wp2_with fail
        go_step3; exact ⟨⟨rfl, rfl, _, _, _, rfl, rfl, rfl, rfl, rfl, rfl, j + 1, rfl, RI.behind _ _ _ hA.out hp.out (by have := h1.out; omega) (by have := h2.out; have := R.out; omega) m.out⟩, (show 2 * (xs.length + 3) + (xs.length + 2 - Int.toNat ((j : Int) + 1)) < 2 * (xs.length + 3) + (xs.length + 2 - Int.toNat (j : Int)) by have := HN.out; have := hlt.out; have := B1.out; have := B2.out; have := B3.out; omega)⟩
      | false =>
        rw [hd] at D
        have hj2 : j = Sc.p3 xs k := by have := h2.out; rw [Sc.run_zero Sc.dg0 hd] at this; exact this
        clear hd
        subst hj2
        have q1 : (Sc.p2 xs k : Int) + 1 ≤ (Sc.p3 xs k : Int) := by have := h1.out; omega
        have q2 : (Sc.p3 xs k : Int) ≤ (xs.length : Int) := by have := B3.out; omega
        obtain ⟨⟨c0, c1, c2, c3, c4⟩, f0, f1, f2, f3, f4⟩ := m.cells
        have M2 := hid (m.behind (s.extract (Sc.p2 xs k + 1) (Sc.p3 xs k)))
        have SB : Hid (Str (s.extract (Sc.p2 xs k + 1) (Sc.p3 xs k)) (Sc.lit xs k).bh) := by
          have := HS.out.extract (Sc.p2 xs k + 1) (Sc.p3 xs k)
          rw [show Sc.p3 xs k - (Sc.p2 xs k + 1) = Sc.bn xs k by unfold Sc.p3 Sc.bn; rw [if_pos hp.out, if_pos hp.out]; omega] at this
          exact this
        clear m
        go_wp2_with fail
        refine (PK.out (Sc.p3 xs k) _).mono ?_; rintro e w1 ⟨rfl, rfl⟩
        go_wp2_with fail
        refine (D.out _).mono ?_; rintro e w1 ⟨rfl, rfl⟩
        go_wp2_with fail
        go_step3; (try simp only [Exit.then]); rename_i hK; refine hK _ _ ?_; exact F.out 1 _ _ _ ⟨rfl, rfl, _, _, _, rfl, rfl, rfl, rfl, rfl, rfl, Sc.p3 xs k, rfl, RI.number _ _ _ _ hA.out SB.out M2.out⟩ (show 1 * (xs.length + 3) + (xs.length + 2 - Int.toNat (Sc.p3 xs k : Int)) < 2 * (xs.length + 3) + (xs.length + 2 - Int.toNat (Sc.p3 xs k : Int)) by have := HN.out; have := B1.out; have := B2.out; have := B3.out; omega) rfl
    | number bel frm A B hA hB m =>
      refine ⟨_, rfl, fun F => ?_⟩
      replace F := hid F
      have sA := ah_len hA
      have sB := bh_len hB
      have hj : (Sc.p3 xs k : Int) ≤ 562949953421312 := by have := HN.out; have := B3.out; omega
      have nA : (Sc.run Sc.dg xs (Sc.p1 xs k) : Int) ≤ 562949953421312 := by have := HN.out; have := Sc.run_le Sc.dg xs (Sc.p1 xs k); omega
      have nB : (Sc.bn xs k : Int) ≤ 562949953421312 := by have := HN.out; have h : Sc.bn xs k ≤ xs.length := (by unfold Sc.bn; split; (exact Nat.le_trans (Sc.run_le _ _ _) (Nat.sub_le _ _)); omega); omega
      replace hA := hid hA
      replace hB := hid hB
      obtain ⟨⟨c0, c1, c2, c3, c4⟩, f0, f1, f2, f3, f4⟩ := m.cells
      obtain ⟨⟨d0, d1, d2, d3, d4⟩, g0, g1, g2, g3, g4⟩ := m.room
      by_cases hs : Sc.some? xs k
      · have hne : ((Sc.run Sc.dg xs (Sc.p1 xs k) : Int) + (Sc.bn xs k : Int) == 0) = false := by
          rw [beq_eq_false_iff_ne]; unfold Sc.some? at hs; omega
        replace hs := hid hs
        have M1 := hid (m.en (Sc.p3 xs k : Nat))
        clear m
        generalize Sc.run Sc.dg xs (Sc.p1 xs k) = rA at *
        generalize Sc.bn xs k = rB at *
        cases hE : Sc.isE (Sc.pk xs (Sc.p3 xs k)) with
        | false =>
          obtain ⟨x1, x2⟩ := isE_f hE
          have y1 : (Sc.pk xs (Sc.p3 xs k) != 101) = true := by simpa using x1
          have y2 : (Sc.pk xs (Sc.p3 xs k) != 69) = true := by simpa using x2
          have y3 : (Sc.pk xs (Sc.p3 xs k) == 101) = false := by rw [beq_eq_false_iff_ne]; exact x1
          have y4 : (Sc.pk xs (Sc.p3 xs k) == 69) = false := by rw [beq_eq_false_iff_ne]; exact x2
          have SN : Hid (_ ∧ _) := sc_none (xs := xs) (k := k) (by unfold Sc.hasE; rw [hE]; rfl)
          clear hE
          go_wp2_with fail
          refine (PK.out (Sc.p3 xs k) _).mono ?_; rintro e w1 ⟨rfl, rfl⟩
          go_wp2_with fail
          (try simp only [Exit.inBlock, Exit.then]); refine bodyPost_ret (results_row_tmp rfl _ _ w.heap.size 76 _ (0, 0) _ rfl (M1.out.put _ _ _ _ _).1 Tryz.underlying76 rfl (by kernel_rfl)) rfl ?_; exact rd_some hs.out hA.out hB.out SN.out.1 SN.out.2 (M1.out.put _ _ _ _ _).2
        | true =>
          have B4 : Hid (Sc.p4 xs (Sc.p3 xs k) ≤ xs.length) := Sc.p4_le xs _ (Sc.isE_lt hE)
          have hj4 : (Sc.p4 xs (Sc.p3 xs k) : Int) ≤ 562949953421312 := by have := HN.out; have := B4.out; omega
          have hE2 := isE_t hE
          have HE := hid hE
          clear hE
          have D4 := hid (fun wx => DG.out (Sc.p4 xs (Sc.p3 xs k)) wx)
          cases hd : Sc.dg (Sc.pk xs (Sc.p4 xs (Sc.p3 xs k))) with
          | false =>
            rw [hd] at D4
            have SN : Hid (_ ∧ _) := sc_none (xs := xs) (k := k) (by unfold Sc.hasE; rw [hd, Bool.and_false])
            clear hd
            rcases hE2 with hE2 | hE2
            all_goals go_wp2_with fail
            all_goals (refine (PK.out (Sc.p3 xs k) _).mono ?_; rintro e w1 ⟨rfl, rfl⟩; go_wp2_with fail; refine (PKz.out _ (Sc.p3 xs k + 1) _ rfl).mono ?_; rintro e w1 ⟨rfl, rfl⟩; go_wp2_with fail; refine (PSz.out _ (Sc.p3 xs k + 1) (Sc.p4 xs (Sc.p3 xs k)) _ rfl rfl (by have := B3.out; omega)).mono ?_; rintro e w1 ⟨rfl, rfl⟩; go_wp2_with fail; refine (PK.out (Sc.p4 xs (Sc.p3 xs k)) _).mono ?_; rintro e w1 ⟨rfl, rfl⟩; go_wp2_with fail; refine (D4.out _).mono ?_; rintro e w1 ⟨rfl, rfl⟩; go_wp2_with fail)
            all_goals ((try simp only [Exit.inBlock, Exit.then]); refine bodyPost_ret (results_row_tmp rfl _ _ w.heap.size 76 _ (0, 0) _ rfl (M1.out.put _ _ _ _ _).1 Tryz.underlying76 rfl (by kernel_rfl)) rfl ?_; exact rd_some hs.out hA.out hB.out SN.out.1 SN.out.2 (M1.out.put _ _ _ _ _).2)
          | true =>
            rw [hd] at D4
            have HH : Hid (Sc.hasE xs (Sc.p3 xs k) = true) := by show _ = _; unfold Sc.hasE; rw [hd, HE.out]; rfl
            clear hd
            have M3 : Hid (RM w (w'.setCell ⟨w.heap.size + 1, 4, none⟩ (.int .i64 (Sc.p3 xs k : Nat))) (decide (Sc.pk xs k = 45)) A B (Sc.cap ((xs.drop (Sc.p4 xs (Sc.p3 xs k))).take (Sc.p4 xs (Sc.p3 xs k) - Sc.p4 xs (Sc.p3 xs k)))) (Sc.p3 xs k : Nat)) := by
              show RM _ _ _ _ _ _ _
              rw [Nat.sub_self]
              exact M1.out
            rcases hE2 with hE2 | hE2
            all_goals go_wp2_with fail
            all_goals (refine (PK.out (Sc.p3 xs k) _).mono ?_; rintro e w1 ⟨rfl, rfl⟩; go_wp2_with fail; refine (PKz.out _ (Sc.p3 xs k + 1) _ rfl).mono ?_; rintro e w1 ⟨rfl, rfl⟩; go_wp2_with fail; refine (PSz.out _ (Sc.p3 xs k + 1) (Sc.p4 xs (Sc.p3 xs k)) _ rfl rfl (by have := B3.out; omega)).mono ?_; rintro e w1 ⟨rfl, rfl⟩; go_wp2_with fail; refine (PK.out (Sc.p4 xs (Sc.p3 xs k)) _).mono ?_; rintro e w1 ⟨rfl, rfl⟩; go_wp2_with fail; refine (D4.out _).mono ?_; rintro e w1 ⟨rfl, rfl⟩; go_wp2_with fail)
            all_goals (go_step3; (try simp only [Exit.then]); rename_i hK; refine hK _ _ ?_; exact F.out 3 _ _ _ ⟨rfl, rfl, _, _, _, rfl, rfl, rfl, rfl, rfl, rfl, Sc.p4 xs (Sc.p3 xs k), rfl, RI.power _ _ _ _ hs.out hA.out hB.out HH.out (Nat.le_refl _) rfl M3.out⟩ (show 0 * (xs.length + 3) + (xs.length + 2 - Int.toNat (Sc.p4 xs (Sc.p3 xs k) : Int)) < 1 * (xs.length + 3) + (xs.length + 2 - Int.toNat (Sc.p3 xs k : Int)) by have := HN.out; have := B4.out; have := B1.out; have := B2.out; have := B3.out; omega) rfl)
      · have z1 : Sc.run Sc.dg xs (Sc.p1 xs k) = 0 := by unfold Sc.some? at hs; omega
        have z2 : Sc.bn xs k = 0 := by unfold Sc.some? at hs; omega
        rw [z1] at sA
        rw [z2] at sB
        clear z1 z2 nA nB
        replace m := hid m
        replace hs := hid hs
        go_wp2_with fail
        (try simp only [Exit.inBlock, Exit.then]); refine bodyPost_ret (results_row_tmp rfl _ _ w.heap.size 76 _ (0, 0) _ rfl (m.out.put _ _ _ _ _).1 Tryz.underlying76 rfl (by kernel_rfl)) rfl ?_; exact rd_none hs.out (m.out.put _ _ _ _ _).2
    | power j frm A B hs hA hB he h1 h2 m =>
      refine ⟨_, rfl, fun F => ?_⟩
      replace F := hid F
      have SS := hid (sc_some he)
      have B4 : Hid (j + Sc.run Sc.dg xs j ≤ xs.length) := by show _ ≤ _; rw [h2, ← (sc_some he).2]; exact BE.out
      have hj : (j : Int) ≤ 562949953421312 := by have := HN.out; have := B4.out; omega
      have cb := cap_bd h1 h2
      replace hs := hid hs
      replace hA := hid hA
      replace hB := hid hB
      replace he := hid he
      have D := hid (fun wx => DG.out j wx)
      obtain ⟨⟨c0, c1, c2, c3, c4⟩, f0, f1, f2, f3, f4⟩ := m.cells
      obtain ⟨⟨d0, d1, d2, d3, d4⟩, g0, g1, g2, g3, g4⟩ := m.room
      cases hd : Sc.dg (Sc.pk xs j) with
      | true =>
        rw [hd] at D
        have R := hid (Sc.run_succ Sc.dg0 hd)
        have hlt : j < xs.length := Sc.pk_lt (by have := Sc.dg_iff.1 hd; omega)
        have hx := HS.out.pk j
        have xb := Sc.dg_iff.1 hd
        have CM := hid (cap_more h1 hlt)
        have HLT := hid hlt
        have hli : (j : Int) < (xs.length : Int) := by omega
        replace h1 := hid h1
        replace h2 := hid h2
        replace m := hid m
        have M2 : Hid (∀ v : Int, v = min (10 * Sc.cap ((xs.drop (Sc.p4 xs (Sc.p3 xs k))).take (j - Sc.p4 xs (Sc.p3 xs k))) + (Sc.pk xs j - 48)) 1000000000000000 → RM w ((w'.setCell ⟨w.heap.size + 1, 3, none⟩ (.int .i64 v)).drew) (decide (Sc.pk xs k = 45)) A B (Sc.cap ((xs.drop (Sc.p4 xs (Sc.p3 xs k))).take (j + 1 - Sc.p4 xs (Sc.p3 xs k)))) (Sc.p3 xs k : Nat)) := fun v hv => by
          rw [CM.out, ← hv]
          exact (m.out.scale v).drew1
        clear hd hlt
        generalize Sc.cap ((xs.drop (Sc.p4 xs (Sc.p3 xs k))).take (j - Sc.p4 xs (Sc.p3 xs k))) = c at *
        have PKj := hid (fun wx => PK.out j wx)
        generalize Sc.pk xs j = x at *
        go_wp2_with fail
        refine (PKj.out _).mono ?_; rintro e w1 ⟨rfl, rfl⟩
        go_wp2_with fail
        refine (D.out _).mono ?_; rintro e w1 ⟨rfl, rfl⟩
        go_upto_region 26 with fail
        go_region
        go_wp2_with fail
        all_goals (go_step3; exact ⟨⟨rfl, rfl, _, _, _, rfl, rfl, rfl, rfl, rfl, rfl, j + 1, rfl, RI.power _ _ _ _ hs.out hA.out hB.out he.out (by have := h1.out; omega) (by have := h2.out; have := R.out; omega) (M2.out _ (by omega))⟩, (show 0 * (xs.length + 3) + (xs.length + 2 - Int.toNat ((j : Int) + 1)) < 0 * (xs.length + 3) + (xs.length + 2 - Int.toNat (j : Int)) by have := HN.out; have := HLT.out; have := B1.out; have := B2.out; have := B3.out; omega)⟩)
      | false =>
        rw [hd] at D
        have hj2 : j = Sc.p4 xs (Sc.p3 xs k) + Sc.run Sc.dg xs (Sc.p4 xs (Sc.p3 xs k)) := by have := h2; rw [Sc.run_zero Sc.dg0 hd] at this; exact this
        have EJ : Hid (j - Sc.p4 xs (Sc.p3 xs k) = Sc.run Sc.dg xs (Sc.p4 xs (Sc.p3 xs k))) := by show _ = _; omega
        have EN : Hid ((j : Int) = ((Sc.lit xs k).en : Nat)) := by show _ = _; rw [SS.out.2, ← hj2]
        clear hd hj2
        replace h1 := hid h1
        replace h2 := hid h2
        by_cases hn : Sc.pk xs (Sc.p3 xs k + 1) = 45
        · have E1 : Hid (- Sc.cap ((xs.drop (Sc.p4 xs (Sc.p3 xs k))).take (j - Sc.p4 xs (Sc.p3 xs k))) = (Sc.lit xs k).sc) := by show _ = _; rw [SS.out.1, if_pos hn, EJ.out]
          have M2 := hid ((m.scale (- Sc.cap ((xs.drop (Sc.p4 xs (Sc.p3 xs k))).take (j - Sc.p4 xs (Sc.p3 xs k))))).en (j : Int))
          rw [decide_eq_true hn]
          clear hn m
          generalize Sc.cap ((xs.drop (Sc.p4 xs (Sc.p3 xs k))).take (j - Sc.p4 xs (Sc.p3 xs k))) = c at *
          go_wp2_with fail
          refine (PK.out j _).mono ?_; rintro e w1 ⟨rfl, rfl⟩
          go_wp2_with fail
          refine (D.out _).mono ?_; rintro e w1 ⟨rfl, rfl⟩
          go_wp2_with fail
          (try simp only [Exit.inBlock, Exit.then]); refine bodyPost_ret (results_row_tmp rfl _ _ w.heap.size 76 _ (0, 0) _ rfl (M2.out.put _ _ _ _ _).1 Tryz.underlying76 rfl (by kernel_rfl)) rfl ?_; exact rd_some hs.out hA.out hB.out E1.out EN.out (M2.out.put _ _ _ _ _).2
        · have E1 : Hid (Sc.cap ((xs.drop (Sc.p4 xs (Sc.p3 xs k))).take (j - Sc.p4 xs (Sc.p3 xs k))) = (Sc.lit xs k).sc) := by show _ = _; rw [SS.out.1, if_neg hn, EJ.out]
          have M2 := hid (m.en (j : Int))
          rw [decide_eq_false hn]
          clear hn m
          generalize Sc.cap ((xs.drop (Sc.p4 xs (Sc.p3 xs k))).take (j - Sc.p4 xs (Sc.p3 xs k))) = c at *
          go_wp2_with fail
          refine (PK.out j _).mono ?_; rintro e w1 ⟨rfl, rfl⟩
          go_wp2_with fail
          refine (D.out _).mono ?_; rintro e w1 ⟨rfl, rfl⟩
          go_wp2_with fail
          (try simp only [Exit.inBlock, Exit.then]); refine bodyPost_ret (results_row_tmp rfl _ _ w.heap.size 76 _ (0, 0) _ rfl (M2.out.put _ _ _ _ _).1 Tryz.underlying76 rfl (by kernel_rfl)) rfl ?_; exact rd_some hs.out hA.out hB.out E1.out EN.out (M2.out.put _ _ _ _ _).2
end Go.Proofs.YtbmlkfkhmaahnaaGreatDoor

namespace Go.Proofs.YtbmlkfkhmaahnaaGreatDoor
open Go Go.RowKit Go.Deep




theorem Str.append {s t : ByteArray} {xs ys : List Int} (h : Str s xs) (k : Str t ys) : Str (s ++ t) (xs ++ ys) := by
  unfold Str at *
  rw [ByteArray.data_append, Array.toList_append, List.map_append, h, k]

/-- A literal's box and room for a Dec. -/
def LitBox (w w' : World) (neg : Bool) (A B : ByteArray) (sc en : Int) : Prop := Below w.heap.size w w' ∧ Row5 w' w.heap.size 76 (.bool neg) (.string A) (.string B) (.int .i64 sc) (.int .i64 en) ∧ Row3 w' (w.heap.size + 1) (.bool false) (.string ⟨#[]⟩) (.int .i64 0)
theorem LitBox.new (w : World) (neg : Bool) (A B : ByteArray) (sc en : Int) : LitBox w ((w.alloc (.cells #[.bool neg, .string A, .string B, .int .i64 sc, .int .i64 en] 76)).alloc (.cells #[.bool false, .string ⟨#[]⟩, .int .i64 0] 25)) neg A B sc en :=
  ⟨below_on (alloc_b _ _) (alloc_b _ _), heap_alloc2_old _ _ _, heap_alloc2_new _ _ _⟩
theorem LitBox.on {w w' w'' : World} {neg : Bool} {A B : ByteArray} {sc en : Int} (h : LitBox w w' neg A B sc en) (k : Below w'.heap.size w' w'') : LitBox w w'' neg A B sc en :=
  ⟨below_on h.1 k, h.2.1.below k h.2.1.lt, h.2.2.below k h.2.2.lt⟩
theorem LitBox.put {w w' : World} {neg : Bool} {A B : ByteArray} {sc en : Int} (h : LitBox w w' neg A B sc en) (x0 x1 x2 : Value) :
    Row3 (((w'.setCell ⟨w.heap.size + 1, 0, none⟩ x0).setCell ⟨w.heap.size + 1, 1, none⟩ x1).setCell ⟨w.heap.size + 1, 2, none⟩ x2) (w.heap.size + 1) x0 x1 x2 ∧ Below w.heap.size w (((w'.setCell ⟨w.heap.size + 1, 0, none⟩ x0).setCell ⟨w.heap.size + 1, 1, none⟩ x1).setCell ⟨w.heap.size + 1, 2, none⟩ x2) :=
  ⟨h.2.2.put _ _ _, set3_below h.1 (Nat.le_succ _)⟩



set_option maxRecDepth 100000 in
set_option maxHeartbeats 1000000 in
theorem ldec_any (neg : Bool) (A B : ByteArray) (xs ys : List Int) (sc en : Int) (w : World) (hA : Str A xs) (hB : Str B ys) (hn : xs.length + ys.length ≤ 281474976710655) (s0 : -1000000000000000 ≤ sc) (s1 : sc ≤ 1000000000000000) :
    Calls Tryz.prog 41 #[litV neg A B sc en] w fun r w' => ∃ v, r = .returned v ∧ DecIs v (Sc.nrm neg (xs ++ ys) (sc - ys.length)) ∧ Below w.heap.size w w' := by
  have T := hid (fun wx => dtrim_any neg (A ++ B) (xs ++ ys) (sc - ys.length) wx (hA.append hB) (by simp; omega) (by omega) (by omega))
  have O : Hid (∀ s wx, Str s (Sc.nrm neg (xs ++ ys) (sc - ys.length)).ds → Calls Tryz.prog 43 #[decV (Sc.nrm neg (xs ++ ys) (sc - ys.length)).neg s (Sc.nrm neg (xs ++ ys) (sc - ys.length)).e] wx fun r w' => r = .returned (decV (Sc.nrm neg (xs ++ ys) (sc - ys.length)).neg s (Sc.nrm neg (xs ++ ys) (sc - ys.length)).e) ∧ Below wx.heap.size wx w') := fun s wx h => own_any _ s _ wx (by rw [h.size]; exact nrm_ds_len _ _ _ (by simp; omega))
  have Z := hid (LitBox.new w neg A B sc en)
  have hsA := hA.size
  have hsB := hB.size
  have yb : (ys.length : Int) ≤ 281474976710655 := by omega
  have ncat : ¬ (9223372036854775807 < xs.length + ys.length) := by omega
  clear hA hB hn
  generalize Sc.nrm neg (xs ++ ys) (sc - ys.length) = D at *
  unfold litV
  unfold decV at T O
  go_enter Tryz.func41, Tryz.ntmps41
  go_wp2_with fail
  refine (T.out _).mono ?_
  rintro r w1 ⟨v, rfl, ⟨s2, hv, h2⟩, hB⟩
  unfold decV at hv
  subst hv
  have O2 := hid (fun wx => O.out s2 wx h2)
  have H2 := hid h2
  have S1 := hid (Z.out.on hB)
  clear h2 hB O T Z
  go_wp2_with fail
  refine (O2.out _).mono ?_
  rintro r w2 ⟨rfl, hB⟩
  have S2 := hid (S1.out.on hB)
  obtain ⟨⟨d0, d1, d2⟩, g0, g1, g2⟩ := S2.out.2.2.cells
  clear hB S1 O2
  go_wp2_with fail
  (try simp only [Exit.inBlock, Exit.then])
  refine bodyPost_ret (results_cell_row rfl _ _ (w.heap.size + 1) 25 _ (0, 0) _ rfl (S2.out.put _ _ _).1 Tryz.underlying25 rfl (by kernel_rfl)) rfl ?_
  exact dec_ret ⟨_, rfl, H2.out⟩ (S2.out.put _ _ _).2

/-- Room for the answer; the literal in its box. -/
def NSt (w wx : World) (b : Nat) (neg : Bool) (A B : ByteArray) (sc en : Int) : Prop :=
  Below w.heap.size w wx ∧ Row3 wx w.heap.size (.bool false) (.string ⟨#[]⟩) (.int .i64 0) ∧ Row5 wx b 76 (.bool neg) (.string A) (.string B) (.int .i64 sc) (.int .i64 en)
theorem NSt.new {w w1 : World} (hB : Below (w.alloc (.cells #[.bool false, .string ⟨#[]⟩, .int .i64 0] 25)).heap.size (w.alloc (.cells #[.bool false, .string ⟨#[]⟩, .int .i64 0] 25)) w1) (neg : Bool) (A B : ByteArray) (sc en : Int) :
    NSt w (w1.alloc (.cells #[.bool neg, .string A, .string B, .int .i64 sc, .int .i64 en] 76)) w1.heap.size neg A B sc en := by
  have r := (Row3.new w (.bool false) (.string ⟨#[]⟩) (.int .i64 0)).below hB (Row3.new w _ _ _).lt
  exact ⟨below_on (below_on (alloc_b _ _) hB) (alloc_b _ _), r.below (alloc_b _ _) r.lt, heap_alloc_new _ _⟩
theorem NSt.on {w wx w' : World} {b : Nat} {neg : Bool} {A B : ByteArray} {sc en : Int} (h : NSt w wx b neg A B sc en) (k : Below wx.heap.size wx w') : NSt w w' b neg A B sc en :=
  ⟨below_on h.1 k, h.2.1.below k h.2.1.lt, h.2.2.below k h.2.2.lt⟩
theorem NSt.drew {w wx : World} {b : Nat} {neg : Bool} {A B : ByteArray} {sc en : Int} (h : NSt w wx b neg A B sc en) : NSt w wx.drew b neg A B sc en :=
  h.on (below_drewN (Below.refl _ _) 1)
theorem NSt.flat {w wx : World} {b : Nat} {neg : Bool} {A B : ByteArray} {sc en : Int} (h : NSt w wx b neg A B sc en) :
    (wx.cell? ⟨b, 0, none⟩ = some (.bool neg) ∧ wx.cell? ⟨b, 1, none⟩ = some (.string A) ∧ wx.cell? ⟨b, 2, none⟩ = some (.string B) ∧ wx.cell? ⟨b, 3, none⟩ = some (.int .i64 sc) ∧ wx.cell? ⟨b, 4, none⟩ = some (.int .i64 en)) ∧
    (wx.cell? ⟨w.heap.size, 0, none⟩ = some (.bool false) ∧ wx.cell? ⟨w.heap.size, 1, none⟩ = some (.string ⟨#[]⟩) ∧ wx.cell? ⟨w.heap.size, 2, none⟩ = some (.int .i64 0)) ∧
    (wx.frozen? ⟨w.heap.size, 0, none⟩ = false ∧ wx.frozen? ⟨w.heap.size, 1, none⟩ = false ∧ wx.frozen? ⟨w.heap.size, 2, none⟩ = false) :=
  ⟨h.2.2.cells.1, h.2.1.cells.1, h.2.1.cells.2⟩
def Five (wx : World) (b : Nat) (neg : Bool) (A B : ByteArray) (sc en : Int) : Prop := wx.cell? ⟨b, 0, none⟩ = some (.bool neg) ∧ wx.cell? ⟨b, 1, none⟩ = some (.string A) ∧ wx.cell? ⟨b, 2, none⟩ = some (.string B) ∧ wx.cell? ⟨b, 3, none⟩ = some (.int .i64 sc) ∧ wx.cell? ⟨b, 4, none⟩ = some (.int .i64 en)
theorem NSt.five {w wx : World} {b : Nat} {neg : Bool} {A B : ByteArray} {sc en : Int} (h : NSt w wx b neg A B sc en) : wx.cell? ⟨b, 0, none⟩ = some (.bool neg) ∧ wx.cell? ⟨b, 1, none⟩ = some (.string A) ∧ wx.cell? ⟨b, 2, none⟩ = some (.string B) ∧ wx.cell? ⟨b, 3, none⟩ = some (.int .i64 sc) ∧ wx.cell? ⟨b, 4, none⟩ = some (.int .i64 en) := h.2.2.cells.1
theorem NSt.fiveP {w wx : World} {b : Nat} {neg : Bool} {A B : ByteArray} {sc en : Int} (h : NSt w wx b neg A B sc en) (hb : w.heap.size ≠ b) (x0 x1 x2 : Value) :
    (((wx.setCell ⟨w.heap.size, 0, none⟩ x0).setCell ⟨w.heap.size, 1, none⟩ x1).setCell ⟨w.heap.size, 2, none⟩ x2).cell? ⟨b, 0, none⟩ = some (.bool neg) ∧ (((wx.setCell ⟨w.heap.size, 0, none⟩ x0).setCell ⟨w.heap.size, 1, none⟩ x1).setCell ⟨w.heap.size, 2, none⟩ x2).cell? ⟨b, 1, none⟩ = some (.string A) ∧ (((wx.setCell ⟨w.heap.size, 0, none⟩ x0).setCell ⟨w.heap.size, 1, none⟩ x1).setCell ⟨w.heap.size, 2, none⟩ x2).cell? ⟨b, 2, none⟩ = some (.string B) ∧ (((wx.setCell ⟨w.heap.size, 0, none⟩ x0).setCell ⟨w.heap.size, 1, none⟩ x1).setCell ⟨w.heap.size, 2, none⟩ x2).cell? ⟨b, 3, none⟩ = some (.int .i64 sc) ∧ (((wx.setCell ⟨w.heap.size, 0, none⟩ x0).setCell ⟨w.heap.size, 1, none⟩ x1).setCell ⟨w.heap.size, 2, none⟩ x2).cell? ⟨b, 4, none⟩ = some (.int .i64 en) :=
  (((h.2.2.set_far hb).set_far hb).set_far hb).cells.1
theorem NSt.put {w wx : World} {b : Nat} {neg : Bool} {A B : ByteArray} {sc en : Int} (h : NSt w wx b neg A B sc en) (x0 x1 x2 : Value) :
    Row3 (((wx.setCell ⟨w.heap.size, 0, none⟩ x0).setCell ⟨w.heap.size, 1, none⟩ x1).setCell ⟨w.heap.size, 2, none⟩ x2) w.heap.size x0 x1 x2 ∧ Below w.heap.size w (((wx.setCell ⟨w.heap.size, 0, none⟩ x0).setCell ⟨w.heap.size, 1, none⟩ x1).setCell ⟨w.heap.size, 2, none⟩ x2) :=
  ⟨h.2.1.put _ _ _, set3_below h.1 (Nat.le_refl _)⟩

/-- What Number tells. -/
def NumTold (xs : List Int) (w : World) (e : Ending) (w' : World) : Prop := ∃ v, e = .returned (.tuple #[v, .int .i64 ((Sc.num xs).2 : Nat)]) ∧ DecIs v (Sc.num xs).1 ∧ Below w.heap.size w w'
def WhlTold (xs : List Int) (w : World) (e : Ending) (w' : World) : Prop := ∃ v, e = .returned (.tuple #[v, .bool (Sc.whl xs).2]) ∧ DecIs v (Sc.whl xs).1 ∧ Below w.heap.size w w'

set_option maxRecDepth 100000 in
set_option maxHeartbeats 2000000 in
theorem number_any (s : ByteArray) (xs : List Int) (w : World) (hs : Str s xs) (hn : xs.length ≤ 562949953421312) (hn2 : Sc.some? xs (Sc.run Sc.bl xs 0) → (Sc.lit xs (Sc.run Sc.bl xs 0)).ah.length + (Sc.lit xs (Sc.run Sc.bl xs 0)).bh.length ≤ 281474976710655) :
    Calls Tryz.prog 24 #[.string s] w fun e w' => NumTold xs w e w' := by
  have BL : Hid (∀ wx, Calls Tryz.prog 40 #[.string s, .int .i64 0] wx fun e w' => e = .returned (.int .i64 (Sc.run Sc.bl xs 0 : Nat)) ∧ w' = wx) := fun wx => by
    have := blanks_any s xs 0 wx hs hn (Nat.zero_le _)
    rw [Nat.zero_add] at this
    exact this
  have RD := hid (fun wx => vread_any s xs (Sc.run Sc.bl xs 0) wx hs hn (by have := Sc.run_le Sc.bl xs 0; omega))
  have NE : Hid (Sc.some? xs (Sc.run Sc.bl xs 0) → Sc.num xs = ((Sc.lit xs (Sc.run Sc.bl xs 0)).d, (Sc.lit xs (Sc.run Sc.bl xs 0)).en)) := fun c => by unfold Sc.num; rw [if_pos c]
  have NZ : Hid (¬ Sc.some? xs (Sc.run Sc.bl xs 0) → Sc.num xs = (⟨false, [], 0⟩, 0)) := fun c => by unfold Sc.num; rw [if_neg c]
  have LS := hid (Sc.lit_sc xs (Sc.run Sc.bl xs 0))
  have H2 := hid hn2
  clear hs hn hn2
  generalize Sc.run Sc.bl xs 0 = K at *
  go_enter Tryz.func24, Tryz.ntmps24
  go_wp2_with fail
  refine (BL.out _).mono ?_
  rintro e w1 ⟨rfl, rfl⟩
  go_wp2_with fail
  refine (RD.out _).mono ?_
  rintro e w1 ⟨h | ⟨h, rfl⟩, hB⟩
  · obtain ⟨hs, A, B, rfl, hA, hB'⟩ := h
    have ST := hid (NSt.new hB (Sc.lit xs K).neg A B (Sc.lit xs K).sc ((Sc.lit xs K).en : Nat))
    have DC := hid (fun wx => ldec_any (Sc.lit xs K).neg A B (Sc.lit xs K).ah (Sc.lit xs K).bh (Sc.lit xs K).sc ((Sc.lit xs K).en : Nat) wx hA hB' (H2.out hs) LS.out.1 LS.out.2)
    have NB0 : Hid (w.heap.size ≠ w1.heap.size) := by
      have := hB.size
      rw [show (w.alloc (.cells #[.bool false, .string ⟨#[]⟩, .int .i64 0] 25)).heap.size = w.heap.size + 1 by simp] at this
      show _ ≠ _; omega
    have NE' := hid (NE.out hs)
    clear hB hA hB' hs H2 LS NE NZ RD BL
    have ED : Hid (Sc.nrm (Sc.lit xs K).neg ((Sc.lit xs K).ah ++ (Sc.lit xs K).bh) ((Sc.lit xs K).sc - (Sc.lit xs K).bh.length) = (Sc.num xs).1) := by rw [NE'.out]; rfl
    have EE : Hid ((Sc.lit xs K).en = (Sc.num xs).2) := by rw [NE'.out]; rfl
    rw [ED.out] at DC
    rw [EE.out] at DC ST
    unfold litV at DC ⊢
    rw [EE.out]
    clear ED EE NE'
    generalize Sc.lit xs K = l at *
    go_upto_region 4 with fail
    generalize w1.alloc (.cells #[.bool l.neg, .string A, .string B, .int .i64 l.sc, .int .i64 ((Sc.num xs).2 : Nat)] 76) = wA at *
    have NB : Hid (w.heap.size ≠ w1.heap.size) := NB0.out
    generalize w1.heap.size = b at *
    have SD := hid ST.out.drew
    have FF : Hid (∀ v, DecIs v (Sc.num xs).1 → ∃ t, v = .agg #[.bool (Sc.num xs).1.neg, .string t, .int .i64 (Sc.num xs).1.e] ∧ Str t (Sc.num xs).1.ds) := fun v h => h
    go_region_held3 (fun w' => w'.cell? ⟨b, 0, none⟩ = some (.bool l.neg) ∧ w'.cell? ⟨b, 1, none⟩ = some (.string A) ∧ w'.cell? ⟨b, 2, none⟩ = some (.string B) ∧ w'.cell? ⟨b, 3, none⟩ = some (.int .i64 l.sc) ∧ w'.cell? ⟨b, 4, none⟩ = some (.int .i64 ((Sc.num xs).2 : Nat))) (first | (with_reducible exact T1.out.fiveP NB.out _ _ _) | (with_reducible exact T1.out.five) | (with_reducible exact SD.out.five)) (first | (go_at_call 41; refine (DC.out _).mono ?_; rintro e w2 ⟨v, rfl, hv, hB⟩; obtain ⟨t, rfl, ht⟩ := FF.out _ hv; have HT := hid ht; have T1 := hid (SD.out.on hB); obtain ⟨-, ⟨d0, d1, d2⟩, g0, g1, g2⟩ := T1.out.flat; clear hv hB ht))
    all_goals go_wp2_with fail
    all_goals (try simp only [Exit.inBlock, Exit.then])
    all_goals (refine bodyPost_ret (results_row_tmp rfl _ _ w.heap.size 25 _ (0, 0) _ rfl (T1.out.put _ _ _).1 Tryz.underlying25 rfl (by kernel_rfl)) rfl ?_; exact ⟨_, rfl, ⟨_, rfl, HT.out⟩, (T1.out.put _ _ _).2⟩)
  · have ST := hid (NSt.new hB false ⟨#[]⟩ ⟨#[]⟩ 0 0)
    obtain ⟨-, ⟨d0, d1, d2⟩, g0, g1, g2⟩ := ST.out.flat
    have NZ' := hid (NZ.out h)
    clear hB h H2 LS NE NZ RD BL
    have EE : Hid ((Sc.num xs).2 = 0) := by rw [NZ'.out]; rfl
    unfold litV
    have F : Hid (∀ w', Below w.heap.size w w' → NumTold xs w (.returned (.tuple #[.agg #[.bool false, .string ⟨#[]⟩, .int .i64 0], .int .i64 0])) w') := fun w' b => ⟨_, by rw [NZ'.out]; rfl, by rw [NZ'.out]; exact ⟨_, rfl, str_nil0⟩, b⟩
    clear EE NZ'
    go_wp2_with fail
    (try simp only [Exit.inBlock, Exit.then])
    refine bodyPost_ret (results_row_tmp rfl _ _ w.heap.size 25 _ (0, 0) _ rfl (ST.out.put _ _ _).1 Tryz.underlying25 rfl (by kernel_rfl)) rfl ?_
    exact F.out _ (ST.out.put _ _ _).2

end Go.Proofs.YtbmlkfkhmaahnaaGreatDoor

namespace Go.Proofs.YtbmlkfkhmaahnaaGreatDoor
open Go Go.RowKit Go.Deep Go.Shelf

def compLays_ren : Go.Shelf.Ren := ⟨fun | 106 => 94 | 213 => 120 | 265 => 135 | n => n, fun | 9 => 9 | 3 => 3 | n => n, fun | n => n⟩
theorem compLays : Go.Proofs.Lays.n106 Tryz.prog compLays_ren := {
  mixed := by kernel_rfl
  f106 := Tryz.func94.trans (congrArg some (by kernel_rfl))
  f213 := Tryz.func120.trans (congrArg some (by kernel_rfl))
  f265 := Tryz.func135.trans (congrArg some (by kernel_rfl))
  t3 := Tryz.underlying3
  a3 := Tryz.isAgg3
  z3 := Tryz.sizeOf3
  v3 := Tryz.zeroValue3
  t9 := Tryz.underlying9
  a9 := Tryz.isAgg9
  z9 := Tryz.sizeOf9
  v9 := Tryz.zeroValue9 }

theorem lex_bytes (a b : List UInt8) : Lib.compareBytes a b = Sc.lex (a.map fun x => (x.toNat : Int)) (b.map fun x => (x.toNat : Int)) := by
  induction a generalizing b with
  | nil => cases b <;> rfl
  | cons x a ih =>
    cases b with
    | nil => rfl
    | cons y b =>
      simp only [Lib.compareBytes, List.map_cons, Sc.lex, ih]
      have h1 : (x < y) ↔ ((x.toNat : Int) < (y.toNat : Int)) := by rw [UInt8.lt_iff_toNat_lt]; omega
      have h2 : (y < x) ↔ ((y.toNat : Int) < (x.toNat : Int)) := by rw [UInt8.lt_iff_toNat_lt]; omega
      simp only [h1, h2]

theorem scompare_any (s t : ByteArray) (xs ys : List Int) (w : World) (hs : Str s xs) (ht : Str t ys) :
    Calls Tryz.prog 94 #[.string s, .string t] w fun e w' => e = .returned (.int .i64 (Sc.lex xs ys)) ∧ w' = w := by
  refine (Any.strings_Compare compLays s t w).mono ?_
  rintro e w' ⟨rfl, rfl⟩
  rw [lex_bytes]
  unfold Str at hs ht
  rw [hs, ht]
  exact ⟨rfl, rfl⟩
end Go.Proofs.YtbmlkfkhmaahnaaGreatDoor

namespace Go.Proofs.YtbmlkfkhmaahnaaGreatDoor
open Go Go.RowKit Go.Deep

theorem isnan_any (x : Int) (w : World) : Calls Tryz.prog 119 #[.int .i64 x] w fun e w' => e = .returned (.bool false) ∧ w' = w := by
  have h : (x != x) = false := by simp
  go_enter Tryz.func119, Tryz.ntmps119
  go_wp2_with fail
  go_ret
  exact ⟨by simp, rfl⟩

theorem cmpint_any (x y : Int) (w : World) : Calls Tryz.prog 93 #[.int .i64 x, .int .i64 y] w fun e w' => e = .returned (.int .i64 (Sc.cmpI x y)) ∧ w' = w := by
  have X := hid (fun wx => isnan_any x wx)
  have Y := hid (fun wx => isnan_any y wx)
  have C := hid (Sc.cmpI_c x y)
  go_enter Tryz.func93, Tryz.ntmps93
  go_wp2_with fail
  refine (X.out _).mono ?_
  rintro e w1 ⟨rfl, rfl⟩
  go_wp2_with fail
  refine (Y.out _).mono ?_
  rintro e w1 ⟨rfl, rfl⟩
  go_wp2_with fail
  all_goals (go_ret; exact ⟨congrArg (fun z => Ending.returned (.int .i64 z)) (by have := C.out; omega), rfl⟩)

theorem str48 : (⟨#[48]⟩ : ByteArray).toList = [48] := by rw [ByteArray.toList_eq]

theorem vsign_any (d : Sc.D) (s : ByteArray) (w : World) (hs : Str s d.ds) : Calls Tryz.prog 92 #[.agg #[.bool d.neg, .string s, .int .i64 d.e]] w fun e w' => e = .returned (.int .i64 (Sc.sgn d)) ∧ Below w.heap.size w w' := by
  have B := hid (alloc_b w (.cells #[.bool d.neg, .string s, .int .i64 d.e] 25))
  rcases Sc.sgn_c d with ⟨h1, h2⟩ | ⟨h1, h3, h2⟩ | ⟨h1, h3, h2⟩
  · have hs0 : s = ⟨#[48]⟩ := hs.inj (by rw [h1]; rfl)
    subst hs0
    rw [h2]
    clear hs h1 h2
    go_enter Tryz.func92, Tryz.ntmps92
    go_wp2_with fail
    go_ret
    exact ⟨rfl, B.out⟩
  · have q : (s.toList == [48]) = false := by
      have := hs.eq (t := ⟨#[48]⟩) (ys := [48]) rfl
      rw [decide_eq_false h1, str48] at this
      exact this
    have q1 : s.toList ≠ [48] := by simpa using q
    rw [h2, h3]
    rw [h3] at B
    clear hs h1 h2 h3
    go_enter Tryz.func92, Tryz.ntmps92
    go_wp2_with fail
    go_ret
    exact ⟨rfl, B.out⟩
  · have q : (s.toList == [48]) = false := by
      have := hs.eq (t := ⟨#[48]⟩) (ys := [48]) rfl
      rw [decide_eq_false h1, str48] at this
      exact this
    have q1 : s.toList ≠ [48] := by simpa using q
    rw [h2, h3]
    rw [h3] at B
    clear hs h1 h2 h3
    go_enter Tryz.func92, Tryz.ntmps92
    go_wp2_with fail
    go_ret
    exact ⟨rfl, B.out⟩







/-- What Cmp tells. -/
def cmpE (na : Bool) (xs : List Int) (ea : Int) (nb : Bool) (ys : List Int) (eb : Int) : Int × Int := if Sc.IsDec xs ea ∧ Sc.IsDec ys eb then (Sc.cmpD (Sc.nrm na xs ea) (Sc.nrm nb ys eb), 0) else (0, 80)

theorem nmd_e (neg : Bool) (xs : List Int) (e : Int) (hn : xs.length ≤ 281474976710656) : -1152921504606846976 ≤ (nmd neg xs e).e ∧ (nmd neg xs e).e ≤ 1152921504606846976 ∧ (nmd neg xs e).ds.length ≤ 281474976710657 := by
  unfold nmd
  split
  · next h =>
    refine ⟨?_, ?_, ?_⟩
    · rcases Sc.nrm_e neg xs e with k | k
      · omega
      · have := h.2.1; omega
    · by_cases c : Sc.lz xs = xs.length
      · rw [Sc.nrm_zero c]; show (0 : Int) ≤ _; omega
      · rw [Sc.nrm_pos c]; exact h.2.2.2.2 c
    · have := Sc.nrm_len neg xs e; omega
  · simp

/-- Two Decs by their sizes. -/
theorem cmpD_same {a b : Sc.D} (h : Sc.sgn a = Sc.sgn b) : Sc.cmpD a b = if a.neg = true then Sc.mc b a else Sc.mc a b := by
  unfold Sc.cmpD; rw [if_neg (by simpa using h)]
theorem cmpD_apart {a b : Sc.D} (h : Sc.sgn a ≠ Sc.sgn b) : Sc.cmpD a b = Sc.cmpI (Sc.sgn a) (Sc.sgn b) := by
  unfold Sc.cmpD; rw [if_pos h]
theorem mc_apart {a b : Sc.D} (h : Sc.pl a ≠ Sc.pl b) : Sc.mc a b = Sc.cmpI (Sc.pl a) (Sc.pl b) := by
  unfold Sc.mc; rw [if_pos h]
theorem mc_same {a b : Sc.D} (h : Sc.pl a = Sc.pl b) : Sc.mc a b = Sc.lex a.ds b.ds := by
  unfold Sc.mc; rw [if_neg (by simpa using h)]
end Go.Proofs.YtbmlkfkhmaahnaaGreatDoor

namespace Go.Proofs.YtbmlkfkhmaahnaaGreatDoor
open Go Go.RowKit Go.Deep

def Six (wx : World) (g : Nat) (a b : Sc.D) (s t : ByteArray) : Prop := (wx.cell? ⟨g, 0, none⟩ = some (.bool a.neg) ∧ wx.cell? ⟨g, 1, none⟩ = some (.string s) ∧ wx.cell? ⟨g, 2, none⟩ = some (.int .i64 a.e)) ∧ (wx.cell? ⟨g + 1, 0, none⟩ = some (.bool b.neg) ∧ wx.cell? ⟨g + 1, 1, none⟩ = some (.string t) ∧ wx.cell? ⟨g + 1, 2, none⟩ = some (.int .i64 b.e))
/-- The two Decs in their boxes. -/
def C2 (w wx : World) (a b : Sc.D) (s t : ByteArray) : Prop := Two3 w wx (.bool a.neg) (.string s) (.int .i64 a.e) (.bool b.neg) (.string t) (.int .i64 b.e)
theorem C2.six {w wx : World} {a b : Sc.D} {s t : ByteArray} (h : C2 w wx a b s t) : (wx.cell? ⟨w.heap.size, 0, none⟩ = some (.bool a.neg) ∧ wx.cell? ⟨w.heap.size, 1, none⟩ = some (.string s) ∧ wx.cell? ⟨w.heap.size, 2, none⟩ = some (.int .i64 a.e)) ∧ (wx.cell? ⟨w.heap.size + 1, 0, none⟩ = some (.bool b.neg) ∧ wx.cell? ⟨w.heap.size + 1, 1, none⟩ = some (.string t) ∧ wx.cell? ⟨w.heap.size + 1, 2, none⟩ = some (.int .i64 b.e)) := ⟨h.2.1.cells.1, h.2.2.cells.1⟩
theorem C2.on {w wx w' : World} {a b : Sc.D} {s t : ByteArray} (h : C2 w wx a b s t) (k : Below wx.heap.size wx w') : C2 w w' a b s t := Two3.on h k
theorem C2.drew {w wx : World} {a b : Sc.D} {s t : ByteArray} (h : C2 w wx a b s t) : C2 w wx.drew a b s t := Two3.drew h 1

set_option maxRecDepth 100000 in
set_option maxHeartbeats 4000000 in
/-- Behind the two slims: both are Decs, or one is none. -/
theorem vcmp_any (na nb : Bool) (s t : ByteArray) (xs ys : List Int) (ea eb : Int) (w : World) (hs : Str s xs) (ht : Str t ys) (hn : xs.length ≤ 281474976710656) (hm : ys.length ≤ 281474976710656) :
    Calls Tryz.prog 63 #[decV na s ea, decV nb t eb] w fun r w' => r = .returned (.tuple #[.int .i64 (cmpE na xs ea nb ys eb).1, .int .i64 (cmpE na xs ea nb ys eb).2]) ∧ Below w.heap.size w w' := by
  have TA := hid (fun wx => slim_any na s xs ea wx hs hn)
  have TB := hid (fun wx => slim_any nb t ys eb wx ht hm)
  have Z := hid (Two3.new w (.bool na) (.string s) (.int .i64 ea) (.bool nb) (.string t) (.int .i64 eb))
  have bA := nmd_e na xs ea hn
  have bB := nmd_e nb ys eb hm
  have CE : Hid (Sc.IsDec xs ea → Sc.IsDec ys eb → cmpE na xs ea nb ys eb = (Sc.cmpD (nmd na xs ea) (nmd nb ys eb), 0)) := fun c d => by unfold cmpE nmd; rw [if_pos ⟨c, d⟩, if_pos c, if_pos d]
  have CN : Hid (¬ (Sc.IsDec xs ea ∧ Sc.IsDec ys eb) → cmpE na xs ea nb ys eb = (0, 80)) := fun c => by unfold cmpE; rw [if_neg c]
  clear hs ht hn hm
  unfold decV at TA TB ⊢
  obtain ⟨da, hda⟩ : ∃ d, decide (Sc.IsDec xs ea) = d := ⟨_, rfl⟩
  obtain ⟨db, hdb⟩ : ∃ d, decide (Sc.IsDec ys eb) = d := ⟨_, rfl⟩
  have HA := hid hda
  have HB := hid hdb
  clear hda hdb
  go_enter Tryz.func63, Tryz.ntmps63
  go_wp2_with fail
  refine (TA.out _).mono ?_
  rintro r w1 ⟨v, rfl, ⟨s1, hv, hs1⟩, hB⟩
  unfold decV at hv
  subst hv
  rw [HA.out]
  have S := hid ((Z.out.on hB).putA (.bool (nmd na xs ea).neg) (.string s1) (.int .i64 (nmd na xs ea).e))
  obtain ⟨⟨c0, c1, c2⟩, f0, f1, f2⟩ := (Z.out.on hB).2.1.cells
  obtain ⟨⟨d0, d1, d2⟩, g0, g1, g2⟩ := (Z.out.on hB).2.2.cells
  have H1 := hid hs1
  clear hB hs1 Z TA
  go_wp2_with fail
  refine (TB.out _).mono ?_
  rintro r w2 ⟨v, rfl, ⟨t1, hv, ht1⟩, hB⟩
  unfold decV at hv
  subst hv
  rw [HB.out]
  have S2 : Hid (C2 w (((w2.setCell ⟨w.heap.size + 1, 0, none⟩ (.bool (nmd nb ys eb).neg)).setCell ⟨w.heap.size + 1, 1, none⟩ (.string t1)).setCell ⟨w.heap.size + 1, 2, none⟩ (.int .i64 (nmd nb ys eb).e)) (nmd na xs ea) (nmd nb ys eb) s1 t1) := (S.out.on hB).putB (.bool (nmd nb ys eb).neg) (.string t1) (.int .i64 (nmd nb ys eb).e)
  clear c0 c1 c2 f0 f1 f2 d0 d1 d2 g0 g1 g2
  obtain ⟨⟨d0, d1, d2⟩, g0, g1, g2⟩ := (S.out.on hB).2.2.cells
  have H2 := hid ht1
  clear hB ht1 S TB
  by_cases hda : da = true ∧ db = true
  · obtain ⟨rfl, rfl⟩ := hda
    have CE2 := hid (CE.out (of_decide_eq_true HA.out) (of_decide_eq_true HB.out))
    have SA := hid (fun wx => vsign_any (nmd na xs ea) s1 wx H1.out)
    have SB := hid (fun wx => vsign_any (nmd nb ys eb) t1 wx H2.out)
    have SC := hid (fun wx => scompare_any s1 t1 _ _ wx H1.out H2.out)
    have SD := hid (fun wx => scompare_any t1 s1 _ _ wx H2.out H1.out)
    have zA := H1.out.size
    have zB := H2.out.size
    clear CE CN HA HB H1 H2
    generalize nmd na xs ea = A at *
    generalize nmd nb ys eb = B at *
    go_upto_region 5 with fail
    generalize ((w2.setCell ⟨w.heap.size + 1, 0, none⟩ (.bool B.neg)).setCell ⟨w.heap.size + 1, 1, none⟩ (.string t1)).setCell ⟨w.heap.size + 1, 2, none⟩ (.int .i64 B.e) = w3 at *
    clear d0 d1 d2 g0 g1 g2
    have T0 := hid S2.out.drew
    go_region_held3 (fun wx => (wx.cell? ⟨w.heap.size, 0, none⟩ = some (.bool A.neg) ∧ wx.cell? ⟨w.heap.size, 1, none⟩ = some (.string s1) ∧ wx.cell? ⟨w.heap.size, 2, none⟩ = some (.int .i64 A.e)) ∧ (wx.cell? ⟨w.heap.size + 1, 0, none⟩ = some (.bool B.neg) ∧ wx.cell? ⟨w.heap.size + 1, 1, none⟩ = some (.string t1) ∧ wx.cell? ⟨w.heap.size + 1, 2, none⟩ = some (.int .i64 B.e))) (first | (with_reducible exact T2.out.six) | (with_reducible exact T1.out.six) | (with_reducible exact T0.out.six)) (first
      | (go_at_call 92; (first
          | (with_reducible refine (SA.out _).mono ?_; rintro e w5 ⟨rfl, hB⟩; (first | (have T2 := hid (T1.out.on hB); clear hB) | (have T1 := hid (T0.out.on hB); clear hB)))
          | (with_reducible refine (SB.out _).mono ?_; rintro e w5 ⟨rfl, hB⟩; (first | (have T2 := hid (T1.out.on hB); clear hB) | (have T1 := hid (T0.out.on hB); clear hB))))))
    generalize w5 = w4 at *
    by_cases hsg : Sc.sgn A = Sc.sgn B
    · have r0 : (Sc.sgn A != Sc.sgn B) = false := by simpa using hsg
      have r3 : (Sc.sgn A == Sc.sgn B) = true := by simpa using hsg
      have KK0 := hid (cmpD_same hsg)
      clear hsg SA SB T0 T1 S2
      obtain ⟨n, hn⟩ : ∃ n, A.neg = n := ⟨_, rfl⟩
      cases n with
      | true =>
        have KK : Hid (Sc.cmpD A B = Sc.mc B A) := by show _ = _; rw [KK0.out, if_pos hn]
        obtain ⟨⟨c0, c1, c2⟩, f0, f1, f2⟩ := T2.out.2.1.cells
        obtain ⟨⟨c3, c4, c5⟩, f3, f4, f5⟩ := T2.out.2.2.cells
        have T3 : Hid (C2 w ((((((w4.setCell ⟨w.heap.size, 0, none⟩ (.bool B.neg)).setCell ⟨w.heap.size, 1, none⟩ (.string t1)).setCell ⟨w.heap.size, 2, none⟩ (.int .i64 B.e)).setCell ⟨w.heap.size + 1, 0, none⟩ (.bool true)).setCell ⟨w.heap.size + 1, 1, none⟩ (.string s1)).setCell ⟨w.heap.size + 1, 2, none⟩ (.int .i64 A.e)) B A t1 s1) := by
          have := (Two3.putA T2.out (.bool B.neg) (.string t1) (.int .i64 B.e)).putB (.bool A.neg) (.string s1) (.int .i64 A.e)
          rw [hn] at this
          show C2 _ _ _ _ _ _
          unfold C2
          rw [hn]
          exact this
        clear KK0
        go_upto_region 10 with fail
        generalize (((((w4.setCell ⟨w.heap.size, 0, none⟩ (.bool B.neg)).setCell ⟨w.heap.size, 1, none⟩ (.string t1)).setCell ⟨w.heap.size, 2, none⟩ (.int .i64 B.e)).setCell ⟨w.heap.size + 1, 0, none⟩ (.bool true)).setCell ⟨w.heap.size + 1, 1, none⟩ (.string s1)).setCell ⟨w.heap.size + 1, 2, none⟩ (.int .i64 A.e) = wX at *
        clear c0 c1 c2 f0 f1 f2 c3 c4 c5 f3 f4 f5
        obtain ⟨⟨d0, d1, d2⟩, d3, d4, d5⟩ := T3.out.six
        by_cases hp : Sc.pl B = Sc.pl A
        · have r1 : (B.e + (B.ds.length : Int) != A.e + (A.ds.length : Int)) = false := by simpa [Sc.pl] using hp
          have r2 : (B.e + (B.ds.length : Int) == A.e + (A.ds.length : Int)) = true := by simpa [Sc.pl] using hp
          have FF : Hid (∀ w', Below w.heap.size w w' → Ending.returned (.tuple #[.int .i64 (Sc.lex B.ds A.ds), .int .i64 0]) = .returned (.tuple #[.int .i64 (cmpE na xs ea nb ys eb).1, .int .i64 (cmpE na xs ea nb ys eb).2]) ∧ Below w.heap.size w w') := fun w' b => ⟨by rw [CE2.out, KK.out, mc_same hp], b⟩
          clear hp
          go_region
          go_wp2_with fail
          refine (SD.out _).mono ?_
          rintro e w6 ⟨rfl, rfl⟩
          go_wp2_with fail
          go_ret2
          exact FF.out _ (below_drewN T3.out.1 1)
        · have r1 : (B.e + (B.ds.length : Int) != A.e + (A.ds.length : Int)) = true := by simpa [Sc.pl] using hp
          have r2 : (B.e + (B.ds.length : Int) == A.e + (A.ds.length : Int)) = false := by rw [beq_eq_false_iff_ne]; exact hp
          have FF : Hid (∀ w', Below w.heap.size w w' → Ending.returned (.tuple #[.int .i64 (Sc.cmpI (B.e + (B.ds.length : Int)) (A.e + (A.ds.length : Int))), .int .i64 0]) = .returned (.tuple #[.int .i64 (cmpE na xs ea nb ys eb).1, .int .i64 (cmpE na xs ea nb ys eb).2]) ∧ Below w.heap.size w w') := fun w' b => ⟨by rw [CE2.out, KK.out, mc_apart hp]; rfl, b⟩
          clear hp
          go_region
          go_wp2_with fail
          refine (cmpint_any _ _ _).mono ?_
          rintro e w6 ⟨rfl, rfl⟩
          go_wp2_with fail
          go_ret2
          exact FF.out _ (below_drewN T3.out.1 1)
      | false =>
        have KK : Hid (Sc.cmpD A B = Sc.mc A B) := by show _ = _; rw [KK0.out, if_neg (by rw [hn]; simp)]
        clear KK0
        have hn2 := hn
        clear hn
        obtain ⟨⟨d0, d1, d2⟩, d3, d4, d5⟩ := T2.out.six
        by_cases hp : Sc.pl A = Sc.pl B
        · have r1 : (A.e + (A.ds.length : Int) != B.e + (B.ds.length : Int)) = false := by simpa [Sc.pl] using hp
          have r2 : (A.e + (A.ds.length : Int) == B.e + (B.ds.length : Int)) = true := by simpa [Sc.pl] using hp
          have FF : Hid (∀ w', Below w.heap.size w w' → Ending.returned (.tuple #[.int .i64 (Sc.lex A.ds B.ds), .int .i64 0]) = .returned (.tuple #[.int .i64 (cmpE na xs ea nb ys eb).1, .int .i64 (cmpE na xs ea nb ys eb).2]) ∧ Below w.heap.size w w') := fun w' b => ⟨by rw [CE2.out, KK.out, mc_same hp], b⟩
          clear hp
          go_upto_region 10 with fail
          go_region
          go_wp2_with fail
          refine (SC.out _).mono ?_
          rintro e w6 ⟨rfl, rfl⟩
          go_wp2_with fail
          go_ret2
          exact FF.out _ (below_drewN T2.out.1 1)
        · have r1 : (A.e + (A.ds.length : Int) != B.e + (B.ds.length : Int)) = true := by simpa [Sc.pl] using hp
          have r2 : (A.e + (A.ds.length : Int) == B.e + (B.ds.length : Int)) = false := by rw [beq_eq_false_iff_ne]; exact hp
          have FF : Hid (∀ w', Below w.heap.size w w' → Ending.returned (.tuple #[.int .i64 (Sc.cmpI (A.e + (A.ds.length : Int)) (B.e + (B.ds.length : Int))), .int .i64 0]) = .returned (.tuple #[.int .i64 (cmpE na xs ea nb ys eb).1, .int .i64 (cmpE na xs ea nb ys eb).2]) ∧ Below w.heap.size w w') := fun w' b => ⟨by rw [CE2.out, KK.out, mc_apart hp]; rfl, b⟩
          clear hp
          go_upto_region 10 with fail
          go_region
          go_wp2_with fail
          refine (cmpint_any _ _ _).mono ?_
          rintro e w6 ⟨rfl, rfl⟩
          go_wp2_with fail
          go_ret2
          exact FF.out _ (below_drewN T2.out.1 1)
    · have r0 : (Sc.sgn A != Sc.sgn B) = true := by simpa using hsg
      have r3 : (Sc.sgn A == Sc.sgn B) = false := by rw [beq_eq_false_iff_ne]; exact hsg
      have FF : Hid (∀ w', Below w.heap.size w w' → Ending.returned (.tuple #[.int .i64 (Sc.cmpI (Sc.sgn A) (Sc.sgn B)), .int .i64 0]) = .returned (.tuple #[.int .i64 (cmpE na xs ea nb ys eb).1, .int .i64 (cmpE na xs ea nb ys eb).2]) ∧ Below w.heap.size w w') := fun w' b => ⟨by rw [CE2.out, cmpD_apart hsg], b⟩
      clear hsg
      go_wp2_with fail
      refine (cmpint_any _ _ _).mono ?_
      rintro e w6 ⟨rfl, rfl⟩
      go_wp2_with fail
      go_ret2
      exact FF.out _ T2.out.1
  · have FF : Hid (∀ w', Below w.heap.size w w' → Ending.returned (.tuple #[.int .i64 0, .int .i64 80]) = .returned (.tuple #[.int .i64 (cmpE na xs ea nb ys eb).1, .int .i64 (cmpE na xs ea nb ys eb).2]) ∧ Below w.heap.size w w') := fun w' b => ⟨by rw [CN.out fun c => hda ⟨by rw [← HA.out, decide_eq_true c.1], by rw [← HB.out, decide_eq_true c.2]⟩], b⟩
    cases da <;> cases db
    all_goals first | (exfalso; simp at hda; done) | skip
    all_goals
      clear CE CN HA HB H1 H2 hda
      go_wp2_with fail
      go_ret2
      exact FF.out _ S2.out.1
end Go.Proofs.YtbmlkfkhmaahnaaGreatDoor

namespace Go.Proofs.YtbmlkfkhmaahnaaGreatDoor
open Go Go.RowKit Go.Deep

namespace Sh
/-- A Dec in its normal form. -/
structure Nm (d : Sc.D) : Prop where
  dec : Sc.IsDec d.ds d.e
  fix : Sc.nrm d.neg d.ds d.e = d
  len : d.ds.length ≤ 281474976710656

theorem Ok.fix {d : Sc.D} (h : Ok d) : Sc.nrm d.neg d.ds d.e = d := by
  have hd : Digs d.ds := by
    rcases h.form with c | c
    · rw [c.1]; intro x hx; simp at hx; omega
    · exact c.digs
  rw [h.neg, nrm_dd hd h.lo]
  exact h.is.symm
theorem Ok.digs {d : Sc.D} (h : Ok d) : Digs d.ds ∧ d.ds ≠ [] := by
  rcases h.form with c | c
  · rw [c.1]; exact ⟨fun x hx => by simp at hx; omega, by simp⟩
  · exact ⟨c.digs, c.ne⟩
theorem Ok.nm {d : Sc.D} (h : Ok d) (h1 : d.e ≤ 100000) (hl : d.ds.length ≤ 100000) : Nm d := ⟨isdec h.digs.1 h.digs.2 h.lo h1 hl, h.fix, by omega⟩

/-- Whether a decimal lies between two others. -/
def hD (A B x : Sc.D) (c : Bool) : Bool := (decide (Sc.cmpD A x < 0) && decide (Sc.cmpD x B < 0)) || (c && decide (Sc.cmpD A x ≤ 0) && decide (Sc.cmpD x B ≤ 0))
end Sh

set_option maxRecDepth 100000 in
theorem zorder_any (a b : Sc.D) (s t : ByteArray) (w : World) (ha : Sh.Nm a) (hb : Sh.Nm b) (hs : Str s a.ds) (ht : Str t b.ds) :
    Calls Tryz.prog 44 #[.agg #[.bool a.neg, .string s, .int .i64 a.e], .agg #[.bool b.neg, .string t, .int .i64 b.e]] w fun e w' => e = .returned (.int .i64 (Sc.cmpD a b)) ∧ Below w.heap.size w w' := by
  have C := hid (fun wx : World => vcmp_any a.neg b.neg s t a.ds b.ds a.e b.e wx hs ht ha.len hb.len)
  have E : cmpE a.neg a.ds a.e b.neg b.ds b.e = (Sc.cmpD a b, 0) := by rw [cmpE, if_pos ⟨ha.dec, hb.dec⟩, ha.fix, hb.fix]
  rw [E] at C
  unfold decV at C
  have Z := hid (Below.trans (alloc_b w (.cells #[.bool a.neg, .string s, .int .i64 a.e] 25)) ((alloc_b (w.alloc (.cells #[.bool a.neg, .string s, .int .i64 a.e] 25)) (.cells #[.bool b.neg, .string t, .int .i64 b.e] 25)).mono (alloc_b w (.cells #[.bool a.neg, .string s, .int .i64 a.e] 25)).size))
  clear ha hb hs ht E
  generalize Sc.cmpD a b = k at *
  go_enter Tryz.func44, Tryz.ntmps44
  go_wp2_with fail
  refine (C.out _).mono ?_
  rintro e w1 ⟨rfl, hB⟩
  have K := hid (Z.out.trans (hB.mono Z.out.size))
  clear hB C Z
  go_wp2_with fail
  go_ret
  exact ⟨rfl, K.out⟩

set_option maxRecDepth 100000 in
set_option maxHeartbeats 2000000 in
theorem zholds_any (P A B x : Sc.D) (c : Bool) (s1 s2 s3 t : ByteArray) (w : World) (hA : Sh.Nm A) (hB : Sh.Nm B) (hx : Sh.Nm x) (h2 : Str s2 A.ds) (h3 : Str s3 B.ds) (ht : Str t x.ds) :
    Calls Tryz.prog 27 #[spanV P A B s1 s2 s3 c, .agg #[.bool x.neg, .string t, .int .i64 x.e]] w fun e w' => e = .returned (.bool (Sh.hD A B x c)) ∧ Below w.heap.size w w' := by
  have O1 := hid (fun wx : World => zorder_any A x s2 t wx hA hx h2 ht)
  have O2 := hid (fun wx : World => zorder_any x B t s3 wx hx hB ht h3)
  have E : Hid (∀ w', Below w.heap.size w w' → Ending.returned (.bool ((decide (Sc.cmpD A x < 0) && decide (Sc.cmpD x B < 0)) || (c && decide (Sc.cmpD A x ≤ 0) && decide (Sc.cmpD x B ≤ 0)))) = .returned (.bool (Sh.hD A B x c)) ∧ Below w.heap.size w w') := fun w' h => ⟨rfl, h⟩
  clear hA hB hx h2 h3 ht
  unfold spanV
  have a1 := alloc_b w (.cells #[.bool P.neg, .string s1, .int .i64 P.e, .bool A.neg, .string s2, .int .i64 A.e, .bool B.neg, .string s3, .int .i64 B.e, .bool c] 41)
  have r1 := RB.new w 41 #[.bool P.neg, .string s1, .int .i64 P.e, .bool A.neg, .string s2, .int .i64 A.e, .bool B.neg, .string s3, .int .i64 B.e, .bool c]
  generalize hk1 : Sc.cmpD A x = k1 at *
  generalize hk2 : Sc.cmpD x B = k2 at *
  clear hk1 hk2
  go_enter Tryz.func27, Tryz.ntmps27
  go_upto_region 1 with fail
  have a2 := alloc_b (w.alloc (.cells #[.bool P.neg, .string s1, .int .i64 P.e, .bool A.neg, .string s2, .int .i64 A.e, .bool B.neg, .string s3, .int .i64 B.e, .bool c] 41)) (.cells #[.bool x.neg, .string t, .int .i64 x.e] 25)
  have r2 := RB.new (w.alloc (.cells #[.bool P.neg, .string s1, .int .i64 P.e, .bool A.neg, .string s2, .int .i64 A.e, .bool B.neg, .string s3, .int .i64 B.e, .bool c] 41)) 25 #[.bool x.neg, .string t, .int .i64 x.e]
  have r1' := r1.below a2 r1.lt
  have sz : (w.alloc (.cells #[.bool P.neg, .string s1, .int .i64 P.e, .bool A.neg, .string s2, .int .i64 A.e, .bool B.neg, .string s3, .int .i64 B.e, .bool c] 41)).heap.size = w.heap.size + 1 := Array.size_push ..
  rw [sz] at r2
  obtain ⟨SS, KS, CS, BS, MS⟩ := state (fun w' => RB w' w.heap.size 41 #[.bool P.neg, .string s1, .int .i64 P.e, .bool A.neg, .string s2, .int .i64 A.e, .bool B.neg, .string s3, .int .i64 B.e, .bool c] ∧ RB w' (w.heap.size + 1) 25 #[.bool x.neg, .string t, .int .i64 x.e]) w
    (Stays.and (fun _ _ g hB => RB.below g hB (RB.lt g)) (fun _ _ g hB => RB.below g hB (RB.lt g)))
  have S0 := hid (MS.out _ ⟨r1', r2⟩ (a1.trans (a2.mono a1.size)))
  clear a1 a2 r1 r2 r1' sz MS
  generalize (w.alloc (.cells #[.bool P.neg, .string s1, .int .i64 P.e, .bool A.neg, .string s2, .int .i64 A.e, .bool B.neg, .string s3, .int .i64 B.e, .bool c] 41)).alloc (.cells #[.bool x.neg, .string t, .int .i64 x.e] 25) = wL at *
  have FT : Hid (∀ wx : World, SS wx → (((wx.cell? ⟨w.heap.size, 3, none⟩ = some (.bool A.neg) ∧ wx.cell? ⟨w.heap.size, 4, none⟩ = some (.string s2) ∧ wx.cell? ⟨w.heap.size, 5, none⟩ = some (.int .i64 A.e)) ∧ (wx.cell? ⟨w.heap.size, 6, none⟩ = some (.bool B.neg) ∧ wx.cell? ⟨w.heap.size, 7, none⟩ = some (.string s3) ∧ wx.cell? ⟨w.heap.size, 8, none⟩ = some (.int .i64 B.e)) ∧ wx.cell? ⟨w.heap.size, 9, none⟩ = some (.bool c)) ∧ (wx.cell? ⟨w.heap.size + 1, 0, none⟩ = some (.bool x.neg) ∧ wx.cell? ⟨w.heap.size + 1, 1, none⟩ = some (.string t) ∧ wx.cell? ⟨w.heap.size + 1, 2, none⟩ = some (.int .i64 x.e)))) :=
    fun wx h => ⟨⟨⟨(CS.out wx h).1.cell 3 _ rfl, (CS.out wx h).1.cell 4 _ rfl, (CS.out wx h).1.cell 5 _ rfl⟩, ⟨(CS.out wx h).1.cell 6 _ rfl, (CS.out wx h).1.cell 7 _ rfl, (CS.out wx h).1.cell 8 _ rfl⟩, (CS.out wx h).1.cell 9 _ rfl⟩, ⟨(CS.out wx h).2.cell 0 _ rfl, (CS.out wx h).2.cell 1 _ rfl, (CS.out wx h).2.cell 2 _ rfl⟩⟩
  have T0 := hid (KS.out _ _ S0.out (drew_nil _))
  clear S0 CS
  go_region_held3 (fun wx => ((wx.cell? ⟨w.heap.size, 3, none⟩ = some (.bool A.neg) ∧ wx.cell? ⟨w.heap.size, 4, none⟩ = some (.string s2) ∧ wx.cell? ⟨w.heap.size, 5, none⟩ = some (.int .i64 A.e)) ∧ (wx.cell? ⟨w.heap.size, 6, none⟩ = some (.bool B.neg) ∧ wx.cell? ⟨w.heap.size, 7, none⟩ = some (.string s3) ∧ wx.cell? ⟨w.heap.size, 8, none⟩ = some (.int .i64 B.e)) ∧ wx.cell? ⟨w.heap.size, 9, none⟩ = some (.bool c)) ∧ (wx.cell? ⟨w.heap.size + 1, 0, none⟩ = some (.bool x.neg) ∧ wx.cell? ⟨w.heap.size + 1, 1, none⟩ = some (.string t) ∧ wx.cell? ⟨w.heap.size + 1, 2, none⟩ = some (.int .i64 x.e))) (first | (with_reducible exact FT.out _ T2.out) | (with_reducible exact FT.out _ T1.out) | (with_reducible exact FT.out _ T0.out)) (first
    | (go_at_call 44; (first
      | (with_reducible refine (O1.out _).mono ?_; rintro e w5 ⟨rfl, hB⟩; (first | (have T2 := hid (KS.out _ _ T1.out hB); clear hB) | (have T1 := hid (KS.out _ _ T0.out hB); clear hB)))
      | (with_reducible refine (O2.out _).mono ?_; rintro e w5 ⟨rfl, hB⟩; (first | (have T2 := hid (KS.out _ _ T1.out hB); clear hB) | (have T1 := hid (KS.out _ _ T0.out hB); clear hB))))))
  have K := hid (E.out _ (BS.out _ T2.out))
  obtain ⟨⟨-, -, c9⟩, -⟩ := FT.out _ T2.out
  clear E BS T0 T1 T2 FT KS O1 O2
  cases c
  · go_wp2_with fail
    all_goals go_ret
    all_goals
      refine ⟨(show Ending.returned (Value.bool _) = Ending.returned (Value.bool _) from congrArg (fun b => Ending.returned (Value.bool b)) ?_).trans K.out.1, K.out.2⟩
      rw [Bool.eq_iff_iff]
      simp
      try omega
  · go_wp2_with fail
    all_goals go_ret
    all_goals
      refine ⟨(show Ending.returned (Value.bool _) = Ending.returned (Value.bool _) from congrArg (fun b => Ending.returned (Value.bool b)) ?_).trans K.out.1, K.out.2⟩
      rw [Bool.eq_iff_iff]
      simp
      try omega
end Go.Proofs.YtbmlkfkhmaahnaaGreatDoor

namespace Go.Proofs.YtbmlkfkhmaahnaaGreatDoor
open Go Go.RowKit Go.Deep Go.Shelf

def itoaLays_ren : Go.Shelf.Ren := ⟨fun | 171 => 56 | 243 => 88 | 246 => 111 | 283 => 78 | 284 => 79 | 285 => 80 | 286 => 81 | 129 => 95 | 317 => 103 | 318 => 104 | 319 => 105 | 320 => 106 | 337 => 127 | 338 => 128 | n => n, fun | 3 => 3 | 9 => 9 | 2 => 2 | 4 => 4 | 171 => 116 | 0 => 0 | 53 => 22 | 37 => 111 | 5 => 5 | 173 => 118 | 212 => 144 | 51 => 145 | 20 => 20 | 213 => 146 | 46 => 65 | 232 => 183 | 233 => 184 | n => n, fun | 17 => 2 | 18 => 4 | 19 => 5 | n => n⟩
theorem itoaLays : Go.Proofs.LaysM.n171 Tryz.prog itoaLays_ren := {
  mixed := by kernel_rfl
  f129 := Tryz.func95.trans (congrArg some (by kernel_rfl))
  f171 := Tryz.func56.trans (congrArg some (by kernel_rfl))
  f243 := Tryz.func88.trans (congrArg some (by kernel_rfl))
  f246 := Tryz.func111.trans (congrArg some (by kernel_rfl))
  f283 := Tryz.func78.trans (congrArg some (by kernel_rfl))
  f284 := Tryz.func79.trans (congrArg some (by kernel_rfl))
  f285 := Tryz.func80.trans (congrArg some (by kernel_rfl))
  f286 := Tryz.func81.trans (congrArg some (by kernel_rfl))
  f317 := Tryz.func103.trans (congrArg some (by kernel_rfl))
  f318 := Tryz.func104.trans (congrArg some (by kernel_rfl))
  f319 := Tryz.func105.trans (congrArg some (by kernel_rfl))
  f320 := Tryz.func106.trans (congrArg some (by kernel_rfl))
  f337 := Tryz.func127.trans (congrArg some (by kernel_rfl))
  f338 := Tryz.func128.trans (congrArg some (by kernel_rfl))
  t0 := Tryz.underlying0
  a0 := Tryz.isAgg0
  z0 := Tryz.sizeOf0
  v0 := Tryz.zeroValue0
  t2 := Tryz.underlying2
  a2 := Tryz.isAgg2
  z2 := Tryz.sizeOf2
  v2 := Tryz.zeroValue2
  t3 := Tryz.underlying3
  a3 := Tryz.isAgg3
  z3 := Tryz.sizeOf3
  v3 := Tryz.zeroValue3
  t4 := Tryz.underlying4
  a4 := Tryz.isAgg4
  z4 := Tryz.sizeOf4
  v4 := Tryz.zeroValue4
  t5 := Tryz.underlying5
  a5 := Tryz.isAgg5
  z5 := Tryz.sizeOf5
  v5 := Tryz.zeroValue5
  t9 := Tryz.underlying9
  a9 := Tryz.isAgg9
  z9 := Tryz.sizeOf9
  v9 := Tryz.zeroValue9
  t20 := Tryz.underlying20
  a20 := Tryz.isAgg20
  z20 := Tryz.sizeOf20
  v20 := Tryz.zeroValue20
  t37 := Tryz.underlying111
  a37 := Tryz.isAgg111
  z37 := Tryz.sizeOf111
  v37 := Tryz.zeroValue111
  t46 := Tryz.underlying65
  a46 := Tryz.isAgg65
  z46 := Tryz.sizeOf65
  v46 := Tryz.zeroValue65
  t51 := Tryz.underlying145
  a51 := Tryz.isAgg145
  z51 := Tryz.sizeOf145
  v51 := Tryz.zeroValue145
  t53 := Tryz.underlying22
  a53 := Tryz.isAgg22
  z53 := Tryz.sizeOf22
  v53 := Tryz.zeroValue22
  t171 := Tryz.underlying116
  a171 := Tryz.isAgg116
  z171 := Tryz.sizeOf116
  v171 := Tryz.zeroValue116
  t173 := Tryz.underlying118
  a173 := Tryz.isAgg118
  z173 := Tryz.sizeOf118
  v173 := Tryz.zeroValue118
  t212 := Tryz.underlying144
  a212 := Tryz.isAgg144
  z212 := Tryz.sizeOf144
  v212 := Tryz.zeroValue144
  t213 := Tryz.underlying146
  a213 := Tryz.isAgg146
  z213 := Tryz.sizeOf146
  t232 := Tryz.underlying183
  a232 := Tryz.isAgg183
  z232 := Tryz.sizeOf183
  v232 := Tryz.zeroValue183
  t233 := Tryz.underlying184
  a233 := Tryz.isAgg184
  z233 := Tryz.sizeOf184
  v233 := Tryz.zeroValue184
  g17 := by kernel_rfl
  g18 := by kernel_rfl
  g19 := by kernel_rfl
  i0 := by kernel_rfl
  i2 := by kernel_rfl
  i3 := by kernel_rfl
  i4 := by kernel_rfl
  i5 := by kernel_rfl
  i9 := by kernel_rfl
  i20 := by kernel_rfl
  i37 := by kernel_rfl
  i46 := by kernel_rfl
  i51 := by kernel_rfl
  i53 := by kernel_rfl
  i171 := by kernel_rfl
  i173 := by kernel_rfl
  i212 := by kernel_rfl
  i232 := by kernel_rfl
  i233 := by kernel_rfl
  m17 := by kernel_rfl
  m18 := by kernel_rfl
  m19 := by kernel_rfl }

/-- The table of powers of ten lies as the text lays it. -/
def Tab10 (w : World) : Prop := Lib.TabIs Tryz.prog w "internal/strconv.uint64pow10" .u64 Lib.pow10Tab

def itl (n : Int) : List Int := (Lib.itoa n).map fun b => (b.toNat : Int)
theorem itl_str (n : Int) : Str ⟨(Lib.itoa n).toArray⟩ (itl n) := rfl

theorem below_grown {w : World} (k : Nat) (os : Array Obj) : Below w.heap.size w (Go.Sort.grow (w.drewN k) os) := by
  refine ⟨rfl, rfl, rfl, ?_, fun j hj => ?_⟩
  · show w.heap.size ≤ (w.heap ++ os).size
    simp
  · show (w.heap ++ os)[j]? = w.heap[j]?
    rw [Array.getElem?_append_left hj]

theorem itoa_any (n : Int) (w : World) (h0 : -9223372036854775808 ≤ n) (h1 : n ≤ 9223372036854775807) (ht : Tab10 w) :
    Calls Tryz.prog 56 #[.int .i64 n] w fun e w' => e = .returned (.string ⟨(Lib.itoa n).toArray⟩) ∧ Below w.heap.size w w' := by
  refine (Any.strconv_Itoa itoaLays n h0 h1 w ht).mono ?_
  rintro e w' ⟨rfl, k, os, rfl⟩
  exact ⟨rfl, below_grown k os⟩
end Go.Proofs.YtbmlkfkhmaahnaaGreatDoor

namespace Go.Proofs.YtbmlkfkhmaahnaaGreatDoor
open Go Go.RowKit Go.Deep Go.Shelf

def puLays_ren : Go.Shelf.Ren := ⟨fun | 14 => 33 | 16 => 52 | 17 => 53 | 19 => 72 | 20 => 73 | 21 => 74 | 22 => 75 | 23 => 76 | 24 => 77 | 25 => 91 | 27 => 56 | 26 => 102 | 28 => 88 | 29 => 111 | 30 => 78 | 31 => 79 | 32 => 80 | 33 => 81 | 35 => 95 | 34 => 103 | 36 => 104 | 37 => 105 | 38 => 106 | 39 => 127 | 40 => 128 | n => n, fun | 9 => 9 | 3 => 3 | 22 => 22 | 24 => 67 | 25 => 68 | 4 => 4 | 34 => 109 | 5 => 5 | 36 => 65 | 37 => 111 | 0 => 0 | 39 => 113 | 21 => 21 | 44 => 140 | 47 => 150 | 50 => 167 | 48 => 165 | 2 => 2 | 52 => 116 | 55 => 118 | 59 => 144 | 60 => 145 | 20 => 20 | 61 => 146 | 65 => 183 | 66 => 184 | 67 => 130 | n => n, fun | 0 => 0 | 1 => 1 | 2 => 2 | 3 => 4 | 4 => 5 | n => n⟩
theorem puLays : Go.Proofs.LaysPu.n14 Tryz.prog puLays_ren := {
  mixed := by kernel_rfl
  f14 := Tryz.func33.trans (congrArg some (by kernel_rfl))
  f16 := Tryz.func52.trans (congrArg some (by kernel_rfl))
  f17 := Tryz.func53.trans (congrArg some (by kernel_rfl))
  f19 := Tryz.func72.trans (congrArg some (by kernel_rfl))
  f20 := Tryz.func73.trans (congrArg some (by kernel_rfl))
  f21 := Tryz.func74.trans (congrArg some (by kernel_rfl))
  f22 := Tryz.func75.trans (congrArg some (by kernel_rfl))
  f23 := Tryz.func76.trans (congrArg some (by kernel_rfl))
  f24 := Tryz.func77.trans (congrArg some (by kernel_rfl))
  f25 := Tryz.func91.trans (congrArg some (by kernel_rfl))
  f26 := Tryz.func102.trans (congrArg some (by kernel_rfl))
  f27 := Tryz.func56.trans (congrArg some (by kernel_rfl))
  f28 := Tryz.func88.trans (congrArg some (by kernel_rfl))
  f29 := Tryz.func111.trans (congrArg some (by kernel_rfl))
  f30 := Tryz.func78.trans (congrArg some (by kernel_rfl))
  f31 := Tryz.func79.trans (congrArg some (by kernel_rfl))
  f32 := Tryz.func80.trans (congrArg some (by kernel_rfl))
  f33 := Tryz.func81.trans (congrArg some (by kernel_rfl))
  f34 := Tryz.func103.trans (congrArg some (by kernel_rfl))
  f35 := Tryz.func95.trans (congrArg some (by kernel_rfl))
  f36 := Tryz.func104.trans (congrArg some (by kernel_rfl))
  f37 := Tryz.func105.trans (congrArg some (by kernel_rfl))
  f38 := Tryz.func106.trans (congrArg some (by kernel_rfl))
  f39 := Tryz.func127.trans (congrArg some (by kernel_rfl))
  f40 := Tryz.func128.trans (congrArg some (by kernel_rfl))
  t0 := Tryz.underlying0
  a0 := Tryz.isAgg0
  z0 := Tryz.sizeOf0
  v0 := Tryz.zeroValue0
  i0 := by kernel_rfl
  t2 := Tryz.underlying2
  a2 := Tryz.isAgg2
  z2 := Tryz.sizeOf2
  v2 := Tryz.zeroValue2
  i2 := by kernel_rfl
  t3 := Tryz.underlying3
  a3 := Tryz.isAgg3
  z3 := Tryz.sizeOf3
  v3 := Tryz.zeroValue3
  i3 := by kernel_rfl
  t4 := Tryz.underlying4
  a4 := Tryz.isAgg4
  z4 := Tryz.sizeOf4
  v4 := Tryz.zeroValue4
  i4 := by kernel_rfl
  t5 := Tryz.underlying5
  a5 := Tryz.isAgg5
  z5 := Tryz.sizeOf5
  v5 := Tryz.zeroValue5
  i5 := by kernel_rfl
  t9 := Tryz.underlying9
  a9 := Tryz.isAgg9
  z9 := Tryz.sizeOf9
  v9 := Tryz.zeroValue9
  i9 := by kernel_rfl
  t20 := Tryz.underlying20
  a20 := Tryz.isAgg20
  z20 := Tryz.sizeOf20
  v20 := Tryz.zeroValue20
  i20 := by kernel_rfl
  t21 := Tryz.underlying21
  a21 := Tryz.isAgg21
  z21 := Tryz.sizeOf21
  v21 := Tryz.zeroValue21
  i21 := by kernel_rfl
  t22 := Tryz.underlying22
  a22 := Tryz.isAgg22
  z22 := Tryz.sizeOf22
  v22 := Tryz.zeroValue22
  i22 := by kernel_rfl
  t24 := Tryz.underlying67
  a24 := Tryz.isAgg67
  z24 := Tryz.sizeOf67
  v24 := Tryz.zeroValue67
  i24 := by kernel_rfl
  t25 := Tryz.underlying68
  a25 := Tryz.isAgg68
  z25 := Tryz.sizeOf68
  v25 := Tryz.zeroValue68
  i25 := by kernel_rfl
  t34 := Tryz.underlying109
  a34 := Tryz.isAgg109
  z34 := Tryz.sizeOf109
  v34 := Tryz.zeroValue109
  i34 := by kernel_rfl
  c34 := by kernel_rfl
  t36 := Tryz.underlying65
  a36 := Tryz.isAgg65
  z36 := Tryz.sizeOf65
  v36 := Tryz.zeroValue65
  i36 := by kernel_rfl
  t37 := Tryz.underlying111
  a37 := Tryz.isAgg111
  z37 := Tryz.sizeOf111
  v37 := Tryz.zeroValue111
  i37 := by kernel_rfl
  t39 := Tryz.underlying113
  a39 := Tryz.isAgg113
  z39 := Tryz.sizeOf113
  v39 := Tryz.zeroValue113
  i39 := by kernel_rfl
  t44 := Tryz.underlying140
  a44 := Tryz.isAgg140
  z44 := Tryz.sizeOf140
  v44 := Tryz.zeroValue140
  i44 := by kernel_rfl
  t47 := Tryz.underlying150
  a47 := Tryz.isAgg150
  z47 := Tryz.sizeOf150
  v47 := Tryz.zeroValue150
  i47 := by kernel_rfl
  t48 := Tryz.underlying165
  a48 := Tryz.isAgg165
  z48 := Tryz.sizeOf165
  v48 := Tryz.zeroValue165
  i48 := by kernel_rfl
  t50 := Tryz.underlying167
  a50 := Tryz.isAgg167
  z50 := Tryz.sizeOf167
  v50 := Tryz.zeroValue167
  i50 := by kernel_rfl
  t52 := Tryz.underlying116
  a52 := Tryz.isAgg116
  z52 := Tryz.sizeOf116
  v52 := Tryz.zeroValue116
  i52 := by kernel_rfl
  t55 := Tryz.underlying118
  a55 := Tryz.isAgg118
  z55 := Tryz.sizeOf118
  v55 := Tryz.zeroValue118
  i55 := by kernel_rfl
  t59 := Tryz.underlying144
  a59 := Tryz.isAgg144
  z59 := Tryz.sizeOf144
  v59 := Tryz.zeroValue144
  i59 := by kernel_rfl
  t60 := Tryz.underlying145
  a60 := Tryz.isAgg145
  z60 := Tryz.sizeOf145
  v60 := Tryz.zeroValue145
  i60 := by kernel_rfl
  t61 := Tryz.underlying146
  a61 := Tryz.isAgg146
  z61 := Tryz.sizeOf146
  t65 := Tryz.underlying183
  a65 := Tryz.isAgg183
  z65 := Tryz.sizeOf183
  v65 := Tryz.zeroValue183
  i65 := by kernel_rfl
  t66 := Tryz.underlying184
  a66 := Tryz.isAgg184
  z66 := Tryz.sizeOf184
  v66 := Tryz.zeroValue184
  i66 := by kernel_rfl
  t67 := Tryz.underlying130
  a67 := Tryz.isAgg130
  z67 := Tryz.sizeOf130
  v67 := Tryz.zeroValue130
  i67 := by kernel_rfl
  g0 := by kernel_rfl
  m0 := by kernel_rfl
  g1 := by kernel_rfl
  m1 := by kernel_rfl
  g2 := by kernel_rfl
  m2 := by kernel_rfl
  g3 := by kernel_rfl
  m3 := by kernel_rfl
  g4 := by kernel_rfl
  m4 := by kernel_rfl }
end Go.Proofs.YtbmlkfkhmaahnaaGreatDoor

namespace Go.Proofs.YtbmlkfkhmaahnaaGreatDoor
open Go Go.RowKit Go.Deep Go.Shelf Go.Sort

set_option maxRecDepth 100000 in
set_option maxHeartbeats 4000000 in
theorem zfmtI_any (u : Nat) (w : World) (hu64 : u < 18446744073709551616) (htab : Tab10 w) :
    Calls Tryz.prog 54 #[.int .u64 u, .int .i64 10] w fun e w' => e = .returned (.string ⟨(Lib.decDigits u).toArray⟩) ∧ Below w.heap.size w w' := by
  have e283 : ∀ args w, (callFunc 78 args).run Tryz.prog w = .ok (.enter 78 args) w := enters_of Tryz.func78 (by kernel_rfl) rfl
  have e284 : ∀ args w, (callFunc 79 args).run Tryz.prog w = .ok (.enter 79 args) w := enters_of Tryz.func79 (by kernel_rfl) rfl
  have e285 : ∀ args w, (callFunc 80 args).run Tryz.prog w = .ok (.enter 80 args) w := enters_of Tryz.func80 (by kernel_rfl) rfl
  by_cases hs : u < 100
  · have SM := Any.internal_strconv_small { itoaLays with } u hs w
    change Calls Tryz.prog 78 _ _ _ at SM
    have hs2 : (u : Int) < 100 := by omega
    go_enter Tryz.func54, Tryz.ntmps54
    go_wp2_with (go_at_fn 78; refine SM.mono ?_; rintro e w' ⟨rfl, rfl⟩)
    go_ret
    exact ⟨rfl, Below.refl _ _⟩
  · have hu1 : 1 ≤ u := by omega
    have hs2 : ¬ (u : Int) < 100 := by omega
    have hnd20 : Lib.nDigits u ≤ 20 := by have := Lib.numDigits_eq u hu1 hu64; split at this <;> omega
    have hb3 : Lib.nDigits u ≤ 23 := by omega
    have hal : Tryz.prog.arrayLen 116 = 24 := by simp [Program.arrayLen, Tryz.underlying116]
    have hsl : ∀ W, (Instr.sliceAt 116 (.pointer (some ⟨w.heap.size, 0, none⟩)) none (some (.int .i64 (Lib.nDigits u : Int))) none).run Tryz.prog W = .ok (.slice (some ⟨w.heap.size, 0, none⟩) (Lib.nDigits u) 24) W := fun W => by
      rw [run_sliceAt_array_h W 116 ⟨w.heap.size, 0, none⟩ (by simp [Program.arrayLen, Program.elem, Tryz.underlying116]) .i64 (Lib.nDigits u : Int) (by omega) (by rw [hal]; omega)]
      go_simp
    have hH0 := Lib.holds_zero0 w 116 (Lib.nDigits u) (by omega)
    have hfmt := Any.internal_strconv_formatBase10 { itoaLays with } w.heap.size 0 24 u (Array.replicate (Lib.nDigits u) 0) (w.alloc (.cells Lib.zeros24 116)) hH0 (by rw [Array.size_replicate]; exact Lib.lt_pow_nDigits u) hu64 (by rw [Array.size_replicate]; omega)
    rw [Array.size_replicate] at hfmt
    change Calls Tryz.prog 80 _ _ _ at hfmt
    have ND := Any.internal_strconv_numDigits { itoaLays with } u hu1 hu64 _ (Lib.tabIs_alloc htab (.cells Lib.zeros24 116))
    change Calls Tryz.prog 79 _ _ _ at ND
    have HH0 := Lib.hid hH0
    clear hH0 hal
    go_enter Tryz.func54, Tryz.ntmps54
    go_wp2_with (first
      | (go_at_fn 79; refine ND.mono ?_; rintro e w' ⟨rfl, rfl⟩))
    go_at_fn 80
    refine hfmt.mono ?_
    rintro e w' ⟨rfl, k, v', dk, rfl, hF⟩
    have hcv : (convert 111 9 (.slice (some ⟨w.heap.size, 0, none⟩) (Lib.nDigits u) 24)).run Tryz.prog ((putRow (fun (b : UInt8) => Value.int .u8 (b.toNat : Int)) (w.alloc (.cells Lib.zeros24 116)) w.heap.size 0 dk).drewN k) = .ok (.string ⟨(Lib.decDigits u).toArray⟩) ((putRow (fun (b : UInt8) => Value.int .u8 (b.toNat : Int)) (w.alloc (.cells Lib.zeros24 116)) w.heap.size 0 dk).drewN k) := by
      have h := run_convert_bytes_back (P := Tryz.prog) ((putRow (fun (b : UInt8) => Value.int .u8 (b.toNat : Int)) (w.alloc (.cells Lib.zeros24 116)) w.heap.size 0 dk).drewN k) 111 9 5 ⟨w.heap.size, 0, none⟩ 24 (Lib.decDigits u) Tryz.underlying111 Tryz.underlying5 Tryz.underlying9 (fun j hj => by
        rw [Lib.row_is_numeral hF j hj, Lib.add_plain, World.cell?_drewN]
        exact cell?_putRow (fun (b : UInt8) => Value.int .u8 (b.toNat : Int)) _ w.heap.size 0 _ dk HH0.out (by rw [hF.size, Array.size_replicate]) j (by rw [hF.size]; rw [Lib.decDigits_length] at hj; exact hj))
      rw [Lib.decDigits_length] at h
      exact h
    go_wp2
    go_ret
    obtain ⟨os, eo⟩ := Lib.fin_at w (.cells Lib.zeros24 116) dk k 0
    exact ⟨rfl, by rw [eo]; exact below_grown k os⟩
end Go.Proofs.YtbmlkfkhmaahnaaGreatDoor

namespace Go.Proofs.YtbmlkfkhmaahnaaGreatDoor
namespace Sc

/-- A number's digits, as bytes. -/
def dl (u : Nat) : List Int := (Lib.decDigits u).map fun b => (b.toNat : Int)
theorem dl_small {u : Nat} (h : u < 10) : dl u = [48 + (u : Int)] := by
  unfold dl
  rw [Lib.decDigits_one h]
  simp only [List.map_cons, List.map_nil]
  rw [UInt8.toNat_ofNat_of_lt' (by show 48 + u < 256; omega)]
  simp
theorem dl_big {u : Nat} (h : ¬ u < 10) : dl u = dl (u / 10) ++ [48 + ((u % 10 : Nat) : Int)] := by
  unfold dl
  rw [Lib.decDigits, dif_neg h, List.map_append]
  simp only [List.map_cons, List.map_nil]
  rw [UInt8.toNat_ofNat_of_lt' (by show 48 + u % 10 < 256; omega)]
  simp
theorem dl_is (u : Nat) : (∀ x ∈ dl u, dg x = true) ∧ dl u ≠ [] ∧ cap (dl u) = min (u : Int) 1000000000000000 := by
  induction u using Nat.strongRecOn with
  | _ u ih =>
    by_cases h : u < 10
    · rw [dl_small h]
      refine ⟨fun x hx => ?_, by simp, ?_⟩
      · rw [List.mem_singleton] at hx; subst hx; rw [dg_iff]; omega
      · have := cap_snoc [] (48 + (u : Int))
        rw [List.nil_append, cap_nil] at this
        rw [this]; omega
    · obtain ⟨h1, h2, h3⟩ := ih (u / 10) (by omega)
      rw [dl_big h]
      refine ⟨fun x hx => ?_, by simp, ?_⟩
      · rw [List.mem_append, List.mem_singleton] at hx
        rcases hx with hx | hx
        · exact h1 x hx
        · subst hx; rw [dg_iff]; omega
      · rw [cap_snoc, h3]; omega

theorem run_app {p : Int → Bool} (hp : p 0 = false) {as' bs cs : List Int} (h1 : ∀ x ∈ bs, p x = true) (h2 : p (pk cs 0) = false) : run p (as' ++ bs ++ cs) as'.length = bs.length := by
  apply run_is hp
  · intro j hj
    rw [pk_append, if_pos (by simp; omega), pk_append, if_neg (by omega), show as'.length + j - as'.length = j by omega]
    apply h1
    simp [pk, List.getD, hj]
  · rw [pk_append, if_neg (by simp), show as'.length + bs.length - (as' ++ bs).length = 0 by simp]
    exact h2
theorem take_app {as' bs cs : List Int} : ((as' ++ bs ++ cs).drop as'.length).take bs.length = bs := by
  rw [List.append_assoc, List.drop_left, List.take_left]

/-- Digits that are there, all digits. -/
def Dig (ds : List Int) : Prop := ds ≠ [] ∧ ∀ x ∈ ds, dg x = true
theorem Dig.pk0 {ds : List Int} (h : Dig ds) : dg (pk ds 0) = true := by
  obtain ⟨h1, h2⟩ := h
  cases ds with
  | nil => exact absurd rfl h1
  | cons x l => exact h2 x (by simp)

end Sc
end Go.Proofs.YtbmlkfkhmaahnaaGreatDoor

namespace Go.Proofs.YtbmlkfkhmaahnaaGreatDoor
open Go Go.RowKit Go.Deep Go.Shelf

theorem tab10_below {w w' : World} (h : Tab10 w) (k : Below w.heap.size w w') : Tab10 w' := by
  unfold Tab10 Lib.TabIs World.var? at *
  cases hg : Tryz.prog.globalNamed "internal/strconv.uint64pow10" with
  | none => rw [hg] at h; simp at h
  | some g =>
    rw [hg] at h
    simp only [Option.bind_some] at h ⊢
    have hl : g < w.heap.size := by
      rcases Nat.lt_or_ge g w.heap.size with c | c
      · exact c
      · rw [Array.getElem?_eq_none c] at h; simp at h
    rw [k.block g hl]; exact h
theorem dl_dv (u : Nat) : Digs (Sc.dl u) ∧ Sc.dl u ≠ [] ∧ dv (Sc.dl u) = (u : Int) := by
  refine ⟨fun x hx => Sc.dg_iff.1 ((Sc.dl_is u).1 x hx), (Sc.dl_is u).2.1, ?_⟩
  induction u using Nat.strongRecOn with
  | _ u ih =>
    by_cases h : u < 10
    · rw [Sc.dl_small h, dv_cons]
      simp [show dv [] = 0 from rfl]
      omega
    · rw [Sc.dl_big h, Fx.dv_snoc, ih (u / 10) (by omega)]
      omega
theorem dl_len {u : Nat} (h : u < 18446744073709551616) : (Sc.dl u).length ≤ 21 := by
  unfold Sc.dl
  rw [List.length_map, Lib.decDigits_length]
  rcases Nat.eq_zero_or_pos u with c | c
  · rw [Lib.nDigits_small (by omega)]; omega
  · have := Lib.numDigits_eq u c h
    split at this <;> omega

set_option maxRecDepth 100000 in
theorem zfmt_any (u : Nat) (w : World) (hu64 : u < 18446744073709551616) (htab : Tab10 w) :
    Calls Tryz.prog 35 #[.int .u64 u, .int .i64 10] w fun e w' => ∃ s, e = .returned (.string s) ∧ Hid (Str s (Sc.dl u)) ∧ Below w.heap.size w w' := by
  have F := hid (zfmtI_any u w hu64 htab)
  have K : Hid (Str ⟨(Lib.decDigits u).toArray⟩ (Sc.dl u)) := rfl
  clear hu64 htab
  generalize (⟨(Lib.decDigits u).toArray⟩ : ByteArray) = s at *
  go_enter Tryz.func35, Tryz.ntmps35
  go_wp2_with fail
  refine F.out.mono ?_
  rintro e w' ⟨rfl, hB⟩
  have HB := hid hB
  clear hB F
  go_wp2_with fail
  go_ret
  exact ⟨s, rfl, K, HB.out⟩

theorem parseM {M : Nat} {L : Int} (hL : L = 1000000000000000000) (hM : 1000000000000000000 ≤ M) (l : List UInt8) : ∀ (acc : Nat), (∀ x ∈ l, 48 ≤ x.toNat ∧ x.toNat ≤ 57) → (acc : Int) * 10 ^ l.length + dv (l.map fun b => (b.toNat : Int)) < L →
    ∃ u : Nat, (u : Int) = (acc : Int) * 10 ^ l.length + dv (l.map fun b => (b.toNat : Int)) ∧ Lib.parseUintM M acc l = .ok u := by
  induction l with
  | nil => intro acc _ _; exact ⟨acc, by rw [List.map_nil, show dv [] = 0 from rfl]; simp, rfl⟩
  | cons c r ih =>
    intro acc h hb
    have hc := h c (by simp)
    have hr : ∀ x ∈ r, 48 ≤ x.toNat ∧ x.toNat ≤ 57 := fun x hx => h x (by simp [hx])
    have dg : Digs (r.map fun b => (b.toNat : Int)) := by
      intro d hd
      obtain ⟨x, hx, rfl⟩ := List.mem_map.1 hd
      have := hr x hx
      omega
    have nn := (dv_bd dg).1
    have e : (acc : Int) * 10 ^ (c :: r).length + dv ((c :: r).map fun b => (b.toNat : Int)) = ((acc * 10 + (c.toNat - 48) : Nat) : Int) * 10 ^ r.length + dv (r.map fun b => (b.toNat : Int)) := by
      rw [List.map_cons, dv_cons, List.length_map, List.length_cons, Int.pow_succ]
      have : ((acc * 10 + (c.toNat - 48) : Nat) : Int) = (acc : Int) * 10 + ((c.toNat : Int) - 48) := by omega
      rw [this, Int.add_mul, Int.mul_assoc, Int.mul_comm 10 ((10 : Int) ^ r.length)]
      omega
    rw [e] at hb ⊢
    have p1 : (1 : Int) ≤ 10 ^ r.length := Fx.p_pos _
    have hle : ((acc * 10 + (c.toNat - 48) : Nat) : Int) * 1 ≤ ((acc * 10 + (c.toNat - 48) : Nat) : Int) * 10 ^ r.length := Int.mul_le_mul_of_nonneg_left p1 (by omega)
    obtain ⟨u, h1, h2⟩ := ih (acc * 10 + (c.toNat - 48)) hr hb
    refine ⟨u, h1, ?_⟩
    have g1 : ¬ 1844674407370955162 ≤ acc := by omega
    have g2 : ¬ M < acc * 10 + (c.toNat - 48) := by omega
    rw [Lib.parseUintM, if_pos hc, if_neg g1, if_neg g2]
    exact h2

set_option maxRecDepth 100000 in
theorem zparse_any (s : ByteArray) (xs : List Int) (w : World) (hs : Str s xs) (hd : Digs xs) (hn : xs ≠ []) (hb : dv xs < 1000000000000000000) (hl : xs.length ≤ 100000) :
    Calls Tryz.prog 33 #[.string s, .int .i64 10, .int .i64 64] w fun e w' => e = .returned (.tuple #[.int .u64 (dv xs), .nilIface]) ∧ Below w.heap.size w w' := by
  have hz := hs.size
  have hs' : s.data.toList.map (fun b => (b.toNat : Int)) = xs := hs
  have hall : ∀ x ∈ s.data.toList, 48 ≤ x.toNat ∧ x.toNat ≤ 57 := by
    intro x hx
    have := hd (x.toNat : Int) (by rw [← hs']; exact List.mem_map.2 ⟨x, hx, rfl⟩)
    omega
  obtain ⟨u, hu, hp⟩ := parseM (M := 2 ^ 64 - 1) rfl (by decide) s.data.toList 0 hall (by rw [hs']; simpa using hb)
  rw [hs'] at hu
  have hu2 : (dv xs).toNat = u := by simp at hu; omega
  have hP : Lib.parseUintB 64 s.data.toList = .ok (dv xs).toNat := by
    rw [Lib.parseUintB, if_neg (fun c => by rw [c] at hs'; exact hn hs'.symm), hp, hu2]
  have h := Any.strconv_ParseUint_10_at64_ok puLays s (by omega) (dv xs).toNat hP w
  change Calls Tryz.prog 33 _ _ _ at h
  have nn := (dv_bd hd).1
  rw [show (((dv xs).toNat : Nat) : Int) = dv xs by omega] at h
  refine h.mono ?_
  rintro e w' ⟨rfl, h | h⟩
  · exact ⟨rfl, by rw [h]; exact Below.refl _ _⟩
  · exact ⟨rfl, by rw [h]; exact Lib.bytesWorld_below w _ s⟩
end Go.Proofs.YtbmlkfkhmaahnaaGreatDoor
