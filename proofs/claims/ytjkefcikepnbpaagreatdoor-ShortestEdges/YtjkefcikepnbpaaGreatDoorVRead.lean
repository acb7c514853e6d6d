/-
  scan's read, walked (made by mkvread.py).
-/
import Derived.Test.YtjkefcikepnbpaaGreatDoorVRead0
import Derived.BigRegion
import Derived.Deep.Cut
namespace Go.Proofs.YtjkefcikepnbpaaGreatDoor
open Go Go.RowKit Go.Deep

set_option maxRecDepth 100000 in
set_option maxHeartbeats 4000000 in
theorem vread_any (s : ByteArray) (xs : List Int) (k : Nat) (w : World) (hs : Str s xs) (hn : xs.length ≤ 562949953421312) (hk : k ≤ xs.length) : Calls Tryz.prog 52 #[.string s, .int .i64 k] w fun e w' => RdTold xs k w e w' := by
  have PK := hid (fun (j : Nat) (wx : World) => peek_any s xs j wx hs hn)
  have DG := hid (fun (j : Nat) (wx : World) => digit_any (Sc.pk xs j) wx (hs.atb j).1 (hs.atb j).2)
  have PS : Hid (∀ (j p : Nat) (wx : World), p = j + Sc.sg xs j → j ≤ xs.length + 1 → Calls Tryz.prog 72 #[.string s, .int .i64 j] wx fun e w' => e = .returned (.int .i64 (p : Int)) ∧ w' = wx) := fun j p wx hp hj => by subst hp; exact past_any s xs j wx hs hn hj
  have PKz : Hid (∀ (z : Int) (j : Nat) (wx : World), z = j → Calls Tryz.prog 71 #[.string s, .int .i64 z] wx fun e w' => e = .returned (.int .u8 (Sc.pk xs j)) ∧ w' = wx) := fun z j wx hz => by subst hz; exact peek_any s xs j wx hs hn
  have PSz : Hid (∀ (z : Int) (j p : Nat) (wx : World), z = j → p = j + Sc.sg xs j → j ≤ xs.length + 1 → Calls Tryz.prog 72 #[.string s, .int .i64 z] wx fun e w' => e = .returned (.int .i64 (p : Int)) ∧ w' = wx) := fun z j p wx hz hp hj => by subst hz hp; exact past_any s xs j wx hs hn hj
  have HS := hid hs
  have HN := hid hn
  have HK := hid hk
  have hsz := hs.size
  have BE := hid (Sc.en_le xs k hk)
  have B1 := hid (Sc.p1_le xs k hk)
  have B2 := hid (Sc.p2_le xs k hk)
  have B3 := hid (Sc.p3_le xs k hk)
  have B12 : Hid (Sc.p1 xs k ≤ Sc.p2 xs k) := by show _ ≤ _; unfold Sc.p2; omega
  have B23 := hid (Sc.p2_p3 xs k)
  clear hs hn hk
  go_enter Tryz.func52, Tryz.ntmps52
  go_wp2_with fail
  refine wp_scope_falls (RJ s xs k w) (rmu xs) (fun F => ?_) ?_
  · replace F := hid F
    go_wp2_with fail
    refine (PK.out k _).mono ?_
    rintro e w1 ⟨rfl, rfl⟩
    go_wp2_with fail
    refine (PS.out k (Sc.p1 xs k) _ rfl (by have := HK.out; omega)).mono ?_
    rintro e w1 ⟨rfl, rfl⟩
    go_wp2_with fail
    go_step3
    (try simp only [Exit.then])
    rename_i hK
    refine hK _ _ ?_
    exact F.out 0 _ _ _ ⟨rfl, rfl, _, _, _, rfl, rfl, rfl, rfl, rfl, rfl, Sc.p1 xs k, rfl, RI.ahead _ _ (Nat.le_refl _) rfl (RM.new w _)⟩ rfl
  · intro l a w' hJ
    obtain ⟨u, j, bel, frm, rfl, I⟩ := hJ.open
    clear hJ
    cases I with
    | ahead j bel h1 h2 m =>
      refine ⟨_, rfl, fun F => ?_⟩
      replace F := hid F
      replace h1 := hid h1
      replace h2 := hid h2
      have hj : (j : Int) ≤ 562949953421312 := by have := HN.out; have := B2.out; have := h2.out; omega
      have D := hid (fun wx => DG.out j wx)
      cases hd : Sc.dg (Sc.pk xs j) with
      | true =>
        rw [hd] at D
        have R := hid (Sc.run_succ Sc.dg0 hd)
        have hlt : Hid (j < xs.length) := Sc.pk_lt (by have := Sc.dg_iff.1 hd; omega)
        replace m := hid m
        clear hd
        go_wp2_with fail
        refine (PK.out j _).mono ?_; rintro e w1 ⟨rfl, rfl⟩
        go_wp2_with fail
        refine (D.out _).mono ?_; rintro e w1 ⟨rfl, rfl⟩
        go_wp2_with fail
        go_step3; exact ⟨⟨rfl, rfl, _, _, _, rfl, rfl, rfl, rfl, rfl, rfl, j + 1, rfl, RI.ahead _ _ (by have := h1.out; omega) (by have := h2.out; have := R.out; omega) m.out⟩, (show 3 * (xs.length + 3) + (xs.length + 2 - Int.toNat ((j : Int) + 1)) < 3 * (xs.length + 3) + (xs.length + 2 - Int.toNat (j : Int)) by have := HN.out; have := hlt.out; have := B1.out; have := B2.out; have := B3.out; omega)⟩
      | false =>
        rw [hd] at D
        have hj2 : j = Sc.p2 xs k := by have := h2.out; rw [Sc.run_zero Sc.dg0 hd] at this; exact this
        clear hd
        subst hj2
        have q1 : (Sc.p1 xs k : Int) ≤ (Sc.p2 xs k : Int) := by have := B12.out; omega
        have q2 : (Sc.p2 xs k : Int) ≤ (xs.length : Int) := by have := B2.out; omega
        obtain ⟨⟨c0, c1, c2, c3, c4⟩, f0, f1, f2, f3, f4⟩ := m.cells
        have M2 := hid (m.ahead (s.extract (Sc.p1 xs k) (Sc.p2 xs k)))
        have SA : Hid (Str (s.extract (Sc.p1 xs k) (Sc.p2 xs k)) (Sc.lit xs k).ah) := by
          have := HS.out.extract (Sc.p1 xs k) (Sc.p2 xs k)
          rw [show Sc.p2 xs k - Sc.p1 xs k = Sc.run Sc.dg xs (Sc.p1 xs k) by unfold Sc.p2; omega] at this
          exact this
        clear m
        have hp : Sc.pk xs (Sc.p2 xs k) = 46 ∨ ((Sc.pk xs (Sc.p2 xs k) == 46) = false ∧ Sc.pk xs (Sc.p2 xs k) ≠ 46) := by
          by_cases c : Sc.pk xs (Sc.p2 xs k) = 46
          · exact .inl c
          · exact .inr ⟨by rw [beq_eq_false_iff_ne]; exact c, c⟩
        rcases hp with hp | ⟨hp, hp2⟩
        · have HP := hid hp
          clear hp
          go_wp2_with fail
          refine (PK.out (Sc.p2 xs k) _).mono ?_; rintro e w1 ⟨rfl, rfl⟩
          go_wp2_with fail
          refine (D.out _).mono ?_; rintro e w1 ⟨rfl, rfl⟩
          go_wp2_with fail
          refine (PK.out (Sc.p2 xs k) _).mono ?_; rintro e w1 ⟨rfl, rfl⟩
          have hp := HP.out
          go_wp2_with fail
          go_step3; (try simp only [Exit.then]); rename_i hK; refine hK _ _ ?_; exact F.out 2 _ _ _ ⟨rfl, rfl, _, _, _, rfl, rfl, rfl, rfl, rfl, rfl, Sc.p2 xs k + 1, rfl, RI.behind _ _ _ SA.out HP.out (Nat.le_refl _) (by unfold Sc.p3; rw [if_pos HP.out]) M2.out⟩ (show 2 * (xs.length + 3) + (xs.length + 2 - Int.toNat ((Sc.p2 xs k : Int) + 1)) < 3 * (xs.length + 3) + (xs.length + 2 - Int.toNat (Sc.p2 xs k : Int)) by have := HN.out; have := B1.out; have := B2.out; have := B3.out; omega) rfl
        · have hp3 : (Sc.pk xs (Sc.p2 xs k) != 46) = true := by simpa using hp2
          have E3 : Hid (Sc.p3 xs k = Sc.p2 xs k) := by show _ = _; unfold Sc.p3; rw [if_neg hp2]
          have EB : Hid (Str ⟨#[]⟩ (Sc.lit xs k).bh) := by
            show Str _ ((xs.drop _).take (Sc.bn xs k))
            rw [show Sc.bn xs k = 0 by unfold Sc.bn; rw [if_neg hp2]]
            exact str_nil0
          replace hp2 := hid hp2
          go_wp2_with fail
          refine (PK.out (Sc.p2 xs k) _).mono ?_; rintro e w1 ⟨rfl, rfl⟩
          go_wp2_with fail
          refine (D.out _).mono ?_; rintro e w1 ⟨rfl, rfl⟩
          go_wp2_with fail
          refine (PK.out (Sc.p2 xs k) _).mono ?_; rintro e w1 ⟨rfl, rfl⟩
          go_wp2_with fail
          go_step3; exact ⟨⟨rfl, rfl, _, _, _, rfl, rfl, rfl, rfl, rfl, rfl, Sc.p3 xs k, by rw [E3.out], RI.number _ _ _ _ SA.out EB.out M2.out⟩, (show 1 * (xs.length + 3) + (xs.length + 2 - Int.toNat (Sc.p2 xs k : Int)) < 3 * (xs.length + 3) + (xs.length + 2 - Int.toNat (Sc.p2 xs k : Int)) by have := HN.out; have := B1.out; have := B2.out; have := B3.out; omega)⟩
    | behind j bel A hA hp h1 h2 m =>
      refine ⟨_, rfl, fun F => ?_⟩
      replace F := hid F
      replace h1 := hid h1
      replace h2 := hid h2
      replace hp := hid hp
      replace hA := hid hA
      have hj : (j : Int) ≤ 562949953421312 := by have := HN.out; have := B3.out; have := h2.out; omega
      have D := hid (fun wx => DG.out j wx)
      cases hd : Sc.dg (Sc.pk xs j) with
      | true =>
        rw [hd] at D
        have R := hid (Sc.run_succ Sc.dg0 hd)
        have hlt : Hid (j < xs.length) := Sc.pk_lt (by have := Sc.dg_iff.1 hd; omega)
        replace m := hid m
        clear hd
        go_wp2_with fail
        refine (PK.out j _).mono ?_; rintro e w1 ⟨rfl, rfl⟩
        go_wp2_with fail
        refine (D.out _).mono ?_; rintro e w1 ⟨rfl, rfl⟩
        go_wp2_with fail
        go_step3; exact ⟨⟨rfl, rfl, _, _, _, rfl, rfl, rfl, rfl, rfl, rfl, j + 1, rfl, RI.behind _ _ _ hA.out hp.out (by have := h1.out; omega) (by have := h2.out; have := R.out; omega) m.out⟩, (show 2 * (xs.length + 3) + (xs.length + 2 - Int.toNat ((j : Int) + 1)) < 2 * (xs.length + 3) + (xs.length + 2 - Int.toNat (j : Int)) by have := HN.out; have := hlt.out; have := B1.out; have := B2.out; have := B3.out; omega)⟩
      | false =>
        rw [hd] at D
        have hj2 : j = Sc.p3 xs k := by have := h2.out; rw [Sc.run_zero Sc.dg0 hd] at this; exact this
        clear hd
        subst hj2
        have q1 : (Sc.p2 xs k : Int) + 1 ≤ (Sc.p3 xs k : Int) := by have := h1.out; omega
        have q2 : (Sc.p3 xs k : Int) ≤ (xs.length : Int) := by have := B3.out; omega
        obtain ⟨⟨c0, c1, c2, c3, c4⟩, f0, f1, f2, f3, f4⟩ := m.cells
        have M2 := hid (m.behind (s.extract (Sc.p2 xs k + 1) (Sc.p3 xs k)))
        have SB : Hid (Str (s.extract (Sc.p2 xs k + 1) (Sc.p3 xs k)) (Sc.lit xs k).bh) := by
          have := HS.out.extract (Sc.p2 xs k + 1) (Sc.p3 xs k)
          rw [show Sc.p3 xs k - (Sc.p2 xs k + 1) = Sc.bn xs k by unfold Sc.p3 Sc.bn; rw [if_pos hp.out, if_pos hp.out]; omega] at this
          exact this
        clear m
        go_wp2_with fail
        refine (PK.out (Sc.p3 xs k) _).mono ?_; rintro e w1 ⟨rfl, rfl⟩
        go_wp2_with fail
        refine (D.out _).mono ?_; rintro e w1 ⟨rfl, rfl⟩
        go_wp2_with fail
        go_step3; (try simp only [Exit.then]); rename_i hK; refine hK _ _ ?_; exact F.out 1 _ _ _ ⟨rfl, rfl, _, _, _, rfl, rfl, rfl, rfl, rfl, rfl, Sc.p3 xs k, rfl, RI.number _ _ _ _ hA.out SB.out M2.out⟩ (show 1 * (xs.length + 3) + (xs.length + 2 - Int.toNat (Sc.p3 xs k : Int)) < 2 * (xs.length + 3) + (xs.length + 2 - Int.toNat (Sc.p3 xs k : Int)) by have := HN.out; have := B1.out; have := B2.out; have := B3.out; omega) rfl
    | number bel frm A B hA hB m =>
      refine ⟨_, rfl, fun F => ?_⟩
      replace F := hid F
      have sA := ah_len hA
      have sB := bh_len hB
      have hj : (Sc.p3 xs k : Int) ≤ 562949953421312 := by have := HN.out; have := B3.out; omega
      have nA : (Sc.run Sc.dg xs (Sc.p1 xs k) : Int) ≤ 562949953421312 := by have := HN.out; have := Sc.run_le Sc.dg xs (Sc.p1 xs k); omega
      have nB : (Sc.bn xs k : Int) ≤ 562949953421312 := by have := HN.out; have h : Sc.bn xs k ≤ xs.length := (by unfold Sc.bn; split; (exact Nat.le_trans (Sc.run_le _ _ _) (Nat.sub_le _ _)); omega); omega
      replace hA := hid hA
      replace hB := hid hB
      obtain ⟨⟨c0, c1, c2, c3, c4⟩, f0, f1, f2, f3, f4⟩ := m.cells
      obtain ⟨⟨d0, d1, d2, d3, d4⟩, g0, g1, g2, g3, g4⟩ := m.room
      by_cases hs : Sc.some? xs k
      · have hne : ((Sc.run Sc.dg xs (Sc.p1 xs k) : Int) + (Sc.bn xs k : Int) == 0) = false := by
          rw [beq_eq_false_iff_ne]; unfold Sc.some? at hs; omega
        replace hs := hid hs
        have M1 := hid (m.en (Sc.p3 xs k : Nat))
        clear m
        generalize Sc.run Sc.dg xs (Sc.p1 xs k) = rA at *
        generalize Sc.bn xs k = rB at *
        cases hE : Sc.isE (Sc.pk xs (Sc.p3 xs k)) with
        | false =>
          obtain ⟨x1, x2⟩ := isE_f hE
          have y1 : (Sc.pk xs (Sc.p3 xs k) != 101) = true := by simpa using x1
          have y2 : (Sc.pk xs (Sc.p3 xs k) != 69) = true := by simpa using x2
          have y3 : (Sc.pk xs (Sc.p3 xs k) == 101) = false := by rw [beq_eq_false_iff_ne]; exact x1
          have y4 : (Sc.pk xs (Sc.p3 xs k) == 69) = false := by rw [beq_eq_false_iff_ne]; exact x2
          have SN : Hid (_ ∧ _) := sc_none (xs := xs) (k := k) (by unfold Sc.hasE; rw [hE]; rfl)
          clear hE
          go_wp2_with fail
          refine (PK.out (Sc.p3 xs k) _).mono ?_; rintro e w1 ⟨rfl, rfl⟩
          go_wp2_with fail
          (try simp only [Exit.inBlock, Exit.then]); refine bodyPost_ret (results_row_tmp rfl _ _ w.heap.size 87 _ (0, 0) _ rfl (M1.out.put _ _ _ _ _).1 Tryz.underlying87 rfl (by kernel_rfl)) rfl ?_; exact rd_some hs.out hA.out hB.out SN.out.1 SN.out.2 (M1.out.put _ _ _ _ _).2
        | true =>
          have B4 : Hid (Sc.p4 xs (Sc.p3 xs k) ≤ xs.length) := Sc.p4_le xs _ (Sc.isE_lt hE)
          have hj4 : (Sc.p4 xs (Sc.p3 xs k) : Int) ≤ 562949953421312 := by have := HN.out; have := B4.out; omega
          have hE2 := isE_t hE
          have HE := hid hE
          clear hE
          have D4 := hid (fun wx => DG.out (Sc.p4 xs (Sc.p3 xs k)) wx)
          cases hd : Sc.dg (Sc.pk xs (Sc.p4 xs (Sc.p3 xs k))) with
          | false =>
            rw [hd] at D4
            have SN : Hid (_ ∧ _) := sc_none (xs := xs) (k := k) (by unfold Sc.hasE; rw [hd, Bool.and_false])
            clear hd
            rcases hE2 with hE2 | hE2
            all_goals go_wp2_with fail
            all_goals (refine (PK.out (Sc.p3 xs k) _).mono ?_; rintro e w1 ⟨rfl, rfl⟩; go_wp2_with fail; refine (PKz.out _ (Sc.p3 xs k + 1) _ rfl).mono ?_; rintro e w1 ⟨rfl, rfl⟩; go_wp2_with fail; refine (PSz.out _ (Sc.p3 xs k + 1) (Sc.p4 xs (Sc.p3 xs k)) _ rfl rfl (by have := B3.out; omega)).mono ?_; rintro e w1 ⟨rfl, rfl⟩; go_wp2_with fail; refine (PK.out (Sc.p4 xs (Sc.p3 xs k)) _).mono ?_; rintro e w1 ⟨rfl, rfl⟩; go_wp2_with fail; refine (D4.out _).mono ?_; rintro e w1 ⟨rfl, rfl⟩; go_wp2_with fail)
            all_goals ((try simp only [Exit.inBlock, Exit.then]); refine bodyPost_ret (results_row_tmp rfl _ _ w.heap.size 87 _ (0, 0) _ rfl (M1.out.put _ _ _ _ _).1 Tryz.underlying87 rfl (by kernel_rfl)) rfl ?_; exact rd_some hs.out hA.out hB.out SN.out.1 SN.out.2 (M1.out.put _ _ _ _ _).2)
          | true =>
            rw [hd] at D4
            have HH : Hid (Sc.hasE xs (Sc.p3 xs k) = true) := by show _ = _; unfold Sc.hasE; rw [hd, HE.out]; rfl
            clear hd
            have M3 : Hid (RM w (w'.setCell ⟨w.heap.size + 1, 4, none⟩ (.int .i64 (Sc.p3 xs k : Nat))) (decide (Sc.pk xs k = 45)) A B (Sc.cap ((xs.drop (Sc.p4 xs (Sc.p3 xs k))).take (Sc.p4 xs (Sc.p3 xs k) - Sc.p4 xs (Sc.p3 xs k)))) (Sc.p3 xs k : Nat)) := by
              show RM _ _ _ _ _ _ _
              rw [Nat.sub_self]
              exact M1.out
            rcases hE2 with hE2 | hE2
            all_goals go_wp2_with fail
            all_goals (refine (PK.out (Sc.p3 xs k) _).mono ?_; rintro e w1 ⟨rfl, rfl⟩; go_wp2_with fail; refine (PKz.out _ (Sc.p3 xs k + 1) _ rfl).mono ?_; rintro e w1 ⟨rfl, rfl⟩; go_wp2_with fail; refine (PSz.out _ (Sc.p3 xs k + 1) (Sc.p4 xs (Sc.p3 xs k)) _ rfl rfl (by have := B3.out; omega)).mono ?_; rintro e w1 ⟨rfl, rfl⟩; go_wp2_with fail; refine (PK.out (Sc.p4 xs (Sc.p3 xs k)) _).mono ?_; rintro e w1 ⟨rfl, rfl⟩; go_wp2_with fail; refine (D4.out _).mono ?_; rintro e w1 ⟨rfl, rfl⟩; go_wp2_with fail)
            all_goals (go_step3; (try simp only [Exit.then]); rename_i hK; refine hK _ _ ?_; exact F.out 3 _ _ _ ⟨rfl, rfl, _, _, _, rfl, rfl, rfl, rfl, rfl, rfl, Sc.p4 xs (Sc.p3 xs k), rfl, RI.power _ _ _ _ hs.out hA.out hB.out HH.out (Nat.le_refl _) rfl M3.out⟩ (show 0 * (xs.length + 3) + (xs.length + 2 - Int.toNat (Sc.p4 xs (Sc.p3 xs k) : Int)) < 1 * (xs.length + 3) + (xs.length + 2 - Int.toNat (Sc.p3 xs k : Int)) by have := HN.out; have := B4.out; have := B1.out; have := B2.out; have := B3.out; omega) rfl)
      · have z1 : Sc.run Sc.dg xs (Sc.p1 xs k) = 0 := by unfold Sc.some? at hs; omega
        have z2 : Sc.bn xs k = 0 := by unfold Sc.some? at hs; omega
        rw [z1] at sA
        rw [z2] at sB
        clear z1 z2 nA nB
        replace m := hid m
        replace hs := hid hs
        go_wp2_with fail
        (try simp only [Exit.inBlock, Exit.then]); refine bodyPost_ret (results_row_tmp rfl _ _ w.heap.size 87 _ (0, 0) _ rfl (m.out.put _ _ _ _ _).1 Tryz.underlying87 rfl (by kernel_rfl)) rfl ?_; exact rd_none hs.out (m.out.put _ _ _ _ _).2
    | power j frm A B hs hA hB he h1 h2 m =>
      refine ⟨_, rfl, fun F => ?_⟩
      replace F := hid F
      have SS := hid (sc_some he)
      have B4 : Hid (j + Sc.run Sc.dg xs j ≤ xs.length) := by show _ ≤ _; rw [h2, ← (sc_some he).2]; exact BE.out
      have hj : (j : Int) ≤ 562949953421312 := by have := HN.out; have := B4.out; omega
      have cb := cap_bd h1 h2
      replace hs := hid hs
      replace hA := hid hA
      replace hB := hid hB
      replace he := hid he
      have D := hid (fun wx => DG.out j wx)
      obtain ⟨⟨c0, c1, c2, c3, c4⟩, f0, f1, f2, f3, f4⟩ := m.cells
      obtain ⟨⟨d0, d1, d2, d3, d4⟩, g0, g1, g2, g3, g4⟩ := m.room
      cases hd : Sc.dg (Sc.pk xs j) with
      | true =>
        rw [hd] at D
        have R := hid (Sc.run_succ Sc.dg0 hd)
        have hlt : j < xs.length := Sc.pk_lt (by have := Sc.dg_iff.1 hd; omega)
        have hx := HS.out.pk j
        have xb := Sc.dg_iff.1 hd
        have CM := hid (cap_more h1 hlt)
        have HLT := hid hlt
        have hli : (j : Int) < (xs.length : Int) := by omega
        replace h1 := hid h1
        replace h2 := hid h2
        replace m := hid m
        have M2 : Hid (∀ v : Int, v = min (10 * Sc.cap ((xs.drop (Sc.p4 xs (Sc.p3 xs k))).take (j - Sc.p4 xs (Sc.p3 xs k))) + (Sc.pk xs j - 48)) 1000000000000000 → RM w ((w'.setCell ⟨w.heap.size + 1, 3, none⟩ (.int .i64 v)).drew) (decide (Sc.pk xs k = 45)) A B (Sc.cap ((xs.drop (Sc.p4 xs (Sc.p3 xs k))).take (j + 1 - Sc.p4 xs (Sc.p3 xs k)))) (Sc.p3 xs k : Nat)) := fun v hv => by
          rw [CM.out, ← hv]
          exact (m.out.scale v).drew1
        clear hd hlt
        generalize Sc.cap ((xs.drop (Sc.p4 xs (Sc.p3 xs k))).take (j - Sc.p4 xs (Sc.p3 xs k))) = c at *
        have PKj := hid (fun wx => PK.out j wx)
        generalize Sc.pk xs j = x at *
        go_wp2_with fail
        refine (PKj.out _).mono ?_; rintro e w1 ⟨rfl, rfl⟩
        go_wp2_with fail
        refine (D.out _).mono ?_; rintro e w1 ⟨rfl, rfl⟩
        go_upto_region 26 with fail
        go_region
        go_wp2_with fail
        all_goals (go_step3; exact ⟨⟨rfl, rfl, _, _, _, rfl, rfl, rfl, rfl, rfl, rfl, j + 1, rfl, RI.power _ _ _ _ hs.out hA.out hB.out he.out (by have := h1.out; omega) (by have := h2.out; have := R.out; omega) (M2.out _ (by omega))⟩, (show 0 * (xs.length + 3) + (xs.length + 2 - Int.toNat ((j : Int) + 1)) < 0 * (xs.length + 3) + (xs.length + 2 - Int.toNat (j : Int)) by have := HN.out; have := HLT.out; have := B1.out; have := B2.out; have := B3.out; omega)⟩)
      | false =>
        rw [hd] at D
        have hj2 : j = Sc.p4 xs (Sc.p3 xs k) + Sc.run Sc.dg xs (Sc.p4 xs (Sc.p3 xs k)) := by have := h2; rw [Sc.run_zero Sc.dg0 hd] at this; exact this
        have EJ : Hid (j - Sc.p4 xs (Sc.p3 xs k) = Sc.run Sc.dg xs (Sc.p4 xs (Sc.p3 xs k))) := by show _ = _; omega
        have EN : Hid ((j : Int) = ((Sc.lit xs k).en : Nat)) := by show _ = _; rw [SS.out.2, ← hj2]
        clear hd hj2
        replace h1 := hid h1
        replace h2 := hid h2
        by_cases hn : Sc.pk xs (Sc.p3 xs k + 1) = 45
        · have E1 : Hid (- Sc.cap ((xs.drop (Sc.p4 xs (Sc.p3 xs k))).take (j - Sc.p4 xs (Sc.p3 xs k))) = (Sc.lit xs k).sc) := by show _ = _; rw [SS.out.1, if_pos hn, EJ.out]
          have M2 := hid ((m.scale (- Sc.cap ((xs.drop (Sc.p4 xs (Sc.p3 xs k))).take (j - Sc.p4 xs (Sc.p3 xs k))))).en (j : Int))
          rw [decide_eq_true hn]
          clear hn m
          generalize Sc.cap ((xs.drop (Sc.p4 xs (Sc.p3 xs k))).take (j - Sc.p4 xs (Sc.p3 xs k))) = c at *
          go_wp2_with fail
          refine (PK.out j _).mono ?_; rintro e w1 ⟨rfl, rfl⟩
          go_wp2_with fail
          refine (D.out _).mono ?_; rintro e w1 ⟨rfl, rfl⟩
          go_wp2_with fail
          (try simp only [Exit.inBlock, Exit.then]); refine bodyPost_ret (results_row_tmp rfl _ _ w.heap.size 87 _ (0, 0) _ rfl (M2.out.put _ _ _ _ _).1 Tryz.underlying87 rfl (by kernel_rfl)) rfl ?_; exact rd_some hs.out hA.out hB.out E1.out EN.out (M2.out.put _ _ _ _ _).2
        · have E1 : Hid (Sc.cap ((xs.drop (Sc.p4 xs (Sc.p3 xs k))).take (j - Sc.p4 xs (Sc.p3 xs k))) = (Sc.lit xs k).sc) := by show _ = _; rw [SS.out.1, if_neg hn, EJ.out]
          have M2 := hid (m.en (j : Int))
          rw [decide_eq_false hn]
          clear hn m
          generalize Sc.cap ((xs.drop (Sc.p4 xs (Sc.p3 xs k))).take (j - Sc.p4 xs (Sc.p3 xs k))) = c at *
          go_wp2_with fail
          refine (PK.out j _).mono ?_; rintro e w1 ⟨rfl, rfl⟩
          go_wp2_with fail
          refine (D.out _).mono ?_; rintro e w1 ⟨rfl, rfl⟩
          go_wp2_with fail
          (try simp only [Exit.inBlock, Exit.then]); refine bodyPost_ret (results_row_tmp rfl _ _ w.heap.size 87 _ (0, 0) _ rfl (M2.out.put _ _ _ _ _).1 Tryz.underlying87 rfl (by kernel_rfl)) rfl ?_; exact rd_some hs.out hA.out hB.out E1.out EN.out (M2.out.put _ _ _ _ _).2
end Go.Proofs.YtjkefcikepnbpaaGreatDoor
