/-
  abacusref08: normal, IsDec, Norm.
-/
import Derived.Test.YtjghlpkjbfaoiaaDoorVText
import Derived.Deep.LoopGhost
namespace Go.Proofs.YtjghlpkjbfaoiaaDoor
open Go Go.RowKit Go.Deep

set_option maxRecDepth 100000 in
set_option maxHeartbeats 2000000 in
theorem normal_any (neg : Bool) (s : ByteArray) (xs : List Int) (e : Int) (w : World) (hs : Str s xs) (hn : xs.length ≤ 281474976710656) (e0 : -4611686018427387904 ≤ e) (e1 : e ≤ 4611686018427387904) :
    Calls Tryd.prog 47 #[.bool neg, .string s, .int .i64 e] w fun r w' => ∃ v, r = .returned v ∧ DecIs v (Sc.nrm neg xs e) ∧ Below w.heap.size w w' := by
  have HS := hid hs
  have HN := hid hn
  have hsz := hs.size
  have D := hid (LS1.new w (.bool false) (.string ⟨#[]⟩) (.int .i64 0))
  have hnb : (xs.length : Int) ≤ 281474976710656 := by omega
  clear hs hn
  go_enter Tryd.func47, Tryd.ntmps47
  go_wp2_with fail
  go_loop [7] (fun c => ∃ j : Nat, c = .int .i64 j ∧ Hid (j ≤ Sc.lz xs)) (fun c => match c with | .int _ j => xs.length - j.toNat | _ => 0)
  case atStart => exact ⟨0, rfl, Nat.zero_le _⟩
  case round =>
    obtain ⟨j, rfl, I⟩ := hrel
    have hjl : j ≤ xs.length := by have := I.out; have := Sc.lz_le xs; omega
    have hjb : (j : Int) ≤ 281474976710656 := by have := HN.out; omega
    have hx := HS.out.pk j
    by_cases hj : j < Sc.lz xs
    · have hji : (j : Int) < (xs.length : Int) := by have := Sc.lz_le xs; omega
      have h48 := Sc.lz_at hj
      rw [h48] at hx
      clear h48
      replace hj := hid hj
      go_wp2_with fail
      go_round
      case rel => exact ⟨j + 1, by go_num, by have := hj.out; show _ ≤ _; omega⟩
      case measure => simp; omega
    · have hje : j = Sc.lz xs := by have := I.out; omega
      have hne := Sc.lz_end xs
      rw [← hje] at hne
      by_cases hl : j = xs.length
      · have F : Hid (Sc.nrm neg xs e = ⟨neg, [48], 0⟩) := Sc.nrm_zero (by omega)
        have hji : ¬ (j : Int) < (xs.length : Int) := by omega
        have hjq : ((j : Int) == (xs.length : Int)) = true := by simp; omega
        have hjq2 : (j : Int) = (xs.length : Int) := by omega
        clear hje hne I hx hj
        go_wp2_with fail
        (try simp only [Exit.inBlock, Exit.then])
        refine bodyPost_ret (results_cell_row rfl _ _ w.heap.size 29 _ (0, 0) _ rfl (LS1.new w _ _ _).2 Tryd.underlying29 rfl (by kernel_rfl)) rfl ?_
        exact dec_ret (by rw [F.out]; exact ⟨_, rfl, str_zero⟩) (LS1.new w _ _ _).1
      · have hji : (j : Int) < (xs.length : Int) := by omega
        have hjq : ((j : Int) == (xs.length : Int)) = false := by rw [beq_eq_false_iff_ne]; omega
        have hd2 : (Sc.pk xs j == 48) = false := by rw [beq_eq_false_iff_ne]; exact hne
        have LT := hid (Sc.lz_tz (ds := xs) (by omega))
        have NP : Hid (Sc.nrm neg xs e = ⟨neg, (xs.drop j).take (xs.length - Sc.tz xs - j), e + Sc.tz xs⟩) := by
          show _ = _
          rw [Sc.nrm_pos (by omega), ← hje]
        have HJ := hid hje
        have hjne : ¬ (j : Int) = (xs.length : Int) := by omega
        clear hje hne I hj
        generalize Sc.pk xs j = xj at *
        go_wp2_with fail
        go_loop [8] (fun c => ∃ k : Nat, c = .int .i64 k ∧ Hid (k ≤ xs.length ∧ xs.length - Sc.tz xs ≤ k)) (fun c => match c with | .int _ j => j.toNat | _ => 0)
        case atStart => exact ⟨xs.length, rfl, Nat.le_refl _, by omega⟩
        case round =>
          obtain ⟨k, rfl, I⟩ := hrel
          have hk0 : 0 < k := by have := I.out.2; have := LT.out; omega
          obtain ⟨k', hk'⟩ : ∃ k', k = k' + 1 := ⟨k - 1, by omega⟩
          have hkk : (k : Int) - 1 = (k' : Int) := by omega
          have hkl : (k' : Int) < (xs.length : Int) := by have := I.out.1; omega
          have hkb : (k : Int) ≤ 281474976710656 := by have := I.out.1; have := HN.out; omega
          have hk2 : Hid (k = k' + 1) := hk'
          have hx2 := HS.out.pk k'
          by_cases ht : xs.length - Sc.tz xs < k
          · have h48 := Sc.tz_at (ds := xs) (i := k') (by omega) (by have := I.out.1; omega)
            rw [h48] at hx2
            have I2 : Hid (k' ≤ xs.length ∧ xs.length - Sc.tz xs ≤ k') := ⟨by have := I.out.1; omega, by omega⟩
            clear h48 hk' ht I hk0
            go_wp2_with fail
            go_round
            case rel => exact ⟨k', rfl, I2.out⟩
            case measure => have := hk2.out; simp; omega
          · have hke : k = xs.length - Sc.tz xs := by have := I.out.2; omega
            have hne := Sc.tz_end (ds := xs) (by have := LT.out; omega)
            rw [show xs.length - Sc.tz xs - 1 = k' by omega] at hne
            have hd3 : (Sc.pk xs k' == 48) = false := by rw [beq_eq_false_iff_ne]; exact hne
            have q1 : (j : Int) ≤ (k : Int) := by have := LT.out; have := HJ.out; omega
            have q2 : (k : Int) ≤ (xs.length : Int) := by omega
            have F : Hid (DecIs (.agg #[.bool neg, .string (s.extract j k), .int .i64 (e + (xs.length : Int) - (k : Int))]) (Sc.nrm neg xs e)) := by
              show DecIs _ _
              rw [NP.out]
              have h1 := HS.out.extract j k
              rw [hke] at h1 ⊢
              have tl := Sc.tz_le xs
              refine ⟨s.extract j (xs.length - Sc.tz xs), ?_, h1⟩
              show _ = decV _ _ _
              unfold decV
              congr 2
              have : e + (xs.length : Int) - ((xs.length - Sc.tz xs : Nat) : Int) = e + (Sc.tz xs : Int) := by omega
              rw [this]
            clear hke hne I ht hk' NP hk0
            generalize Sc.pk xs k' = xk at *
            go_wp2_with fail
            (try simp only [Exit.inBlock, Exit.then])
            refine bodyPost_ret (results_cell_row rfl _ _ w.heap.size 29 _ (0, 0) _ rfl (LS1.new w _ _ _).2 Tryd.underlying29 rfl (by kernel_rfl)) rfl ?_
            exact dec_ret F.out (LS1.new w _ _ _).1

set_option maxRecDepth 100000 in
set_option maxHeartbeats 2000000 in
theorem risdec_any (neg : Bool) (s : ByteArray) (xs : List Int) (e : Int) (w : World) (hs : Str s xs) (hn : xs.length ≤ 281474976710656) :
    Calls Tryd.prog 46 #[decV neg s e] w fun r w' => r = .returned (.bool (decide (Sc.IsDec xs e))) ∧ Below w.heap.size w w' := by
  have Z := hid (LS1.new w (.bool neg) (.string s) (.int .i64 e))
  have ZF : Hid (¬ Sc.IsDec xs e → ∀ w', Below w.heap.size w w' → Ending.returned (.bool false) = .returned (.bool (decide (Sc.IsDec xs e))) ∧ Below w.heap.size w w') := fun z w' b => ⟨by rw [decide_eq_false z], b⟩
  have hsz := hs.size
  by_cases h1 : xs = []
  · have Z2 := hid (ZF.out fun c => c.1 h1)
    have hs0 : s = ⟨#[]⟩ := hs.inj (by rw [h1]; rfl)
    subst hs0
    clear hs h1 ZF hn hsz
    unfold decV
    go_enter Tryd.func46, Tryd.ntmps46
    go_wp2_with fail
    go_ret
    exact Z2.out _ Z.out.1
  · have hpos : 0 < xs.length := by
      rcases Nat.eq_zero_or_pos xs.length with c | c
      · exact absurd (List.length_eq_zero_iff.1 c) h1
      · exact c
    have hp1 : ((xs.length : Int) == 0) = false := by rw [beq_eq_false_iff_ne]; omega
    by_cases h2 : -1152921504606846976 ≤ e ∧ e ≤ 1152921504606846976
    · obtain ⟨e0, e1⟩ := h2
      have T := hid (fun wx => normal_any neg s xs e wx hs hn (by omega) (by omega))
      have ID : Hid ((∀ i, i < xs.length → Sc.dg (Sc.pk xs i) = true) → (Sc.IsDec xs e ↔ (Sc.nrm neg xs e).e ≤ 1152921504606846976)) := isdec_n h1 e0 e1
      have IN : Hid (∀ j, j < xs.length → Sc.dg (Sc.pk xs j) = false → ¬ Sc.IsDec xs e) := fun j hj hd c => by
        have := c.2.2.2.1 (Sc.pk xs j) (by simp [Sc.pk, List.getD, hj])
        rw [hd] at this; exact absurd this (by simp)
      have HS := hid hs
      have HN := hid hn
      clear hs hn h1
      unfold decV
      go_enter Tryd.func46, Tryd.ntmps46
      go_wp2_with fail
      go_loop [3] (fun c => ∃ j : Nat, c = .int .i64 j ∧ Hid (j ≤ xs.length ∧ ∀ i, i < j → Sc.dg (Sc.pk xs i) = true)) (fun c => match c with | .int _ j => xs.length - j.toNat | _ => 0)
      case atStart => exact ⟨0, rfl, Nat.zero_le _, fun i hi => by omega⟩
      case round =>
        obtain ⟨j, rfl, I⟩ := hrel
        have hjb : (j : Int) ≤ 281474976710656 := by have := I.out.1; have := HN.out; omega
        by_cases hj : j < xs.length
        · have hji : (j : Int) < (xs.length : Int) := by omega
          have hx := HS.out.pk j
          cases hd : Sc.dg (Sc.pk xs j) with
          | true =>
            have hd2 := Sc.dg_iff.1 hd
            have I2 : Hid (j + 1 ≤ xs.length ∧ ∀ i, i < j + 1 → Sc.dg (Sc.pk xs i) = true) := ⟨by omega, fun i hi => by
              by_cases c : i = j
              · subst c; exact hd
              · exact I.out.2 i (by omega)⟩
            clear hd I
            generalize Sc.pk xs j = x at *
            go_wp2_with fail
            go_round
            case rel => exact ⟨j + 1, by go_num, I2.out⟩
            case measure => simp; omega
          | false =>
            have hd2 := Sc.dg_not.1 hd
            have Z2 := hid (ZF.out (IN.out j hj hd))
            have hd3 : Sc.pk xs j < 48 ∨ (48 ≤ Sc.pk xs j ∧ 57 < Sc.pk xs j) := by omega
            clear hd hd2
            generalize Sc.pk xs j = x at *
            rcases hd3 with hd3 | ⟨hd3, hd4⟩
            all_goals (go_wp2_with fail; go_ret; exact Z2.out _ Z.out.1)
        · have hji : ¬ (j : Int) < (xs.length : Int) := by omega
          have ID2 := hid (ID.out fun i hi => I.out.2 i (by omega))
          clear I ID IN
          go_wp2_with fail
          refine (T.out _).mono ?_
          rintro r w1 ⟨v, rfl, ⟨t, hv, ht⟩, hB⟩
          unfold decV at hv
          subst hv
          have B2 := hid (below_on (below_on Z.out.1 hB) (alloc_b w1 (.cells #[.bool (Sc.nrm neg xs e).neg, .string t, .int .i64 (Sc.nrm neg xs e).e] 29)))
          clear hB ht T
          have FF : Hid (∀ b : Bool, b = decide ((Sc.nrm neg xs e).e ≤ 1152921504606846976) → ∀ w', Below w.heap.size w w' → Ending.returned (.bool b) = .returned (.bool (decide (Sc.IsDec xs e))) ∧ Below w.heap.size w w') := fun b hb w' bb => ⟨by rw [hb, show decide ((Sc.nrm neg xs e).e ≤ 1152921504606846976) = decide (Sc.IsDec xs e) from decide_eq_decide.2 ID2.out.symm], bb⟩
          clear ID2
          generalize Sc.nrm neg xs e = N at *
          go_wp2_with fail
          go_ret
          exact FF.out _ rfl _ B2.out
    · have Z2 := hid (ZF.out fun c => h2 ⟨c.2.1, c.2.2.1⟩)
      rcases (show e < -1152921504606846976 ∨ (-1152921504606846976 ≤ e ∧ 1152921504606846976 < e) by omega) with he | ⟨he0, he⟩
      all_goals
        clear hs hn h1 ZF h2
        unfold decV
        go_enter Tryd.func46, Tryd.ntmps46
        go_wp2_with fail
        go_ret
        exact Z2.out _ Z.out.1

set_option maxRecDepth 100000 in
set_option maxHeartbeats 2000000 in
theorem rnorm_any (neg : Bool) (s : ByteArray) (xs : List Int) (e : Int) (w : World) (hs : Str s xs) (hn : xs.length ≤ 281474976710655) :
    Calls Tryd.prog 28 #[decV neg s e] w fun r w' => NormTold neg xs e w r w' := by
  have T := hid (fun wx => risdec_any neg s xs e wx hs (by omega))
  have Z := hid (Two3.new w (.bool neg) (.string s) (.int .i64 e) (.bool false) (.string ⟨#[]⟩) (.int .i64 0))
  by_cases hd : Sc.IsDec xs e
  · have M := hid (fun wx => normal_any neg s xs e wx hs (by omega) (by have := hd.2.1; omega) (by have := hd.2.2.1; omega))
    have GG : Hid (∀ t w', Str t (Sc.nrm neg xs e).ds → Below w.heap.size w w' → NormTold neg xs e w (.returned (.tuple #[.agg #[.bool (Sc.nrm neg xs e).neg, .string t, .int .i64 (Sc.nrm neg xs e).e], .int .i64 0])) w') := fun t w' ht b => ⟨_, by unfold errOf; rw [if_pos hd], by unfold nmd; rw [if_pos hd]; exact ⟨t, rfl, ht⟩, b⟩
    rw [decide_eq_true hd] at T
    clear hd hs hn
    unfold decV at T ⊢
    go_enter Tryd.func28, Tryd.ntmps28
    go_wp2_with fail
    refine (T.out _).mono ?_
    rintro r w1 ⟨rfl, hB⟩
    have S1 := hid (Z.out.on hB)
    obtain ⟨⟨c0, c1, c2⟩, -⟩ := S1.out.2.1.cells
    clear hB Z T
    go_wp2_with fail
    refine (M.out _).mono ?_
    rintro r w2 ⟨v, rfl, ⟨t, hv, ht⟩, hB⟩
    unfold decV at hv
    subst hv
    have S2 := hid (S1.out.on hB)
    obtain ⟨⟨d0, d1, d2⟩, g0, g1, g2⟩ := S2.out.2.2.cells
    have HT := hid ht
    clear hB S1 M c0 c1 c2 ht
    generalize Sc.nrm neg xs e = N at *
    go_wp2_with fail
    (try simp only [Exit.inBlock, Exit.then])
    refine bodyPost_ret (results_row_tmp rfl _ _ (w.heap.size + 1) 29 _ (0, 0) _ rfl (S2.out.putB _ _ _).2.2 Tryd.underlying29 rfl (by kernel_rfl)) rfl ?_
    exact GG.out _ _ HT.out (S2.out.putB _ _ _).1
  · have GG : Hid (∀ w', Below w.heap.size w w' → NormTold neg xs e w (.returned (.tuple #[.agg #[.bool false, .string ⟨#[]⟩, .int .i64 0], .int .i64 80])) w') := fun w' b => ⟨_, by unfold errOf; rw [if_neg hd], by unfold nmd; rw [if_neg hd]; exact ⟨_, rfl, str_nil0⟩, b⟩
    rw [decide_eq_false hd] at T
    clear hd hs hn
    unfold decV at T ⊢
    go_enter Tryd.func28, Tryd.ntmps28
    go_wp2_with fail
    refine (T.out _).mono ?_
    rintro r w1 ⟨rfl, hB⟩
    have S1 := hid (Z.out.on hB)
    obtain ⟨⟨d0, d1, d2⟩, g0, g1, g2⟩ := S1.out.2.2.cells
    clear hB Z T
    go_wp2_with fail
    (try simp only [Exit.inBlock, Exit.then])
    refine bodyPost_ret (results_row_tmp rfl _ _ (w.heap.size + 1) 29 _ (0, 0) _ rfl (S1.out.putB _ _ _).2.2 Tryd.underlying29 rfl (by kernel_rfl)) rfl ?_
    exact GG.out _ (S1.out.putB _ _ _).1
end Go.Proofs.YtjghlpkjbfaoiaaDoor
