/-
  abacusref08: Number, Whole.
-/
import Derived.Test.YtjghlpkjbfaoiaaDoorVRWorth
namespace Go.Proofs.YtjghlpkjbfaoiaaDoor
open Go Go.RowKit Go.Deep

/-- The literal's text. -/
theorem lit_text {xs : List Int} {K : Nat} (hK : K ≤ xs.length) (hs : Sc.some? xs K) : Sc.some? ((xs.drop K).take ((Sc.lit xs K).en - K)) 0 ∧ (Sc.lit ((xs.drop K).take ((Sc.lit xs K).en - K)) 0).en = ((xs.drop K).take ((Sc.lit xs K).en - K)).length ∧
    (Sc.lit ((xs.drop K).take ((Sc.lit xs K).en - K)) 0).d = (Sc.lit xs K).d := by
  obtain ⟨d1, d2, d3, d4, d5, d6⟩ := Sc.lit_drop xs K
  have s1 := d1.2 hs
  obtain ⟨a, b⟩ := Sc.lit_take s1 (m := (Sc.lit xs K).en - K) (by omega)
  have le := Sc.en_le xs K hK
  refine ⟨a, ?_, ?_⟩
  · rw [b, List.length_take, List.length_drop]; omega
  · rw [b]; show Sc.nrm _ _ _ = Sc.nrm _ _ _; rw [d2, d3, d4, d5]

theorem LS1.ret {w wx : World} {v0 v1 v2 : Value} (h : LS1 w wx v0 v1 v2) : Below w.heap.size w wx := h.1

set_option maxRecDepth 100000 in
set_option maxHeartbeats 2000000 in
theorem rnumber_any (s : ByteArray) (xs : List Int) (w : World) (hs : Str s xs) (hn : xs.length ≤ 140737488351232) :
    Calls Tryd.prog 26 #[.string s] w fun e w' => NumTold xs w e w' := by
  have BL := hid (fun wx => rblanks_any s xs wx hs (by omega))
  have kl : Sc.run Sc.bl xs 0 ≤ xs.length := by have := Sc.run_le Sc.bl xs 0; omega
  have LG := hid (fun wx => rlongest_any s xs (Sc.run Sc.bl xs 0) wx hs (by omega) kl)
  have D := hid (LS1.new w (.bool false) (.string ⟨#[]⟩) (.int .i64 0))
  have hsz := hs.size
  by_cases hm : Sc.some? xs (Sc.run Sc.bl xs 0)
  · have NE : Hid (Sc.num xs = ((Sc.lit xs (Sc.run Sc.bl xs 0)).d, (Sc.lit xs (Sc.run Sc.bl xs 0)).en)) := by show _ = _; unfold Sc.num; rw [if_pos hm]
    have RE : Sc.res xs (Sc.run Sc.bl xs 0) = (Sc.lit xs (Sc.run Sc.bl xs 0)).en := by unfold Sc.res; rw [if_pos hm]
    have hlt := (Sc.lit_last hm).1
    have hle : (Sc.lit xs (Sc.run Sc.bl xs 0)).en ≤ xs.length := by have := Sc.num_le xs; rw [NE.out] at this; exact this
    rw [RE] at LG
    obtain ⟨t1, t2, t3⟩ := lit_text kl hm
    have WO : Hid (∀ wx, Calls Tryd.prog 45 #[.string (s.extract (Sc.run Sc.bl xs 0) (Sc.lit xs (Sc.run Sc.bl xs 0)).en)] wx fun r w' => ∃ v, r = .returned v ∧ DecIs v (Sc.num xs).1 ∧ Below wx.heap.size wx w') := fun wx => by
      have := worth_any _ _ wx (hs.extract (Sc.run Sc.bl xs 0) (Sc.lit xs (Sc.run Sc.bl xs 0)).en) (by simp; omega) t1 t2
      rw [t3] at this
      rw [NE.out]
      exact this
    have EE : Hid ((Sc.lit xs (Sc.run Sc.bl xs 0)).en = (Sc.num xs).2) := by rw [NE.out]; rfl
    rw [EE.out] at WO LG hlt hle
    clear hs hn hm NE RE t1 t2 t3 EE
    have FF : Hid (∀ v w', DecIs v (Sc.num xs).1 → Below w.heap.size w w' → NumTold xs w (.returned (.tuple #[v, .int .i64 ((Sc.num xs).2 : Nat)])) w') := fun v w' h b => ⟨v, rfl, h, b⟩
    have GG : Hid (∀ v, DecIs v (Sc.num xs).1 → ∃ t, v = .agg #[.bool (Sc.num xs).1.neg, .string t, .int .i64 (Sc.num xs).1.e] ∧ Str t (Sc.num xs).1.ds) := fun v h => h
    have GB : Hid (∀ t, Str t (Sc.num xs).1.ds → DecIs (.agg #[.bool (Sc.num xs).1.neg, .string t, .int .i64 (Sc.num xs).1.e]) (Sc.num xs).1) := fun t h => ⟨t, rfl, h⟩
    generalize (Sc.num xs).1 = N at *
    generalize (Sc.num xs).2 = n at *
    generalize Sc.run Sc.bl xs 0 = K at *
    have hKn : ((n : Int) == (K : Int)) = false := by rw [beq_eq_false_iff_ne]; omega
    have hKn2 : ¬ (n : Int) = (K : Int) := by omega
    have q1 : (K : Int) ≤ (n : Int) := by omega
    have q2 : (n : Int) ≤ (xs.length : Int) := by omega
    go_enter Tryd.func26, Tryd.ntmps26
    go_wp2_with fail
    refine (BL.out _).mono ?_
    rintro e w1 ⟨rfl, rfl⟩
    go_wp2_with fail
    refine (LG.out _).mono ?_
    rintro e w1 ⟨rfl, hB⟩
    have D1 := hid (D.out.on hB)
    clear hB D LG BL
    go_wp2_with fail
    refine (WO.out _).mono ?_
    rintro e w2 ⟨v, rfl, hv, hB⟩
    obtain ⟨t, rfl, ht⟩ := GG.out _ hv
    have D2 := hid (D1.out.on hB)
    have HT := hid ht
    obtain ⟨⟨d0, d1, d2⟩, g0, g1, g2⟩ := D2.out.flat
    clear hB D1 WO hv ht
    go_wp2_with fail
    (try simp only [Exit.inBlock, Exit.then])
    refine bodyPost_ret (results_row_tmp rfl _ _ w.heap.size 29 _ (0, 0) _ rfl (D2.out.put _ _ _).2 Tryd.underlying29 rfl (by kernel_rfl)) rfl ?_
    exact FF.out _ _ (GB.out _ HT.out) (D2.out.put _ _ _).1
  · have NZ : Hid (Sc.num xs = (⟨false, [], 0⟩, 0)) := by show _ = _; unfold Sc.num; rw [if_neg hm]
    have RE : Sc.res xs (Sc.run Sc.bl xs 0) = Sc.run Sc.bl xs 0 := by unfold Sc.res; rw [if_neg hm]
    rw [RE] at LG
    have FF : Hid (∀ w', Below w.heap.size w w' → NumTold xs w (.returned (.tuple #[.agg #[.bool false, .string ⟨#[]⟩, .int .i64 0], .int .i64 0])) w') := fun w' b => ⟨_, by rw [NZ.out]; rfl, by rw [NZ.out]; exact ⟨_, rfl, str_nil0⟩, b⟩
    clear hs hn hm NZ RE
    generalize Sc.run Sc.bl xs 0 = K at *
    go_enter Tryd.func26, Tryd.ntmps26
    go_wp2_with fail
    refine (BL.out _).mono ?_
    rintro e w1 ⟨rfl, rfl⟩
    go_wp2_with fail
    refine (LG.out _).mono ?_
    rintro e w1 ⟨rfl, hB⟩
    have D2 := hid (D.out.on hB)
    obtain ⟨⟨d0, d1, d2⟩, g0, g1, g2⟩ := D2.out.flat
    clear hB D LG BL
    go_wp2_with fail
    (try simp only [Exit.inBlock, Exit.then])
    refine bodyPost_ret (results_row_tmp rfl _ _ w.heap.size 29 _ (0, 0) _ rfl (D2.out.put _ _ _).2 Tryd.underlying29 rfl (by kernel_rfl)) rfl ?_
    exact FF.out _ (D2.out.put _ _ _).1

/-- The answer's room, and a Dec in a box. -/
def NB (w wx : World) (b : Nat) (v0 v1 v2 : Value) : Prop := LS1 w wx (.bool false) (.string ⟨#[]⟩) (.int .i64 0) ∧ Row3 wx b v0 v1 v2
theorem NB.new {w w1 : World} (h : LS1 w w1 (.bool false) (.string ⟨#[]⟩) (.int .i64 0)) (v0 v1 v2 : Value) : NB w (w1.alloc (.cells #[v0, v1, v2] 29)) w1.heap.size v0 v1 v2 := ⟨h.on (alloc_b _ _), Row3.new _ _ _ _⟩

set_option maxRecDepth 100000 in
set_option maxHeartbeats 2000000 in
theorem rwhole_any (s : ByteArray) (xs : List Int) (w : World) (hs : Str s xs) (hn : xs.length ≤ 140737488351232) :
    Calls Tryd.prog 27 #[.string s] w fun e w' => WhlTold xs w e w' := by
  have NM := hid (fun wx => rnumber_any s xs wx hs hn)
  have BL : Hid (∀ (n : Nat) wx, n ≤ xs.length → Calls Tryd.prog 43 #[.string (s.extract n xs.length)] wx fun e w' => e = .returned (.int .i64 ((Sc.run Sc.bl xs n : Nat) : Int)) ∧ w' = wx) := fun n wx h => by
    have e := hs.extract n xs.length
    rw [List.take_of_length_le (by simp)] at e
    have := rblanks_any _ _ wx e (by simp; omega)
    rw [Sc.run_drop, Nat.add_zero] at this
    exact this
  have D := hid (LS1.new w (.bool false) (.string ⟨#[]⟩) (.int .i64 0))
  have hsz := hs.size
  have hnb : (xs.length : Int) ≤ 140737488351232 := by omega
  by_cases hm : Sc.some? xs (Sc.run Sc.bl xs 0)
  · have NE : Sc.num xs = ((Sc.lit xs (Sc.run Sc.bl xs 0)).d, (Sc.lit xs (Sc.run Sc.bl xs 0)).en) := by unfold Sc.num; rw [if_pos hm]
    have hlt := (Sc.lit_last hm).1
    have hle := Sc.num_le xs
    have WE : Sc.whl xs = if (Sc.num xs).2 + Sc.run Sc.bl xs (Sc.num xs).2 = xs.length then ((Sc.num xs).1, true) else (⟨false, [], 0⟩, false) := by
      rw [NE]; unfold Sc.whl
      by_cases c : (Sc.lit xs (Sc.run Sc.bl xs 0)).en + Sc.run Sc.bl xs (Sc.lit xs (Sc.run Sc.bl xs 0)).en = xs.length
      · rw [if_pos ⟨hm, c⟩, if_pos c]
      · rw [if_neg (fun h => c h.2), if_neg c]
    have hpos : 0 < (Sc.num xs).2 := by rw [NE]; show 0 < (Sc.lit xs (Sc.run Sc.bl xs 0)).en; omega
    have B1 := hid (fun wx => BL.out (Sc.num xs).2 wx hle)
    have rl := Sc.run_le Sc.bl xs (Sc.num xs).2
    have GG : Hid (∀ v, DecIs v (Sc.num xs).1 → ∃ t, v = .agg #[.bool (Sc.num xs).1.neg, .string t, .int .i64 (Sc.num xs).1.e] ∧ Str t (Sc.num xs).1.ds) := fun v h => h
    have GB : Hid (∀ t, Str t (Sc.num xs).1.ds → DecIs (.agg #[.bool (Sc.num xs).1.neg, .string t, .int .i64 (Sc.num xs).1.e]) (Sc.num xs).1) := fun t h => ⟨t, rfl, h⟩
    have NM2 : Hid (∀ wx, Calls Tryd.prog 26 #[.string s] wx fun e w' => ∃ v, e = .returned (.tuple #[v, .int .i64 ((Sc.num xs).2 : Nat)]) ∧ DecIs v (Sc.num xs).1 ∧ Below wx.heap.size wx w') := NM.out
    clear hs hn hm NE hlt NM BL
    generalize hN : (Sc.num xs).1 = N at *
    generalize hq : (Sc.num xs).2 = n at *
    generalize hr : Sc.run Sc.bl xs n = r at *
    clear hN hq hr
    have hp1 : ((n : Int) == 0) = false := by rw [beq_eq_false_iff_ne]; omega
    have hp2 : ¬ (n : Int) = 0 := by omega
    have q2 : (n : Int) ≤ (xs.length : Int) := by omega
    have q3 : (r : Int) ≤ 140737488351232 := by omega
    by_cases hc : n + r = xs.length
    · have hci : (n : Int) + (r : Int) = (xs.length : Int) := by omega
      have WE2 : Hid (Sc.whl xs = (N, true)) := by show _ = _; rw [WE, if_pos hc]
      have FF : Hid (∀ v w', DecIs v N → Below w.heap.size w w' → WhlTold xs w (.returned (.tuple #[v, .bool true])) w') := fun v w' h b => ⟨v, by rw [WE2.out], by rw [WE2.out]; exact h, b⟩
      clear WE WE2 hc
      go_enter Tryd.func27, Tryd.ntmps27
      go_wp2_with fail
      refine (NM2.out _).mono ?_
      rintro e w1 ⟨v, rfl, hv, hB⟩
      obtain ⟨t, rfl, ht⟩ := GG.out _ hv
      have D1 := hid (NB.new (D.out.on hB) (.bool N.neg) (.string t) (.int .i64 N.e))
      have HT := hid ht
      clear hB D hv ht NM2
      obtain ⟨⟨d0, d1, d2⟩, g0, g1, g2⟩ := D1.out.1.flat
      obtain ⟨⟨c0, c1, c2⟩, -⟩ := D1.out.2.cells
      go_wp2_with fail
      refine (B1.out _).mono ?_
      rintro e w2 ⟨rfl, rfl⟩
      go_wp2_with fail
      (try simp only [Exit.inBlock, Exit.then])
      refine bodyPost_ret (results_row_tmp rfl _ _ w.heap.size 29 _ (0, 0) _ rfl (D1.out.1.put _ _ _).2 Tryd.underlying29 rfl (by kernel_rfl)) rfl ?_
      exact FF.out _ _ (GB.out _ HT.out) (D1.out.1.put _ _ _).1
    · have hci : ¬ (n : Int) + (r : Int) = (xs.length : Int) := by omega
      have hcb : ((n : Int) + (r : Int) == (xs.length : Int)) = false := by rw [beq_eq_false_iff_ne]; exact hci
      have WE2 : Hid (Sc.whl xs = (⟨false, [], 0⟩, false)) := by show _ = _; rw [WE, if_neg hc]
      have FF : Hid (∀ w', Below w.heap.size w w' → WhlTold xs w (.returned (.tuple #[.agg #[.bool false, .string ⟨#[]⟩, .int .i64 0], .bool false])) w') := fun w' b => ⟨_, by rw [WE2.out], by rw [WE2.out]; exact ⟨_, rfl, str_nil0⟩, b⟩
      clear WE WE2 hc
      go_enter Tryd.func27, Tryd.ntmps27
      go_wp2_with fail
      refine (NM2.out _).mono ?_
      rintro e w1 ⟨v, rfl, hv, hB⟩
      obtain ⟨t, rfl, ht⟩ := GG.out _ hv
      have D1 := hid (NB.new (D.out.on hB) (.bool N.neg) (.string t) (.int .i64 N.e))
      clear hB D hv ht NM2
      obtain ⟨⟨d0, d1, d2⟩, g0, g1, g2⟩ := D1.out.1.flat
      go_wp2_with fail
      refine (B1.out _).mono ?_
      rintro e w2 ⟨rfl, rfl⟩
      go_wp2_with fail
      (try simp only [Exit.inBlock, Exit.then])
      refine bodyPost_ret (results_row_tmp rfl _ _ w.heap.size 29 _ (0, 0) _ rfl (D1.out.1.put _ _ _).2 Tryd.underlying29 rfl (by kernel_rfl)) rfl ?_
      exact FF.out _ (D1.out.1.put _ _ _).1
  · have NZ : Sc.num xs = (⟨false, [], 0⟩, 0) := by unfold Sc.num; rw [if_neg hm]
    have WE2 : Hid (Sc.whl xs = (⟨false, [], 0⟩, false)) := by show _ = _; unfold Sc.whl; rw [if_neg (fun h => hm h.1)]
    have FF : Hid (∀ w', Below w.heap.size w w' → WhlTold xs w (.returned (.tuple #[.agg #[.bool false, .string ⟨#[]⟩, .int .i64 0], .bool false])) w') := fun w' b => ⟨_, by rw [WE2.out], by rw [WE2.out]; exact ⟨_, rfl, str_nil0⟩, b⟩
    have NM2 : Hid (∀ wx, Calls Tryd.prog 26 #[.string s] wx fun e w' => ∃ t : ByteArray, e = .returned (.tuple #[.agg #[.bool false, .string t, .int .i64 0], .int .i64 0]) ∧ Below wx.heap.size wx w') := fun wx => by
      refine (NM.out wx).mono ?_
      rintro e w' ⟨v, rfl, ⟨t, rfl, ht⟩, hB⟩
      rw [NZ]
      exact ⟨t, rfl, hB⟩
    clear hs hn hm NZ WE2 NM BL
    go_enter Tryd.func27, Tryd.ntmps27
    go_wp2_with fail
    refine (NM2.out _).mono ?_
    rintro e w1 ⟨t, rfl, hB⟩
    have D1 := hid (NB.new (D.out.on hB) (.bool false) (.string t) (.int .i64 0))
    clear hB D NM2
    obtain ⟨⟨d0, d1, d2⟩, g0, g1, g2⟩ := D1.out.1.flat
    go_wp2_with fail
    (try simp only [Exit.inBlock, Exit.then])
    refine bodyPost_ret (results_row_tmp rfl _ _ w.heap.size 29 _ (0, 0) _ rfl (D1.out.1.put _ _ _).2 Tryd.underlying29 rfl (by kernel_rfl)) rfl ?_
    exact FF.out _ (D1.out.1.put _ _ _).1
end Go.Proofs.YtjghlpkjbfaoiaaDoor
