/-
  abacuslaw16: RenderStars (mkrnst.py).
-/
import Derived.Test.YtiflponlioldmaaGreatDoorRR
namespace Go.Proofs.YtiflponlioldmaaGreatDoor
open Go Go.RowKit Go.Deep Go.Shelf

set_option maxRecDepth 100000 in
set_option maxHeartbeats 16000000 in
theorem rstars_not (p : Dr.Pc) (x y : Int) (a : Rn.Ag) (w : World) (hT : Tab w) (_hT1 : T10 w.heap.size w) (hp : PcW p) (_hl : p.t.length ≤ 140737488355328) (ha : AgW a) (x0 : -9007199254740992 ≤ x) (x1 : x ≤ 9007199254740992) (y0 : -9007199254740992 ≤ y) (y1 : y ≤ 9007199254740992) (nok : ¬ Dr.ok p) :
    Calls Tryz.prog 6 #[.agg #[.string (strOfNums p.t), .int .u8 p.v, .int .i64 p.fl, .int .i64 p.wk, .int .i64 p.wd, .int .i64 p.pk, .int .i64 p.pr, .int .i64 x, .int .i64 y, .bool a.x, .int .u64 a.n, .string (strOfNums a.s)]] w fun e w' => e = .returned (.bool true) ∧ Below w.heap.size w w' := by
  have AW := hid (fun wk (k : Tab wk) => rawake_any wk k)
  have TB : Hid (∀ wk, Below w.heap.size w wk → Tab wk) := fun wk k => hT.below k
  have V0 := hid (SV.new w p x y a)
  have K0 := hid (TB.out _ V0.out.bel)
  have CK := hid (fun wk => check_pc p wk hp)
  have n1 : ¬ 9007199254740992 < x := by omega
  have n2 : ¬ x < -9007199254740992 := by omega
  have n3 : ¬ 9007199254740992 < y := by omega
  have n4 : ¬ y < -9007199254740992 := by omega
  have FX := hid (fun wk (k : Tab wk) => from_any x wk k x0 x1)
  have FY := hid (fun wk (k : Tab wk) => from_any y wk k y0 y1)
  have hk : okN p = 132 := if_neg nok
  rw [hk] at CK
  by_cases hwk : p.wk = 2
  · have kw : (p.wk == 2) = true := by simpa using hwk
    by_cases hpk : p.pk = 2
    · have kp : (p.pk == 2) = true := by simpa using hpk
      replace hwk := hid hwk
      replace hpk := hid hpk
      go_enter Tryz.func6, Tryz.ntmps6
      go_wp2_with fail
      with_reducible refine (AW.out _ K0.out).mono ?_
      rintro e w1 ⟨rfl, k1⟩
      have V1 := hid (V0.out.on k1)
      clear k1 V0 K0 AW
      obtain ⟨⟨c0, c1, c2, c3, c4, c5, c6⟩, -⟩ := V1.out.flat
      have V2 := hid (V1.out.on (alloc_b w1 (.cells #[.string (strOfNums p.t), .int .u8 p.v, .int .i64 p.fl, .int .i64 p.wk, .int .i64 p.wd, .int .i64 p.pk, .int .i64 p.pr] 39)))
      obtain ⟨-, ⟨d0, d1, d2, d3, d4⟩⟩ := V2.out.flat
      have X0 := hid (SX.new p a V1.out.bel)
      obtain ⟨⟨f0, f1, f2, f3, f4, f5, f6⟩, ⟨g0, g1, g2⟩⟩ := X0.out.flat
      clear V1 V2
      go_wp2_with fail
      with_reducible refine (FX.out _ (TB.out _ X0.out.bel)).mono ?_
      rintro e wf1 ⟨X, rfl, fX, kf1⟩
      have XF1 := hid (X0.out.on kf1)
      have FXX := hid fX
      clear kf1 fX X0 c0 c1 c2 c3 c4 c5 c6 d0 d1 d2 d3 d4 f0 f1 f2 f3 f4 f5 f6 g0 g1 g2 FX
      obtain ⟨mv1, wp1, ap1, xp1⟩ := XF1.out.push ⟨false, X, []⟩ #[.bool false, .int .u64 X, .string ⟨#[]⟩] rfl (by simp)
      have XP1 := hid xp1
      have AP1 := hid ap1
      clear ap1 xp1 XF1 
      obtain ⟨⟨h1_0, h1_1, h1_2, h1_3, h1_4, h1_5, h1_6⟩, ⟨h1_7, h1_8, h1_9⟩⟩ := XP1.out.flat
      go_wp2_with (at_builtin; first | (refine wpList_append_b rfl _ _ rfl AP1.out (by rfl) (by rfl) ?_; clear AP1))
      with_reducible refine (FY.out _ (TB.out _ XP1.out.bel)).mono ?_
      rintro e wf2 ⟨Y, rfl, fY, kf2⟩
      have XF2 := hid (XP1.out.on kf2)
      have FYY := hid fY
      clear kf2 fY XP1 h1_0 h1_1 h1_2 h1_3 h1_4 h1_5 h1_6 h1_7 h1_8 h1_9 FY
      obtain ⟨mv2, wp2, ap2, xp2⟩ := XF2.out.push ⟨false, Y, []⟩ #[.bool false, .int .u64 Y, .string ⟨#[]⟩] rfl (by simp)
      have XP2 := hid xp2
      have AP2 := hid ap2
      clear ap2 xp2 XF2 
      obtain ⟨⟨h2_0, h2_1, h2_2, h2_3, h2_4, h2_5, h2_6⟩, ⟨h2_7, h2_8, h2_9⟩⟩ := XP2.out.flat
      obtain ⟨mv3, wp3, ap3, xp3⟩ := XP2.out.push a #[.bool a.x, .int .u64 a.n, .string (strOfNums a.s)] rfl (by simp)
      have XP3 := hid xp3
      have AP3 := hid ap3
      clear ap3 xp3 XP2
      obtain ⟨⟨h3_0, h3_1, h3_2, h3_3, h3_4, h3_5, h3_6⟩, ⟨h3_7, h3_8, h3_9⟩⟩ := XP3.out.flat
      obtain ⟨g, cap, rfl, hc1, hc2, la⟩ := XP3.out.row.la (by simp)
      have AE : Hid ([] ++ [⟨false, X, []⟩] ++ [⟨false, Y, []⟩] ++ [a] = Rn.gvn p X Y a) := by show _ = _; unfold Rn.gvn Rn.gW Rn.gP; simp only [hwk.out, hpk.out, if_true]; all_goals rfl
      clear la
      have hci : (3 : Int) ≤ (cap : Int) := by simp at hc1; omega
      have hcj : (cap : Int) ≤ 9223372036854775807 := by simp only [maxLen] at hc2; omega
      have AA : Hid (∀ q ∈ Rn.gvn p X Y a, AgW q) := by rw [← AE.out]; intro q hq; simp at hq; rcases hq with rfl | rfl | rfl <;> first | exact ⟨by simp, ⟨FXX.out.2.2.1, FXX.out.2.2.2⟩, by simp⟩ | exact ⟨by simp, ⟨FYY.out.2.2.1, FYY.out.2.2.2⟩, by simp⟩ | exact ha
      have AN : Hid (Rn.gvn p X Y a ≠ [] ∧ (Rn.gvn p X Y a).length = 3) := by rw [← AE.out]; exact ⟨by simp, by simp⟩
      have XP3 : Hid (SX w w1.heap.size p a (.slice (some ⟨g, 0, none⟩) 3 cap) (Rn.gvn p X Y a) wp3) := by have q := XP3.out; rw [AE.out, AN.out.2] at q; exact q
      generalize hG : Rn.gvn p X Y a = G at *
      replace hG := hid hG
      have PI := hid (spieces XP3.out AN.out.1 (TB.out _ XP3.out.bel) hp AA.out (by rw [AN.out.2]; omega))
      clear AE hc1 hc2
      go_wp2_with (at_builtin; first | (refine wpList_append_b rfl _ _ rfl AP2.out (by rfl) (by rfl) ?_; clear AP2) | (refine wpList_append_b rfl _ _ rfl AP3.out (by rfl) (by rfl) ?_; clear AP3))
      with_reducible refine PI.out.mono ?_
      rintro e w4 ⟨rfl, k4⟩
      have X4 := hid (XP3.out.on k4)
      clear k4 PI XP3 h2_0 h2_1 h2_2 h2_3 h2_4 h2_5 h2_6 h2_7 h2_8 h2_9 h3_0 h3_1 h3_2 h3_3 h3_4 h3_5 h3_6 h3_7 h3_8 h3_9
      obtain ⟨⟨c0, c1, c2, c3, c4, c5, c6⟩, ⟨d0, d1, d2⟩⟩ := X4.out.flat
      go_wp2_with fail
      with_reducible refine (CK.out _).mono ?_
      rintro e w5 ⟨rfl, k5⟩
      have X5 := hid (X4.out.on k5)
      clear k5 CK X4 c0 c1 c2 c3 c4 c5 c6 d0 d1 d2
      obtain ⟨⟨c0, c1, c2, c3, c4, c5, c6⟩, ⟨d0, d1, d2⟩⟩ := X5.out.flat
      have e1 : Rn.pE [p] G = 132 ∧ Rn.pT [p] G = [] := by
        have q : ¬ ∀ z ∈ [p], Dr.ok z := fun z => nok (z p (by simp))
        rw [Rn.pE, Rn.pT, if_neg q, if_neg q]; exact ⟨rfl, rfl⟩
      rw [e1.1, e1.2, show strOfNums [] = ⟨#[]⟩ from rfl]
      go_wp2_with fail
      go_ret
      exact ⟨rfl, X5.out.bel⟩
    · have kp : (p.pk == 2) = false := by simpa using hpk
      replace hwk := hid hwk
      replace hpk := hid hpk
      go_enter Tryz.func6, Tryz.ntmps6
      go_wp2_with fail
      with_reducible refine (AW.out _ K0.out).mono ?_
      rintro e w1 ⟨rfl, k1⟩
      have V1 := hid (V0.out.on k1)
      clear k1 V0 K0 AW
      obtain ⟨⟨c0, c1, c2, c3, c4, c5, c6⟩, -⟩ := V1.out.flat
      have V2 := hid (V1.out.on (alloc_b w1 (.cells #[.string (strOfNums p.t), .int .u8 p.v, .int .i64 p.fl, .int .i64 p.wk, .int .i64 p.wd, .int .i64 p.pk, .int .i64 p.pr] 39)))
      obtain ⟨-, ⟨d0, d1, d2, d3, d4⟩⟩ := V2.out.flat
      have X0 := hid (SX.new p a V1.out.bel)
      obtain ⟨⟨f0, f1, f2, f3, f4, f5, f6⟩, ⟨g0, g1, g2⟩⟩ := X0.out.flat
      clear V1 V2
      go_wp2_with fail
      with_reducible refine (FX.out _ (TB.out _ X0.out.bel)).mono ?_
      rintro e wf1 ⟨X, rfl, fX, kf1⟩
      have XF1 := hid (X0.out.on kf1)
      have FXX := hid fX
      clear kf1 fX X0 c0 c1 c2 c3 c4 c5 c6 d0 d1 d2 d3 d4 f0 f1 f2 f3 f4 f5 f6 g0 g1 g2 FX
      obtain ⟨mv1, wp1, ap1, xp1⟩ := XF1.out.push ⟨false, X, []⟩ #[.bool false, .int .u64 X, .string ⟨#[]⟩] rfl (by simp)
      have XP1 := hid xp1
      have AP1 := hid ap1
      clear ap1 xp1 XF1 
      obtain ⟨⟨h1_0, h1_1, h1_2, h1_3, h1_4, h1_5, h1_6⟩, ⟨h1_7, h1_8, h1_9⟩⟩ := XP1.out.flat
      obtain ⟨mv3, wp3, ap3, xp3⟩ := XP1.out.push a #[.bool a.x, .int .u64 a.n, .string (strOfNums a.s)] rfl (by simp)
      have XP3 := hid xp3
      have AP3 := hid ap3
      clear ap3 xp3 XP1
      obtain ⟨⟨h3_0, h3_1, h3_2, h3_3, h3_4, h3_5, h3_6⟩, ⟨h3_7, h3_8, h3_9⟩⟩ := XP3.out.flat
      obtain ⟨g, cap, rfl, hc1, hc2, la⟩ := XP3.out.row.la (by simp)
      have AE : Hid ([] ++ [⟨false, X, []⟩] ++ [a] = Rn.gvn p X 0 a) := by show _ = _; unfold Rn.gvn Rn.gW Rn.gP; simp only [hwk.out, hpk.out, if_true, if_false]; all_goals rfl
      clear la
      have hci : (2 : Int) ≤ (cap : Int) := by simp at hc1; omega
      have hcj : (cap : Int) ≤ 9223372036854775807 := by simp only [maxLen] at hc2; omega
      have AA : Hid (∀ q ∈ Rn.gvn p X 0 a, AgW q) := by rw [← AE.out]; intro q hq; simp at hq; rcases hq with rfl | rfl <;> first | exact ⟨by simp, ⟨FXX.out.2.2.1, FXX.out.2.2.2⟩, by simp⟩ | exact ha
      have AN : Hid (Rn.gvn p X 0 a ≠ [] ∧ (Rn.gvn p X 0 a).length = 2) := by rw [← AE.out]; exact ⟨by simp, by simp⟩
      have XP3 : Hid (SX w w1.heap.size p a (.slice (some ⟨g, 0, none⟩) 2 cap) (Rn.gvn p X 0 a) wp3) := by have q := XP3.out; rw [AE.out, AN.out.2] at q; exact q
      generalize hG : Rn.gvn p X 0 a = G at *
      replace hG := hid hG
      have PI := hid (spieces XP3.out AN.out.1 (TB.out _ XP3.out.bel) hp AA.out (by rw [AN.out.2]; omega))
      clear AE hc1 hc2
      go_wp2_with (at_builtin; first | (refine wpList_append_b rfl _ _ rfl AP1.out (by rfl) (by rfl) ?_; clear AP1) | (refine wpList_append_b rfl _ _ rfl AP3.out (by rfl) (by rfl) ?_; clear AP3))
      with_reducible refine PI.out.mono ?_
      rintro e w4 ⟨rfl, k4⟩
      have X4 := hid (XP3.out.on k4)
      clear k4 PI XP3 h1_0 h1_1 h1_2 h1_3 h1_4 h1_5 h1_6 h1_7 h1_8 h1_9 h3_0 h3_1 h3_2 h3_3 h3_4 h3_5 h3_6 h3_7 h3_8 h3_9
      obtain ⟨⟨c0, c1, c2, c3, c4, c5, c6⟩, ⟨d0, d1, d2⟩⟩ := X4.out.flat
      go_wp2_with fail
      with_reducible refine (CK.out _).mono ?_
      rintro e w5 ⟨rfl, k5⟩
      have X5 := hid (X4.out.on k5)
      clear k5 CK X4 c0 c1 c2 c3 c4 c5 c6 d0 d1 d2
      obtain ⟨⟨c0, c1, c2, c3, c4, c5, c6⟩, ⟨d0, d1, d2⟩⟩ := X5.out.flat
      have e1 : Rn.pE [p] G = 132 ∧ Rn.pT [p] G = [] := by
        have q : ¬ ∀ z ∈ [p], Dr.ok z := fun z => nok (z p (by simp))
        rw [Rn.pE, Rn.pT, if_neg q, if_neg q]; exact ⟨rfl, rfl⟩
      rw [e1.1, e1.2, show strOfNums [] = ⟨#[]⟩ from rfl]
      go_wp2_with fail
      go_ret
      exact ⟨rfl, X5.out.bel⟩

  · have kw : (p.wk == 2) = false := by simpa using hwk
    by_cases hpk : p.pk = 2
    · have kp : (p.pk == 2) = true := by simpa using hpk
      replace hwk := hid hwk
      replace hpk := hid hpk
      go_enter Tryz.func6, Tryz.ntmps6
      go_wp2_with fail
      with_reducible refine (AW.out _ K0.out).mono ?_
      rintro e w1 ⟨rfl, k1⟩
      have V1 := hid (V0.out.on k1)
      clear k1 V0 K0 AW
      obtain ⟨⟨c0, c1, c2, c3, c4, c5, c6⟩, -⟩ := V1.out.flat
      have V2 := hid (V1.out.on (alloc_b w1 (.cells #[.string (strOfNums p.t), .int .u8 p.v, .int .i64 p.fl, .int .i64 p.wk, .int .i64 p.wd, .int .i64 p.pk, .int .i64 p.pr] 39)))
      obtain ⟨-, ⟨d0, d1, d2, d3, d4⟩⟩ := V2.out.flat
      have X0 := hid (SX.new p a V1.out.bel)
      obtain ⟨⟨f0, f1, f2, f3, f4, f5, f6⟩, ⟨g0, g1, g2⟩⟩ := X0.out.flat
      clear V1 V2
      go_wp2_with fail
      with_reducible refine (FY.out _ (TB.out _ X0.out.bel)).mono ?_
      rintro e wf1 ⟨Y, rfl, fY, kf1⟩
      have XF1 := hid (X0.out.on kf1)
      have FYY := hid fY
      clear kf1 fY X0 c0 c1 c2 c3 c4 c5 c6 d0 d1 d2 d3 d4 f0 f1 f2 f3 f4 f5 f6 g0 g1 g2 FY
      obtain ⟨mv1, wp1, ap1, xp1⟩ := XF1.out.push ⟨false, Y, []⟩ #[.bool false, .int .u64 Y, .string ⟨#[]⟩] rfl (by simp)
      have XP1 := hid xp1
      have AP1 := hid ap1
      clear ap1 xp1 XF1 
      obtain ⟨⟨h1_0, h1_1, h1_2, h1_3, h1_4, h1_5, h1_6⟩, ⟨h1_7, h1_8, h1_9⟩⟩ := XP1.out.flat
      obtain ⟨mv3, wp3, ap3, xp3⟩ := XP1.out.push a #[.bool a.x, .int .u64 a.n, .string (strOfNums a.s)] rfl (by simp)
      have XP3 := hid xp3
      have AP3 := hid ap3
      clear ap3 xp3 XP1
      obtain ⟨⟨h3_0, h3_1, h3_2, h3_3, h3_4, h3_5, h3_6⟩, ⟨h3_7, h3_8, h3_9⟩⟩ := XP3.out.flat
      obtain ⟨g, cap, rfl, hc1, hc2, la⟩ := XP3.out.row.la (by simp)
      have AE : Hid ([] ++ [⟨false, Y, []⟩] ++ [a] = Rn.gvn p 0 Y a) := by show _ = _; unfold Rn.gvn Rn.gW Rn.gP; simp only [hwk.out, hpk.out, if_true, if_false]; all_goals rfl
      clear la
      have hci : (2 : Int) ≤ (cap : Int) := by simp at hc1; omega
      have hcj : (cap : Int) ≤ 9223372036854775807 := by simp only [maxLen] at hc2; omega
      have AA : Hid (∀ q ∈ Rn.gvn p 0 Y a, AgW q) := by rw [← AE.out]; intro q hq; simp at hq; rcases hq with rfl | rfl <;> first | exact ⟨by simp, ⟨FYY.out.2.2.1, FYY.out.2.2.2⟩, by simp⟩ | exact ha
      have AN : Hid (Rn.gvn p 0 Y a ≠ [] ∧ (Rn.gvn p 0 Y a).length = 2) := by rw [← AE.out]; exact ⟨by simp, by simp⟩
      have XP3 : Hid (SX w w1.heap.size p a (.slice (some ⟨g, 0, none⟩) 2 cap) (Rn.gvn p 0 Y a) wp3) := by have q := XP3.out; rw [AE.out, AN.out.2] at q; exact q
      generalize hG : Rn.gvn p 0 Y a = G at *
      replace hG := hid hG
      have PI := hid (spieces XP3.out AN.out.1 (TB.out _ XP3.out.bel) hp AA.out (by rw [AN.out.2]; omega))
      clear AE hc1 hc2
      go_wp2_with (at_builtin; first | (refine wpList_append_b rfl _ _ rfl AP1.out (by rfl) (by rfl) ?_; clear AP1) | (refine wpList_append_b rfl _ _ rfl AP3.out (by rfl) (by rfl) ?_; clear AP3))
      with_reducible refine PI.out.mono ?_
      rintro e w4 ⟨rfl, k4⟩
      have X4 := hid (XP3.out.on k4)
      clear k4 PI XP3 h1_0 h1_1 h1_2 h1_3 h1_4 h1_5 h1_6 h1_7 h1_8 h1_9 h3_0 h3_1 h3_2 h3_3 h3_4 h3_5 h3_6 h3_7 h3_8 h3_9
      obtain ⟨⟨c0, c1, c2, c3, c4, c5, c6⟩, ⟨d0, d1, d2⟩⟩ := X4.out.flat
      go_wp2_with fail
      with_reducible refine (CK.out _).mono ?_
      rintro e w5 ⟨rfl, k5⟩
      have X5 := hid (X4.out.on k5)
      clear k5 CK X4 c0 c1 c2 c3 c4 c5 c6 d0 d1 d2
      obtain ⟨⟨c0, c1, c2, c3, c4, c5, c6⟩, ⟨d0, d1, d2⟩⟩ := X5.out.flat
      have e1 : Rn.pE [p] G = 132 ∧ Rn.pT [p] G = [] := by
        have q : ¬ ∀ z ∈ [p], Dr.ok z := fun z => nok (z p (by simp))
        rw [Rn.pE, Rn.pT, if_neg q, if_neg q]; exact ⟨rfl, rfl⟩
      rw [e1.1, e1.2, show strOfNums [] = ⟨#[]⟩ from rfl]
      go_wp2_with fail
      go_ret
      exact ⟨rfl, X5.out.bel⟩
    · have kp : (p.pk == 2) = false := by simpa using hpk
      replace hwk := hid hwk
      replace hpk := hid hpk
      go_enter Tryz.func6, Tryz.ntmps6
      go_wp2_with fail
      with_reducible refine (AW.out _ K0.out).mono ?_
      rintro e w1 ⟨rfl, k1⟩
      have V1 := hid (V0.out.on k1)
      clear k1 V0 K0 AW
      obtain ⟨⟨c0, c1, c2, c3, c4, c5, c6⟩, -⟩ := V1.out.flat
      have V2 := hid (V1.out.on (alloc_b w1 (.cells #[.string (strOfNums p.t), .int .u8 p.v, .int .i64 p.fl, .int .i64 p.wk, .int .i64 p.wd, .int .i64 p.pk, .int .i64 p.pr] 39)))
      obtain ⟨-, ⟨d0, d1, d2, d3, d4⟩⟩ := V2.out.flat
      have X0 := hid (SX.new p a V1.out.bel)
      obtain ⟨⟨f0, f1, f2, f3, f4, f5, f6⟩, ⟨g0, g1, g2⟩⟩ := X0.out.flat
      clear V1 V2
      obtain ⟨mv3, wp3, ap3, xp3⟩ := X0.out.push a #[.bool a.x, .int .u64 a.n, .string (strOfNums a.s)] rfl (by simp)
      simp only [World.size_alloc] at ap3
      have XP3 := hid xp3
      have AP3 := hid ap3
      clear ap3 xp3 X0
      obtain ⟨⟨h3_0, h3_1, h3_2, h3_3, h3_4, h3_5, h3_6⟩, ⟨h3_7, h3_8, h3_9⟩⟩ := XP3.out.flat
      obtain ⟨g, cap, rfl, hc1, hc2, la⟩ := XP3.out.row.la (by simp)
      have AE : Hid ([] ++ [a] = Rn.gvn p 0 0 a) := by show _ = _; unfold Rn.gvn Rn.gW Rn.gP; simp only [hwk.out, hpk.out, if_false]; all_goals rfl
      clear la
      have hci : (1 : Int) ≤ (cap : Int) := by simp at hc1; omega
      have hcj : (cap : Int) ≤ 9223372036854775807 := by simp only [maxLen] at hc2; omega
      have AA : Hid (∀ q ∈ Rn.gvn p 0 0 a, AgW q) := by rw [← AE.out]; intro q hq; simp at hq; rw [hq]; exact ha
      have AN : Hid (Rn.gvn p 0 0 a ≠ [] ∧ (Rn.gvn p 0 0 a).length = 1) := by rw [← AE.out]; exact ⟨by simp, by simp⟩
      have XP3 : Hid (SX w w1.heap.size p a (.slice (some ⟨g, 0, none⟩) 1 cap) (Rn.gvn p 0 0 a) wp3) := by have q := XP3.out; rw [AE.out, AN.out.2] at q; exact q
      generalize hG : Rn.gvn p 0 0 a = G at *
      replace hG := hid hG
      have PI := hid (spieces XP3.out AN.out.1 (TB.out _ XP3.out.bel) hp AA.out (by rw [AN.out.2]; omega))
      clear AE hc1 hc2
      go_wp2_with (at_builtin; first | (refine wpList_append_b rfl _ _ rfl AP3.out (by rfl) (by rfl) ?_; clear AP3))
      with_reducible refine PI.out.mono ?_
      rintro e w4 ⟨rfl, k4⟩
      have X4 := hid (XP3.out.on k4)
      clear k4 PI XP3 c0 c1 c2 c3 c4 c5 c6 d0 d1 d2 d3 d4 f0 f1 f2 f3 f4 f5 f6 g0 g1 g2 h3_0 h3_1 h3_2 h3_3 h3_4 h3_5 h3_6 h3_7 h3_8 h3_9
      obtain ⟨⟨c0, c1, c2, c3, c4, c5, c6⟩, ⟨d0, d1, d2⟩⟩ := X4.out.flat
      go_wp2_with fail
      with_reducible refine (CK.out _).mono ?_
      rintro e w5 ⟨rfl, k5⟩
      have X5 := hid (X4.out.on k5)
      clear k5 CK X4 c0 c1 c2 c3 c4 c5 c6 d0 d1 d2
      obtain ⟨⟨c0, c1, c2, c3, c4, c5, c6⟩, ⟨d0, d1, d2⟩⟩ := X5.out.flat
      have e1 : Rn.pE [p] G = 132 ∧ Rn.pT [p] G = [] := by
        have q : ¬ ∀ z ∈ [p], Dr.ok z := fun z => nok (z p (by simp))
        rw [Rn.pE, Rn.pT, if_neg q, if_neg q]; exact ⟨rfl, rfl⟩
      rw [e1.1, e1.2, show strOfNums [] = ⟨#[]⟩ from rfl]
      go_wp2_with fail
      go_ret
      exact ⟨rfl, X5.out.bel⟩

set_option maxRecDepth 100000 in
set_option maxHeartbeats 16000000 in
theorem rstars_text (p : Dr.Pc) (x y : Int) (a : Rn.Ag) (w : World) (hT : Tab w) (_hT1 : T10 w.heap.size w) (hp : PcW p) (hl : p.t.length ≤ 140737488355328) (ha : AgW a) (x0 : -9007199254740992 ≤ x) (x1 : x ≤ 9007199254740992) (y0 : -9007199254740992 ≤ y) (y1 : y ≤ 9007199254740992) (hTx : Dr.isT p) :
    Calls Tryz.prog 6 #[.agg #[.string (strOfNums p.t), .int .u8 p.v, .int .i64 p.fl, .int .i64 p.wk, .int .i64 p.wd, .int .i64 p.pk, .int .i64 p.pr, .int .i64 x, .int .i64 y, .bool a.x, .int .u64 a.n, .string (strOfNums a.s)]] w fun e w' => e = .returned (.bool true) ∧ Below w.heap.size w w' := by
  have AW := hid (fun wk (k : Tab wk) => rawake_any wk k)
  have TB : Hid (∀ wk, Below w.heap.size w wk → Tab wk) := fun wk k => hT.below k
  have V0 := hid (SV.new w p x y a)
  have K0 := hid (TB.out _ V0.out.bel)
  have CK := hid (fun wk => check_pc p wk hp)
  have n1 : ¬ 9007199254740992 < x := by omega
  have n2 : ¬ x < -9007199254740992 := by omega
  have n3 : ¬ 9007199254740992 < y := by omega
  have n4 : ¬ y < -9007199254740992 := by omega
  have hk : okN p = 0 := if_pos (.inl hTx)
  rw [hk] at CK
  have v0 : p.v = 0 := hTx.2.1
  have kv : (p.v == 0) = true := by simpa using v0
  have hwk : ¬ p.wk = 2 := by have := hTx.2.2.2.1; omega
  have hpk : ¬ p.pk = 2 := by have := hTx.2.2.2.2.2.1; omega
  have kw : (p.wk == 2) = false := by simpa using hwk
  have kp : (p.pk == 2) = false := by simpa using hpk
  replace hwk := hid hwk
  replace hpk := hid hpk
  clear v0
  go_enter Tryz.func6, Tryz.ntmps6
  go_wp2_with fail
  with_reducible refine (AW.out _ K0.out).mono ?_
  rintro e w1 ⟨rfl, k1⟩
  have V1 := hid (V0.out.on k1)
  clear k1 V0 K0 AW
  obtain ⟨⟨c0, c1, c2, c3, c4, c5, c6⟩, -⟩ := V1.out.flat
  have V2 := hid (V1.out.on (alloc_b w1 (.cells #[.string (strOfNums p.t), .int .u8 p.v, .int .i64 p.fl, .int .i64 p.wk, .int .i64 p.wd, .int .i64 p.pk, .int .i64 p.pr] 39)))
  obtain ⟨-, ⟨d0, d1, d2, d3, d4⟩⟩ := V2.out.flat
  have X0 := hid (SX.new p a V1.out.bel)
  obtain ⟨⟨f0, f1, f2, f3, f4, f5, f6⟩, ⟨g0, g1, g2⟩⟩ := X0.out.flat
  clear V1 V2
  obtain ⟨mv3, wp3, ap3, xp3⟩ := X0.out.push a #[.bool a.x, .int .u64 a.n, .string (strOfNums a.s)] rfl (by simp)
  simp only [World.size_alloc] at ap3
  have XP3 := hid xp3
  have AP3 := hid ap3
  clear ap3 xp3 X0
  obtain ⟨⟨h3_0, h3_1, h3_2, h3_3, h3_4, h3_5, h3_6⟩, ⟨h3_7, h3_8, h3_9⟩⟩ := XP3.out.flat
  obtain ⟨g, cap, rfl, hc1, hc2, la⟩ := XP3.out.row.la (by simp)
  have AE : Hid ([] ++ [a] = Rn.gvn p 0 0 a) := by show _ = _; unfold Rn.gvn Rn.gW Rn.gP; simp only [hwk.out, hpk.out, if_false]; all_goals rfl
  clear la
  have hci : (1 : Int) ≤ (cap : Int) := by simp at hc1; omega
  have hcj : (cap : Int) ≤ 9223372036854775807 := by simp only [maxLen] at hc2; omega
  have AA : Hid (∀ q ∈ Rn.gvn p 0 0 a, AgW q) := by rw [← AE.out]; intro q hq; simp at hq; rw [hq]; exact ha
  have AN : Hid (Rn.gvn p 0 0 a ≠ [] ∧ (Rn.gvn p 0 0 a).length = 1) := by rw [← AE.out]; exact ⟨by simp, by simp⟩
  have XP3 : Hid (SX w w1.heap.size p a (.slice (some ⟨g, 0, none⟩) 1 cap) (Rn.gvn p 0 0 a) wp3) := by have q := XP3.out; rw [AE.out, AN.out.2] at q; exact q
  generalize hG : Rn.gvn p 0 0 a = G at *
  replace hG := hid hG
  have PI := hid (spieces XP3.out AN.out.1 (TB.out _ XP3.out.bel) hp AA.out (by rw [AN.out.2]; omega))
  clear AE hc1 hc2
  go_wp2_with (at_builtin; first | (refine wpList_append_b rfl _ _ rfl AP3.out (by rfl) (by rfl) ?_; clear AP3))
  with_reducible refine PI.out.mono ?_
  rintro e w4 ⟨rfl, k4⟩
  have X4 := hid (XP3.out.on k4)
  clear k4 PI XP3 c0 c1 c2 c3 c4 c5 c6 d0 d1 d2 d3 d4 f0 f1 f2 f3 f4 f5 f6 g0 g1 g2 h3_0 h3_1 h3_2 h3_3 h3_4 h3_5 h3_6 h3_7 h3_8 h3_9
  obtain ⟨⟨c0, c1, c2, c3, c4, c5, c6⟩, ⟨d0, d1, d2⟩⟩ := X4.out.flat
  go_wp2_with fail
  with_reducible refine (CK.out _).mono ?_
  rintro e w5 ⟨rfl, k5⟩
  have X5 := hid (X4.out.on k5)
  clear k5 CK X4 c0 c1 c2 c3 c4 c5 c6 d0 d1 d2
  obtain ⟨⟨c0, c1, c2, c3, c4, c5, c6⟩, ⟨d0, d1, d2⟩⟩ := X5.out.flat
  obtain ⟨e1, e2⟩ := Rn.star_text (A := G) hTx
  have ts : (strOfNums p.t).size = p.t.length := strOfNums_size _
  have tl : (p.t.length : Int) ≤ 140737488355328 := by omega
  by_cases hL : 16777216 < p.t.length
  · have hLi : (16777216 : Int) < (p.t.length : Int) := by omega
    rw [if_pos hL] at e1 e2
    rw [e1, e2]
    go_wp2_with fail
    go_ret
    exact ⟨rfl, X5.out.bel⟩
  · have hLi : ¬ (16777216 : Int) < (p.t.length : Int) := by omega
    rw [if_neg hL] at e1 e2
    rw [e1, e2]
    go_wp2_with fail
    go_ret
    exact ⟨rfl, X5.out.bel⟩

set_option maxRecDepth 100000 in
set_option maxHeartbeats 16000000 in
theorem rstars_pct (p : Dr.Pc) (x y : Int) (a : Rn.Ag) (w : World) (hT : Tab w) (_hT1 : T10 w.heap.size w) (hp : PcW p) (_hl : p.t.length ≤ 140737488355328) (ha : AgW a) (x0 : -9007199254740992 ≤ x) (x1 : x ≤ 9007199254740992) (y0 : -9007199254740992 ≤ y) (y1 : y ≤ 9007199254740992) (hPc : Dr.isP p) :
    Calls Tryz.prog 6 #[.agg #[.string (strOfNums p.t), .int .u8 p.v, .int .i64 p.fl, .int .i64 p.wk, .int .i64 p.wd, .int .i64 p.pk, .int .i64 p.pr, .int .i64 x, .int .i64 y, .bool a.x, .int .u64 a.n, .string (strOfNums a.s)]] w fun e w' => e = .returned (.bool true) ∧ Below w.heap.size w w' := by
  have AW := hid (fun wk (k : Tab wk) => rawake_any wk k)
  have TB : Hid (∀ wk, Below w.heap.size w wk → Tab wk) := fun wk k => hT.below k
  have V0 := hid (SV.new w p x y a)
  have K0 := hid (TB.out _ V0.out.bel)
  have CK := hid (fun wk => check_pc p wk hp)
  have n1 : ¬ 9007199254740992 < x := by omega
  have n2 : ¬ x < -9007199254740992 := by omega
  have n3 : ¬ 9007199254740992 < y := by omega
  have n4 : ¬ y < -9007199254740992 := by omega
  have hk : okN p = 0 := if_pos (.inr (.inl hPc))
  rw [hk] at CK
  have v0 : p.v = 37 := hPc.2.1
  have kv : (p.v == 0) = false := by rw [v0]; rfl
  have kv2 : (p.v == 37) = true := by rw [v0]; rfl
  have hwk : ¬ p.wk = 2 := by have := hPc.2.2.2.1; omega
  have hpk : ¬ p.pk = 2 := by have := hPc.2.2.2.2.2.1; omega
  have kw : (p.wk == 2) = false := by simpa using hwk
  have kp : (p.pk == 2) = false := by simpa using hpk
  replace hwk := hid hwk
  replace hpk := hid hpk
  clear v0
  go_enter Tryz.func6, Tryz.ntmps6
  go_wp2_with fail
  with_reducible refine (AW.out _ K0.out).mono ?_
  rintro e w1 ⟨rfl, k1⟩
  have V1 := hid (V0.out.on k1)
  clear k1 V0 K0 AW
  obtain ⟨⟨c0, c1, c2, c3, c4, c5, c6⟩, -⟩ := V1.out.flat
  have V2 := hid (V1.out.on (alloc_b w1 (.cells #[.string (strOfNums p.t), .int .u8 p.v, .int .i64 p.fl, .int .i64 p.wk, .int .i64 p.wd, .int .i64 p.pk, .int .i64 p.pr] 39)))
  obtain ⟨-, ⟨d0, d1, d2, d3, d4⟩⟩ := V2.out.flat
  have X0 := hid (SX.new p a V1.out.bel)
  obtain ⟨⟨f0, f1, f2, f3, f4, f5, f6⟩, ⟨g0, g1, g2⟩⟩ := X0.out.flat
  clear V1 V2
  obtain ⟨mv3, wp3, ap3, xp3⟩ := X0.out.push a #[.bool a.x, .int .u64 a.n, .string (strOfNums a.s)] rfl (by simp)
  simp only [World.size_alloc] at ap3
  have XP3 := hid xp3
  have AP3 := hid ap3
  clear ap3 xp3 X0
  obtain ⟨⟨h3_0, h3_1, h3_2, h3_3, h3_4, h3_5, h3_6⟩, ⟨h3_7, h3_8, h3_9⟩⟩ := XP3.out.flat
  obtain ⟨g, cap, rfl, hc1, hc2, la⟩ := XP3.out.row.la (by simp)
  have AE : Hid ([] ++ [a] = Rn.gvn p 0 0 a) := by show _ = _; unfold Rn.gvn Rn.gW Rn.gP; simp only [hwk.out, hpk.out, if_false]; all_goals rfl
  clear la
  have hci : (1 : Int) ≤ (cap : Int) := by simp at hc1; omega
  have hcj : (cap : Int) ≤ 9223372036854775807 := by simp only [maxLen] at hc2; omega
  have AA : Hid (∀ q ∈ Rn.gvn p 0 0 a, AgW q) := by rw [← AE.out]; intro q hq; simp at hq; rw [hq]; exact ha
  have AN : Hid (Rn.gvn p 0 0 a ≠ [] ∧ (Rn.gvn p 0 0 a).length = 1) := by rw [← AE.out]; exact ⟨by simp, by simp⟩
  have XP3 : Hid (SX w w1.heap.size p a (.slice (some ⟨g, 0, none⟩) 1 cap) (Rn.gvn p 0 0 a) wp3) := by have q := XP3.out; rw [AE.out, AN.out.2] at q; exact q
  generalize hG : Rn.gvn p 0 0 a = G at *
  replace hG := hid hG
  have PI := hid (spieces XP3.out AN.out.1 (TB.out _ XP3.out.bel) hp AA.out (by rw [AN.out.2]; omega))
  clear AE hc1 hc2
  go_wp2_with (at_builtin; first | (refine wpList_append_b rfl _ _ rfl AP3.out (by rfl) (by rfl) ?_; clear AP3))
  with_reducible refine PI.out.mono ?_
  rintro e w4 ⟨rfl, k4⟩
  have X4 := hid (XP3.out.on k4)
  clear k4 PI XP3 c0 c1 c2 c3 c4 c5 c6 d0 d1 d2 d3 d4 f0 f1 f2 f3 f4 f5 f6 g0 g1 g2 h3_0 h3_1 h3_2 h3_3 h3_4 h3_5 h3_6 h3_7 h3_8 h3_9
  obtain ⟨⟨c0, c1, c2, c3, c4, c5, c6⟩, ⟨d0, d1, d2⟩⟩ := X4.out.flat
  go_wp2_with fail
  with_reducible refine (CK.out _).mono ?_
  rintro e w5 ⟨rfl, k5⟩
  have X5 := hid (X4.out.on k5)
  clear k5 CK X4 c0 c1 c2 c3 c4 c5 c6 d0 d1 d2
  obtain ⟨⟨c0, c1, c2, c3, c4, c5, c6⟩, ⟨d0, d1, d2⟩⟩ := X5.out.flat
  obtain ⟨e1, e2⟩ := Rn.star_pct (A := G) hPc
  rw [e1, e2, show strOfNums [37] = ⟨#[37]⟩ from rfl]
  go_wp2_with fail
  go_ret
  exact ⟨rfl, X5.out.bel⟩

end Go.Proofs.YtiflponlioldmaaGreatDoor
