/-
  Texts put together: RnStD00, RnStD01, RnStD10, RnStD11, RnStL, FTab, DTab, RnTab, PoCase, GBulk, OpenArgs, OpenPieces, OpenStar.
-/
import Derived.Test.YtiflponlioldmaaGreatDoorRR
import Derived.Test.YtiflponlioldmaaGreatDoorRnStC
import Derived.Test.YtiflponlioldmaaGreatDoorRB
import Derived.Lib.LaidTab
import Derived.Test.YtiflponlioldmaaGreatDoorRH
import Derived.Test.YtiflponlioldmaaGreatDoorRJ
import Derived.Test.YtiflponlioldmaaGreatDoorRows
import Derived.Lib.LaidCaseMet
import Derived.Deep.DeepWitnessRowRef
import Derived.Test.YtiflponlioldmaaGreatDoorRL
import Derived.Test.YtiflponlioldmaaGreatDoorRC
import Derived.SizedLaws
import Derived.ProofKit
namespace Go.Proofs.YtiflponlioldmaaGreatDoor
open Go Go.RowKit Go.Deep Go.Shelf

set_option maxRecDepth 100000 in
set_option maxHeartbeats 16000000 in
theorem rstars_dir00 (p : Dr.Pc) (x y : Int) (a : Rn.Ag) (w : World) (hT : Tab w) (hT1 : T10 w.heap.size w) (hp : PcW p) (_hl : p.t.length ≤ 140737488355328) (ha : AgW a) (x0 : -9007199254740992 ≤ x) (x1 : x ≤ 9007199254740992) (y0 : -9007199254740992 ≤ y) (y1 : y ≤ 9007199254740992) (hR : Dr.isR p) (hwk : ¬ p.wk = 2) (hpk : ¬ p.pk = 2) :
    Calls Tryz.prog 6 #[.agg #[.string (strOfNums p.t), .int .u8 p.v, .int .i64 p.fl, .int .i64 p.wk, .int .i64 p.wd, .int .i64 p.pk, .int .i64 p.pr, .int .i64 x, .int .i64 y, .bool a.x, .int .u64 a.n, .string (strOfNums a.s)]] w fun e w' => e = .returned (.bool true) ∧ Below w.heap.size w w' := by
  have AW := hid (fun wk (k : Tab wk) => rawake_any wk k)
  have TB : Hid (∀ wk, Below w.heap.size w wk → Tab wk) := fun wk k => hT.below k
  have V0 := hid (SV.new w p x y a)
  have K0 := hid (TB.out _ V0.out.bel)
  have CK := hid (fun wk => check_pc p wk hp)
  have n1 : ¬ 9007199254740992 < x := by omega
  have n2 : ¬ x < -9007199254740992 := by omega
  have n3 : ¬ 9007199254740992 < y := by omega
  have n4 : ¬ y < -9007199254740992 := by omega
  have FX := hid (fun wk (k : Tab wk) => from_any x wk k x0 x1)
  have FY := hid (fun wk (k : Tab wk) => from_any y wk k y0 y1)
  have hk : okN p = 0 := if_pos (.inr (.inr hR))
  rw [hk] at CK
  have nv := Rn.isR_v hR
  have kv : (p.v == 0) = false := by simpa using fun q => nv (.inl q)
  have kv2 : (p.v == 37) = false := by simpa using fun q => nv (.inr q)
  have SE := hid (fun wk => settle_any p x y wk hp (by omega) (by omega) (by omega) (by omega))
  unfold SeTold at SE
  have kw : (p.wk == 2) = false := by simpa using hwk
  have kp : (p.pk == 2) = false := by simpa using hpk
  replace hwk := hid hwk
  replace hpk := hid hpk
  clear nv
  go_enter Tryz.func6, Tryz.ntmps6
  go_wp2_with fail
  with_reducible refine (AW.out _ K0.out).mono ?_
  rintro e w1 ⟨rfl, k1⟩
  have V1 := hid (V0.out.on k1)
  clear k1 V0 K0 AW
  obtain ⟨⟨c0, c1, c2, c3, c4, c5, c6⟩, -⟩ := V1.out.flat
  have V2 := hid (V1.out.on (alloc_b w1 (.cells #[.string (strOfNums p.t), .int .u8 p.v, .int .i64 p.fl, .int .i64 p.wk, .int .i64 p.wd, .int .i64 p.pk, .int .i64 p.pr] 39)))
  obtain ⟨-, ⟨d0, d1, d2, d3, d4⟩⟩ := V2.out.flat
  have X0 := hid (SX.new p a V1.out.bel)
  obtain ⟨⟨f0, f1, f2, f3, f4, f5, f6⟩, ⟨g0, g1, g2⟩⟩ := X0.out.flat
  clear V1 V2
  obtain ⟨mv3, wp3, ap3, xp3⟩ := X0.out.push a #[.bool a.x, .int .u64 a.n, .string (strOfNums a.s)] rfl (by simp)
  simp only [World.size_alloc] at ap3
  have XP3 := hid xp3
  have AP3 := hid ap3
  clear ap3 xp3 X0
  obtain ⟨⟨h3_0, h3_1, h3_2, h3_3, h3_4, h3_5, h3_6⟩, ⟨h3_7, h3_8, h3_9⟩⟩ := XP3.out.flat
  obtain ⟨g, cap, rfl, hc1, hc2, la⟩ := XP3.out.row.la (by simp)
  have AE : Hid ([] ++ [a] = Rn.gvn p 0 0 a) := by show _ = _; unfold Rn.gvn Rn.gW Rn.gP; simp only [hwk.out, hpk.out, if_false]; all_goals rfl
  clear la
  have hci : (1 : Int) ≤ (cap : Int) := by simp at hc1; omega
  have hcj : (cap : Int) ≤ 9223372036854775807 := by simp only [maxLen] at hc2; omega
  have AA : Hid (∀ q ∈ Rn.gvn p 0 0 a, AgW q) := by rw [← AE.out]; intro q hq; simp at hq; rw [hq]; exact ha
  have AN : Hid (Rn.gvn p 0 0 a ≠ [] ∧ (Rn.gvn p 0 0 a).length = 1) := by rw [← AE.out]; exact ⟨by simp, by simp⟩
  have XP3 : Hid (SX w w1.heap.size p a (.slice (some ⟨g, 0, none⟩) 1 cap) (Rn.gvn p 0 0 a) wp3) := by have q := XP3.out; rw [AE.out, AN.out.2] at q; exact q
  generalize hG : Rn.gvn p 0 0 a = G at *
  replace hG := hid hG
  have PI := hid (spieces XP3.out AN.out.1 (TB.out _ XP3.out.bel) hp AA.out (by rw [AN.out.2]; omega))
  clear AE hc1 hc2
  go_wp2_with (at_builtin; first | (refine wpList_append_b rfl _ _ rfl AP3.out (by rfl) (by rfl) ?_; clear AP3))
  with_reducible refine PI.out.mono ?_
  rintro e w4 ⟨rfl, k4⟩
  have X4 := hid (XP3.out.on k4)
  clear k4 PI XP3 c0 c1 c2 c3 c4 c5 c6 d0 d1 d2 d3 d4 f0 f1 f2 f3 f4 f5 f6 g0 g1 g2 h3_0 h3_1 h3_2 h3_3 h3_4 h3_5 h3_6 h3_7 h3_8 h3_9
  obtain ⟨⟨c0, c1, c2, c3, c4, c5, c6⟩, ⟨d0, d1, d2⟩⟩ := X4.out.flat
  go_wp2_with fail
  with_reducible refine (CK.out _).mono ?_
  rintro e w5 ⟨rfl, k5⟩
  have X5 := hid (X4.out.on k5)
  clear k5 CK X4 c0 c1 c2 c3 c4 c5 c6 d0 d1 d2
  obtain ⟨⟨c0, c1, c2, c3, c4, c5, c6⟩, ⟨d0, d1, d2⟩⟩ := X5.out.flat
  have TL : Hid ((ste p x y ≠ 0 → Rn.pE [p] G = ste p x y ∧ Rn.pT [p] G = []) ∧ (ste p x y = 0 → Rn.pE [p] G = Rn.oneE p.v (Rn.sF p x) (Rn.sV p x) (sP p y) a ∧ Rn.pT [p] G = Rn.oneT p.v (Rn.sF p x) (Rn.sV p x) (sP p y) a)) := by
    rw [← hG.out]
    exact Rn.star_told hR (fun q => absurd q hwk.out) (fun q => absurd q hpk.out)
  have FEW : Hid (Rn.pE [p] (G.take 0) = 160) := by
    have q := Rn.star_few (X := 0) (Y := 0) (a := a) hR
    rw [hG.out, AN.out.2] at q
    exact q
  have PR := hid (fun wk (k : T10 wk.heap.size wk) => sprint p wk hR k hp)
  have S1 := hid (fun wk (k : SX w w1.heap.size p a (.slice (some ⟨g, 0, none⟩) 1 cap) G wk) => ssprintf p _ G wk hR (TB.out _ k.bel) hp (k.agv AN.out.1) AA.out (by rw [AN.out.2]; omega))
  have S2 : Hid (∀ wk, SX w w1.heap.size p a (.slice (some ⟨g, 0, none⟩) 1 cap) G wk → Calls Tryz.prog 15 #[.string (strOfNums (Dr.wrs [p])), .slice (some ⟨g, 0, none⟩) 0 cap] wk fun r w' => ∃ s, r = .returned (.tuple #[.string s, .int .i64 160]) ∧ Below wk.heap.size wk w') := by
    intro wk k
    obtain ⟨g', cap', e, l1, _, l2⟩ := k.row.la AN.out.1
    rw [AN.out.2] at e
    cases e
    refine (ssprintf p _ (G.take 0) wk hR (TB.out _ k.bel) hp ⟨_, cap, by rw [List.length_take, AN.out.2]; rfl, by rw [List.length_take, AN.out.2]; omega, l2.take _⟩ (fun q hq => AA.out q (List.mem_of_mem_take hq)) (by rw [List.length_take, AN.out.2]; omega)).mono ?_
    rintro r w' ⟨rfl, b⟩
    rw [FEW.out]
    exact ⟨_, rfl, b⟩
  have T1 : Hid (∀ wk, Below w.heap.size w wk → T10 wk.heap.size wk) := fun wk k => (hT1.on k).up k.size
  clear FEW AA AN hG hT hT1
  generalize strOfNums (Dr.wrs [p]) = fm at *
  generalize Rn.pE [p] G = E at *
  generalize Rn.pT [p] G = T at *
  go_wp2_with fail
  with_reducible refine (PR.out _ (T1.out _ X5.out.bel)).mono ?_
  rintro e w6 ⟨rfl, k6⟩
  have X6 := hid (X5.out.on k6)
  clear k6 PR X5 T1 c0 c1 c2 c3 c4 c5 c6 d0 d1 d2
  go_wp2_with fail
  with_reducible refine (S1.out _ X6.out).mono ?_
  rintro e w7 ⟨rfl, k7⟩
  have X7 := hid (X6.out.on k7)
  clear k7 S1 X6
  go_wp2_with fail
  with_reducible refine (S2.out _ X7.out).mono ?_
  rintro e w8 ⟨s8, rfl, k8⟩
  have X8 := hid (X7.out.on k8)
  clear k8 S2 X7
  obtain ⟨⟨c0, c1, c2, c3, c4, c5, c6⟩, ⟨d0, d1, d2⟩⟩ := X8.out.flat
  go_wp2_with fail
  with_reducible refine (SE.out _).mono ?_
  rintro e w9 ⟨rfl, k9⟩
  have X9 := hid (X8.out.on k9)
  clear k9 SE X8 c0 c1 c2 c3 c4 c5 c6 d0 d1 d2
  by_cases hs : ste p x y = 0
  · obtain ⟨e1, e2⟩ := TL.out.2 hs
    have ON := hid (fun wk (k : Tab wk) => one_any p.v (Rn.sF p x) (Rn.sV p x) (sP p y) a wk k hp.2.1 hp.2.2 ha)
    unfold OneTold at ON
    rw [← e1, ← e2] at ON
    have sv : spv p x y = #[.int .u8 p.v, .int .i64 (Rn.sF p x), .int .i64 (Rn.sV p x), .int .i64 (sP p y)] := by rw [spv, if_pos hs]; rfl
    rw [hs, sv]
    clear TL e1 e2 sv hs
    generalize Rn.sF p x = sf at *
    generalize Rn.sV p x = sv at *
    generalize sP p y = sp at *
    have X10 := hid (X9.out.on (alloc_b w9 (.cells #[.int .u8 p.v, .int .i64 sf, .int .i64 sv, .int .i64 sp] 25)))
    obtain ⟨-, ⟨d0, d1, d2⟩⟩ := X10.out.flat
    clear X9
    go_wp2_with fail
    with_reducible refine (ON.out _ (TB.out _ X10.out.bel)).mono ?_
    rintro e wz ⟨rfl, kz⟩
    have BZ := hid (X10.out.on kz).bel
    clear kz X10 ON d0 d1 d2
    go_wp2_with fail
    go_ret
    exact ⟨rfl, BZ.out⟩
  · obtain ⟨e1, e2⟩ := TL.out.1 hs
    have n1 : (ste p x y == 0) = false := by simpa using hs
    have n2 : (ste p x y != 0) = true := by simpa using hs
    have sv : spv p x y = #[.int .u8 0, .int .i64 0, .int .i64 0, .int .i64 0] := by rw [spv, if_neg hs]
    rw [e1, e2, sv, show strOfNums [] = ⟨#[]⟩ from rfl]
    clear TL e1 e2 sv hs
    generalize ste p x y = f at *
    go_wp2_with fail
    go_ret
    exact ⟨rfl, (X9.out.on (alloc_b w9 _)).bel⟩

end Go.Proofs.YtiflponlioldmaaGreatDoor

namespace Go.Proofs.YtiflponlioldmaaGreatDoor
open Go Go.RowKit Go.Deep Go.Shelf

set_option maxRecDepth 100000 in
set_option maxHeartbeats 16000000 in
theorem rstars_dir01 (p : Dr.Pc) (x y : Int) (a : Rn.Ag) (w : World) (hT : Tab w) (hT1 : T10 w.heap.size w) (hp : PcW p) (_hl : p.t.length ≤ 140737488355328) (ha : AgW a) (x0 : -9007199254740992 ≤ x) (x1 : x ≤ 9007199254740992) (y0 : -9007199254740992 ≤ y) (y1 : y ≤ 9007199254740992) (hR : Dr.isR p) (hwk : ¬ p.wk = 2) (hpk : p.pk = 2) :
    Calls Tryz.prog 6 #[.agg #[.string (strOfNums p.t), .int .u8 p.v, .int .i64 p.fl, .int .i64 p.wk, .int .i64 p.wd, .int .i64 p.pk, .int .i64 p.pr, .int .i64 x, .int .i64 y, .bool a.x, .int .u64 a.n, .string (strOfNums a.s)]] w fun e w' => e = .returned (.bool true) ∧ Below w.heap.size w w' := by
  have AW := hid (fun wk (k : Tab wk) => rawake_any wk k)
  have TB : Hid (∀ wk, Below w.heap.size w wk → Tab wk) := fun wk k => hT.below k
  have V0 := hid (SV.new w p x y a)
  have K0 := hid (TB.out _ V0.out.bel)
  have CK := hid (fun wk => check_pc p wk hp)
  have n1 : ¬ 9007199254740992 < x := by omega
  have n2 : ¬ x < -9007199254740992 := by omega
  have n3 : ¬ 9007199254740992 < y := by omega
  have n4 : ¬ y < -9007199254740992 := by omega
  have FX := hid (fun wk (k : Tab wk) => from_any x wk k x0 x1)
  have FY := hid (fun wk (k : Tab wk) => from_any y wk k y0 y1)
  have hk : okN p = 0 := if_pos (.inr (.inr hR))
  rw [hk] at CK
  have nv := Rn.isR_v hR
  have kv : (p.v == 0) = false := by simpa using fun q => nv (.inl q)
  have kv2 : (p.v == 37) = false := by simpa using fun q => nv (.inr q)
  have SE := hid (fun wk => settle_any p x y wk hp (by omega) (by omega) (by omega) (by omega))
  unfold SeTold at SE
  have kw : (p.wk == 2) = false := by simpa using hwk
  have kp : (p.pk == 2) = true := by simpa using hpk
  replace hwk := hid hwk
  replace hpk := hid hpk
  clear nv
  go_enter Tryz.func6, Tryz.ntmps6
  go_wp2_with fail
  with_reducible refine (AW.out _ K0.out).mono ?_
  rintro e w1 ⟨rfl, k1⟩
  have V1 := hid (V0.out.on k1)
  clear k1 V0 K0 AW
  obtain ⟨⟨c0, c1, c2, c3, c4, c5, c6⟩, -⟩ := V1.out.flat
  have V2 := hid (V1.out.on (alloc_b w1 (.cells #[.string (strOfNums p.t), .int .u8 p.v, .int .i64 p.fl, .int .i64 p.wk, .int .i64 p.wd, .int .i64 p.pk, .int .i64 p.pr] 39)))
  obtain ⟨-, ⟨d0, d1, d2, d3, d4⟩⟩ := V2.out.flat
  have X0 := hid (SX.new p a V1.out.bel)
  obtain ⟨⟨f0, f1, f2, f3, f4, f5, f6⟩, ⟨g0, g1, g2⟩⟩ := X0.out.flat
  clear V1 V2
  go_wp2_with fail
  with_reducible refine (FY.out _ (TB.out _ X0.out.bel)).mono ?_
  rintro e wf1 ⟨Y, rfl, fY, kf1⟩
  have XF1 := hid (X0.out.on kf1)
  have FYY := hid fY
  clear kf1 fY X0 c0 c1 c2 c3 c4 c5 c6 d0 d1 d2 d3 d4 f0 f1 f2 f3 f4 f5 f6 g0 g1 g2 FY
  obtain ⟨mv1, wp1, ap1, xp1⟩ := XF1.out.push ⟨false, Y, []⟩ #[.bool false, .int .u64 Y, .string ⟨#[]⟩] rfl (by simp)
  have XP1 := hid xp1
  have AP1 := hid ap1
  clear ap1 xp1 XF1 
  obtain ⟨⟨h1_0, h1_1, h1_2, h1_3, h1_4, h1_5, h1_6⟩, ⟨h1_7, h1_8, h1_9⟩⟩ := XP1.out.flat
  obtain ⟨mv3, wp3, ap3, xp3⟩ := XP1.out.push a #[.bool a.x, .int .u64 a.n, .string (strOfNums a.s)] rfl (by simp)
  have XP3 := hid xp3
  have AP3 := hid ap3
  clear ap3 xp3 XP1
  obtain ⟨⟨h3_0, h3_1, h3_2, h3_3, h3_4, h3_5, h3_6⟩, ⟨h3_7, h3_8, h3_9⟩⟩ := XP3.out.flat
  obtain ⟨g, cap, rfl, hc1, hc2, la⟩ := XP3.out.row.la (by simp)
  have AE : Hid ([] ++ [⟨false, Y, []⟩] ++ [a] = Rn.gvn p 0 Y a) := by show _ = _; unfold Rn.gvn Rn.gW Rn.gP; simp only [hwk.out, hpk.out, if_true, if_false]; all_goals rfl
  clear la
  have hci : (2 : Int) ≤ (cap : Int) := by simp at hc1; omega
  have hcj : (cap : Int) ≤ 9223372036854775807 := by simp only [maxLen] at hc2; omega
  have AA : Hid (∀ q ∈ Rn.gvn p 0 Y a, AgW q) := by rw [← AE.out]; intro q hq; simp at hq; rcases hq with rfl | rfl <;> first | exact ⟨by simp, ⟨FYY.out.2.2.1, FYY.out.2.2.2⟩, by simp⟩ | exact ha
  have AN : Hid (Rn.gvn p 0 Y a ≠ [] ∧ (Rn.gvn p 0 Y a).length = 2) := by rw [← AE.out]; exact ⟨by simp, by simp⟩
  have XP3 : Hid (SX w w1.heap.size p a (.slice (some ⟨g, 0, none⟩) 2 cap) (Rn.gvn p 0 Y a) wp3) := by have q := XP3.out; rw [AE.out, AN.out.2] at q; exact q
  generalize hG : Rn.gvn p 0 Y a = G at *
  replace hG := hid hG
  have PI := hid (spieces XP3.out AN.out.1 (TB.out _ XP3.out.bel) hp AA.out (by rw [AN.out.2]; omega))
  clear AE hc1 hc2
  go_wp2_with (at_builtin; first | (refine wpList_append_b rfl _ _ rfl AP1.out (by rfl) (by rfl) ?_; clear AP1) | (refine wpList_append_b rfl _ _ rfl AP3.out (by rfl) (by rfl) ?_; clear AP3))
  with_reducible refine PI.out.mono ?_
  rintro e w4 ⟨rfl, k4⟩
  have X4 := hid (XP3.out.on k4)
  clear k4 PI XP3 h1_0 h1_1 h1_2 h1_3 h1_4 h1_5 h1_6 h1_7 h1_8 h1_9 h3_0 h3_1 h3_2 h3_3 h3_4 h3_5 h3_6 h3_7 h3_8 h3_9
  obtain ⟨⟨c0, c1, c2, c3, c4, c5, c6⟩, ⟨d0, d1, d2⟩⟩ := X4.out.flat
  go_wp2_with fail
  with_reducible refine (CK.out _).mono ?_
  rintro e w5 ⟨rfl, k5⟩
  have X5 := hid (X4.out.on k5)
  clear k5 CK X4 c0 c1 c2 c3 c4 c5 c6 d0 d1 d2
  obtain ⟨⟨c0, c1, c2, c3, c4, c5, c6⟩, ⟨d0, d1, d2⟩⟩ := X5.out.flat
  have TL : Hid ((ste p x y ≠ 0 → Rn.pE [p] G = ste p x y ∧ Rn.pT [p] G = []) ∧ (ste p x y = 0 → Rn.pE [p] G = Rn.oneE p.v (Rn.sF p x) (Rn.sV p x) (sP p y) a ∧ Rn.pT [p] G = Rn.oneT p.v (Rn.sF p x) (Rn.sV p x) (sP p y) a)) := by
    rw [← hG.out]
    exact Rn.star_told hR (fun q => absurd q hwk.out) (fun q => FYY.out)
  have FEW : Hid (Rn.pE [p] (G.take 1) = 160) := by
    have q := Rn.star_few (X := 0) (Y := Y) (a := a) hR
    rw [hG.out, AN.out.2] at q
    exact q
  have PR := hid (fun wk (k : T10 wk.heap.size wk) => sprint p wk hR k hp)
  have S1 := hid (fun wk (k : SX w w1.heap.size p a (.slice (some ⟨g, 0, none⟩) 2 cap) G wk) => ssprintf p _ G wk hR (TB.out _ k.bel) hp (k.agv AN.out.1) AA.out (by rw [AN.out.2]; omega))
  have S2 : Hid (∀ wk, SX w w1.heap.size p a (.slice (some ⟨g, 0, none⟩) 2 cap) G wk → Calls Tryz.prog 15 #[.string (strOfNums (Dr.wrs [p])), .slice (some ⟨g, 0, none⟩) 1 cap] wk fun r w' => ∃ s, r = .returned (.tuple #[.string s, .int .i64 160]) ∧ Below wk.heap.size wk w') := by
    intro wk k
    obtain ⟨g', cap', e, l1, _, l2⟩ := k.row.la AN.out.1
    rw [AN.out.2] at e
    cases e
    refine (ssprintf p _ (G.take 1) wk hR (TB.out _ k.bel) hp ⟨_, cap, by rw [List.length_take, AN.out.2]; rfl, by rw [List.length_take, AN.out.2]; omega, l2.take _⟩ (fun q hq => AA.out q (List.mem_of_mem_take hq)) (by rw [List.length_take, AN.out.2]; omega)).mono ?_
    rintro r w' ⟨rfl, b⟩
    rw [FEW.out]
    exact ⟨_, rfl, b⟩
  have T1 : Hid (∀ wk, Below w.heap.size w wk → T10 wk.heap.size wk) := fun wk k => (hT1.on k).up k.size
  clear FEW AA AN hG hT hT1
  generalize strOfNums (Dr.wrs [p]) = fm at *
  generalize Rn.pE [p] G = E at *
  generalize Rn.pT [p] G = T at *
  go_wp2_with fail
  with_reducible refine (PR.out _ (T1.out _ X5.out.bel)).mono ?_
  rintro e w6 ⟨rfl, k6⟩
  have X6 := hid (X5.out.on k6)
  clear k6 PR X5 T1 c0 c1 c2 c3 c4 c5 c6 d0 d1 d2
  go_wp2_with fail
  with_reducible refine (S1.out _ X6.out).mono ?_
  rintro e w7 ⟨rfl, k7⟩
  have X7 := hid (X6.out.on k7)
  clear k7 S1 X6
  go_wp2_with fail
  with_reducible refine (S2.out _ X7.out).mono ?_
  rintro e w8 ⟨s8, rfl, k8⟩
  have X8 := hid (X7.out.on k8)
  clear k8 S2 X7
  obtain ⟨⟨c0, c1, c2, c3, c4, c5, c6⟩, ⟨d0, d1, d2⟩⟩ := X8.out.flat
  go_wp2_with fail
  with_reducible refine (SE.out _).mono ?_
  rintro e w9 ⟨rfl, k9⟩
  have X9 := hid (X8.out.on k9)
  clear k9 SE X8 c0 c1 c2 c3 c4 c5 c6 d0 d1 d2
  by_cases hs : ste p x y = 0
  · obtain ⟨e1, e2⟩ := TL.out.2 hs
    have ON := hid (fun wk (k : Tab wk) => one_any p.v (Rn.sF p x) (Rn.sV p x) (sP p y) a wk k hp.2.1 hp.2.2 ha)
    unfold OneTold at ON
    rw [← e1, ← e2] at ON
    have sv : spv p x y = #[.int .u8 p.v, .int .i64 (Rn.sF p x), .int .i64 (Rn.sV p x), .int .i64 (sP p y)] := by rw [spv, if_pos hs]; rfl
    rw [hs, sv]
    clear TL e1 e2 sv hs
    generalize Rn.sF p x = sf at *
    generalize Rn.sV p x = sv at *
    generalize sP p y = sp at *
    have X10 := hid (X9.out.on (alloc_b w9 (.cells #[.int .u8 p.v, .int .i64 sf, .int .i64 sv, .int .i64 sp] 25)))
    obtain ⟨-, ⟨d0, d1, d2⟩⟩ := X10.out.flat
    clear X9
    go_wp2_with fail
    with_reducible refine (ON.out _ (TB.out _ X10.out.bel)).mono ?_
    rintro e wz ⟨rfl, kz⟩
    have BZ := hid (X10.out.on kz).bel
    clear kz X10 ON d0 d1 d2
    go_wp2_with fail
    go_ret
    exact ⟨rfl, BZ.out⟩
  · obtain ⟨e1, e2⟩ := TL.out.1 hs
    have n1 : (ste p x y == 0) = false := by simpa using hs
    have n2 : (ste p x y != 0) = true := by simpa using hs
    have sv : spv p x y = #[.int .u8 0, .int .i64 0, .int .i64 0, .int .i64 0] := by rw [spv, if_neg hs]
    rw [e1, e2, sv, show strOfNums [] = ⟨#[]⟩ from rfl]
    clear TL e1 e2 sv hs
    generalize ste p x y = f at *
    go_wp2_with fail
    go_ret
    exact ⟨rfl, (X9.out.on (alloc_b w9 _)).bel⟩

end Go.Proofs.YtiflponlioldmaaGreatDoor

namespace Go.Proofs.YtiflponlioldmaaGreatDoor
open Go Go.RowKit Go.Deep Go.Shelf

set_option maxRecDepth 100000 in
set_option maxHeartbeats 16000000 in
theorem rstars_dir10 (p : Dr.Pc) (x y : Int) (a : Rn.Ag) (w : World) (hT : Tab w) (hT1 : T10 w.heap.size w) (hp : PcW p) (_hl : p.t.length ≤ 140737488355328) (ha : AgW a) (x0 : -9007199254740992 ≤ x) (x1 : x ≤ 9007199254740992) (y0 : -9007199254740992 ≤ y) (y1 : y ≤ 9007199254740992) (hR : Dr.isR p) (hwk : p.wk = 2) (hpk : ¬ p.pk = 2) :
    Calls Tryz.prog 6 #[.agg #[.string (strOfNums p.t), .int .u8 p.v, .int .i64 p.fl, .int .i64 p.wk, .int .i64 p.wd, .int .i64 p.pk, .int .i64 p.pr, .int .i64 x, .int .i64 y, .bool a.x, .int .u64 a.n, .string (strOfNums a.s)]] w fun e w' => e = .returned (.bool true) ∧ Below w.heap.size w w' := by
  have AW := hid (fun wk (k : Tab wk) => rawake_any wk k)
  have TB : Hid (∀ wk, Below w.heap.size w wk → Tab wk) := fun wk k => hT.below k
  have V0 := hid (SV.new w p x y a)
  have K0 := hid (TB.out _ V0.out.bel)
  have CK := hid (fun wk => check_pc p wk hp)
  have n1 : ¬ 9007199254740992 < x := by omega
  have n2 : ¬ x < -9007199254740992 := by omega
  have n3 : ¬ 9007199254740992 < y := by omega
  have n4 : ¬ y < -9007199254740992 := by omega
  have FX := hid (fun wk (k : Tab wk) => from_any x wk k x0 x1)
  have FY := hid (fun wk (k : Tab wk) => from_any y wk k y0 y1)
  have hk : okN p = 0 := if_pos (.inr (.inr hR))
  rw [hk] at CK
  have nv := Rn.isR_v hR
  have kv : (p.v == 0) = false := by simpa using fun q => nv (.inl q)
  have kv2 : (p.v == 37) = false := by simpa using fun q => nv (.inr q)
  have SE := hid (fun wk => settle_any p x y wk hp (by omega) (by omega) (by omega) (by omega))
  unfold SeTold at SE
  have kw : (p.wk == 2) = true := by simpa using hwk
  have kp : (p.pk == 2) = false := by simpa using hpk
  replace hwk := hid hwk
  replace hpk := hid hpk
  clear nv
  go_enter Tryz.func6, Tryz.ntmps6
  go_wp2_with fail
  with_reducible refine (AW.out _ K0.out).mono ?_
  rintro e w1 ⟨rfl, k1⟩
  have V1 := hid (V0.out.on k1)
  clear k1 V0 K0 AW
  obtain ⟨⟨c0, c1, c2, c3, c4, c5, c6⟩, -⟩ := V1.out.flat
  have V2 := hid (V1.out.on (alloc_b w1 (.cells #[.string (strOfNums p.t), .int .u8 p.v, .int .i64 p.fl, .int .i64 p.wk, .int .i64 p.wd, .int .i64 p.pk, .int .i64 p.pr] 39)))
  obtain ⟨-, ⟨d0, d1, d2, d3, d4⟩⟩ := V2.out.flat
  have X0 := hid (SX.new p a V1.out.bel)
  obtain ⟨⟨f0, f1, f2, f3, f4, f5, f6⟩, ⟨g0, g1, g2⟩⟩ := X0.out.flat
  clear V1 V2
  go_wp2_with fail
  with_reducible refine (FX.out _ (TB.out _ X0.out.bel)).mono ?_
  rintro e wf1 ⟨X, rfl, fX, kf1⟩
  have XF1 := hid (X0.out.on kf1)
  have FXX := hid fX
  clear kf1 fX X0 c0 c1 c2 c3 c4 c5 c6 d0 d1 d2 d3 d4 f0 f1 f2 f3 f4 f5 f6 g0 g1 g2 FX
  obtain ⟨mv1, wp1, ap1, xp1⟩ := XF1.out.push ⟨false, X, []⟩ #[.bool false, .int .u64 X, .string ⟨#[]⟩] rfl (by simp)
  have XP1 := hid xp1
  have AP1 := hid ap1
  clear ap1 xp1 XF1 
  obtain ⟨⟨h1_0, h1_1, h1_2, h1_3, h1_4, h1_5, h1_6⟩, ⟨h1_7, h1_8, h1_9⟩⟩ := XP1.out.flat
  obtain ⟨mv3, wp3, ap3, xp3⟩ := XP1.out.push a #[.bool a.x, .int .u64 a.n, .string (strOfNums a.s)] rfl (by simp)
  have XP3 := hid xp3
  have AP3 := hid ap3
  clear ap3 xp3 XP1
  obtain ⟨⟨h3_0, h3_1, h3_2, h3_3, h3_4, h3_5, h3_6⟩, ⟨h3_7, h3_8, h3_9⟩⟩ := XP3.out.flat
  obtain ⟨g, cap, rfl, hc1, hc2, la⟩ := XP3.out.row.la (by simp)
  have AE : Hid ([] ++ [⟨false, X, []⟩] ++ [a] = Rn.gvn p X 0 a) := by show _ = _; unfold Rn.gvn Rn.gW Rn.gP; simp only [hwk.out, hpk.out, if_true, if_false]; all_goals rfl
  clear la
  have hci : (2 : Int) ≤ (cap : Int) := by simp at hc1; omega
  have hcj : (cap : Int) ≤ 9223372036854775807 := by simp only [maxLen] at hc2; omega
  have AA : Hid (∀ q ∈ Rn.gvn p X 0 a, AgW q) := by rw [← AE.out]; intro q hq; simp at hq; rcases hq with rfl | rfl <;> first | exact ⟨by simp, ⟨FXX.out.2.2.1, FXX.out.2.2.2⟩, by simp⟩ | exact ha
  have AN : Hid (Rn.gvn p X 0 a ≠ [] ∧ (Rn.gvn p X 0 a).length = 2) := by rw [← AE.out]; exact ⟨by simp, by simp⟩
  have XP3 : Hid (SX w w1.heap.size p a (.slice (some ⟨g, 0, none⟩) 2 cap) (Rn.gvn p X 0 a) wp3) := by have q := XP3.out; rw [AE.out, AN.out.2] at q; exact q
  generalize hG : Rn.gvn p X 0 a = G at *
  replace hG := hid hG
  have PI := hid (spieces XP3.out AN.out.1 (TB.out _ XP3.out.bel) hp AA.out (by rw [AN.out.2]; omega))
  clear AE hc1 hc2
  go_wp2_with (at_builtin; first | (refine wpList_append_b rfl _ _ rfl AP1.out (by rfl) (by rfl) ?_; clear AP1) | (refine wpList_append_b rfl _ _ rfl AP3.out (by rfl) (by rfl) ?_; clear AP3))
  with_reducible refine PI.out.mono ?_
  rintro e w4 ⟨rfl, k4⟩
  have X4 := hid (XP3.out.on k4)
  clear k4 PI XP3 h1_0 h1_1 h1_2 h1_3 h1_4 h1_5 h1_6 h1_7 h1_8 h1_9 h3_0 h3_1 h3_2 h3_3 h3_4 h3_5 h3_6 h3_7 h3_8 h3_9
  obtain ⟨⟨c0, c1, c2, c3, c4, c5, c6⟩, ⟨d0, d1, d2⟩⟩ := X4.out.flat
  go_wp2_with fail
  with_reducible refine (CK.out _).mono ?_
  rintro e w5 ⟨rfl, k5⟩
  have X5 := hid (X4.out.on k5)
  clear k5 CK X4 c0 c1 c2 c3 c4 c5 c6 d0 d1 d2
  obtain ⟨⟨c0, c1, c2, c3, c4, c5, c6⟩, ⟨d0, d1, d2⟩⟩ := X5.out.flat
  have TL : Hid ((ste p x y ≠ 0 → Rn.pE [p] G = ste p x y ∧ Rn.pT [p] G = []) ∧ (ste p x y = 0 → Rn.pE [p] G = Rn.oneE p.v (Rn.sF p x) (Rn.sV p x) (sP p y) a ∧ Rn.pT [p] G = Rn.oneT p.v (Rn.sF p x) (Rn.sV p x) (sP p y) a)) := by
    rw [← hG.out]
    exact Rn.star_told hR (fun q => FXX.out) (fun q => absurd q hpk.out)
  have FEW : Hid (Rn.pE [p] (G.take 1) = 160) := by
    have q := Rn.star_few (X := X) (Y := 0) (a := a) hR
    rw [hG.out, AN.out.2] at q
    exact q
  have PR := hid (fun wk (k : T10 wk.heap.size wk) => sprint p wk hR k hp)
  have S1 := hid (fun wk (k : SX w w1.heap.size p a (.slice (some ⟨g, 0, none⟩) 2 cap) G wk) => ssprintf p _ G wk hR (TB.out _ k.bel) hp (k.agv AN.out.1) AA.out (by rw [AN.out.2]; omega))
  have S2 : Hid (∀ wk, SX w w1.heap.size p a (.slice (some ⟨g, 0, none⟩) 2 cap) G wk → Calls Tryz.prog 15 #[.string (strOfNums (Dr.wrs [p])), .slice (some ⟨g, 0, none⟩) 1 cap] wk fun r w' => ∃ s, r = .returned (.tuple #[.string s, .int .i64 160]) ∧ Below wk.heap.size wk w') := by
    intro wk k
    obtain ⟨g', cap', e, l1, _, l2⟩ := k.row.la AN.out.1
    rw [AN.out.2] at e
    cases e
    refine (ssprintf p _ (G.take 1) wk hR (TB.out _ k.bel) hp ⟨_, cap, by rw [List.length_take, AN.out.2]; rfl, by rw [List.length_take, AN.out.2]; omega, l2.take _⟩ (fun q hq => AA.out q (List.mem_of_mem_take hq)) (by rw [List.length_take, AN.out.2]; omega)).mono ?_
    rintro r w' ⟨rfl, b⟩
    rw [FEW.out]
    exact ⟨_, rfl, b⟩
  have T1 : Hid (∀ wk, Below w.heap.size w wk → T10 wk.heap.size wk) := fun wk k => (hT1.on k).up k.size
  clear FEW AA AN hG hT hT1
  generalize strOfNums (Dr.wrs [p]) = fm at *
  generalize Rn.pE [p] G = E at *
  generalize Rn.pT [p] G = T at *
  go_wp2_with fail
  with_reducible refine (PR.out _ (T1.out _ X5.out.bel)).mono ?_
  rintro e w6 ⟨rfl, k6⟩
  have X6 := hid (X5.out.on k6)
  clear k6 PR X5 T1 c0 c1 c2 c3 c4 c5 c6 d0 d1 d2
  go_wp2_with fail
  with_reducible refine (S1.out _ X6.out).mono ?_
  rintro e w7 ⟨rfl, k7⟩
  have X7 := hid (X6.out.on k7)
  clear k7 S1 X6
  go_wp2_with fail
  with_reducible refine (S2.out _ X7.out).mono ?_
  rintro e w8 ⟨s8, rfl, k8⟩
  have X8 := hid (X7.out.on k8)
  clear k8 S2 X7
  obtain ⟨⟨c0, c1, c2, c3, c4, c5, c6⟩, ⟨d0, d1, d2⟩⟩ := X8.out.flat
  go_wp2_with fail
  with_reducible refine (SE.out _).mono ?_
  rintro e w9 ⟨rfl, k9⟩
  have X9 := hid (X8.out.on k9)
  clear k9 SE X8 c0 c1 c2 c3 c4 c5 c6 d0 d1 d2
  by_cases hs : ste p x y = 0
  · obtain ⟨e1, e2⟩ := TL.out.2 hs
    have ON := hid (fun wk (k : Tab wk) => one_any p.v (Rn.sF p x) (Rn.sV p x) (sP p y) a wk k hp.2.1 hp.2.2 ha)
    unfold OneTold at ON
    rw [← e1, ← e2] at ON
    have sv : spv p x y = #[.int .u8 p.v, .int .i64 (Rn.sF p x), .int .i64 (Rn.sV p x), .int .i64 (sP p y)] := by rw [spv, if_pos hs]; rfl
    rw [hs, sv]
    clear TL e1 e2 sv hs
    generalize Rn.sF p x = sf at *
    generalize Rn.sV p x = sv at *
    generalize sP p y = sp at *
    have X10 := hid (X9.out.on (alloc_b w9 (.cells #[.int .u8 p.v, .int .i64 sf, .int .i64 sv, .int .i64 sp] 25)))
    obtain ⟨-, ⟨d0, d1, d2⟩⟩ := X10.out.flat
    clear X9
    go_wp2_with fail
    with_reducible refine (ON.out _ (TB.out _ X10.out.bel)).mono ?_
    rintro e wz ⟨rfl, kz⟩
    have BZ := hid (X10.out.on kz).bel
    clear kz X10 ON d0 d1 d2
    go_wp2_with fail
    go_ret
    exact ⟨rfl, BZ.out⟩
  · obtain ⟨e1, e2⟩ := TL.out.1 hs
    have n1 : (ste p x y == 0) = false := by simpa using hs
    have n2 : (ste p x y != 0) = true := by simpa using hs
    have sv : spv p x y = #[.int .u8 0, .int .i64 0, .int .i64 0, .int .i64 0] := by rw [spv, if_neg hs]
    rw [e1, e2, sv, show strOfNums [] = ⟨#[]⟩ from rfl]
    clear TL e1 e2 sv hs
    generalize ste p x y = f at *
    go_wp2_with fail
    go_ret
    exact ⟨rfl, (X9.out.on (alloc_b w9 _)).bel⟩

end Go.Proofs.YtiflponlioldmaaGreatDoor

namespace Go.Proofs.YtiflponlioldmaaGreatDoor
open Go Go.RowKit Go.Deep Go.Shelf

set_option maxRecDepth 100000 in
set_option maxHeartbeats 16000000 in
theorem rstars_dir11 (p : Dr.Pc) (x y : Int) (a : Rn.Ag) (w : World) (hT : Tab w) (hT1 : T10 w.heap.size w) (hp : PcW p) (_hl : p.t.length ≤ 140737488355328) (ha : AgW a) (x0 : -9007199254740992 ≤ x) (x1 : x ≤ 9007199254740992) (y0 : -9007199254740992 ≤ y) (y1 : y ≤ 9007199254740992) (hR : Dr.isR p) (hwk : p.wk = 2) (hpk : p.pk = 2) :
    Calls Tryz.prog 6 #[.agg #[.string (strOfNums p.t), .int .u8 p.v, .int .i64 p.fl, .int .i64 p.wk, .int .i64 p.wd, .int .i64 p.pk, .int .i64 p.pr, .int .i64 x, .int .i64 y, .bool a.x, .int .u64 a.n, .string (strOfNums a.s)]] w fun e w' => e = .returned (.bool true) ∧ Below w.heap.size w w' := by
  have AW := hid (fun wk (k : Tab wk) => rawake_any wk k)
  have TB : Hid (∀ wk, Below w.heap.size w wk → Tab wk) := fun wk k => hT.below k
  have V0 := hid (SV.new w p x y a)
  have K0 := hid (TB.out _ V0.out.bel)
  have CK := hid (fun wk => check_pc p wk hp)
  have n1 : ¬ 9007199254740992 < x := by omega
  have n2 : ¬ x < -9007199254740992 := by omega
  have n3 : ¬ 9007199254740992 < y := by omega
  have n4 : ¬ y < -9007199254740992 := by omega
  have FX := hid (fun wk (k : Tab wk) => from_any x wk k x0 x1)
  have FY := hid (fun wk (k : Tab wk) => from_any y wk k y0 y1)
  have hk : okN p = 0 := if_pos (.inr (.inr hR))
  rw [hk] at CK
  have nv := Rn.isR_v hR
  have kv : (p.v == 0) = false := by simpa using fun q => nv (.inl q)
  have kv2 : (p.v == 37) = false := by simpa using fun q => nv (.inr q)
  have SE := hid (fun wk => settle_any p x y wk hp (by omega) (by omega) (by omega) (by omega))
  unfold SeTold at SE
  have kw : (p.wk == 2) = true := by simpa using hwk
  have kp : (p.pk == 2) = true := by simpa using hpk
  replace hwk := hid hwk
  replace hpk := hid hpk
  clear nv
  go_enter Tryz.func6, Tryz.ntmps6
  go_wp2_with fail
  with_reducible refine (AW.out _ K0.out).mono ?_
  rintro e w1 ⟨rfl, k1⟩
  have V1 := hid (V0.out.on k1)
  clear k1 V0 K0 AW
  obtain ⟨⟨c0, c1, c2, c3, c4, c5, c6⟩, -⟩ := V1.out.flat
  have V2 := hid (V1.out.on (alloc_b w1 (.cells #[.string (strOfNums p.t), .int .u8 p.v, .int .i64 p.fl, .int .i64 p.wk, .int .i64 p.wd, .int .i64 p.pk, .int .i64 p.pr] 39)))
  obtain ⟨-, ⟨d0, d1, d2, d3, d4⟩⟩ := V2.out.flat
  have X0 := hid (SX.new p a V1.out.bel)
  obtain ⟨⟨f0, f1, f2, f3, f4, f5, f6⟩, ⟨g0, g1, g2⟩⟩ := X0.out.flat
  clear V1 V2
  go_wp2_with fail
  with_reducible refine (FX.out _ (TB.out _ X0.out.bel)).mono ?_
  rintro e wf1 ⟨X, rfl, fX, kf1⟩
  have XF1 := hid (X0.out.on kf1)
  have FXX := hid fX
  clear kf1 fX X0 c0 c1 c2 c3 c4 c5 c6 d0 d1 d2 d3 d4 f0 f1 f2 f3 f4 f5 f6 g0 g1 g2 FX
  obtain ⟨mv1, wp1, ap1, xp1⟩ := XF1.out.push ⟨false, X, []⟩ #[.bool false, .int .u64 X, .string ⟨#[]⟩] rfl (by simp)
  have XP1 := hid xp1
  have AP1 := hid ap1
  clear ap1 xp1 XF1 
  obtain ⟨⟨h1_0, h1_1, h1_2, h1_3, h1_4, h1_5, h1_6⟩, ⟨h1_7, h1_8, h1_9⟩⟩ := XP1.out.flat
  go_wp2_with (at_builtin; first | (refine wpList_append_b rfl _ _ rfl AP1.out (by rfl) (by rfl) ?_; clear AP1))
  with_reducible refine (FY.out _ (TB.out _ XP1.out.bel)).mono ?_
  rintro e wf2 ⟨Y, rfl, fY, kf2⟩
  have XF2 := hid (XP1.out.on kf2)
  have FYY := hid fY
  clear kf2 fY XP1 h1_0 h1_1 h1_2 h1_3 h1_4 h1_5 h1_6 h1_7 h1_8 h1_9 FY
  obtain ⟨mv2, wp2, ap2, xp2⟩ := XF2.out.push ⟨false, Y, []⟩ #[.bool false, .int .u64 Y, .string ⟨#[]⟩] rfl (by simp)
  have XP2 := hid xp2
  have AP2 := hid ap2
  clear ap2 xp2 XF2 
  obtain ⟨⟨h2_0, h2_1, h2_2, h2_3, h2_4, h2_5, h2_6⟩, ⟨h2_7, h2_8, h2_9⟩⟩ := XP2.out.flat
  obtain ⟨mv3, wp3, ap3, xp3⟩ := XP2.out.push a #[.bool a.x, .int .u64 a.n, .string (strOfNums a.s)] rfl (by simp)
  have XP3 := hid xp3
  have AP3 := hid ap3
  clear ap3 xp3 XP2
  obtain ⟨⟨h3_0, h3_1, h3_2, h3_3, h3_4, h3_5, h3_6⟩, ⟨h3_7, h3_8, h3_9⟩⟩ := XP3.out.flat
  obtain ⟨g, cap, rfl, hc1, hc2, la⟩ := XP3.out.row.la (by simp)
  have AE : Hid ([] ++ [⟨false, X, []⟩] ++ [⟨false, Y, []⟩] ++ [a] = Rn.gvn p X Y a) := by show _ = _; unfold Rn.gvn Rn.gW Rn.gP; simp only [hwk.out, hpk.out, if_true]; all_goals rfl
  clear la
  have hci : (3 : Int) ≤ (cap : Int) := by simp at hc1; omega
  have hcj : (cap : Int) ≤ 9223372036854775807 := by simp only [maxLen] at hc2; omega
  have AA : Hid (∀ q ∈ Rn.gvn p X Y a, AgW q) := by rw [← AE.out]; intro q hq; simp at hq; rcases hq with rfl | rfl | rfl <;> first | exact ⟨by simp, ⟨FXX.out.2.2.1, FXX.out.2.2.2⟩, by simp⟩ | exact ⟨by simp, ⟨FYY.out.2.2.1, FYY.out.2.2.2⟩, by simp⟩ | exact ha
  have AN : Hid (Rn.gvn p X Y a ≠ [] ∧ (Rn.gvn p X Y a).length = 3) := by rw [← AE.out]; exact ⟨by simp, by simp⟩
  have XP3 : Hid (SX w w1.heap.size p a (.slice (some ⟨g, 0, none⟩) 3 cap) (Rn.gvn p X Y a) wp3) := by have q := XP3.out; rw [AE.out, AN.out.2] at q; exact q
  generalize hG : Rn.gvn p X Y a = G at *
  replace hG := hid hG
  have PI := hid (spieces XP3.out AN.out.1 (TB.out _ XP3.out.bel) hp AA.out (by rw [AN.out.2]; omega))
  clear AE hc1 hc2
  go_wp2_with (at_builtin; first | (refine wpList_append_b rfl _ _ rfl AP2.out (by rfl) (by rfl) ?_; clear AP2) | (refine wpList_append_b rfl _ _ rfl AP3.out (by rfl) (by rfl) ?_; clear AP3))
  with_reducible refine PI.out.mono ?_
  rintro e w4 ⟨rfl, k4⟩
  have X4 := hid (XP3.out.on k4)
  clear k4 PI XP3 h2_0 h2_1 h2_2 h2_3 h2_4 h2_5 h2_6 h2_7 h2_8 h2_9 h3_0 h3_1 h3_2 h3_3 h3_4 h3_5 h3_6 h3_7 h3_8 h3_9
  obtain ⟨⟨c0, c1, c2, c3, c4, c5, c6⟩, ⟨d0, d1, d2⟩⟩ := X4.out.flat
  go_wp2_with fail
  with_reducible refine (CK.out _).mono ?_
  rintro e w5 ⟨rfl, k5⟩
  have X5 := hid (X4.out.on k5)
  clear k5 CK X4 c0 c1 c2 c3 c4 c5 c6 d0 d1 d2
  obtain ⟨⟨c0, c1, c2, c3, c4, c5, c6⟩, ⟨d0, d1, d2⟩⟩ := X5.out.flat
  have TL : Hid ((ste p x y ≠ 0 → Rn.pE [p] G = ste p x y ∧ Rn.pT [p] G = []) ∧ (ste p x y = 0 → Rn.pE [p] G = Rn.oneE p.v (Rn.sF p x) (Rn.sV p x) (sP p y) a ∧ Rn.pT [p] G = Rn.oneT p.v (Rn.sF p x) (Rn.sV p x) (sP p y) a)) := by
    rw [← hG.out]
    exact Rn.star_told hR (fun q => FXX.out) (fun q => FYY.out)
  have FEW : Hid (Rn.pE [p] (G.take 2) = 160) := by
    have q := Rn.star_few (X := X) (Y := Y) (a := a) hR
    rw [hG.out, AN.out.2] at q
    exact q
  have PR := hid (fun wk (k : T10 wk.heap.size wk) => sprint p wk hR k hp)
  have S1 := hid (fun wk (k : SX w w1.heap.size p a (.slice (some ⟨g, 0, none⟩) 3 cap) G wk) => ssprintf p _ G wk hR (TB.out _ k.bel) hp (k.agv AN.out.1) AA.out (by rw [AN.out.2]; omega))
  have S2 : Hid (∀ wk, SX w w1.heap.size p a (.slice (some ⟨g, 0, none⟩) 3 cap) G wk → Calls Tryz.prog 15 #[.string (strOfNums (Dr.wrs [p])), .slice (some ⟨g, 0, none⟩) 2 cap] wk fun r w' => ∃ s, r = .returned (.tuple #[.string s, .int .i64 160]) ∧ Below wk.heap.size wk w') := by
    intro wk k
    obtain ⟨g', cap', e, l1, _, l2⟩ := k.row.la AN.out.1
    rw [AN.out.2] at e
    cases e
    refine (ssprintf p _ (G.take 2) wk hR (TB.out _ k.bel) hp ⟨_, cap, by rw [List.length_take, AN.out.2]; rfl, by rw [List.length_take, AN.out.2]; omega, l2.take _⟩ (fun q hq => AA.out q (List.mem_of_mem_take hq)) (by rw [List.length_take, AN.out.2]; omega)).mono ?_
    rintro r w' ⟨rfl, b⟩
    rw [FEW.out]
    exact ⟨_, rfl, b⟩
  have T1 : Hid (∀ wk, Below w.heap.size w wk → T10 wk.heap.size wk) := fun wk k => (hT1.on k).up k.size
  clear FEW AA AN hG hT hT1
  generalize strOfNums (Dr.wrs [p]) = fm at *
  generalize Rn.pE [p] G = E at *
  generalize Rn.pT [p] G = T at *
  go_wp2_with fail
  with_reducible refine (PR.out _ (T1.out _ X5.out.bel)).mono ?_
  rintro e w6 ⟨rfl, k6⟩
  have X6 := hid (X5.out.on k6)
  clear k6 PR X5 T1 c0 c1 c2 c3 c4 c5 c6 d0 d1 d2
  go_wp2_with fail
  with_reducible refine (S1.out _ X6.out).mono ?_
  rintro e w7 ⟨rfl, k7⟩
  have X7 := hid (X6.out.on k7)
  clear k7 S1 X6
  go_wp2_with fail
  with_reducible refine (S2.out _ X7.out).mono ?_
  rintro e w8 ⟨s8, rfl, k8⟩
  have X8 := hid (X7.out.on k8)
  clear k8 S2 X7
  obtain ⟨⟨c0, c1, c2, c3, c4, c5, c6⟩, ⟨d0, d1, d2⟩⟩ := X8.out.flat
  go_wp2_with fail
  with_reducible refine (SE.out _).mono ?_
  rintro e w9 ⟨rfl, k9⟩
  have X9 := hid (X8.out.on k9)
  clear k9 SE X8 c0 c1 c2 c3 c4 c5 c6 d0 d1 d2
  by_cases hs : ste p x y = 0
  · obtain ⟨e1, e2⟩ := TL.out.2 hs
    have ON := hid (fun wk (k : Tab wk) => one_any p.v (Rn.sF p x) (Rn.sV p x) (sP p y) a wk k hp.2.1 hp.2.2 ha)
    unfold OneTold at ON
    rw [← e1, ← e2] at ON
    have sv : spv p x y = #[.int .u8 p.v, .int .i64 (Rn.sF p x), .int .i64 (Rn.sV p x), .int .i64 (sP p y)] := by rw [spv, if_pos hs]; rfl
    rw [hs, sv]
    clear TL e1 e2 sv hs
    generalize Rn.sF p x = sf at *
    generalize Rn.sV p x = sv at *
    generalize sP p y = sp at *
    have X10 := hid (X9.out.on (alloc_b w9 (.cells #[.int .u8 p.v, .int .i64 sf, .int .i64 sv, .int .i64 sp] 25)))
    obtain ⟨-, ⟨d0, d1, d2⟩⟩ := X10.out.flat
    clear X9
    go_wp2_with fail
    with_reducible refine (ON.out _ (TB.out _ X10.out.bel)).mono ?_
    rintro e wz ⟨rfl, kz⟩
    have BZ := hid (X10.out.on kz).bel
    clear kz X10 ON d0 d1 d2
    go_wp2_with fail
    go_ret
    exact ⟨rfl, BZ.out⟩
  · obtain ⟨e1, e2⟩ := TL.out.1 hs
    have n1 : (ste p x y == 0) = false := by simpa using hs
    have n2 : (ste p x y != 0) = true := by simpa using hs
    have sv : spv p x y = #[.int .u8 0, .int .i64 0, .int .i64 0, .int .i64 0] := by rw [spv, if_neg hs]
    rw [e1, e2, sv, show strOfNums [] = ⟨#[]⟩ from rfl]
    clear TL e1 e2 sv hs
    generalize ste p x y = f at *
    go_wp2_with fail
    go_ret
    exact ⟨rfl, (X9.out.on (alloc_b w9 _)).bel⟩

end Go.Proofs.YtiflponlioldmaaGreatDoor

namespace Go.Proofs.YtiflponlioldmaaGreatDoor
open Go Go.RowKit Go.Deep Go.Shelf

set_option maxRecDepth 100000 in
set_option maxHeartbeats 4000000 in
theorem rstars_big (p : Dr.Pc) (x y : Int) (a : Rn.Ag) (w : World) (hT : Tab w) (h : 9007199254740992 < x ∨ x < -9007199254740992 ∨ 9007199254740992 < y ∨ y < -9007199254740992) :
    Calls Tryz.prog 6 #[.agg #[.string (strOfNums p.t), .int .u8 p.v, .int .i64 p.fl, .int .i64 p.wk, .int .i64 p.wd, .int .i64 p.pk, .int .i64 p.pr, .int .i64 x, .int .i64 y, .bool a.x, .int .u64 a.n, .string (strOfNums a.s)]] w fun e w' => e = .returned (.bool true) ∧ Below w.heap.size w w' := by
  have AW := hid (fun wk (k : Tab wk) => rawake_any wk k)
  have TB : Hid (∀ wk, Below w.heap.size w wk → Tab wk) := fun wk k => hT.below k
  have V0 := hid (SV.new w p x y a)
  have K0 := hid (TB.out _ V0.out.bel)
  by_cases h1 : 9007199254740992 < x
  · clear h
    go_enter Tryz.func6, Tryz.ntmps6
    go_wp2_with fail
    with_reducible refine (AW.out _ K0.out).mono ?_
    rintro e w1 ⟨rfl, k1⟩
    have V1 := hid (V0.out.on k1)
    clear k1 V0 K0 AW
    obtain ⟨⟨c0, c1, c2, c3, c4, c5, c6⟩, -⟩ := V1.out.flat
    have V2 := hid (V1.out.on (alloc_b w1 (.cells #[.string (strOfNums p.t), .int .u8 p.v, .int .i64 p.fl, .int .i64 p.wk, .int .i64 p.wd, .int .i64 p.pk, .int .i64 p.pr] 39)))
    obtain ⟨-, ⟨d0, d1, d2, d3, d4⟩⟩ := V2.out.flat
    have X0 := hid (SX.new p a V1.out.bel)
    obtain ⟨⟨f0, f1, f2, f3, f4, f5, f6⟩, ⟨g0, g1, g2⟩⟩ := X0.out.flat
    clear V1 V2
    go_wp2_with fail
    go_ret
    exact ⟨rfl, X0.out.bel⟩
  by_cases h2 : x < -9007199254740992
  · clear h
    go_enter Tryz.func6, Tryz.ntmps6
    go_wp2_with fail
    with_reducible refine (AW.out _ K0.out).mono ?_
    rintro e w1 ⟨rfl, k1⟩
    have V1 := hid (V0.out.on k1)
    clear k1 V0 K0 AW
    obtain ⟨⟨c0, c1, c2, c3, c4, c5, c6⟩, -⟩ := V1.out.flat
    have V2 := hid (V1.out.on (alloc_b w1 (.cells #[.string (strOfNums p.t), .int .u8 p.v, .int .i64 p.fl, .int .i64 p.wk, .int .i64 p.wd, .int .i64 p.pk, .int .i64 p.pr] 39)))
    obtain ⟨-, ⟨d0, d1, d2, d3, d4⟩⟩ := V2.out.flat
    have X0 := hid (SX.new p a V1.out.bel)
    obtain ⟨⟨f0, f1, f2, f3, f4, f5, f6⟩, ⟨g0, g1, g2⟩⟩ := X0.out.flat
    clear V1 V2
    go_wp2_with fail
    go_ret
    exact ⟨rfl, X0.out.bel⟩
  by_cases h3 : 9007199254740992 < y
  · clear h
    go_enter Tryz.func6, Tryz.ntmps6
    go_wp2_with fail
    with_reducible refine (AW.out _ K0.out).mono ?_
    rintro e w1 ⟨rfl, k1⟩
    have V1 := hid (V0.out.on k1)
    clear k1 V0 K0 AW
    obtain ⟨⟨c0, c1, c2, c3, c4, c5, c6⟩, -⟩ := V1.out.flat
    have V2 := hid (V1.out.on (alloc_b w1 (.cells #[.string (strOfNums p.t), .int .u8 p.v, .int .i64 p.fl, .int .i64 p.wk, .int .i64 p.wd, .int .i64 p.pk, .int .i64 p.pr] 39)))
    obtain ⟨-, ⟨d0, d1, d2, d3, d4⟩⟩ := V2.out.flat
    have X0 := hid (SX.new p a V1.out.bel)
    obtain ⟨⟨f0, f1, f2, f3, f4, f5, f6⟩, ⟨g0, g1, g2⟩⟩ := X0.out.flat
    clear V1 V2
    go_wp2_with fail
    go_ret
    exact ⟨rfl, X0.out.bel⟩
  have h4 : y < -9007199254740992 := by omega
  clear h
  go_enter Tryz.func6, Tryz.ntmps6
  go_wp2_with fail
  with_reducible refine (AW.out _ K0.out).mono ?_
  rintro e w1 ⟨rfl, k1⟩
  have V1 := hid (V0.out.on k1)
  clear k1 V0 K0 AW
  obtain ⟨⟨c0, c1, c2, c3, c4, c5, c6⟩, -⟩ := V1.out.flat
  have V2 := hid (V1.out.on (alloc_b w1 (.cells #[.string (strOfNums p.t), .int .u8 p.v, .int .i64 p.fl, .int .i64 p.wk, .int .i64 p.wd, .int .i64 p.pk, .int .i64 p.pr] 39)))
  obtain ⟨-, ⟨d0, d1, d2, d3, d4⟩⟩ := V2.out.flat
  have X0 := hid (SX.new p a V1.out.bel)
  obtain ⟨⟨f0, f1, f2, f3, f4, f5, f6⟩, ⟨g0, g1, g2⟩⟩ := X0.out.flat
  clear V1 V2
  go_wp2_with fail
  go_ret
  exact ⟨rfl, X0.out.bel⟩
theorem rstars_law (p : Dr.Pc) (x y : Int) (a : Rn.Ag) (w : World) (hT : Tab w) (hT1 : T10 w.heap.size w) (hp : PcW p) (hl : p.t.length ≤ 140737488355328) (ha : AgW a) :
    Calls Tryz.prog 6 #[.agg #[.string (strOfNums p.t), .int .u8 p.v, .int .i64 p.fl, .int .i64 p.wk, .int .i64 p.wd, .int .i64 p.pk, .int .i64 p.pr, .int .i64 x, .int .i64 y, .bool a.x, .int .u64 a.n, .string (strOfNums a.s)]] w fun e w' => e = .returned (.bool true) ∧ Below w.heap.size w w' := by
  by_cases h : 9007199254740992 < x ∨ x < -9007199254740992 ∨ 9007199254740992 < y ∨ y < -9007199254740992
  · exact rstars_big p x y a w hT h
  · have x0 : -9007199254740992 ≤ x := by omega
    have x1 : x ≤ 9007199254740992 := by omega
    have y0 : -9007199254740992 ≤ y := by omega
    have y1 : y ≤ 9007199254740992 := by omega
    by_cases ok : Dr.ok p
    · rcases ok with k | k | k
      · exact rstars_text p x y a w hT hT1 hp hl ha x0 x1 y0 y1 k
      · exact rstars_pct p x y a w hT hT1 hp hl ha x0 x1 y0 y1 k
      · by_cases q : p.wk = 2
        · by_cases r : p.pk = 2
          · exact rstars_dir11 p x y a w hT hT1 hp hl ha x0 x1 y0 y1 k q r
          · exact rstars_dir10 p x y a w hT hT1 hp hl ha x0 x1 y0 y1 k q r
        · by_cases r : p.pk = 2
          · exact rstars_dir01 p x y a w hT hT1 hp hl ha x0 x1 y0 y1 k q r
          · exact rstars_dir00 p x y a w hT hT1 hp hl ha x0 x1 y0 y1 k q r
    · exact rstars_not p x y a w hT hT1 hp hl ha x0 x1 y0 y1 ok
end Go.Proofs.YtiflponlioldmaaGreatDoor

namespace Go.Proofs.YtiflponlioldmaaGreatDoor
open Go Go.RowKit Go.Deep

theorem tab_laid : (Rows.laid_math_bits_deBruijn64tab : DataW Unit) = Lib.tabData .u8 (List.map Int.ofNat Lib.deBruijn64tab) := by kernel_rfl

theorem tab_of {W : World} {rest : List (String × DataW Unit)} (h : laidMet Tryz.prog (("math/bits.deBruijn64tab", Rows.laid_math_bits_deBruijn64tab) :: rest) W) : Tab W := by
  rw [tab_laid] at h
  have ht := Lib.tabIs_of_head (g := 1) (t := 260) (e := 5) (n := 64) (k := .u8) (zs := List.map Int.ofNat Lib.deBruijn64tab) (by kernel_rfl) (by kernel_rfl) Tryz.underlying260 Tryz.underlying5 (by kernel_rfl) (by kernel_rfl) h
  intro j hj
  have hl : (List.map Int.ofNat Lib.deBruijn64tab).length = Lib.deBruijn64tab.length := by simp
  rw [ht.cell (g := 1) (by kernel_rfl) j (by omega)]
  simp [List.getD, hj]

end Go.Proofs.YtiflponlioldmaaGreatDoor

namespace Go.Proofs.YtiflponlioldmaaGreatDoor
open Go Go.RowKit Go.Deep

theorem dlaid_tail {P : Program} {W : World} {x : String × DataW Unit} {rest : List (String × DataW Unit)} (h : laidMet P (x :: rest) W) : laidMet P rest W := by
  obtain ⟨ps, ⟨g, t, cs, fuel, p, q, _, _, _, _, hr, rfl⟩, hn, hc⟩ := h
  exact ⟨q, hr, (List.nodup_append.1 hn).2.1, fun b off hm => hc b off (List.mem_append_right _ hm)⟩

theorem dpow_laid : (Rows.laid_internal_strconv_uint64pow10 : DataW Unit) = Lib.tabData .u64 Lib.pow10Tab := by kernel_rfl

end Go.Proofs.YtiflponlioldmaaGreatDoor

namespace Go.Proofs.YtiflponlioldmaaGreatDoor
open Go Go.RowKit Go.Deep

theorem tables16 {W : World} {a : String × DataW Unit} {rest : List (String × DataW Unit)} (h : laidMet Tryz.prog (a :: ("math/bits.deBruijn64tab", Rows.laid_math_bits_deBruijn64tab) :: ("internal/strconv.uint64pow10", Rows.laid_internal_strconv_uint64pow10) :: rest) W) : Tab W ∧ T10 W.heap.size W := by
  have h1 := dlaid_tail h
  have h2 := dlaid_tail h1
  rw [dpow_laid] at h2
  exact ⟨tab_of h1, T10.of (Lib.tabIs_of_head (g := 6) (t := 281) (e := 26) (n := 20) (by kernel_rfl) (by kernel_rfl) Tryz.underlying281 Tryz.underlying26 (by kernel_rfl) (by kernel_rfl) h2)⟩
end Go.Proofs.YtiflponlioldmaaGreatDoor

namespace Go.Proofs.YtiflponlioldmaaGreatDoor
open Go Go.RowKit Go.Deep Go.Shelf

theorem case_laid : Rows.laid_unicode_CaseRanges = Lib.caseData := by kernel_rfl

theorem laidVars_swap {P : Program} {w : World} {x y : String × DataW Unit} : ∀ {l : List (String × DataW Unit)} {ps : List MemPlace}, DataW.LaidVars P w (l ++ [y, x]) ps → ∃ qs, DataW.LaidVars P w (l ++ [x, y]) qs ∧ qs.Perm ps
  | [], ps, h => by
    obtain ⟨x1, x2⟩ := x
    obtain ⟨y1, y2⟩ := y
    obtain ⟨g, t, cs, fuel, p, q, h1, h2, h3, h4, ⟨g', t', cs', fuel', p', q', k1, k2, k3, k4, k5, rfl⟩, rfl⟩ := h
    have k5 : q' = [] := k5
    subst k5
    refine ⟨_, ⟨g', t', cs', fuel', p', _, k1, k2, k3, k4, ⟨g, t, cs, fuel, p, [], h1, h2, h3, h4, rfl, rfl⟩, rfl⟩, ?_⟩
    simp only [List.append_nil]
    exact List.perm_append_comm
  | (n, d) :: l, ps, h => by
    obtain ⟨g, t, cs, fuel, p, q, h1, h2, h3, h4, h5, rfl⟩ := h
    obtain ⟨qs, k1, k2⟩ := laidVars_swap h5
    exact ⟨_, ⟨g, t, cs, fuel, p, qs, h1, h2, h3, h4, k1, rfl⟩, List.Perm.append_left _ k2⟩
theorem laidMet_swap {P : Program} {w : World} {x y : String × DataW Unit} {l : List (String × DataW Unit)} (h : laidMet P (l ++ [y, x]) w) : laidMet P (l ++ [x, y]) w := by
  obtain ⟨ps, h1, h2, h3⟩ := h
  obtain ⟨qs, k1, k2⟩ := laidVars_swap h1
  exact ⟨qs, k1, (k2.nodup_iff).2 h2, fun b off hp => h3 b off (k2.mem_iff.1 hp)⟩
end Go.Proofs.YtiflponlioldmaaGreatDoor

namespace Go.Proofs.YtiflponlioldmaaGreatDoor

end Go.Proofs.YtiflponlioldmaaGreatDoor

namespace Go.Proofs.YtiflponlioldmaaGreatDoor
open Go Go.RowKit Go.Deep Go.ChangeShapes Go.WideShapes Go.ChangeAt

theorem list3 {α : Type} {l : List α} (h : l.length = 3) : ∃ c0 c1 c2, l = [c0, c1, c2] := by
  match l, h with
  | [c0, c1, c2], _ => exact ⟨c0, c1, c2, rfl⟩

theorem open_arg_cells {H : Type} {enc : TypeId × Value → H} {W : World} {fuel : Nat} {a0 a1 a2 : Value} {x : DataW H × List MemPlace} (hf : DataW.trod enc Tryz.prog W 0 (fun _ => true) true fuel 28 [a0, a1, a2] = some x)
    (hsz : ∀ n ∈ x.1.weights Tryz.prog 28, n ≤ reachBytes) :
    ∃ q : Rn.Ag, (a0 = .bool q.x ∧ a1 = .int .u64 q.n ∧ a2 = .string (strOfNums q.s)) ∧ AgW q ∧ q.s.length ≤ Rows.uptoBulk x.1 := by
  obtain ⟨xs, n, _, hx, _, hlen, hfs⟩ := DataW.trod_struct Tryz.underlying28 hf
  obtain ⟨y0, y1, y2, rfl⟩ := list3 hlen
  have c4 : Tryz.prog.cellsOf 4 = 1 := by kernel_rfl
  have c6 : Tryz.prog.cellsOf 26 = 1 := by kernel_rfl
  have cs : Tryz.prog.cellsOf 9 = 1 := by kernel_rfl
  have f0 : DataW.trod enc Tryz.prog W 0 (fun _ => true) true n 4 [a0] = some y0 := by simpa [c4] using hfs 0 _ rfl
  have f1 : DataW.trod enc Tryz.prog W 0 (fun _ => true) true n 26 [a1] = some y1 := by simpa [c6] using hfs 1 _ rfl
  have f2 : DataW.trod enc Tryz.prog W 0 (fun _ => true) true n 9 [a2] = some y2 := by simpa [cs] using hfs 2 _ rfl
  have hd : x.1 = .agg [y0.1, y1.1, y2.1] := by rw [hx]; rfl
  obtain ⟨bx, e0, _⟩ := DataW.trod_bool Tryz.underlying4 f0
  obtain ⟨v, e1, _, w1⟩ := DataW.trod_int Tryz.underlying26 f1
  obtain ⟨s, e2, q2, _⟩ := DataW.trod_string Tryz.underlying9 f2
  have hs : s.data.toList.length ≤ reachBytes := by
    refine hsz _ ?_
    rw [hd]
    simp only [DataW.weights, Tryz.underlying28]
    refine DataW.weights_mem_each (ts := [4, 26, 9]) (ds := [y0.1, y1.1, y2.1]) (j := 2) (t := 9) (d := y2.1) rfl rfl _ ?_
    rw [q2]
    simp [DataW.weights]
  have hb : s.data.toList.length ≤ Rows.uptoBulk x.1 := by
    rw [hd, q2]
    simp only [Rows.uptoBulk, Rows.uptoBulkAll]
    simp
    omega
  have b1 := bounds_u64 w1
  refine ⟨⟨bx, v, s.data.toList.map (fun b => (b.toNat : Int))⟩, ⟨(List.cons.inj e0).1, (List.cons.inj e1).1, ?_⟩, ⟨fun x hx => (Str.self s).mem hx, ⟨b1.1, Int.lt_of_le_of_lt b1.2 (by decide)⟩, ?_⟩, ?_⟩
  · rw [(List.cons.inj e2).1, ← str_is (Str.self s)]
  · rw [List.length_map]; exact Nat.le_trans hs (by decide)
  · rw [List.length_map]; exact hb

end Go.Proofs.YtiflponlioldmaaGreatDoor

namespace Go.Proofs.YtiflponlioldmaaGreatDoor
open Go Go.RowKit Go.Deep Go.ChangeShapes Go.WideShapes Go.ChangeAt

theorem list7 {α : Type} {l : List α} (h : l.length = 7) : ∃ c0 c1 c2 c3 c4 c5 c6, l = [c0, c1, c2, c3, c4, c5, c6] := by
  match l, h with
  | [c0, c1, c2, c3, c4, c5, c6], _ => exact ⟨c0, c1, c2, c3, c4, c5, c6, rfl⟩

theorem open_piece_cells {H : Type} {enc : TypeId × Value → H} {W : World} {fuel : Nat} {a0 a1 a2 a3 a4 a5 a6 : Value} {x : DataW H × List MemPlace} (hf : DataW.trod enc Tryz.prog W 0 (fun _ => true) true fuel 39 [a0, a1, a2, a3, a4, a5, a6] = some x)
    (hsz : ∀ n ∈ x.1.weights Tryz.prog 39, n ≤ reachBytes) :
    ∃ p : Dr.Pc, (a0 = .string (strOfNums p.t) ∧ a1 = .int .u8 p.v ∧ a2 = .int .i64 p.fl ∧ a3 = .int .i64 p.wk ∧ a4 = .int .i64 p.wd ∧ a5 = .int .i64 p.pk ∧ a6 = .int .i64 p.pr) ∧ PcW p ∧ p.t.length ≤ 140737488351232 ∧ p.t.length ≤ Rows.uptoBulk x.1 := by
  obtain ⟨xs, n, _, hx, _, hlen, hfs⟩ := DataW.trod_struct Tryz.underlying39 hf
  obtain ⟨y0, y1, y2, y3, y4, y5, y6, rfl⟩ := list7 hlen
  have c3 : Tryz.prog.cellsOf 3 = 1 := by kernel_rfl
  have c5 : Tryz.prog.cellsOf 5 = 1 := by kernel_rfl
  have cs : Tryz.prog.cellsOf 9 = 1 := by kernel_rfl
  have f0 : DataW.trod enc Tryz.prog W 0 (fun _ => true) true n 9 [a0] = some y0 := by simpa [cs] using hfs 0 _ rfl
  have f1 : DataW.trod enc Tryz.prog W 0 (fun _ => true) true n 5 [a1] = some y1 := by simpa [c5] using hfs 1 _ rfl
  have f2 : DataW.trod enc Tryz.prog W 0 (fun _ => true) true n 3 [a2] = some y2 := by simpa [c3] using hfs 2 _ rfl
  have f3 : DataW.trod enc Tryz.prog W 0 (fun _ => true) true n 3 [a3] = some y3 := by simpa [c3] using hfs 3 _ rfl
  have f4 : DataW.trod enc Tryz.prog W 0 (fun _ => true) true n 3 [a4] = some y4 := by simpa [c3] using hfs 4 _ rfl
  have f5 : DataW.trod enc Tryz.prog W 0 (fun _ => true) true n 3 [a5] = some y5 := by simpa [c3] using hfs 5 _ rfl
  have f6 : DataW.trod enc Tryz.prog W 0 (fun _ => true) true n 3 [a6] = some y6 := by simpa [c3] using hfs 6 _ rfl
  have hd : x.1 = .agg [y0.1, y1.1, y2.1, y3.1, y4.1, y5.1, y6.1] := by rw [hx]; rfl
  obtain ⟨s, e0, q0, _⟩ := DataW.trod_string Tryz.underlying9 f0
  obtain ⟨v, e1, _, w1⟩ := DataW.trod_int Tryz.underlying5 f1
  obtain ⟨fl, e2, _, _⟩ := DataW.trod_int Tryz.underlying3 f2
  obtain ⟨wk, e3, _, _⟩ := DataW.trod_int Tryz.underlying3 f3
  obtain ⟨wd, e4, _, _⟩ := DataW.trod_int Tryz.underlying3 f4
  obtain ⟨pk, e5, _, _⟩ := DataW.trod_int Tryz.underlying3 f5
  obtain ⟨pr, e6, _, _⟩ := DataW.trod_int Tryz.underlying3 f6
  have hs : s.data.toList.length ≤ reachBytes := by
    refine hsz _ ?_
    rw [hd]
    simp only [DataW.weights, Tryz.underlying39]
    refine DataW.weights_mem_each (ts := [9, 5, 3, 3, 3, 3, 3]) (ds := [y0.1, y1.1, y2.1, y3.1, y4.1, y5.1, y6.1]) (j := 0) (t := 9) (d := y0.1) rfl rfl _ ?_
    rw [q0]
    simp [DataW.weights]
  have hb : s.data.toList.length ≤ Rows.uptoBulk x.1 := by
    rw [hd, q0]
    simp only [Rows.uptoBulk, Rows.uptoBulkAll]
    simp
    omega
  have b1 := bounds_u8 w1
  refine ⟨⟨s.data.toList.map (fun b => (b.toNat : Int)), v, fl, wk, wd, pk, pr⟩, ⟨?_, (List.cons.inj e1).1, (List.cons.inj e2).1, (List.cons.inj e3).1, (List.cons.inj e4).1, (List.cons.inj e5).1, (List.cons.inj e6).1⟩, ⟨fun x hx => (Str.self s).mem hx, b1.1, Int.lt_of_le_of_lt b1.2 (by decide)⟩, ?_, ?_⟩
  · rw [(List.cons.inj e0).1, ← str_of (Str.self s)]
  · rw [List.length_map]; exact Nat.le_trans hs (by decide)
  · rw [List.length_map]; exact hb

end Go.Proofs.YtiflponlioldmaaGreatDoor

namespace Go.Proofs.YtiflponlioldmaaGreatDoor
open Go Go.RowKit Go.Deep Go.ChangeShapes Go.WideShapes Go.ChangeAt

theorem list4s {α : Type} {l : List α} (h : l.length = 4) : ∃ c0 c1 c2 c3, l = [c0, c1, c2, c3] := by
  match l, h with
  | [c0, c1, c2, c3], _ => exact ⟨c0, c1, c2, c3, rfl⟩
theorem array12 {α : Type} {cs : Array α} (h : cs.size = 12) : ∃ c0 c1 c2 c3 c4 c5 c6 c7 c8 c9 c10 c11, cs = #[c0, c1, c2, c3, c4, c5, c6, c7, c8, c9, c10, c11] := by
  obtain ⟨l⟩ := cs
  match l, h with
  | [c0, c1, c2, c3, c4, c5, c6, c7, c8, c9, c10, c11], _ => exact ⟨c0, c1, c2, c3, c4, c5, c6, c7, c8, c9, c10, c11, rfl⟩

set_option maxRecDepth 100000 in
theorem open_starred {H : Type} {enc : TypeId × Value → H} {W : World} {base : Nat} {v : Value} {d : DataW H} {p : List MemPlace} (hv : Value.okWide Tryz.prog W .any base 49 v) (h : DataW.Trod enc Tryz.prog W 0 (fun _ => true) true 49 v d p)
    (hsz : ∀ n ∈ d.weights Tryz.prog 49, n ≤ reachBytes) :
    ∃ (q : Dr.Pc) (I J : Int) (r : Rn.Ag), v = .agg #[.string (strOfNums q.t), .int .u8 q.v, .int .i64 q.fl, .int .i64 q.wk, .int .i64 q.wd, .int .i64 q.pk, .int .i64 q.pr, .int .i64 I, .int .i64 J, .bool r.x, .int .u64 r.n, .string (strOfNums r.s)] ∧ PcW q ∧ q.t.length ≤ 140737488351232 ∧ AgW r := by
  obtain ⟨cs, rfl, hs12⟩ := okWide_struct Tryz.underlying49 hv
  obtain ⟨a0, a1, a2, a3, a4, a5, a6, a7, a8, a9, a10, a11, rfl⟩ := array12 (hs12.trans (show Tryz.prog.cellsOf 49 = 12 by kernel_rfl))
  obtain ⟨fuel, hf⟩ := h
  have hf' : DataW.trod enc Tryz.prog W 0 (fun _ => true) true fuel 49 [a0, a1, a2, a3, a4, a5, a6, a7, a8, a9, a10, a11] = some (d, p) := by simpa [Value.cells] using hf
  obtain ⟨xs, n, _, hx, _, hlen, hfs⟩ := DataW.trod_struct Tryz.underlying49 hf'
  obtain ⟨y0, y1, y2, y3, rfl⟩ := list4s hlen
  have cp : Tryz.prog.cellsOf 39 = 7 := by kernel_rfl
  have ci : Tryz.prog.cellsOf 3 = 1 := by kernel_rfl
  have ca : Tryz.prog.cellsOf 28 = 3 := by kernel_rfl
  have f0 : DataW.trod enc Tryz.prog W 0 (fun _ => true) true n 39 [a0, a1, a2, a3, a4, a5, a6] = some y0 := by simpa [cp] using hfs 0 _ rfl
  have f1 : DataW.trod enc Tryz.prog W 0 (fun _ => true) true n 3 [a7] = some y1 := by simpa [cp, ci] using hfs 1 _ rfl
  have f2 : DataW.trod enc Tryz.prog W 0 (fun _ => true) true n 3 [a8] = some y2 := by simpa [cp, ci] using hfs 2 _ rfl
  have f3 : DataW.trod enc Tryz.prog W 0 (fun _ => true) true n 28 [a9, a10, a11] = some y3 := by simpa [cp, ci, ca] using hfs 3 _ rfl
  have hd : d = .agg [y0.1, y1.1, y2.1, y3.1] := by have q := hx; simp at q; exact q.1
  have z0 : ∀ m ∈ y0.1.weights Tryz.prog 39, m ≤ reachBytes := fun m hm => by
    refine hsz m ?_
    rw [hd]
    simp only [DataW.weights, Tryz.underlying49]
    exact DataW.weights_mem_each (ts := [39, 3, 3, 28]) (ds := [y0.1, y1.1, y2.1, y3.1]) (j := 0) (t := 39) (d := y0.1) rfl rfl _ hm
  have z3 : ∀ m ∈ y3.1.weights Tryz.prog 28, m ≤ reachBytes := fun m hm => by
    refine hsz m ?_
    rw [hd]
    simp only [DataW.weights, Tryz.underlying49]
    exact DataW.weights_mem_each (ts := [39, 3, 3, 28]) (ds := [y0.1, y1.1, y2.1, y3.1]) (j := 3) (t := 28) (d := y3.1) rfl rfl _ hm
  obtain ⟨q, ⟨e0, e1, e2, e3, e4, e5, e6⟩, q1, q2, _⟩ := open_piece_cells f0 z0
  obtain ⟨I, i1, _, w1⟩ := DataW.trod_int Tryz.underlying3 f1
  obtain ⟨J, j1, _, w2⟩ := DataW.trod_int Tryz.underlying3 f2
  obtain ⟨r, ⟨r0, r1, r2⟩, r3, _⟩ := open_arg_cells f3 z3
  rw [e0, e1, e2, e3, e4, e5, e6, (List.cons.inj i1).1, (List.cons.inj j1).1, r0, r1, r2]
  exact ⟨q, I, J, r, rfl, q1, q2, r3⟩
end Go.Proofs.YtiflponlioldmaaGreatDoor
