/-
  Texts put together: LDigits, LApi, LHoldA, LNearM, LStepsL, LStepM, LWiX, LHoldN, LAwake, LStepsV.
-/
import Derived.Test.YtjkefcikepnbpaaGreatDoorWAV
import Derived.Test.YtjkefcikepnbpaaGreatDoorWAC
import Derived.BigQuiet
import Derived.Test.YtjkefcikepnbpaaGreatDoorWAA
import Derived.Test.YtjkefcikepnbpaaGreatDoorWAJ
import Derived.Test.YtjkefcikepnbpaaGreatDoorLNear
import Derived.Test.YtjkefcikepnbpaaGreatDoorWAT
import Derived.Test.YtjkefcikepnbpaaGreatDoorLLess
import Derived.Test.YtjkefcikepnbpaaGreatDoorWAU
import Derived.Test.YtjkefcikepnbpaaGreatDoorPConv
namespace Go.Proofs.YtjkefcikepnbpaaGreatDoor
open Go Go.RowKit Go.Deep

namespace Sh
theorem fnt_iff {d : Int} : Ie.fnt d = decide (d % 9223372036854775808 < 9218868437227405312) := by
  unfold Ie.fnt Ie.cls Ie.fld
  rw [Bool.eq_iff_iff, decide_eq_true_iff, decide_eq_true_iff]
  split
  · split <;> omega
  · split
    · split <;> omega
    · omega
/-- What Digits tells. -/
noncomputable def zD (d : Int) : Sc.D := if Ie.fnt d = true then ⟨ng d, (dd (dgt (d % 9223372036854775808))).ds, (dd (dgt (d % 9223372036854775808))).e⟩ else ⟨false, [], 0⟩
def zR (d : Int) : Int := if Ie.fnt d = true then 0 else 5
end Sh

set_option maxRecDepth 100000 in
theorem zclo_any (a : Int) (i bs : Nat) (s1 s2 s3 : ByteArray) (w : World) (h0 : 0 ≤ a) (hf : a < 9218868437227405312) (hi : i < 16) (htab : Tab10 w)
    (g1 : Str s1 (Sh.dd (Sh.V a)).ds) (g2 : Str s2 (Sh.dd (Sh.A a)).ds) (g3 : Str s3 (Sh.dd (Sh.B a)).ds)
    (hS : Ten w bs (.bool (Sh.dd (Sh.V a)).neg) (.string s1) (.int .i64 (Sh.dd (Sh.V a)).e) (.bool (Sh.dd (Sh.A a)).neg) (.string s2) (.int .i64 (Sh.dd (Sh.A a)).e) (.bool (Sh.dd (Sh.B a)).neg) (.string s3) (.int .i64 (Sh.dd (Sh.B a)).e) (.bool (decide (a % 2 = 0)))) :
    Calls Tryz.prog 27 (#[.int .i64 i] ++ #[.pointer (some ⟨bs, 0, none⟩)]) w fun e w' => e = .returned (.bool (Sh.wB a (i + 1))) ∧ Below w.heap.size w w' := by
  have W := hid (zwithin_any a (i + 1) s1 s2 s3 w h0 hf (by omega) (by omega) htab g1 g2 g3)
  obtain ⟨⟨c0, c1, c2⟩, ⟨c3, c4, c5⟩, ⟨c6, c7, c8⟩, c9⟩ := hS.cells
  rw [show (((i + 1 : Nat)) : Int) = (i : Int) + 1 by omega] at W
  unfold spanV at W
  have hi2 : (i : Int) < 16 := by omega
  clear hS g1 g2 g3 htab h0 hf
  go_enter Tryz.func27, Tryz.ntmps27
  go_wp2_with fail
  refine W.out.mono ?_
  rintro e w1 ⟨t, rfl, -, hB⟩
  have K := hid (hB.trans ((alloc_b w1 (.cells #[.bool (Sh.wD a (i + 1)).neg, .string t, .int .i64 (Sh.wD a (i + 1)).e] 25)).mono hB.size))
  clear hB W
  go_wp2_with fail
  go_ret
  exact ⟨rfl, K.out⟩

def DigTold (d : Int) (w : World) (e : Ending) (w' : World) : Prop :=
  ∃ t, e = .returned (.tuple #[.agg #[.bool (Sh.zD d).neg, .string t, .int .i64 (Sh.zD d).e], .int .i64 (Sh.zR d)]) ∧ Hid (Str t (Sh.zD d).ds) ∧ Below w.heap.size w w'

set_option maxRecDepth 100000 in
set_option maxHeartbeats 4000000 in
theorem zdig_any (d : Int) (w : World) (h0 : 0 ≤ d) (h1 : d < 18446744073709551616) (htab : Tab10 w) :
    Calls Tryz.prog 7 #[.int .u64 d] w fun e w' => DigTold d w e w' := by
  have FN := hid (fun wx : World => zfinite_any d wx h0 h1)
  have NG := hid (fun wx : World => znegative_any d wx h0 h1)
  have Z := FR3.new w (.bool false) (.string ⟨#[]⟩) (.int .i64 0)
  have ZB := alloc_b w (.cells #[.bool false, .string ⟨#[]⟩, .int .i64 0] 25)
  by_cases hf : Ie.fnt d = true
  · have hfin : d % 9223372036854775808 < 9218868437227405312 := by rw [Sh.fnt_iff] at hf; exact of_decide_eq_true hf
    obtain ⟨a, ha⟩ : ∃ a, d % 9223372036854775808 = a := ⟨_, rfl⟩
    have a0 : 0 ≤ a := by omega
    have SP := hid (fun wx : World => zspan_any d wx h0 h1 hfin)
    have G : Hid (∀ (w' : World) (t : ByteArray), Str t (Sh.dd (Sh.dgt a)).ds → Below w.heap.size w w' → DigTold d w (.returned (.tuple #[.agg #[.bool (Sh.ng d), .string t, .int .i64 (Sh.dd (Sh.dgt a)).e], .int .i64 0])) w') := by
      intro w' t ht hB
      have e : Sh.zD d = ⟨Sh.ng d, (Sh.dd (Sh.dgt a)).ds, (Sh.dd (Sh.dgt a)).e⟩ := by rw [Sh.zD, if_pos hf, ha]
      exact ⟨t, by rw [e, Sh.zR, if_pos hf], by rw [e]; exact ht, hB⟩
    rw [ha] at SP hfin
    rw [hf] at FN
    have HZ := hid (And.intro Z ZB)
    have TB := hid (tab10_below htab ZB)
    clear Z ZB htab hf ha h0 h1
    go_enter Tryz.func7, Tryz.ntmps7
    go_wp2_with fail
    refine (FN.out _).mono ?_
    rintro e wz ⟨rfl, hz⟩
    subst hz
    go_wp2_with fail
    refine (SP.out _).mono ?_
    rintro e w1 ⟨v, rfl, ⟨s1, s2, s3, hv, g1, g2, g3⟩, B1⟩
    unfold spanV at hv
    subst hv
    have aL := alloc_b w1 (.cells #[.bool (Sh.dd (Sh.V a)).neg, .string s1, .int .i64 (Sh.dd (Sh.V a)).e, .bool (Sh.dd (Sh.A a)).neg, .string s2, .int .i64 (Sh.dd (Sh.A a)).e, .bool (Sh.dd (Sh.B a)).neg, .string s3, .int .i64 (Sh.dd (Sh.B a)).e, .bool (decide (a % 2 = 0))] 51)
    have HB1 := hid (B1.trans (aL.mono B1.size))
    have TN : Hid (Ten (w1.alloc (.cells #[.bool (Sh.dd (Sh.V a)).neg, .string s1, .int .i64 (Sh.dd (Sh.V a)).e, .bool (Sh.dd (Sh.A a)).neg, .string s2, .int .i64 (Sh.dd (Sh.A a)).e, .bool (Sh.dd (Sh.B a)).neg, .string s3, .int .i64 (Sh.dd (Sh.B a)).e, .bool (decide (a % 2 = 0))] 51)) w1.heap.size (.bool (Sh.dd (Sh.V a)).neg) (.string s1) (.int .i64 (Sh.dd (Sh.V a)).e) (.bool (Sh.dd (Sh.A a)).neg) (.string s2) (.int .i64 (Sh.dd (Sh.A a)).e) (.bool (Sh.dd (Sh.B a)).neg) (.string s3) (.int .i64 (Sh.dd (Sh.B a)).e) (.bool (decide (a % 2 = 0)))) := RB.new w1 51 _
    have T1 := hid (tab10_below TB.out HB1.out)
    have SE := hid (search_any 27 #[.pointer (some ⟨w1.heap.size, 0, none⟩)] (fun i => Sh.wB a (i + 1)) _ (enters_of Tryz.func27 (by kernel_rfl) rfl) (fun wx i hB hi => zclo_any a i w1.heap.size s1 s2 s3 wx a0 hfin hi (tab10_below T1.out hB) g1 g2 g3 (RB.below TN.out hB (RB.lt TN.out))))
    have GS := hid (And.intro g1 (And.intro g2 g3))
    clear B1 aL g1 g2 g3 SP FN TB
    go_wp2_with fail
    refine SE.out.mono ?_
    rintro e w2 ⟨f, rfl, hf16, hf1, hf2, B2⟩
    have fn0 : f = Sh.n0 a := Sh.isn_of a0 hf16 (fun h => by have q : Sh.wB a (f - 1 + 1) = false := hf1 h; rw [show f - 1 + 1 = f by omega] at q; exact q) hf2
    have T2 := hid (tab10_below T1.out B2)
    have TN2 := RB.below TN.out B2 (RB.lt TN.out)
    have HB2 := hid (HB1.out.trans (B2.mono HB1.out.size))
    obtain ⟨⟨c0, c1, c2⟩, ⟨c3, c4, c5⟩, ⟨c6, c7, c8⟩, c9⟩ := Ten.cells TN2
    have W := zwithin_any a (f + 1) s1 s2 s3 w2 a0 hfin (by omega) (by omega) T2.out GS.out.1 GS.out.2.1 GS.out.2.2
    have ED : Sh.wD a (f + 1) = Sh.dd (Sh.dgt a) := by rw [Sh.wD, fn0, Sh.wn_dgt a0]
    unfold WnTold at W
    rw [ED] at W
    rw [show (((f + 1 : Nat)) : Int) = (f : Int) + 1 by omega] at W
    unfold spanV at W
    have HW := hid W
    have f16 : (f : Int) ≤ 16 := by omega
    generalize Sh.wB a (f + 1) = ok at *
    generalize hDD : Sh.dd (Sh.dgt a) = DD at *
    clear W ED TN2 SE B2 hf1 hf2 hf16 fn0 GS TN T1 T2 HB1 hDD
    go_wp2_with fail
    refine HW.out.mono ?_
    rintro e w3 ⟨t, rfl, ht, B3⟩
    have RZ3 := HZ.out.1.below (HB2.out.trans (B3.mono HB2.out.size)) HZ.out.1.lt
    have BW3 := HZ.out.2.trans ((HB2.out.trans (B3.mono HB2.out.size)).mono HZ.out.2.size)
    have RZA := hid (RZ3.below (alloc_b w3 (.cells #[.bool (Sh.ng d), .string t, .int .i64 DD.e] 25)) RZ3.lt)
    have RZB := RZ3.below (alloc_b w3 (.cells #[.bool DD.neg, .string t, .int .i64 DD.e] 25)) RZ3.lt
    have K := hid (G.out _ t ht (fset3_below (u0 := .bool (Sh.ng d)) (u1 := .string t) (u2 := .int .i64 DD.e) (b := w.heap.size) (BW3.trans ((alloc_b w3 (.cells #[.bool (Sh.ng d), .string t, .int .i64 DD.e] 25)).mono BW3.size)) (Nat.le_refl _)))
    obtain ⟨⟨a0', a1, a2⟩, a3, a4, a5⟩ := RZA.out.cells
    obtain ⟨⟨b0, b1, b2⟩, b3, b4, b5⟩ := RZB.cells
    clear HW B3 HB2 c0 c1 c2 c3 c4 c5 c6 c7 c8 c9 ht RZ3 BW3 RZB
    generalize Sh.ng d = ngd at *
    go_wp2_with fail
    refine (NG.out _).mono ?_
    rintro e wz ⟨rfl, hz⟩
    subst hz
    go_wp2_with fail
    (try simp only [Exit.inBlock, Exit.then])
    refine bodyPost_ret (fresults_row_tmp rfl _ _ w.heap.size 25 _ (0, 0) _ rfl (RZA.out.put _ _ _) Tryz.underlying25 rfl (by kernel_rfl)) rfl ?_
    exact K.out
  · have hf' : Ie.fnt d = false := by simpa using hf
    have G : Hid (∀ (w' : World), Below w.heap.size w w' → DigTold d w (.returned (.tuple #[.agg #[.bool false, .string ⟨#[]⟩, .int .i64 0], .int .i64 5])) w') := by
      intro w' hB
      have e : Sh.zD d = ⟨false, [], 0⟩ := by rw [Sh.zD, if_neg hf]
      exact ⟨⟨#[]⟩, by rw [e, Sh.zR, if_neg hf], by rw [e]; rfl, hB⟩
    rw [hf'] at FN
    have HZ := hid (And.intro Z ZB)
    have K := hid (G.out _ ZB)
    obtain ⟨⟨c0, c1, c2⟩, f0, f1, f2⟩ := Z.cells
    clear Z ZB htab hf hf' G
    go_enter Tryz.func7, Tryz.ntmps7
    go_wp2_with fail
    refine (FN.out _).mono ?_
    rintro e wz ⟨rfl, hz⟩
    replace hz := hz.symm
    subst hz
    go_wp2_with fail
    (try simp only [Exit.inBlock, Exit.then])
    refine bodyPost_ret (fresults_row_tmp rfl _ _ w.heap.size 25 _ (0, 0) _ rfl HZ.out.1 Tryz.underlying25 rfl (by kernel_rfl)) rfl ?_
    exact K.out
end Go.Proofs.YtjkefcikepnbpaaGreatDoor

namespace Go.Proofs.YtjkefcikepnbpaaGreatDoor
open Go Go.RowKit Go.Deep

theorem results_cell_tmp_tmp {fn : Func} {p u v : Tmp} {ty : TypeId} (h : fn.results = #[.cell p ty, .tmp u, .tmp v]) (tmps : Array Value) (P : Program) (w : World) :
    (results fn tmps).run P w =
      ((asAddr (tmps.getD p undef)).run P w).andThen fun a w₁ => ((loadVar ty a).run P w₁).andThen fun x w₂ => .ok (.tuple #[x, tmps.getD u undef, tmps.getD v undef]) w₂ := by
  simp only [results, h]
  simp [Sem.run_bind, Result.andThen]
theorem results_row_tmp2 {P : Program} {fn : Func} {p u v : Tmp} {ty : TypeId} (h : fn.results = #[.cell p ty, .tmp u, .tmp v]) (tmps : Array Value) (w : World) (g : Nat) (t : TypeId) (cs : Array Value) (fr : Nat × Nat) (d : TypeDesc)
    (hp : tmps.getD p undef = .pointer (some ⟨g, 0, none⟩)) (hg : w.heap[g]? = some (.cells cs t fr))
    (hu : P.underlying ty = some d) (hd : (match d with | .struct _ | .array _ _ => true | _ => false) = true) (hi : (P.info? ty).map (·.size) = some cs.size) :
    (results fn tmps).run P w = .ok (.tuple #[.agg cs, tmps.getD u undef, tmps.getD v undef]) w := by
  rw [results_cell_tmp_tmp h, hp]
  simp [asAddr, run_loadVar_row w g t ty cs fr d hg hu hd hi, Result.andThen]

def WiTold (d : Int) (n : Nat) (w : World) (e : Ending) (w' : World) : Prop :=
  ∃ t, e = .returned (.tuple #[.agg #[.bool (Sh.wB (d % 9223372036854775808) n && Sh.ng d), .string t, .int .i64 (Sh.wD (d % 9223372036854775808) n).e], .bool (Sh.wB (d % 9223372036854775808) n), .int .i64 0]) ∧ Hid (Str t (Sh.wD (d % 9223372036854775808) n).ds) ∧ Below w.heap.size w w'

set_option maxRecDepth 100000 in
set_option maxHeartbeats 4000000 in
theorem zwi_any (d : Int) (n : Nat) (w : World) (h0 : 0 ≤ d) (h1 : d < 18446744073709551616) (hf : d % 9223372036854775808 < 9218868437227405312) (n1 : 1 ≤ n) (n2 : n ≤ 17) (htab : Tab10 w) :
    Calls Tryz.prog 13 #[.int .u64 d, .int .i64 n] w fun e w' => WiTold d n w e w' := by
  have FN := hid (fun wx : World => zfinite_any d wx h0 h1)
  have NG := hid (fun wx : World => znegative_any d wx h0 h1)
  have Z := FR3.new w (.bool false) (.string ⟨#[]⟩) (.int .i64 0)
  have ZB := alloc_b w (.cells #[.bool false, .string ⟨#[]⟩, .int .i64 0] 25)
  have SP := hid (fun wx : World => zspan_any d wx h0 h1 hf)
  rw [Sh.fnt_iff, decide_eq_true hf] at FN
  have G : Hid (∀ (w' : World) (t : ByteArray), Hid (Str t (Sh.wD (d % 9223372036854775808) n).ds) → Below w.heap.size w w' → WiTold d n w (.returned (.tuple #[.agg #[.bool (Sh.wB (d % 9223372036854775808) n && Sh.ng d), .string t, .int .i64 (Sh.wD (d % 9223372036854775808) n).e], .bool (Sh.wB (d % 9223372036854775808) n), .int .i64 0])) w') := fun w' t ht hB => ⟨t, rfl, ht, hB⟩
  obtain ⟨a, ha⟩ : ∃ a, d % 9223372036854775808 = a := ⟨_, rfl⟩
  have a0 : 0 ≤ a := by omega
  rw [ha] at SP hf G
  have HZ := hid (And.intro Z ZB)
  have TB := hid (tab10_below htab ZB)
  have n1' : ¬ (n : Int) < 1 := by omega
  have n2' : (n : Int) ≤ 17 := by omega
  clear Z ZB htab ha h0 h1
  go_enter Tryz.func13, Tryz.ntmps13
  go_wp2_with fail
  refine (FN.out _).mono ?_
  rintro e wz ⟨rfl, hz⟩
  subst hz
  go_wp2_with fail
  refine (SP.out _).mono ?_
  rintro e w1 ⟨v, rfl, ⟨s1, s2, s3, hv, g1, g2, g3⟩, B1⟩
  subst hv
  have W := zwithin_any a n s1 s2 s3 w1 a0 hf n1 n2 (tab10_below TB.out B1) g1 g2 g3
  have HB2 := hid B1
  have HW := hid W
  unfold WnTold at HW
  generalize Sh.wB a n = ok at *
  generalize Sh.wD a n = DD at *
  clear W B1 SP FN g1 g2 g3 TB
  go_wp2_with fail
  refine HW.out.mono ?_
  rintro e w3 ⟨t, rfl, ht, B3⟩
  have RZ3 := HZ.out.1.below (HB2.out.trans (B3.mono HB2.out.size)) HZ.out.1.lt
  have BW3 := HZ.out.2.trans ((HB2.out.trans (B3.mono HB2.out.size)).mono HZ.out.2.size)
  have RZA := hid (RZ3.below (alloc_b w3 (.cells #[.bool (ok && Sh.ng d), .string t, .int .i64 DD.e] 25)) RZ3.lt)
  have RZB := RZ3.below (alloc_b w3 (.cells #[.bool DD.neg, .string t, .int .i64 DD.e] 25)) RZ3.lt
  have K := hid (G.out _ t ht (fset3_below (u0 := .bool (ok && Sh.ng d)) (u1 := .string t) (u2 := .int .i64 DD.e) (b := w.heap.size) (BW3.trans ((alloc_b w3 (.cells #[.bool (ok && Sh.ng d), .string t, .int .i64 DD.e] 25)).mono BW3.size)) (Nat.le_refl _)))
  generalize Sh.ng d = ngd at *
  obtain ⟨⟨b0, b1, b2⟩, b3, b4, b5⟩ := RZB.cells
  clear HW B3 HB2 ht RZ3 BW3 RZB
  cases ok
  · rw [Bool.false_and] at K RZA
    obtain ⟨⟨a0', a1, a2⟩, a3, a4, a5⟩ := RZA.out.cells
    go_wp2_with fail
    (try simp only [Exit.inBlock, Exit.then])
    refine bodyPost_ret (results_row_tmp2 rfl _ _ w.heap.size 25 _ (0, 0) _ rfl (RZA.out.put _ _ _) Tryz.underlying25 rfl (by kernel_rfl)) rfl ?_
    exact K.out
  · rw [Bool.true_and] at K RZA
    obtain ⟨⟨a0', a1, a2⟩, a3, a4, a5⟩ := RZA.out.cells
    go_wp2_with fail
    refine (NG.out _).mono ?_
    rintro e wz ⟨rfl, hz⟩
    subst hz
    go_wp2_with fail
    (try simp only [Exit.inBlock, Exit.then])
    refine bodyPost_ret (results_row_tmp2 rfl _ _ w.heap.size 25 _ (0, 0) _ rfl (RZA.out.put _ _ _) Tryz.underlying25 rfl (by kernel_rfl)) rfl ?_
    exact K.out

set_option maxRecDepth 100000 in
set_option maxHeartbeats 4000000 in
/-- Holds, where nothing is refused and no sign is set. -/
theorem zhold_pos (d : Int) (s : ByteArray) (X : Sc.D) (w : World) (h0 : 0 ≤ d) (h1 : d < 9218868437227405312) (hs : Str s X.ds) (hX : Sh.Nm X) (hn : X.neg = false) (hl : X.ds.length ≤ 100000) :
    Calls Tryz.prog 23 #[.agg #[.bool false, .string s, .int .i64 X.e], .int .u64 d] w fun e w' => e = .returned (.tuple #[.bool (Sh.hD (Sh.dd (Sh.A d)) (Sh.dd (Sh.B d)) X (decide (d % 2 = 0))), .int .i64 0]) ∧ Below w.heap.size w w' := by
  have hm : d % 9223372036854775808 = d := by omega
  have FN := hid (fun wx : World => zfinite_any d wx h0 (by omega))
  have NG := hid (fun wx : World => znegative_any d wx h0 (by omega))
  have SP := hid (fun wx : World => zspan_any d wx h0 (by omega) (by omega))
  rw [hm] at SP
  rw [Sh.fnt_iff, hm, decide_eq_true h1] at FN
  rw [show Sh.ng d = false from decide_eq_false (by omega)] at NG
  have NO := fun wx : World => norm_any false s X.ds X.e wx hs (by omega)
  have E0 : errOf X.ds X.e = 0 ∧ nmd false X.ds X.e = X := by
    refine ⟨by rw [errOf, if_pos hX.dec], ?_⟩
    rw [nmd, if_pos hX.dec, ← hn]
    exact hX.fix
  unfold NormTold decV at NO
  rw [E0.1, E0.2] at NO
  have HN := hid NO
  have HO : Hid (∀ (wx : World) (s1 s2 s3 t : ByteArray), Str s2 (Sh.dd (Sh.A d)).ds → Str s3 (Sh.dd (Sh.B d)).ds → Str t X.ds → Calls Tryz.prog 41 #[spanV (Sh.dd (Sh.V d)) (Sh.dd (Sh.A d)) (Sh.dd (Sh.B d)) s1 s2 s3 (decide (d % 2 = 0)), .agg #[.bool X.neg, .string t, .int .i64 X.e]] wx fun e w' => e = .returned (.bool (Sh.hD (Sh.dd (Sh.A d)) (Sh.dd (Sh.B d)) X (decide (d % 2 = 0)))) ∧ Below wx.heap.size wx w') :=
    fun wx s1 s2 s3 t q2 q3 qt => zholds_any _ _ _ X _ s1 s2 s3 t wx (Sh.nmA h0 h1) (Sh.nmB h0 h1) hX q2 q3 qt
  rw [hn] at HO
  have SP2 : Hid (∀ wx : World, Calls Tryz.prog 25 #[.int .u64 d] wx fun r w' => ∃ s1 s2 s3, r = .returned (spanV (Sh.dd (Sh.V d)) (Sh.dd (Sh.A d)) (Sh.dd (Sh.B d)) s1 s2 s3 (decide (d % 2 = 0))) ∧ Hid (Str s2 (Sh.dd (Sh.A d)).ds ∧ Str s3 (Sh.dd (Sh.B d)).ds) ∧ Below wx.heap.size wx w') := by
    intro wx
    refine (SP.out wx).mono ?_
    rintro e w' ⟨v, rfl, ⟨s1, s2, s3, hv, g1, g2, g3⟩, hB⟩
    exact ⟨s1, s2, s3, by rw [hv], ⟨g2, g3⟩, hB⟩
  have ZB := hid (alloc_b w (.cells #[.bool false, .string s, .int .i64 X.e] 25))
  clear E0 NO hs hX SP hm hl
  generalize Sh.hD (Sh.dd (Sh.A d)) (Sh.dd (Sh.B d)) X (decide (d % 2 = 0)) = RB0 at *
  generalize decide (d % 2 = 0) = cb at *
  generalize Sh.dd (Sh.V d) = DV at *
  generalize Sh.dd (Sh.A d) = DA at *
  generalize Sh.dd (Sh.B d) = DB at *
  unfold spanV at HO SP2
  go_enter Tryz.func23, Tryz.ntmps23
  go_wp2_with fail
  refine (HN.out _).mono ?_
  rintro e w1 ⟨v, rfl, ⟨t, hv, ht⟩, B1⟩
  rw [hn] at hv
  unfold decV at hv
  subst hv
  have HB1 := hid (ZB.out.trans (B1.mono ZB.out.size))
  have HT := hid ht
  clear B1 HN ht
  go_wp2_with fail
  refine (FN.out _).mono ?_
  rintro e wz ⟨rfl, hz⟩
  subst hz
  go_upto_region 6 with fail
  have c0 := (FR3.new w1 (.bool false) (.string t) (.int .i64 X.e)).cells.1.1
  go_quiet (with_reducible exact Calls.quiet_of_same (NG.out _))
  have rY : FR3 ((w1.alloc (.cells #[.bool false, .string t, .int .i64 X.e] 25)).drewN nq) w1.heap.size (.bool false) (.string t) (.int .i64 X.e) := FR3.new w1 _ _ _
  have bY := below_drewN (HB1.out.trans ((alloc_b w1 (.cells #[.bool false, .string t, .int .i64 X.e] 25)).mono HB1.out.size)) nq
  generalize (w1.alloc (.cells #[.bool false, .string t, .int .i64 X.e] 25)).drewN nq = wY at *
  have rY2 : FR3 (wY.setCell ⟨w1.heap.size, 0, none⟩ (.bool false)) w1.heap.size (.bool false) (.string t) (.int .i64 X.e) := fset1 (o := 0) (v := .bool false) (c' := #[.bool false, .string t, .int .i64 X.e]) rY (by simp [Array.setIfInBounds])
  have bY2 := bY.setCell (p := ⟨w1.heap.size, 0, none⟩) HB1.out.size (.bool false)
  obtain ⟨⟨q0, q1, q2⟩, q3, q4, q5⟩ := rY.cells
  obtain ⟨SS, KS, CS, BS, MS⟩ := state (fun w' => FR3 w' w1.heap.size (.bool false) (.string t) (.int .i64 X.e)) w (fun _ _ g hB => FR3.below g hB (FR3.lt g))
  have S0 := hid (MS.out _ rY2 bY2)
  have FT : Hid (∀ wx : World, SS wx → (wx.cell? ⟨w1.heap.size, 0, none⟩ = some (.bool false) ∧ wx.cell? ⟨w1.heap.size, 1, none⟩ = some (.string t) ∧ wx.cell? ⟨w1.heap.size, 2, none⟩ = some (.int .i64 X.e))) := fun wx h => (CS.out wx h).cells.1
  clear rY rY2 bY bY2 MS CS c0
  go_upto_region 9 with fail
  generalize wY.setCell ⟨w1.heap.size, 0, none⟩ (.bool false) = wX at *
  have T0 := hid (KS.out _ _ S0.out (drew_nil _))
  clear S0 q0 q1 q2 q3 q4 q5
  have HO2 : Hid (∀ (wx : World) (s1 s2 s3 : ByteArray), Hid (Str s2 DA.ds ∧ Str s3 DB.ds) → Calls Tryz.prog 41 #[.agg #[.bool DV.neg, .string s1, .int .i64 DV.e, .bool DA.neg, .string s2, .int .i64 DA.e, .bool DB.neg, .string s3, .int .i64 DB.e, .bool cb], .agg #[.bool false, .string t, .int .i64 X.e]] wx fun e w' => e = .returned (.bool RB0) ∧ Below wx.heap.size wx w') := fun wx s1 s2 s3 h => HO.out wx s1 s2 s3 t h.out.1 h.out.2 HT.out
  go_region_held3 (fun wx => (wx.cell? ⟨w1.heap.size, 0, none⟩ = some (.bool false) ∧ wx.cell? ⟨w1.heap.size, 1, none⟩ = some (.string t) ∧ wx.cell? ⟨w1.heap.size, 2, none⟩ = some (.int .i64 X.e))) (first | (with_reducible exact FT.out _ T2.out) | (with_reducible exact FT.out _ T1.out) | (with_reducible exact FT.out _ T0.out)) (first
    | (go_at_call 25; with_reducible refine (SP2.out _).mono ?_; rintro e w5 ⟨s1, s2, s3, rfl, HG, hB⟩; have T1 := hid (KS.out _ _ T0.out hB); clear hB)
    | (go_at_call 41; with_reducible refine (HO2.out _ _ _ _ HG).mono ?_; rintro e w6 ⟨rfl, hB⟩; have T2 := hid (KS.out _ _ T1.out hB); clear hB))
  have K := hid (BS.out _ T2.out)
  clear T0 T1 T2 FT KS BS HO HO2 SP2
  go_wp2_with fail
  go_ret2
  exact ⟨rfl, K.out⟩
end Go.Proofs.YtjkefcikepnbpaaGreatDoor

namespace Go.Proofs.YtjkefcikepnbpaaGreatDoor
open Go Go.RowKit Go.Deep

namespace Sh
end Sh

end Go.Proofs.YtjkefcikepnbpaaGreatDoor

namespace Go.Proofs.YtjkefcikepnbpaaGreatDoor
open Go Go.RowKit Go.Deep

namespace Sh
theorem dd_self {U : Int} (h : 0 ≤ U) : (⟨false, (dd U).ds, (dd U).e⟩ : Sc.D) = dd U := by
  have o := (dd_is h).1.neg
  cases hD : dd U with
  | mk n ds e => rw [hD] at o; simp at o; rw [o]
/-- How great a gap can be. -/
theorem gap_bd {xs ys : List Int} {t1 t2 n : Nat} (hx : Digs xs) (hy : Digs ys) (h1 : xs.length + t1 ≤ n) (h2 : ys.length + t2 ≤ n) : ((dv xs * 10 ^ t1 - dv ys * 10 ^ t2).natAbs : Int) < 10 ^ n := by
  have up : ∀ {zs : List Int} {t : Nat}, Digs zs → zs.length + t ≤ n → 0 ≤ dv zs * 10 ^ t ∧ dv zs * 10 ^ t < 10 ^ n := by
    intro zs t hz hl
    have b := dv_bd hz
    have p := Fx.p_pos t
    refine ⟨Int.mul_nonneg b.1 (Int.le_of_lt p), ?_⟩
    obtain ⟨k, hk⟩ : ∃ k, n = zs.length + t + k := ⟨n - (zs.length + t), by omega⟩
    rw [hk, Int.pow_add, Int.pow_add]
    have q : (1 : Int) ≤ 10 ^ k := Fx.p_pos k
    have s1 := Int.mul_lt_mul_of_pos_right b.2 p
    have s2 := Int.mul_le_mul_of_nonneg_left q (Int.le_of_lt (Int.lt_of_le_of_lt (Int.mul_nonneg b.1 (Int.le_of_lt p)) s1))
    rw [Int.mul_one] at s2
    omega
  have a := up hx h1
  have b := up hy h2
  omega
end Sh

/-- What stands in memory as the law goes on. -/
structure NeS (w : World) (bx bv g : Nat) (neg : Bool) (t : ByteArray) (e : Int) (vn : Bool) (u : ByteArray) (f : Int) (n : Nat) (G : Int) (W : World) : Prop where
  x : FR3 W bx (.bool neg) (.string t) (.int .i64 e)
  v : FR3 W bv (.bool vn) (.string u) (.int .i64 f)
  m : OwnB W g (Dn.dg 10 n G)
  b : Below w.heap.size w W
theorem ownb_lt {W : World} {g : Nat} {zs : List Int} (h : OwnB W g zs) : g < W.heap.size := by
  unfold OwnB at h
  rcases Nat.lt_or_ge g W.heap.size with hl | hl
  · exact hl
  · simp [Array.getElem?_eq_none hl] at h
theorem ownb_on {W W' : World} {g : Nat} {zs : List Int} (h : OwnB W g zs) (b : Below W.heap.size W W') : OwnB W' g zs := by
  unfold OwnB at *
  rw [b.block g (ownb_lt h)]; exact h
theorem fr3_on {W W' : World} {g : Nat} {v0 v1 v2 : Value} (h : FR3 W g v0 v1 v2) (b : Below W.heap.size W W') : FR3 W' g v0 v1 v2 := h.below b h.lt
theorem bel_on {w W W' : World} (h : Below w.heap.size w W) (b : Below W.heap.size W W') : Below w.heap.size w W' := h.trans (b.mono h.size)
theorem NeS.on {w : World} {bx bv g : Nat} {neg : Bool} {t : ByteArray} {e : Int} {vn : Bool} {u : ByteArray} {f : Int} {n : Nat} {G : Int} {W W' : World} (h : NeS w bx bv g neg t e vn u f n G W) (b : Below W.heap.size W W') : NeS w bx bv g neg t e vn u f n G W' :=
  ⟨fr3_on h.x b, fr3_on h.v b, ownb_on h.m b, bel_on h.b b⟩
end Go.Proofs.YtjkefcikepnbpaaGreatDoor

namespace Go.Proofs.YtjkefcikepnbpaaGreatDoor
open Go Go.RowKit Go.Deep

structure StS (w : World) (bx bv : Nat) (neg : Bool) (t : ByteArray) (e : Int) (u : ByteArray) (f : Int) (W : World) : Prop where
  x : FR3 W bx (.bool neg) (.string t) (.int .i64 e)
  v : FR3 W bv (.bool neg) (.string u) (.int .i64 f)
  b : Below w.heap.size w W
theorem StS.on {w : World} {bx bv : Nat} {neg : Bool} {t : ByteArray} {e : Int} {u : ByteArray} {f : Int} {W W' : World} (h : StS w bx bv neg t e u f W) (b : Below W.heap.size W W') : StS w bx bv neg t e u f W' :=
  ⟨fr3_on h.x b, fr3_on h.v b, bel_on h.b b⟩
/-- The gap that was found last. -/
inductive StI (N0 : Nat) (kn : Nat → Nat) (Gn lon : Nat → Int) (n : Nat) (lv wv : Value) (W : World) : Prop
  | none (h : n ≤ N0) (a : lv = .slice none 0 0) (b : wv = .int .i64 0) : StI N0 kn Gn lon n lv wv W
  | more (h : N0 < n) (g : Nat) (a : lv = .slice (some ⟨g, 0, none⟩) (kn (n - 1)) (kn (n - 1))) (b : wv = .int .i64 (lon (n - 1))) (o : OwnB W g (Dn.dg 10 (kn (n - 1)) (Gn (n - 1)))) : StI N0 kn Gn lon n lv wv W

set_option maxRecDepth 100000 in
set_option maxHeartbeats 8000000 in
theorem steps_of (d : Int) (neg : Bool) (t u : ByteArray) (e f : Int) (N0 : Nat) (tn : Nat → ByteArray) (en lon : Nat → Int) (kn : Nat → Nat) (Gn : Nat → Int) (w : World)
    (tl : t.size = N0) (N1 : 1 ≤ N0) (N17 : N0 ≤ 17) (tN : tn N0 = t) (eN : en N0 = e)
    (AW : Calls Tryz.prog 6 #[] w fun r w' => r = .returned (.bool true) ∧ Below w.heap.size w w')
    (DG : ∀ W, Below w.heap.size w W → Calls Tryz.prog 7 #[.int .u64 d] W fun r w' => r = .returned (.tuple #[.agg #[.bool neg, .string t, .int .i64 e], .int .i64 0]) ∧ Below W.heap.size W w')
    (FN : ∀ W, Calls Tryz.prog 9 #[.int .u64 d] W fun r w' => r = .returned (.bool true) ∧ w' = W)
    (AL : ∀ W, Below w.heap.size w W → Calls Tryz.prog 14 #[.int .u64 d] W fun r w' => r = .returned (.tuple #[.agg #[.bool neg, .string u, .int .i64 f], .int .i64 0]) ∧ Below W.heap.size W w')
    (MO : ∀ W, Calls Tryz.prog 15 #[.agg #[.bool neg, .string u, .int .i64 f]] W fun r w' => r = .returned (.bool true) ∧ Below W.heap.size W w')
    (W0 : ∀ n : Nat, 1 ≤ n → n < N0 → ∀ W, Below w.heap.size w W → Calls Tryz.prog 13 #[.int .u64 d, .int .i64 (n : Int)] W fun r w' => r = .returned (.tuple #[.agg #[.bool false, .string ⟨#[]⟩, .int .i64 0], .bool false, .int .i64 0]) ∧ Below W.heap.size W w')
    (W1 : ∀ n : Nat, N0 ≤ n → n ≤ 17 → ∀ W, Below w.heap.size w W → Calls Tryz.prog 13 #[.int .u64 d, .int .i64 (n : Int)] W fun r w' => r = .returned (.tuple #[.agg #[.bool neg, .string (tn n), .int .i64 (en n)], .bool true, .int .i64 0]) ∧ Below W.heap.size W w')
    (EX : ∀ n : Nat, N0 ≤ n → n ≤ 17 → ∀ W, Below w.heap.size w W → Calls Tryz.prog 10 #[.agg #[.bool neg, .string (tn n), .int .i64 (en n)]] W fun r w' => r = .returned (.tuple #[.int .u64 d, .int .i64 0]) ∧ Below W.heap.size W w')
    (SZ : ∀ n : Nat, N0 ≤ n → n ≤ 17 → (tn n).size ≤ n ∧ 1 ≤ (tn n).size ∧ -400 ≤ en n ∧ en n ≤ 400)
    (GP : ∀ n : Nat, N0 ≤ n → n ≤ 17 → ∀ W, Calls Tryz.prog 16 #[.agg #[.bool neg, .string (tn n), .int .i64 (en n)], .agg #[.bool neg, .string u, .int .i64 f]] W fun r w' => GapTold (kn n) (Gn n) (lon n) W r w')
    (BD : ∀ n : Nat, N0 ≤ n → n ≤ 17 → 0 ≤ Gn n ∧ Gn n < 10 ^ kn n ∧ kn n ≤ 5000)
    (CM : ∀ n : Nat, N0 < n → n ≤ 17 → ∃ (m : Int) (sa sb : Nat), (lon n = m + sa ∧ lon (n - 1) = m + sb ∧ (sa = 0 ∨ sb = 0) ∧ -5000 ≤ m ∧ m ≤ 5000 ∧ sa ≤ 10000 ∧ sb ≤ 10000) ∧ ¬ 0 < Sc.cmpI (Gn n * 10 ^ sa) (Gn (n - 1) * 10 ^ sb))
    (WX : ∀ n : Int, n = 18 ∨ n = 0 → ∀ W, Calls Tryz.prog 13 #[.int .u64 d, .int .i64 n] W fun r w' => r = .returned (.tuple #[.agg #[.bool false, .string ⟨#[]⟩, .int .i64 0], .bool false, .int .i64 1]) ∧ Below W.heap.size W w') :
    Calls Tryz.prog 4 #[.int .u64 d] w fun r w' => r = .returned (.bool true) ∧ Below w.heap.size w w' := by
  have AW := hid AW
  have DG := hid DG
  have FN := hid FN
  have AL := hid AL
  have MO := hid MO
  have W0 := hid W0
  have W1 := hid W1
  have EX := hid EX
  have SZ := hid SZ
  have GP := hid GP
  have BD := hid BD
  have CM := hid CM
  have WX18 := hid (WX 18 (.inl rfl))
  have WX0 := hid (WX 0 (.inr rfl))
  have TN := hid tN
  have EN := hid eN
  have N1 := hid N1
  have N17 := hid N17
  clear WX tN eN
  go_enter Tryz.func4, Tryz.ntmps4
  go_wp2_with fail
  refine AW.out.mono ?_
  rintro r w1 ⟨rfl, b1⟩
  have B1 := hid b1
  clear b1 AW
  go_wp2_with fail
  refine (DG.out _ B1.out).mono ?_
  rintro r w2 ⟨rfl, b2⟩
  have S2 := hid (And.intro (bel_on (bel_on B1.out b2) (alloc_b w2 (.cells #[.bool neg, .string t, .int .i64 e] 25))) (FR3.new w2 (.bool neg) (.string t) (.int .i64 e)))
  clear b2 B1 DG
  go_upto_region 5 with fail
  generalize w2.alloc (.cells #[.bool neg, .string t, .int .i64 e] 25) = w3 at *
  generalize w2.heap.size = bx at *
  go_wp2_with fail
  refine (FN.out _).mono ?_
  rintro r w4 ⟨rfl, hw4⟩
  rw [hw4]
  clear hw4 w4 FN
  go_wp2_with fail
  refine (AL.out _ S2.out.1).mono ?_
  rintro r w5 ⟨rfl, b5⟩
  have c5 := alloc_b w5 (.cells #[.bool neg, .string u, .int .i64 f] 25)
  have S5 : Hid (StS w bx w5.heap.size neg t e u f (w5.alloc (.cells #[.bool neg, .string u, .int .i64 f] 25))) := ⟨fr3_on (fr3_on S2.out.2 b5) c5, FR3.new w5 (.bool neg) (.string u) (.int .i64 f), bel_on (bel_on S2.out.1 b5) c5⟩
  clear b5 c5 S2 AL
  go_upto_region 9 with fail
  generalize w5.alloc (.cells #[.bool neg, .string u, .int .i64 f] 25) = w6 at *
  generalize w5.heap.size = bv at *
  obtain ⟨⟨v0, v1, v2⟩, _⟩ := S5.out.v.cells
  go_wp2_with fail
  refine (MO.out _).mono ?_
  rintro r w7 ⟨rfl, b7⟩
  have I0 := hid (S5.out.on b7)
  clear b7 S5 MO v0 v1 v2
  go_wp2_with fail
  go_loopg [11, 12, 13] 17 (fun q lv wv nv wr => ∃ n : Nat, Hid (1 ≤ n ∧ n + q = 18) ∧ nv = .int .i64 (n : Int) ∧ Hid (StS w bx bv neg t e u f wr) ∧ StI N0 kn Gn lon n lv wv wr)
  case atStart => exact ⟨1, by rw [Hid]; omega, rfl, I0, .none N1.out rfl rfl⟩
  case round =>
    obtain ⟨n, hnm, rfl, S, J⟩ := hrel
    clear I0
    by_cases n18 : n = 18
    · subst n18
      clear J W0 W1 EX GP CM BD
      go_wp2_with fail
      refine (WX18.out _).mono ?_
      rintro r w1 ⟨rfl, b1⟩
      have F1 := hid (bel_on (bel_on S.out.b b1) (alloc_b w1 (.cells #[.bool false, .string ⟨#[]⟩, .int .i64 0] 25)))
      clear b1 S WX18
      go_upto_region 29 with fail
      generalize w1.alloc (.cells #[.bool false, .string ⟨#[]⟩, .int .i64 0] 25) = w2 at *
      generalize w1.heap.size = z1 at *
      go_wp2_with fail
      refine (WX0.out _).mono ?_
      rintro r w3 ⟨rfl, b3⟩
      have F3 := hid (bel_on (bel_on F1.out b3) (alloc_b w3 (.cells #[.bool false, .string ⟨#[]⟩, .int .i64 0] 25)))
      clear b3 F1 WX0
      go_wp2_with fail
      go_ret
      exact ⟨rfl, F3.out⟩
    · have ni : (n : Int) ≤ 17 := by have := hnm.out; omega
      have tli : (t.size : Int) = (N0 : Int) := by omega
      rcases Nat.lt_trichotomy n N0 with c | c | c
      · have WK := hid (W0.out n hnm.out.1 c)
        have g1 : ¬ (N0 : Int) ≤ (n : Int) := by omega
        have g2 : ((n : Int) == (N0 : Int)) = false := by rw [beq_eq_false_iff_ne]; omega
        clear W0 W1 EX GP CM BD
        go_wp2_with fail
        refine (WK.out _ S.out.b).mono ?_
        rintro r w1 ⟨rfl, b1⟩
        have S1 := hid ((S.out.on b1).on (alloc_b w1 (.cells #[.bool false, .string ⟨#[]⟩, .int .i64 0] 25)))
        clear b1 S WK
        go_upto_region 17 with fail
        generalize w1.alloc (.cells #[.bool false, .string ⟨#[]⟩, .int .i64 0] 25) = w2 at *
        generalize w1.heap.size = yb at *
        obtain ⟨⟨x0, x1, x2⟩, _⟩ := S1.out.x.cells
        cases J with
        | more h => exact absurd h (by omega)
        | none h a b =>
          subst a b
          go_wp2_with fail
          go_roundg (17 - n)
          case measure => have := hnm.out; omega
          case rel => exact ⟨n + 1, by rw [Hid]; have := hnm.out; omega, by go_num, S1, .none c rfl rfl⟩
      · cases J with
        | more h => exact absurd h (by omega)
        | none h a b =>
          subst a b
          have nN := hid c
          have sz := SZ.out n (by omega) (by have := hnm.out; omega)
          have WK := hid (W1.out n (by omega) (by have := hnm.out; omega))
          have XK := hid (EX.out n (by omega) (by have := hnm.out; omega))
          have GK := hid (GP.out n (by omega) (by have := hnm.out; omega))
          have eT : tn n = t := by rw [c]; exact TN.out
          have eE : en n = e := by rw [c]; exact EN.out
          rw [eT, eE] at WK XK GK sz
          have EQ := fun W => leq_dec neg t e W
          have g1 : (N0 : Int) ≤ (n : Int) := by omega
          have g2 : (n : Int) = (N0 : Int) := by omega
          have g3 : ((n : Int) == (N0 : Int)) = true := by simp; omega
          have g4 : ¬ (N0 : Int) < (n : Int) := by omega
          have k1 : ¬ (n : Int) < (N0 : Int) := by omega
          have k2 : ¬ ((N0 : Int) = 0) := by omega
          have k2' : ((N0 : Int) == 0) = false := by rw [beq_eq_false_iff_ne]; omega
          have k3 : ¬ e < -400 := by omega
          have k4 : ¬ 400 < e := by omega
          clear W0 W1 EX GP CM BD SZ h sz c eT eE
          clear g2
          go_wp2_with fail
          refine (WK.out _ S.out.b).mono ?_
          rintro r w1 ⟨rfl, b1⟩
          have C1 := alloc_b w1 (.cells #[.bool neg, .string t, .int .i64 e] 25)
          have S1 := hid (And.intro ((S.out.on b1).on C1) (FR3.new w1 (.bool neg) (.string t) (.int .i64 e)))
          clear C1 b1 S WK
          go_upto_region 17 with fail
          generalize w1.alloc (.cells #[.bool neg, .string t, .int .i64 e] 25) = w2 at *
          generalize w1.heap.size = yb at *
          obtain ⟨⟨x0, x1, x2⟩, _⟩ := S1.out.1.x.cells
          obtain ⟨⟨y0, y1, y2⟩, _⟩ := S1.out.2.cells
          go_wp2_with fail
          refine (XK.out _ S1.out.1.b).mono ?_
          rintro r w3 ⟨rfl, b3⟩
          have S3 := hid (And.intro (S1.out.1.on b3) (fr3_on S1.out.2 b3))
          clear b3 S1 XK x0 x1 x2 y0 y1 y2
          obtain ⟨⟨x0, x1, x2⟩, _⟩ := S3.out.1.x.cells
          obtain ⟨⟨y0, y1, y2⟩, _⟩ := S3.out.2.cells
          obtain ⟨⟨v0, v1, v2⟩, _⟩ := S3.out.1.v.cells
          go_wp2_with fail
          refine (GK.out _).mono ?_
          rintro r w4 ⟨g2, rfl, _, ow, b4⟩
          have S4 := hid (And.intro (S3.out.1.on b4) ow)
          clear b4 ow S3 GK x0 x1 x2 y0 y1 y2 v0 v1 v2
          obtain ⟨⟨x0, x1, x2⟩, _⟩ := S4.out.1.x.cells
          go_wp2_with fail
          go_roundg (17 - n)
          case measure => have := hnm.out; omega
          case rel => exact ⟨n + 1, by rw [Hid]; have := hnm.out; omega, by go_num, hid S4.out.1, .more (by have := hnm.out; omega) g2 (by rw [Nat.add_sub_cancel]) (by rw [Nat.add_sub_cancel]) (by rw [Nat.add_sub_cancel]; exact S4.out.2)⟩
      · cases J with
        | none h => exact absurd h (by omega)
        | more h g a b o =>
          have sz := SZ.out n (by omega) (by have := hnm.out; omega)
          have WK := hid (W1.out n (by omega) (by have := hnm.out; omega))
          have XK := hid (EX.out n (by omega) (by have := hnm.out; omega))
          have GK := hid (GP.out n (by omega) (by have := hnm.out; omega))
          obtain ⟨m, sa, sb, hs, cc⟩ := CM.out n c (by have := hnm.out; omega)
          have HS := hid hs
          have CC := hid cc
          have BK := hid (BD.out n (by omega) (by have := hnm.out; omega))
          have BP := hid (BD.out (n - 1) (by omega) (by have := hnm.out; omega))
          have OW := hid o
          have KN : Hid (kn n = kn n ∧ Gn n = Gn n) := ⟨rfl, rfl⟩
          subst a b
          generalize tn n = y at *
          generalize en n = ey at *
          have g1 : (N0 : Int) ≤ (n : Int) := by omega
          have g3 : ((n : Int) == (N0 : Int)) = false := by rw [beq_eq_false_iff_ne]; omega
          have g4 : (N0 : Int) < (n : Int) := by omega
          have k1 : ¬ (n : Int) < (y.size : Int) := by omega
          have k2' : ((y.size : Int) == 0) = false := by rw [beq_eq_false_iff_ne]; omega
          have k3 : ¬ ey < -400 := by omega
          have k4 : ¬ 400 < ey := by omega
          clear W0 W1 EX GP CM SZ h sz hs cc o KN BD
          obtain ⟨kk, hkk⟩ : ∃ kk, kn n = kk := ⟨_, rfl⟩
          obtain ⟨kp, hkp⟩ : ∃ kp, kn (n - 1) = kp := ⟨_, rfl⟩
          obtain ⟨G, hG⟩ : ∃ G, Gn n = G := ⟨_, rfl⟩
          obtain ⟨GP, hGP⟩ : ∃ GP, Gn (n - 1) = GP := ⟨_, rfl⟩
          obtain ⟨lo, hlo⟩ : ∃ lo, lon n = lo := ⟨_, rfl⟩
          obtain ⟨lp, hlp⟩ : ∃ lp, lon (n - 1) = lp := ⟨_, rfl⟩
          rw [hkk, hG] at BK
          rw [hkp, hGP] at BP OW
          rw [hkk, hG, hlo] at GK
          rw [hlo, hlp] at HS
          rw [hG, hGP] at CC
          rw [hkp, hlp]
          have EQS := hid (And.intro hkk (And.intro hG hlo))
          clear hkk hkp hG hGP hlo hlp
          go_wp2_with fail
          refine (WK.out _ S.out.b).mono ?_
          rintro r w1 ⟨rfl, b1⟩
          have C1 := alloc_b w1 (.cells #[.bool neg, .string y, .int .i64 ey] 25)
          have S1 := hid (And.intro ((S.out.on b1).on C1) (And.intro (FR3.new w1 (.bool neg) (.string y) (.int .i64 ey)) (ownb_on (ownb_on OW.out b1) C1)))
          clear C1 b1 S WK OW
          go_upto_region 17 with fail
          generalize w1.alloc (.cells #[.bool neg, .string y, .int .i64 ey] 25) = w2 at *
          generalize w1.heap.size = yb at *
          obtain ⟨⟨x0, x1, x2⟩, _⟩ := S1.out.1.x.cells
          obtain ⟨⟨y0, y1, y2⟩, _⟩ := S1.out.2.1.cells
          go_wp2_with fail
          refine (XK.out _ S1.out.1.b).mono ?_
          rintro r w3 ⟨rfl, b3⟩
          have S3 := hid (And.intro (S1.out.1.on b3) (And.intro (fr3_on S1.out.2.1 b3) (ownb_on S1.out.2.2 b3)))
          clear b3 S1 XK x0 x1 x2 y0 y1 y2
          obtain ⟨⟨x0, x1, x2⟩, _⟩ := S3.out.1.x.cells
          obtain ⟨⟨y0, y1, y2⟩, _⟩ := S3.out.2.1.cells
          obtain ⟨⟨v0, v1, v2⟩, _⟩ := S3.out.1.v.cells
          go_wp2_with fail
          refine (GK.out _).mono ?_
          rintro r w4 ⟨g2, rfl, _, ow, b4⟩
          have S4 := hid (And.intro (S3.out.1.on b4) (And.intro ow (ownb_on S3.out.2.2 b4)))
          clear b4 ow S3 GK x0 x1 x2 y0 y1 y2 v0 v1 v2
          obtain ⟨⟨x0, x1, x2⟩, _⟩ := S4.out.1.x.cells
          have LE := hid (less_any g2 g kk kp kk kp G GP lo lp w4 S4.out.2.1 S4.out.2.2 BK.out.1 BK.out.2.1 BP.out.1 BP.out.2.1 m sa sb HS.out.1 HS.out.2.1 HS.out.2.2.1 BK.out.2.2 BP.out.2.2 HS.out.2.2.2.1 HS.out.2.2.2.2.1 HS.out.2.2.2.2.2.1 HS.out.2.2.2.2.2.2)
          go_wp2_with fail
          refine LE.out.mono ?_
          rintro r w5 ⟨rfl, hw5⟩
          rw [hw5]
          clear hw5 w5 LE
          generalize Sc.cmpI (G * 10 ^ sa) (GP * 10 ^ sb) = c at *
          have c0 : ¬ 0 < c := by have := CC.out; omega
          go_wp2_with fail
          go_roundg (17 - n)
          case measure => have := hnm.out; omega
          case rel => exact ⟨n + 1, by rw [Hid]; have := hnm.out; omega, by go_num, hid S4.out.1, .more (by have := hnm.out; omega) g2 (by rw [Nat.add_sub_cancel, EQS.out.1]) (by rw [Nat.add_sub_cancel, EQS.out.2.2]) (by rw [Nat.add_sub_cancel, EQS.out.1, EQS.out.2.1]; exact S4.out.2.1)⟩
end Go.Proofs.YtjkefcikepnbpaaGreatDoor

namespace Go.Proofs.YtjkefcikepnbpaaGreatDoor
open Go Go.RowKit Go.Deep
namespace Sh

theorem step_row {a : Int} {n : Nat} {U : Int} (ha : 0 ≤ a) (h1 : a < 9218868437227405312) (hn : 1 ≤ n) (n17 : n ≤ 17) (h : wn a n = some U) :
    0 ≤ U ∧ Digs (dd U).ds ∧ (dd U).ds ≠ [] ∧ (dd U).ds.length ≤ n ∧ -400 ≤ (dd U).e ∧ (dd U).e ≤ 400 := by
  rcases (show a = 0 ∨ 0 < a by omega) with c | c
  · rw [c, wn_zero hn] at h
    rw [← Option.some.inj h, dd_zero]
    exact ⟨by omega, fun d hd => by simp at hd; omega, by simp, by simpa using hn, by simp, by simp⟩
  · have r := wn_room c hn h
    have p := V_place c h1
    exact ⟨Int.le_of_lt (wn_pos c h), r.1.digs, r.1.ne, r.2.1, by omega, by omega⟩

/-- A gap at the lower exponent, as a number. -/
theorem gap_uv {rs ys : List Int} {e f : Int} (he : -1075 ≤ e) (hf : -1075 ≤ f) :
    ((dv rs * 10 ^ (e - min e f).toNat - dv ys * 10 ^ (f - min e f).toNat).natAbs : Int) * 10 ^ (min e f + 1075).toNat = ((dv rs * 10 ^ (e + 1075).toNat - dv ys * 10 ^ (f + 1075).toNat).natAbs : Int) := by
  have p1 : (10 : Int) ^ (e + 1075).toNat = 10 ^ (e - min e f).toNat * 10 ^ (min e f + 1075).toNat := by rw [← Int.pow_add]; congr 1; omega
  have p2 : (10 : Int) ^ (f + 1075).toNat = 10 ^ (f - min e f).toNat * 10 ^ (min e f + 1075).toNat := by rw [← Int.pow_add]; congr 1; omega
  rw [p1, p2, ← Int.mul_assoc, ← Int.mul_assoc, ← Int.sub_mul, Int.natAbs_mul, Int.natCast_mul]
  rw [Int.natAbs_of_nonneg (Int.le_of_lt (Fx.p_pos (min e f + 1075).toNat))]
/-- Two gaps in their order. -/
theorem step_cmp {G H l k A B : Int} (hl : -1075 ≤ l) (hk : -1075 ≤ k) (hG : G * 10 ^ (l + 1075).toNat = A) (hH : H * 10 ^ (k + 1075).toNat = B) (h : A ≤ B) :
    ¬ 0 < Sc.cmpI (G * 10 ^ (l - min l k).toNat) (H * 10 ^ (k - min l k).toNat) := by
  have p1 : (10 : Int) ^ (l + 1075).toNat = 10 ^ (l - min l k).toNat * 10 ^ (min l k + 1075).toNat := by rw [← Int.pow_add]; congr 1; omega
  have p2 : (10 : Int) ^ (k + 1075).toNat = 10 ^ (k - min l k).toNat * 10 ^ (min l k + 1075).toNat := by rw [← Int.pow_add]; congr 1; omega
  rw [p1, ← Int.mul_assoc] at hG
  rw [p2, ← Int.mul_assoc] at hH
  have q : G * 10 ^ (l - min l k).toNat ≤ H * 10 ^ (k - min l k).toNat := by
    rw [← hG, ← hH] at h
    exact Int.le_of_mul_le_mul_right h (Fx.p_pos _)
  unfold Sc.cmpI
  split
  · omega
  · split <;> omega
/-- How far two neighbours in the number of figures lie. -/
theorem step_far {a : Int} {n : Nat} {U W : Int} (ha : 0 ≤ a) (hn : 1 ≤ n) (h : wn a n = some U) (k : wn a (n + 1) = some W) : ((W - V a).natAbs : Int) ≤ ((U - V a).natAbs : Int) := by
  rcases (show a = 0 ∨ 0 < a by omega) with c | c
  · rw [c, wn_zero hn] at h
    rw [c, wn_zero (by omega)] at k
    rw [← Option.some.inj h, ← Option.some.inj k]
    exact Int.le_refl _
  · exact Int.ofNat_le.2 (wn_gap c h k)
end Sh
end Go.Proofs.YtjkefcikepnbpaaGreatDoor

namespace Go.Proofs.YtjkefcikepnbpaaGreatDoor
open Go Go.RowKit Go.Deep

set_option maxRecDepth 100000 in
set_option maxHeartbeats 2000000 in
theorem zwi_inf (d n : Int) (w : World) (h0 : 0 ≤ d) (h1 : d < 18446744073709551616) (hf : ¬ d % 9223372036854775808 < 9218868437227405312) :
    Calls Tryz.prog 13 #[.int .u64 d, .int .i64 n] w fun e w' => e = .returned (.tuple #[.agg #[.bool false, .string ⟨#[]⟩, .int .i64 0], .bool false, .int .i64 5]) ∧ Below w.heap.size w w' := by
  have FN := hid (fun wx : World => zfinite_any d wx h0 h1)
  have Z := FR3.new w (.bool false) (.string ⟨#[]⟩) (.int .i64 0)
  have ZB := hid (alloc_b w (.cells #[.bool false, .string ⟨#[]⟩, .int .i64 0] 25))
  rw [Sh.fnt_iff, decide_eq_false hf] at FN
  have HZ := hid Z
  obtain ⟨⟨a0, a1, a2⟩, a3, a4, a5⟩ := Z.cells
  clear Z h0 h1 hf
  go_enter Tryz.func13, Tryz.ntmps13
  go_wp2_with fail
  refine (FN.out _).mono ?_
  rintro e wz ⟨rfl, hz⟩
  subst hz
  go_wp2_with fail
  (try simp only [Exit.inBlock, Exit.then])
  refine bodyPost_ret (results_row_tmp2 rfl _ _ w.heap.size 25 _ (0, 0) _ rfl HZ.out Tryz.underlying25 rfl (by kernel_rfl)) rfl ?_
  exact ⟨rfl, ZB.out⟩

set_option maxRecDepth 100000 in
set_option maxHeartbeats 2000000 in
theorem zwi_arg (d n : Int) (w : World) (h0 : 0 ≤ d) (h1 : d < 18446744073709551616) (hf : d % 9223372036854775808 < 9218868437227405312) (hn : n = 18 ∨ n = 0) :
    Calls Tryz.prog 13 #[.int .u64 d, .int .i64 n] w fun e w' => e = .returned (.tuple #[.agg #[.bool false, .string ⟨#[]⟩, .int .i64 0], .bool false, .int .i64 1]) ∧ Below w.heap.size w w' := by
  have FN := hid (fun wx : World => zfinite_any d wx h0 h1)
  have Z := FR3.new w (.bool false) (.string ⟨#[]⟩) (.int .i64 0)
  have ZB := hid (alloc_b w (.cells #[.bool false, .string ⟨#[]⟩, .int .i64 0] 25))
  rw [Sh.fnt_iff, decide_eq_true hf] at FN
  have HZ := hid Z
  obtain ⟨⟨a0, a1, a2⟩, a3, a4, a5⟩ := Z.cells
  clear Z h0 h1 hf
  rcases hn with rfl | rfl
  all_goals
    go_enter Tryz.func13, Tryz.ntmps13
    go_wp2_with fail
    refine (FN.out _).mono ?_
    rintro e wz ⟨rfl, hz⟩
    subst hz
    go_wp2_with fail
    (try simp only [Exit.inBlock, Exit.then])
    refine bodyPost_ret (results_row_tmp2 rfl _ _ w.heap.size 25 _ (0, 0) _ rfl HZ.out Tryz.underlying25 rfl (by kernel_rfl)) rfl ?_
    exact ⟨rfl, ZB.out⟩
end Go.Proofs.YtjkefcikepnbpaaGreatDoor

namespace Go.Proofs.YtjkefcikepnbpaaGreatDoor
open Go Go.RowKit Go.Deep
namespace Sh

theorem nml_fx {xs : List Int} {e : Int} (h : Nml xs e) : (xs = [48] ∧ e = 0) ∨ Fx.Nml xs := by
  rcases h.form with c | c
  · exact .inl c
  · refine .inr ⟨fun d hd => ?_, h.ne, c.2.1, c.2.2⟩
    exact h.dig d hd
theorem cmpI_lt {x y : Int} : Sc.cmpI x y < 0 ↔ x < y := by rcases Sc.cmpI_c x y with k | k | k <;> omega
theorem cmpI_le {x y : Int} : Sc.cmpI x y ≤ 0 ↔ x ≤ y := by rcases Sc.cmpI_c x y with k | k | k <;> omega

theorem uk_uv {D : Sc.D} {K : Nat} (h : Ok D) (hK : 1075 ≤ K) : uk K D = uv D * 10 ^ (K - 1075) := by
  have := h.lo
  unfold uk uv
  rw [Int.mul_assoc, ← Int.pow_add, show (D.e + 1075).toNat + (K - 1075) = (D.e + K).toNat by omega]
theorem pk_ok {D : Sc.D} {K : Nat} (h : Ok D) (hK : 1075 ≤ K) (hp : 0 < uv D) : Pk K D := ⟨h.neg, by have := h.lo; omega, h.nml hp⟩

theorem hold_near {a : Int} {X : Sc.D} (h0 : 0 ≤ a) (h1 : a < 9218868437227405312) (hn : X.neg = false) (hX : Nml X.ds X.e) :
    hD (dd (A a)) (dd (B a)) X (decide (a % 2 = 0)) = true ↔ Dr X.ds X.e a := by
  have oA := dd_is (A_nn h0)
  have oB := dd_is (B_nn h0)
  have bp : 0 < B a := Int.lt_of_le_of_lt (V_nn h0) V_B
  rcases nml_fx hX with ⟨z1, z2⟩ | hN
  · have hXz : X = ⟨false, [48], 0⟩ := by
      obtain ⟨n, ds, e⟩ := X
      simp at z1 z2 hn
      rw [hn, z1, z2]
    subst hXz
    have oX : Ok ⟨false, [48], 0⟩ := ⟨rfl, by show (-1075 : Int) ≤ 0; omega, .inl ⟨rfl, rfl⟩⟩
    have uX : uv ⟨false, [48], 0⟩ = 0 := uv_zero rfl
    unfold hD
    rw [cmp_uv oA.1 oX, cmp_uv oX oB.1, oA.2, oB.2, uX]
    constructor
    · intro h
      have hA : A a = 0 := by
        simp [cmpI_lt, cmpI_le] at h
        have := A_nn h0
        omega
      have ha : a = 0 := by
        rcases (show a = 0 ∨ 0 < a by omega) with c | c
        · exact c
        · have := A_pos c; omega
      rw [ha]
      have : Ie.Rnd 0 1 0 false 0 := Ie.rnd_zero 1 0 false (by decide)
      simpa [Dr, dw] using this
    · intro h
      have ha := dr48 h
      subst ha
      simp [cmpI_lt, cmpI_le, A]
      omega
  · obtain ⟨K, hK⟩ : ∃ K : Nat, K = 1075 + (-X.e).toNat := ⟨_, rfl⟩
    have k1 : 1075 ≤ K := by omega
    have pX : Pk K X := ⟨hn, by omega, hN⟩
    have pB : Pk K (dd (B a)) := pk_ok oB.1 k1 (by rw [oB.2]; exact bp)
    obtain ⟨Z, hZ⟩ : ∃ Z : Int, (10 : Int) ^ (K - 1075) = Z := ⟨_, rfl⟩
    have zp : 0 < Z := by rw [← hZ]; exact Fx.p_pos _
    have uB : uk K (dd (B a)) = B a * Z := by rw [uk_uv oB.1 k1, oB.2, hZ]
    obtain ⟨U, hU⟩ : ∃ U, uk K X = U := ⟨_, rfl⟩
    obtain ⟨P, hP⟩ : ∃ P, dw X.ds * 10 ^ X.e.toNat * 2 ^ 1075 = P := ⟨_, rfl⟩
    obtain ⟨Q, hQ⟩ : ∃ Q : Int, (10 : Int) ^ (-X.e).toNat = Q := ⟨_, rfl⟩
    have qp : 0 < Q := by rw [← hQ]; exact Fx.p_pos _
    have tz : 0 < T5 * Z := Int.mul_pos T5_pos zp
    have key : U * Q = P * (T5 * Z) := by
      rw [← hU, ← hQ, ← hP, ← hZ]
      unfold uk T5
      rw [dw_dv, Int.mul_assoc, ← Int.pow_add, show (X.e + K).toNat + (-X.e).toNat = X.e.toNat + (1075 + (K - 1075)) by omega, Int.pow_add, Int.pow_add]
      generalize K - 1075 = z2
      generalize 1075 = z
      rw [show (10 : Int) ^ z = 2 ^ z * 5 ^ z by rw [← Int.mul_pow]; rfl]
      generalize (2 : Int) ^ z = x1
      generalize (5 : Int) ^ z = x2
      generalize (10 : Int) ^ X.e.toNat = x3
      generalize (10 : Int) ^ z2 = x4
      ac_rfl
    have e3 : ∀ M : Int, M * T5 * Z * Q = M * Q * (T5 * Z) := by
      intro M
      generalize T5 = t
      ac_rfl
    have lt : ∀ M : Int, M * Q < P ↔ M * T5 * Z < U := by
      intro M
      constructor
      · intro g
        refine Int.lt_of_mul_lt_mul_right (a := Q) ?_ (Int.le_of_lt qp)
        rw [e3, key]
        exact Int.mul_lt_mul_of_pos_right g tz
      · intro g
        refine Int.lt_of_mul_lt_mul_right (a := T5 * Z) ?_ (Int.le_of_lt tz)
        rw [← key, ← e3]
        exact Int.mul_lt_mul_of_pos_right g qp
    have gt : ∀ M : Int, P < M * Q ↔ U < M * T5 * Z := by
      intro M
      constructor
      · intro g
        refine Int.lt_of_mul_lt_mul_right (a := Q) ?_ (Int.le_of_lt qp)
        rw [e3, key]
        exact Int.mul_lt_mul_of_pos_right g tz
      · intro g
        refine Int.lt_of_mul_lt_mul_right (a := T5 * Z) ?_ (Int.le_of_lt tz)
        rw [← key, ← e3]
        exact Int.mul_lt_mul_of_pos_right g qp
    have hB : B a = Ie.md a * T5 := rfl
    have dr : Dr X.ds X.e a ↔ Ie.Near P Q false a := by
      unfold Dr
      constructor
      · intro h
        have := h 1075 0 (by decide)
        rw [Int.pow_zero, Int.mul_one, hP, hQ] at this
        exact this
      · intro h
        refine Ie.Rnd.of (a := 1075) (b := 0) (by decide) ?_
        rw [Int.pow_zero, Int.mul_one, hP, hQ]
        exact h
    rw [dr]
    have up : 0 < U := by rw [← hU]; exact pX.pos
    have cB : Sc.cmpD X (dd (B a)) = Sc.cmpI U (Ie.md a * T5 * Z) := by rw [cmpk pX pB, hU, uB, hB]
    have g1 := gt (Ie.md a)
    have g2 := lt (Ie.md a)
    rcases (show a = 0 ∨ 0 < a by omega) with ca | ca
    · subst ca
      have cA : Sc.cmpD (dd (A 0)) X = -1 := by
        rw [show A 0 = 0 by rw [A, if_pos rfl], dd_zero]
        unfold Sc.cmpD
        rw [show Sc.sgn (⟨false, [48], 0⟩ : Sc.D) = 0 from rfl, Sc.sgn, if_neg (nml_ne hN), hn]
        rfl
      unfold hD Ie.Near
      rw [cA, cB]
      have m1 := g1
      have m2 := g2
      generalize Ie.md 0 * T5 * Z = BZ at *
      generalize Ie.md 0 * Q = MQ at *
      simp [cmpI_lt, cmpI_le]
      omega
    · have pA : Pk K (dd (A a)) := pk_ok oA.1 k1 (by rw [oA.2]; exact A_pos ca)
      have hA : A a = Ie.md (a - 1) * T5 := by rw [A, if_neg (by omega), B]
      have cA : Sc.cmpD (dd (A a)) X = Sc.cmpI (Ie.md (a - 1) * T5 * Z) U := by rw [cmpk pA pX, hU, uk_uv oA.1 k1, oA.2, hZ, hA]
      have g3 := gt (Ie.md (a - 1))
      have g4 := lt (Ie.md (a - 1))
      unfold hD Ie.Near
      rw [cA, cB]
      generalize Ie.md a * T5 * Z = BZ at *
      generalize Ie.md a * Q = MQ at *
      generalize Ie.md (a - 1) * T5 * Z = AZ at *
      generalize Ie.md (a - 1) * Q = NQ at *
      simp [cmpI_lt, cmpI_le]
      omega
end Sh
end Go.Proofs.YtjkefcikepnbpaaGreatDoor

namespace Go.Proofs.YtjkefcikepnbpaaGreatDoor
open Go Go.RowKit Go.Deep

namespace Sh
theorem zD01 : zD 4591870180066957722 = ⟨false, [49], -1⟩ ∧ zR 4591870180066957722 = 0 := by
  have f : Ie.fnt 4591870180066957722 = true := by decide
  refine ⟨?_, by rw [zR, if_pos f]⟩
  rw [zD, if_pos f, show (4591870180066957722 : Int) % 9223372036854775808 = 4591870180066957722 by decide, dgt01, ddt01]
  rfl
theorem zD25 : zD 4612811918334230528 = ⟨false, [50, 53], -1⟩ ∧ zR 4612811918334230528 = 0 := by
  have f : Ie.fnt 4612811918334230528 = true := by decide
  refine ⟨?_, by rw [zR, if_pos f]⟩
  rw [zD, if_pos f, show (4612811918334230528 : Int) % 9223372036854775808 = 4612811918334230528 by decide, dgt25, dd25]
  rfl
theorem wD13 : wD 4599676419421066581 16 = ⟨false, threes, -16⟩ ∧ wB 4599676419421066581 16 = true := by
  rw [wD, wB, wn13]
  exact ⟨ddt13, rfl⟩
theorem hD01 : hD (dd (A 4591870180066957722)) (dd (B 4591870180066957722)) ⟨false, [49], -1⟩ (decide ((4591870180066957722 : Int) % 2 = 0)) = true := by
  have h := hD_in (a := 4591870180066957722) (U := 10 ^ 1074) (by decide) (Int.le_of_lt (Fx.p_pos 1074))
  rw [ddt01, in01] at h
  exact h
theorem nm01 : Nm ⟨false, [49], -1⟩ := by
  have h := bd_room (U := 10 ^ 1074) (Int.le_of_lt (Fx.p_pos 1074)) (by
    refine Int.lt_of_lt_of_le (b := 10 ^ 1075) ?_ (Fx.p_le (by omega))
    rw [Int.pow_succ 10 1074]
    have := Fx.p_pos 1074
    generalize (10 : Int) ^ 1074 = z at *
    omega)
  rw [ddt01] at h
  exact h
end Sh

set_option maxRecDepth 100000 in
theorem zlaid25 (w : World) : Calls Tryz.prog 31 #[.string ⟨#[50, 53]⟩, .int .i64 1] w fun e w' => e = .returned (.string ⟨#[50, 46, 53]⟩) ∧ Below w.heap.size w w' := by
  have e1 : (⟨#[50, 53]⟩ : ByteArray).size = 2 := rfl
  have e2 : (⟨#[50, 53]⟩ : ByteArray).extract 0 1 ++ ⟨#[46]⟩ ++ (⟨#[50, 53]⟩ : ByteArray).extract 1 2 = ⟨#[50, 46, 53]⟩ := by decide +kernel
  generalize (⟨#[50, 53]⟩ : ByteArray) = s at *
  go_enter Tryz.func31, Tryz.ntmps31
  go_upto_region 5 with fail
  go_quiet (fail)
  go_wp2_with fail
  go_ret
  exact ⟨rfl, below_drewN (Below.refl _ _) _⟩

set_option maxRecDepth 100000 in
theorem ztext25 (w : World) (htab : Tab10 w) : Calls Tryz.prog 8 #[.int .u64 4612811918334230528] w fun e w' => e = .returned (.string ⟨#[50, 46, 53]⟩) ∧ Below w.heap.size w w' := by
  have NG := hid (fun wx : World => znegative_any 4612811918334230528 wx (by decide) (by decide))
  rw [show Sh.ng 4612811918334230528 = false from by decide] at NG
  have CL := hid (fun wx : World => class_any 4612811918334230528 wx (by decide) (by decide))
  rw [show Ie.cls 4612811918334230528 = 2 from by decide] at CL
  have DG := hid (zdig_any 4612811918334230528 w (by decide) (by decide) htab)
  unfold DigTold at DG
  rw [Sh.zD25.1, Sh.zD25.2] at DG
  have LD := hid (fun wx : World => zlaid25 wx)
  clear htab
  go_enter Tryz.func8, Tryz.ntmps8
  go_wp2_with fail
  refine (NG.out _).mono ?_
  rintro e wz ⟨rfl, hz⟩
  subst hz
  go_wp2_with fail
  refine (CL.out _).mono ?_
  rintro e wz ⟨rfl, hz⟩
  subst hz
  go_wp2_with fail
  refine DG.out.mono ?_
  rintro e w1 ⟨t, rfl, ht, hB⟩
  have ht2 : t = ⟨#[50, 53]⟩ := ht.out.inj rfl
  subst ht2
  have e1 : (⟨#[50, 53]⟩ : ByteArray).size = 2 := rfl
  have HB := hid (hB.trans ((alloc_b w1 (.cells #[.bool false, .string ⟨#[50, 53]⟩, .int .i64 (-1)] 25)).mono hB.size))
  clear hB DG ht
  go_wp2_with fail
  refine (LD.out _).mono ?_
  rintro e w2 ⟨rfl, hB⟩
  have K := hid (HB.out.trans (hB.mono HB.out.size))
  clear hB HB
  go_wp2_with fail
  go_ret
  exact ⟨rfl, K.out⟩

set_option maxRecDepth 100000 in
set_option maxHeartbeats 2000000 in
theorem lawake_any (w : World) (htab : Tab10 w) : Calls Tryz.prog 6 #[] w fun e w' => e = .returned (.bool true) ∧ Below w.heap.size w w' := by
  have DG := hid (zdig_any 4591870180066957722 w (by decide) (by decide) htab)
  unfold DigTold at DG
  rw [Sh.zD01.1, Sh.zD01.2] at DG
  have WI : Hid (∀ wx : World, Tab10 wx → Calls Tryz.prog 13 #[.int .u64 4599676419421066581, .int .i64 16] wx fun e w' => ∃ t, e = .returned (.tuple #[.agg #[.bool false, .string t, .int .i64 (-16)], .bool true, .int .i64 0]) ∧ Hid (Str t Sh.threes) ∧ Below wx.heap.size wx w') := by
    intro wx hx
    have h := zwi_any 4599676419421066581 16 wx (by decide) (by decide) (by decide) (by decide) (by decide) hx
    unfold WiTold at h
    rw [show (4599676419421066581 : Int) % 9223372036854775808 = 4599676419421066581 by decide, Sh.wD13.1, Sh.wD13.2, show Sh.ng 4599676419421066581 = false from by decide] at h
    exact h
  have HO := hid (fun wx : World => zhold_pos 4591870180066957722 ⟨#[49]⟩ ⟨false, [49], -1⟩ wx (by decide) (by decide) rfl Sh.nm01 rfl (by decide))
  rw [Sh.hD01] at HO
  have TX := hid (fun (wx : World) (h : Tab10 wx) => ztext25 wx h)
  have Q1 : ∀ wx : World, (Op.equalIn 10000 25 (.agg #[.bool false, .string ⟨#[49]⟩, .int .i64 (-1)]) (.agg #[.bool false, .string ⟨#[49]⟩, .int .i64 (-1)])).run Tryz.prog wx = .ok true wx := fun wx => leq_dec _ _ _ wx
  have Q2 : ∀ wx : World, (Op.equalIn 10000 25 (.agg #[.bool false, .string ⟨#[51, 51, 51, 51, 51, 51, 51, 51, 51, 51, 51, 51, 51, 51, 51, 51]⟩, .int .i64 (-16)]) (.agg #[.bool false, .string ⟨#[51, 51, 51, 51, 51, 51, 51, 51, 51, 51, 51, 51, 51, 51, 51, 51]⟩, .int .i64 (-16)])).run Tryz.prog wx = .ok true wx := fun wx => leq_dec _ _ _ wx
  have TB := hid htab
  clear htab
  go_enter Tryz.func6, Tryz.ntmps6
  go_wp2_with fail
  refine DG.out.mono ?_
  rintro e w1 ⟨t, rfl, ht, hB⟩
  have ht2 : t = ⟨#[49]⟩ := ht.out.inj rfl
  subst ht2
  have HB := hid (hB.trans ((alloc_b w1 (.cells #[.bool false, .string ⟨#[49]⟩, .int .i64 (-1)] 25)).mono hB.size))
  have rX := FR3.new w1 (.bool false) (.string ⟨#[49]⟩) (.int .i64 (-1))
  have W1 := hid (WI.out _ (tab10_below TB.out HB.out))
  have RX := hid rX
  clear hB DG ht WI rX
  go_wp2_with fail
  refine W1.out.mono ?_
  rintro e w2 ⟨t, rfl, ht, hB⟩
  have ht2 : t = ⟨#[51, 51, 51, 51, 51, 51, 51, 51, 51, 51, 51, 51, 51, 51, 51, 51]⟩ := ht.out.inj rfl
  subst ht2
  have aY := alloc_b w2 (.cells #[.bool false, .string ⟨#[51, 51, 51, 51, 51, 51, 51, 51, 51, 51, 51, 51, 51, 51, 51, 51]⟩, .int .i64 (-16)] 25)
  have HB2 := hid (HB.out.trans ((hB.trans (aY.mono hB.size)).mono HB.out.size))
  have RX2 := (RX.out.below (hB.trans (aY.mono hB.size)) RX.out.lt)
  obtain ⟨⟨c0, c1, c2⟩, -⟩ := RX2.cells
  clear hB W1 ht HB aY RX RX2
  go_wp2_with fail
  refine (HO.out _).mono ?_
  rintro e w3 ⟨rfl, hB⟩
  have HB3 := hid (HB2.out.trans (hB.mono HB2.out.size))
  have T3 := hid (TX.out _ (tab10_below TB.out HB3.out))
  clear hB HO HB2 TX c0 c1 c2
  go_wp2_with fail
  refine T3.out.mono ?_
  rintro e w4 ⟨rfl, hB⟩
  have K := hid (HB3.out.trans (hB.mono HB3.out.size))
  clear hB T3 HB3
  go_wp2_with fail
  go_ret
  exact ⟨rfl, K.out⟩
end Go.Proofs.YtjkefcikepnbpaaGreatDoor

namespace Go.Proofs.YtjkefcikepnbpaaGreatDoor
open Go Go.RowKit Go.Deep

theorem stab10_on {w w' : World} (h : Tab10 w) (k : Below w.heap.size w w') : Tab10 w' := by
  unfold Tab10 Lib.TabIs World.var? at *
  cases hg : Tryz.prog.globalNamed "internal/strconv.uint64pow10" with
  | none => rw [hg] at h; simp at h
  | some g =>
    rw [hg] at h
    simp only [Option.bind_some] at h ⊢
    have hl : g < w.heap.size := by
      rcases Nat.lt_or_ge g w.heap.size with c | c
      · exact c
      · rw [Array.getElem?_eq_none c] at h; simp at h
    rw [k.block g hl]; exact h

theorem sg_d (d : Int) (h0 : 0 ≤ d) (h1 : d < 18446744073709551616) : Ie.sg (Sh.ng d) (d % 9223372036854775808) = d := by
  unfold Ie.sg Sh.ng
  by_cases c : 9223372036854775808 ≤ d
  · rw [decide_eq_true c]; simp; omega
  · rw [decide_eq_false c]; simp; omega

set_option maxRecDepth 100000 in
set_option maxHeartbeats 2000000 in
theorem steps_inf (d : Int) (neg : Bool) (t : ByteArray) (e : Int) (w : World)
    (AW : Calls Tryz.prog 6 #[] w fun r w' => r = .returned (.bool true) ∧ Below w.heap.size w w')
    (DG : ∀ W, Below w.heap.size w W → Calls Tryz.prog 7 #[.int .u64 d] W fun r w' => r = .returned (.tuple #[.agg #[.bool neg, .string t, .int .i64 e], .int .i64 5]) ∧ Below W.heap.size W w')
    (FN : ∀ W, Calls Tryz.prog 9 #[.int .u64 d] W fun r w' => r = .returned (.bool false) ∧ w' = W)
    (WI : ∀ W, Calls Tryz.prog 13 #[.int .u64 d, .int .i64 3] W fun r w' => r = .returned (.tuple #[.agg #[.bool false, .string ⟨#[]⟩, .int .i64 0], .bool false, .int .i64 5]) ∧ Below W.heap.size W w') :
    Calls Tryz.prog 4 #[.int .u64 d] w fun r w' => r = .returned (.bool true) ∧ Below w.heap.size w w' := by
  have AW := hid AW
  have DG := hid DG
  have FN := hid FN
  have WI := hid WI
  go_enter Tryz.func4, Tryz.ntmps4
  go_wp2_with fail
  refine AW.out.mono ?_
  rintro r w1 ⟨rfl, b1⟩
  have B1 := hid b1
  clear b1 AW
  go_wp2_with fail
  refine (DG.out _ B1.out).mono ?_
  rintro r w2 ⟨rfl, b2⟩
  have S2 := hid (bel_on (bel_on B1.out b2) (alloc_b w2 (.cells #[.bool neg, .string t, .int .i64 e] 25)))
  clear b2 B1 DG
  go_upto_region 5 with fail
  generalize w2.alloc (.cells #[.bool neg, .string t, .int .i64 e] 25) = w3 at *
  generalize w2.heap.size = bx at *
  go_wp2_with fail
  refine (FN.out _).mono ?_
  rintro r w4 ⟨rfl, hw4⟩
  rw [hw4]
  clear hw4 w4 FN
  go_wp2_with fail
  refine (WI.out _).mono ?_
  rintro r w5 ⟨rfl, b5⟩
  have S5 := hid (bel_on (bel_on S2.out b5) (alloc_b w5 (.cells #[.bool false, .string ⟨#[]⟩, .int .i64 0] 25)))
  clear b5 S2 WI
  go_wp2_with fail
  go_ret
  exact ⟨rfl, S5.out⟩

namespace Sh
theorem some_get {a : Int} {n : Nat} (h : (wn a n).isSome = true) : wn a n = some ((wn a n).getD 0) := by
  cases c : wn a n with
  | none => rw [c] at h; exact absurd h (by simp)
  | some U => rfl
/-- What Within finds reads back. -/
theorem step_dr {a : Int} {n : Nat} {U : Int} (ha : 0 ≤ a) (h1 : a < 9218868437227405312) (hn : 1 ≤ n) (n17 : n ≤ 17) (h : wn a n = some U) : Sc.IsDec (dd U).ds (dd U).e ∧ Dr (dd U).ds (dd U).e a := by
  obtain ⟨u0, hd, hne, hl, e0, e1⟩ := step_row ha h1 hn n17 h
  have I := isdec hd hne (show -1075 ≤ (dd U).e by omega) (show (dd U).e ≤ 100000 by omega) (by omega)
  have o := (dd_is u0).1
  have fx := o.fix
  rw [o.neg] at fx
  have es := dd_self u0
  refine ⟨I, (hold_near ha h1 o.neg ⟨I, fx.trans es.symm⟩).1 ?_⟩
  rw [hD_in ha u0]
  exact wn_in ha h
end Sh

theorem steps_main (d : Int) (w : World) (hT : Tab w) (ht : Tab10 w) (d0 : 0 ≤ d) (d1 : d < 18446744073709551616) (hf : Ie.fnt d = true) :
    Calls Tryz.prog 4 #[.int .u64 d] w fun r w' => r = .returned (.bool true) ∧ Below w.heap.size w w' := by
  have hfin : d % 9223372036854775808 < 9218868437227405312 := by rw [Sh.fnt_iff] at hf; exact of_decide_eq_true hf
  obtain ⟨a, ha⟩ : ∃ a, d % 9223372036854775808 = a := ⟨_, rfl⟩
  have a0 : 0 ≤ a := by omega
  have a1 : a < 9218868437227405312 := by omega
  obtain ⟨N0, hN0⟩ : ∃ N0, Sh.n0 a + 1 = N0 := ⟨_, rfl⟩
  have N17 : N0 ≤ 17 := by have := Sh.n0_le a; omega
  have WS : ∀ n, N0 ≤ n → Sh.wn a n = some ((Sh.wn a n).getD 0) := fun n h => Sh.some_get (Sh.wn_from a0 (by omega))
  have RW := fun n (h : N0 ≤ n) (k : n ≤ 17) => Sh.step_row a0 a1 (show 1 ≤ n by omega) k (WS n h)
  have DR := fun n (h : N0 ≤ n) (k : n ≤ 17) => Sh.step_dr a0 a1 (show 1 ≤ n by omega) k (WS n h)
  obtain ⟨U, hU⟩ : ∃ U : Nat → Int, U = fun n => (Sh.wn a n).getD 0 := ⟨_, rfl⟩
  have Un : ∀ n, (Sh.wn a n).getD 0 = U n := fun n => by rw [hU]
  have dgU : Sh.dgt a = U N0 := by rw [hU, ← hN0]; rfl
  simp only [Un] at WS RW DR
  have ST : ∀ n, N0 ≤ n → n ≤ 17 → Str (strOfNums (Sh.dd (U n)).ds) (Sh.dd (U n)).ds := fun n h k => Str.of_nums (fun x hx => by have := (RW n h k).2.1 x hx; omega)
  have zd : Sh.zD d = ⟨Sh.ng d, (Sh.dd (U N0)).ds, (Sh.dd (U N0)).e⟩ := by rw [Sh.zD, if_pos hf, ha, dgU]
  have zr : Sh.zR d = 0 := by rw [Sh.zR, if_pos hf]
  have DG : ∀ W, Below w.heap.size w W → Calls Tryz.prog 7 #[.int .u64 d] W fun r w' => r = .returned (.tuple #[.agg #[.bool (Sh.ng d), .string (strOfNums (Sh.dd (U N0)).ds), .int .i64 (Sh.dd (U N0)).e], .int .i64 0]) ∧ Below W.heap.size W w' := fun W hW =>
    (zdig_any d W d0 d1 (stab10_on ht hW)).mono (fun r w' h => by
      obtain ⟨t', h1, h2, h3⟩ := h
      rw [zd, zr] at h1
      have h4 := h2.out
      rw [zd] at h4
      rw [h1, h4.inj (ST N0 (Nat.le_refl _) N17)]
      exact ⟨rfl, h3⟩)
  obtain ⟨ys, hys⟩ : ∃ ys, ys = Fx.X d := ⟨_, rfl⟩
  obtain ⟨f, hff⟩ : ∃ f, f = Fx.P d := ⟨_, rfl⟩
  have XE := Fx.X_ex hf
  have XD := Fx.X_digs hf
  have XR := Fx.X_room hf
  have XZ : d % 9223372036854775808 = 0 → Fx.X d = [48] ∧ Fx.P d = 0 := fun c => Fx.X_zero hf (by
    rcases Ie.dec_kinds d _ rfl with ⟨_, h, _⟩ | ⟨_, _, _, h, _⟩ | ⟨_, _, _, h, _⟩ | ⟨_, h, _⟩ | ⟨_, _, _, h, _⟩
    · exact h
    · omega
    · omega
    · exact h
    · omega)
  rw [← hys, ← hff] at XE XR XZ
  rw [← hys] at XD
  have cl : Ie.cls d < 3 := of_decide_eq_true hf
  obtain ⟨_, m1, _, de1, _⟩ := Ie.fdec d cl
  have hV : dv ys * 10 ^ (f + 1075).toNat = Sh.V a := by
    rcases (show d % 9223372036854775808 = 0 ∨ 0 < d % 9223372036854775808 by omega) with c | c
    · rw [(XZ c).1, ← ha, c, Sh.V_zero, Sh.dv48, Int.zero_mul]
    · rw [← ha]; exact (Sh.ex_V XE cl c).1
  have ysh : ys.length ≤ 800 := by
    rcases (show d % 9223372036854775808 = 0 ∨ 0 < d % 9223372036854775808 by omega) with c | c
    · rw [(XZ c).1]; simp
    · exact Sh.ex_short XE (Sh.ex_V XE cl c).2 m1 de1
  have hsu : Str (strOfNums ys) ys := Str.of_nums (fun x hx => by have := XD.1 x hx; omega)
  have AL : ∀ W, Below w.heap.size w W → Calls Tryz.prog 14 #[.int .u64 d] W fun r w' => r = .returned (.tuple #[.agg #[.bool (Sh.ng d), .string (strOfNums ys), .int .i64 f], .int .i64 0]) ∧ Below W.heap.size W w' := fun W hW =>
    (fall_any d W (hT.below hW) d0 d1).mono (fun r w' h => by
      obtain ⟨s, h1, h2, h3⟩ := h
      rw [Fx.aS, if_pos hf, ← hys] at h2
      rw [Fx.aN, Fx.aE, Fx.aR, if_pos hf, if_pos hf, hf, Bool.true_and, ← hff] at h1
      rw [h1, h2.inj hsu]
      exact ⟨rfl, h3⟩)
  have W1 : ∀ n : Nat, N0 ≤ n → n ≤ 17 → ∀ W, Below w.heap.size w W → Calls Tryz.prog 13 #[.int .u64 d, .int .i64 (n : Int)] W fun r w' => r = .returned (.tuple #[.agg #[.bool (Sh.ng d), .string (strOfNums (Sh.dd (U n)).ds), .int .i64 (Sh.dd (U n)).e], .bool true, .int .i64 0]) ∧ Below W.heap.size W w' := fun n hn k W hW =>
    (zwi_any d n W d0 d1 hfin (by omega) k (stab10_on ht hW)).mono (fun r w' h => by
      obtain ⟨t', h1, h2, h3⟩ := h
      have b : Sh.wB (d % 9223372036854775808) n = true := by rw [ha, Sh.wB, WS n hn]; rfl
      have D : Sh.wD (d % 9223372036854775808) n = Sh.dd (U n) := by rw [ha, Sh.wD, WS n hn]
      rw [b, D, Bool.true_and] at h1
      have h4 := h2.out
      rw [D] at h4
      rw [h1, h4.inj (ST n hn k)]
      exact ⟨rfl, h3⟩)
  have W0 : ∀ n : Nat, 1 ≤ n → n < N0 → ∀ W, Below w.heap.size w W → Calls Tryz.prog 13 #[.int .u64 d, .int .i64 (n : Int)] W fun r w' => r = .returned (.tuple #[.agg #[.bool false, .string ⟨#[]⟩, .int .i64 0], .bool false, .int .i64 0]) ∧ Below W.heap.size W w' := fun n hn k W hW =>
    (zwi_any d n W d0 d1 hfin hn (by omega) (stab10_on ht hW)).mono (fun r w' h => by
      obtain ⟨t', h1, h2, h3⟩ := h
      have e := Sh.wn_below (a := a) hn (by omega)
      have b : Sh.wB (d % 9223372036854775808) n = false := by rw [ha, Sh.wB, e]; rfl
      have D : Sh.wD (d % 9223372036854775808) n = ⟨false, [], 0⟩ := by rw [ha, Sh.wD, e]
      rw [b, D, Bool.false_and] at h1
      have h4 := h2.out
      rw [D] at h4
      rw [h1, show t' = ⟨#[]⟩ from h4.inj (t := ⟨#[]⟩) rfl]
      exact ⟨rfl, h3⟩)
  have EX : ∀ n : Nat, N0 ≤ n → n ≤ 17 → ∀ W, Below w.heap.size w W → Calls Tryz.prog 10 #[.agg #[.bool (Sh.ng d), .string (strOfNums (Sh.dd (U n)).ds), .int .i64 (Sh.dd (U n)).e]] W fun r w' => r = .returned (.tuple #[.int .u64 d, .int .i64 0]) ∧ Below W.heap.size W w' := fun n hn k W hW =>
    (exact_bare10 (Sh.ng d) _ _ _ a W (hT.below hW) (ST n hn k) (by have := (RW n hn k).2.2.2.1; omega) (DR n hn k).2).mono (fun r w' h => by
      rw [ConvTold, if_pos (DR n hn k).1, errOf, if_pos (DR n hn k).1, ← ha, sg_d d d0 d1] at h
      exact h)
  have NN : ∀ zs : List Int, zs.length ≤ 18 → ∀ e : Int, -400 ≤ e → e ≤ 400 → ∃ n : Nat, (max (e + (zs.length : Int)) (f + (ys.length : Int)) - min e f).toNat = n ∧ max (e + (zs.length : Int)) (f + (ys.length : Int)) - min e f = (n : Int) ∧ n ≤ 5000 ∧ zs.length + (e - min e f).toNat ≤ n ∧ ys.length + (f - min e f).toNat ≤ n := fun zs hz e h1 h2 => ⟨(max (e + (zs.length : Int)) (f + (ys.length : Int)) - min e f).toNat, rfl, by omega, by omega, by omega, by omega⟩
  refine steps_of d (Sh.ng d) (strOfNums (Sh.dd (U N0)).ds) (strOfNums ys) (Sh.dd (U N0)).e f N0 (fun n => strOfNums (Sh.dd (U n)).ds) (fun n => (Sh.dd (U n)).e) (fun n => min (Sh.dd (U n)).e f) (fun n => (max ((Sh.dd (U n)).e + ((Sh.dd (U n)).ds.length : Int)) (f + (ys.length : Int)) - min (Sh.dd (U n)).e f).toNat)
    (fun n => ((dv (Sh.dd (U n)).ds * 10 ^ ((Sh.dd (U n)).e - min (Sh.dd (U n)).e f).toNat - dv ys * 10 ^ (f - min (Sh.dd (U n)).e f).toNat).natAbs : Int)) w ?_ (by omega) N17 rfl rfl (lawake_any w ht) DG
    (fun W => (lfinite_any d W d0).mono (fun r w' h => by rw [decide_eq_true hfin] at h; exact h)) AL (fun W => modest_any (Sh.ng d) _ ys f W hsu ysh (by omega) (by omega)) W0 W1 EX ?_ ?_ ?_ ?_ (fun n hn W => zwi_arg d n W d0 d1 hfin hn)
  · rw [(ST N0 (Nat.le_refl _) N17).size, ← dgU, Sh.dgt_len a0, hN0]
  · intro n hn k
    have r := RW n hn k
    refine ⟨?_, ?_, r.2.2.2.2.1, r.2.2.2.2.2⟩
    · rw [(ST n hn k).size]; exact r.2.2.2.1
    · rw [(ST n hn k).size]; exact List.length_pos_iff.2 r.2.2.1
  · intro n hn k W
    have r := RW n hn k
    obtain ⟨m, e1, e2, e3, e4, e5⟩ := NN (Sh.dd (U n)).ds (by omega) (Sh.dd (U n)).e r.2.2.2.2.1 r.2.2.2.2.2
    have g := gap_any (Sh.ng d) (Sh.ng d) _ _ (Sh.dd (U n)).ds ys (Sh.dd (U n)).e f (min (Sh.dd (U n)).e f) _ m ((Sh.dd (U n)).e - min (Sh.dd (U n)).e f).toNat (f - min (Sh.dd (U n)).e f).toNat W (ST n hn k) hsu r.2.1 XD.1 rfl rfl e2 (by omega) (by omega) e3 (by omega) (by omega) (by omega) (by omega)
    rw [e1]
    exact g
  · intro n hn k
    have r := RW n hn k
    obtain ⟨m, e1, e2, e3, e4, e5⟩ := NN (Sh.dd (U n)).ds (by omega) (Sh.dd (U n)).e r.2.2.2.2.1 r.2.2.2.2.2
    rw [e1]
    exact ⟨by omega, Sh.gap_bd r.2.1 XD.1 e4 e5, e3⟩
  · intro n hn k
    obtain ⟨p, rfl⟩ : ∃ p, n = p + 1 := ⟨n - 1, by omega⟩
    rw [Nat.add_sub_cancel]
    have r := RW (p + 1) (by omega) k
    have s := RW p (by omega) (by omega)
    refine ⟨min (min (Sh.dd (U (p + 1))).e f) (min (Sh.dd (U p)).e f), (min (Sh.dd (U (p + 1))).e f - min (min (Sh.dd (U (p + 1))).e f) (min (Sh.dd (U p)).e f)).toNat, (min (Sh.dd (U p)).e f - min (min (Sh.dd (U (p + 1))).e f) (min (Sh.dd (U p)).e f)).toNat, ⟨by omega, by omega, by omega, by omega, by omega, by omega, by omega⟩, ?_⟩
    have uv : ∀ n, N0 ≤ n → n ≤ 17 → dv (Sh.dd (U n)).ds * 10 ^ ((Sh.dd (U n)).e + 1075).toNat = U n := fun n hn k => (Sh.dd_is (RW n hn k).1).2
    refine Sh.step_cmp (by omega) (by omega) (Sh.gap_uv (by omega) (by omega)) (Sh.gap_uv (by omega) (by omega)) ?_
    rw [uv (p + 1) (by omega) k, uv p (by omega) (by omega), hV]
    exact Sh.step_far a0 (by omega) (WS p (by omega)) (WS (p + 1) (by omega))

theorem steps_law (d : Int) (w : World) (hT : Tab w) (ht : Tab10 w) (d0 : 0 ≤ d) (d1 : d < 18446744073709551616) :
    Calls Tryz.prog 4 #[.int .u64 d] w fun r w' => r = .returned (.bool true) ∧ Below w.heap.size w w' := by
  by_cases hf : Ie.fnt d = true
  · exact steps_main d w hT ht d0 d1 hf
  · have hfin : ¬ d % 9223372036854775808 < 9218868437227405312 := by rw [Sh.fnt_iff] at hf; simpa using hf
    have zd : Sh.zD d = ⟨false, [], 0⟩ := by rw [Sh.zD, if_neg hf]
    have zr : Sh.zR d = 5 := by rw [Sh.zR, if_neg hf]
    refine steps_inf d false ⟨#[]⟩ 0 w (lawake_any w ht) (fun W hW => (zdig_any d W d0 d1 (stab10_on ht hW)).mono (fun r w' h => ?_)) (fun W => (lfinite_any d W d0).mono (fun r w' h => by rw [decide_eq_false hfin] at h; exact h)) (fun W => zwi_inf d 3 W d0 d1 hfin)
    obtain ⟨t', h1, h2, h3⟩ := h
    rw [zd, zr] at h1
    have h4 := h2.out
    rw [zd] at h4
    rw [h1, show t' = ⟨#[]⟩ from h4.inj (t := ⟨#[]⟩) rfl]
    exact ⟨rfl, h3⟩
end Go.Proofs.YtjkefcikepnbpaaGreatDoor
