/-
  Texts put together: LApi, LHoldA, LNearM, LNearL, LAwake, LNearV.
-/
import Derived.Test.YtobiapniidaibaaGreatDoorWAZ
import Derived.BigQuiet
import Derived.Test.YtobiapniidaibaaGreatDoorWAB
import Derived.Test.YtobiapniidaibaaGreatDoorWAS
import Derived.Test.YtobiapniidaibaaGreatDoorLNear
import Derived.Test.YtobiapniidaibaaGreatDoorWAJ
import Derived.Test.YtobiapniidaibaaGreatDoorLGap
import Derived.Test.YtobiapniidaibaaGreatDoorLLess
import Derived.Test.YtobiapniidaibaaGreatDoorWAV
namespace Go.Proofs.YtobiapniidaibaaGreatDoor
open Go Go.RowKit Go.Deep

theorem results_cell_tmp_tmp {fn : Func} {p u v : Tmp} {ty : TypeId} (h : fn.results = #[.cell p ty, .tmp u, .tmp v]) (tmps : Array Value) (P : Program) (w : World) :
    (results fn tmps).run P w =
      ((asAddr (tmps.getD p undef)).run P w).andThen fun a w₁ => ((loadVar ty a).run P w₁).andThen fun x w₂ => .ok (.tuple #[x, tmps.getD u undef, tmps.getD v undef]) w₂ := by
  simp only [results, h]
  simp [Sem.run_bind, Result.andThen]
theorem results_row_tmp2 {P : Program} {fn : Func} {p u v : Tmp} {ty : TypeId} (h : fn.results = #[.cell p ty, .tmp u, .tmp v]) (tmps : Array Value) (w : World) (g : Nat) (t : TypeId) (cs : Array Value) (fr : Nat × Nat) (d : TypeDesc)
    (hp : tmps.getD p undef = .pointer (some ⟨g, 0, none⟩)) (hg : w.heap[g]? = some (.cells cs t fr))
    (hu : P.underlying ty = some d) (hd : (match d with | .struct _ | .array _ _ => true | _ => false) = true) (hi : (P.info? ty).map (·.size) = some cs.size) :
    (results fn tmps).run P w = .ok (.tuple #[.agg cs, tmps.getD u undef, tmps.getD v undef]) w := by
  rw [results_cell_tmp_tmp h, hp]
  simp [asAddr, run_loadVar_row w g t ty cs fr d hg hu hd hi, Result.andThen]

def WiTold (d : Int) (n : Nat) (w : World) (e : Ending) (w' : World) : Prop :=
  ∃ t, e = .returned (.tuple #[.agg #[.bool (Sh.wB (d % 9223372036854775808) n && Sh.ng d), .string t, .int .i64 (Sh.wD (d % 9223372036854775808) n).e], .bool (Sh.wB (d % 9223372036854775808) n), .int .i64 0]) ∧ Hid (Str t (Sh.wD (d % 9223372036854775808) n).ds) ∧ Below w.heap.size w w'

set_option maxRecDepth 100000 in
set_option maxHeartbeats 4000000 in
theorem zwi_any (d : Int) (n : Nat) (w : World) (h0 : 0 ≤ d) (h1 : d < 18446744073709551616) (hf : d % 9223372036854775808 < 9218868437227405312) (n1 : 1 ≤ n) (n2 : n ≤ 17) (htab : Tab10 w) :
    Calls Tryz.prog 15 #[.int .u64 d, .int .i64 n] w fun e w' => WiTold d n w e w' := by
  have FN := hid (fun wx : World => zfinite_any d wx h0 h1)
  have NG := hid (fun wx : World => znegative_any d wx h0 h1)
  have Z := FR3.new w (.bool false) (.string ⟨#[]⟩) (.int .i64 0)
  have ZB := alloc_b w (.cells #[.bool false, .string ⟨#[]⟩, .int .i64 0] 25)
  have SP := hid (fun wx : World => zspan_any d wx h0 h1 hf)
  rw [Sh.fnt_iff, decide_eq_true hf] at FN
  have G : Hid (∀ (w' : World) (t : ByteArray), Hid (Str t (Sh.wD (d % 9223372036854775808) n).ds) → Below w.heap.size w w' → WiTold d n w (.returned (.tuple #[.agg #[.bool (Sh.wB (d % 9223372036854775808) n && Sh.ng d), .string t, .int .i64 (Sh.wD (d % 9223372036854775808) n).e], .bool (Sh.wB (d % 9223372036854775808) n), .int .i64 0])) w') := fun w' t ht hB => ⟨t, rfl, ht, hB⟩
  obtain ⟨a, ha⟩ : ∃ a, d % 9223372036854775808 = a := ⟨_, rfl⟩
  have a0 : 0 ≤ a := by omega
  rw [ha] at SP hf G
  have HZ := hid (And.intro Z ZB)
  have TB := hid (tab10_below htab ZB)
  have n1' : ¬ (n : Int) < 1 := by omega
  have n2' : (n : Int) ≤ 17 := by omega
  clear Z ZB htab ha h0 h1
  go_enter Tryz.func15, Tryz.ntmps15
  go_wp2_with fail
  refine (FN.out _).mono ?_
  rintro e wz ⟨rfl, hz⟩
  subst hz
  go_wp2_with fail
  refine (SP.out _).mono ?_
  rintro e w1 ⟨v, rfl, ⟨s1, s2, s3, hv, g1, g2, g3⟩, B1⟩
  subst hv
  have W := zwithin_any a n s1 s2 s3 w1 a0 hf n1 n2 (tab10_below TB.out B1) g1 g2 g3
  have HB2 := hid B1
  have HW := hid W
  unfold WnTold at HW
  generalize Sh.wB a n = ok at *
  generalize Sh.wD a n = DD at *
  clear W B1 SP FN g1 g2 g3 TB
  go_wp2_with fail
  refine HW.out.mono ?_
  rintro e w3 ⟨t, rfl, ht, B3⟩
  have RZ3 := HZ.out.1.below (HB2.out.trans (B3.mono HB2.out.size)) HZ.out.1.lt
  have BW3 := HZ.out.2.trans ((HB2.out.trans (B3.mono HB2.out.size)).mono HZ.out.2.size)
  have RZA := hid (RZ3.below (alloc_b w3 (.cells #[.bool (ok && Sh.ng d), .string t, .int .i64 DD.e] 25)) RZ3.lt)
  have RZB := RZ3.below (alloc_b w3 (.cells #[.bool DD.neg, .string t, .int .i64 DD.e] 25)) RZ3.lt
  have K := hid (G.out _ t ht (fset3_below (u0 := .bool (ok && Sh.ng d)) (u1 := .string t) (u2 := .int .i64 DD.e) (b := w.heap.size) (BW3.trans ((alloc_b w3 (.cells #[.bool (ok && Sh.ng d), .string t, .int .i64 DD.e] 25)).mono BW3.size)) (Nat.le_refl _)))
  generalize Sh.ng d = ngd at *
  obtain ⟨⟨b0, b1, b2⟩, b3, b4, b5⟩ := RZB.cells
  clear HW B3 HB2 ht RZ3 BW3 RZB
  cases ok
  · rw [Bool.false_and] at K RZA
    obtain ⟨⟨a0', a1, a2⟩, a3, a4, a5⟩ := RZA.out.cells
    go_wp2_with fail
    (try simp only [Exit.inBlock, Exit.then])
    refine bodyPost_ret (results_row_tmp2 rfl _ _ w.heap.size 25 _ (0, 0) _ rfl (RZA.out.put _ _ _) Tryz.underlying25 rfl (by kernel_rfl)) rfl ?_
    exact K.out
  · rw [Bool.true_and] at K RZA
    obtain ⟨⟨a0', a1, a2⟩, a3, a4, a5⟩ := RZA.out.cells
    go_wp2_with fail
    refine (NG.out _).mono ?_
    rintro e wz ⟨rfl, hz⟩
    subst hz
    go_wp2_with fail
    (try simp only [Exit.inBlock, Exit.then])
    refine bodyPost_ret (results_row_tmp2 rfl _ _ w.heap.size 25 _ (0, 0) _ rfl (RZA.out.put _ _ _) Tryz.underlying25 rfl (by kernel_rfl)) rfl ?_
    exact K.out

set_option maxRecDepth 100000 in
set_option maxHeartbeats 4000000 in
/-- Holds, where nothing is refused and no sign is set. -/
theorem zhold_pos (d : Int) (s : ByteArray) (X : Sc.D) (w : World) (h0 : 0 ≤ d) (h1 : d < 9218868437227405312) (hs : Str s X.ds) (hX : Sh.Nm X) (hn : X.neg = false) (hl : X.ds.length ≤ 100000) :
    Calls Tryz.prog 13 #[.agg #[.bool false, .string s, .int .i64 X.e], .int .u64 d] w fun e w' => e = .returned (.tuple #[.bool (Sh.hD (Sh.dd (Sh.A d)) (Sh.dd (Sh.B d)) X (decide (d % 2 = 0))), .int .i64 0]) ∧ Below w.heap.size w w' := by
  have hm : d % 9223372036854775808 = d := by omega
  have FN := hid (fun wx : World => zfinite_any d wx h0 (by omega))
  have NG := hid (fun wx : World => znegative_any d wx h0 (by omega))
  have SP := hid (fun wx : World => zspan_any d wx h0 (by omega) (by omega))
  rw [hm] at SP
  rw [Sh.fnt_iff, hm, decide_eq_true h1] at FN
  rw [show Sh.ng d = false from decide_eq_false (by omega)] at NG
  have NO := fun wx : World => norm_any false s X.ds X.e wx hs (by omega)
  have E0 : errOf X.ds X.e = 0 ∧ nmd false X.ds X.e = X := by
    refine ⟨by rw [errOf, if_pos hX.dec], ?_⟩
    rw [nmd, if_pos hX.dec, ← hn]
    exact hX.fix
  unfold NormTold decV at NO
  rw [E0.1, E0.2] at NO
  have HN := hid NO
  have HO : Hid (∀ (wx : World) (s1 s2 s3 t : ByteArray), Str s2 (Sh.dd (Sh.A d)).ds → Str s3 (Sh.dd (Sh.B d)).ds → Str t X.ds → Calls Tryz.prog 28 #[spanV (Sh.dd (Sh.V d)) (Sh.dd (Sh.A d)) (Sh.dd (Sh.B d)) s1 s2 s3 (decide (d % 2 = 0)), .agg #[.bool X.neg, .string t, .int .i64 X.e]] wx fun e w' => e = .returned (.bool (Sh.hD (Sh.dd (Sh.A d)) (Sh.dd (Sh.B d)) X (decide (d % 2 = 0)))) ∧ Below wx.heap.size wx w') :=
    fun wx s1 s2 s3 t q2 q3 qt => zholds_any _ _ _ X _ s1 s2 s3 t wx (Sh.nmA h0 h1) (Sh.nmB h0 h1) hX q2 q3 qt
  rw [hn] at HO
  have SP2 : Hid (∀ wx : World, Calls Tryz.prog 19 #[.int .u64 d] wx fun r w' => ∃ s1 s2 s3, r = .returned (spanV (Sh.dd (Sh.V d)) (Sh.dd (Sh.A d)) (Sh.dd (Sh.B d)) s1 s2 s3 (decide (d % 2 = 0))) ∧ Hid (Str s2 (Sh.dd (Sh.A d)).ds ∧ Str s3 (Sh.dd (Sh.B d)).ds) ∧ Below wx.heap.size wx w') := by
    intro wx
    refine (SP.out wx).mono ?_
    rintro e w' ⟨v, rfl, ⟨s1, s2, s3, hv, g1, g2, g3⟩, hB⟩
    exact ⟨s1, s2, s3, by rw [hv], ⟨g2, g3⟩, hB⟩
  have ZB := hid (alloc_b w (.cells #[.bool false, .string s, .int .i64 X.e] 25))
  clear E0 NO hs hX SP hm hl
  generalize Sh.hD (Sh.dd (Sh.A d)) (Sh.dd (Sh.B d)) X (decide (d % 2 = 0)) = RB0 at *
  generalize decide (d % 2 = 0) = cb at *
  generalize Sh.dd (Sh.V d) = DV at *
  generalize Sh.dd (Sh.A d) = DA at *
  generalize Sh.dd (Sh.B d) = DB at *
  unfold spanV at HO SP2
  go_enter Tryz.func13, Tryz.ntmps13
  go_wp2_with fail
  refine (HN.out _).mono ?_
  rintro e w1 ⟨v, rfl, ⟨t, hv, ht⟩, B1⟩
  rw [hn] at hv
  unfold decV at hv
  subst hv
  have HB1 := hid (ZB.out.trans (B1.mono ZB.out.size))
  have HT := hid ht
  clear B1 HN ht
  go_wp2_with fail
  refine (FN.out _).mono ?_
  rintro e wz ⟨rfl, hz⟩
  subst hz
  go_upto_region 6 with fail
  have c0 := (FR3.new w1 (.bool false) (.string t) (.int .i64 X.e)).cells.1.1
  go_quiet (with_reducible exact Calls.quiet_of_same (NG.out _))
  have rY : FR3 ((w1.alloc (.cells #[.bool false, .string t, .int .i64 X.e] 25)).drewN nq) w1.heap.size (.bool false) (.string t) (.int .i64 X.e) := FR3.new w1 _ _ _
  have bY := below_drewN (HB1.out.trans ((alloc_b w1 (.cells #[.bool false, .string t, .int .i64 X.e] 25)).mono HB1.out.size)) nq
  generalize (w1.alloc (.cells #[.bool false, .string t, .int .i64 X.e] 25)).drewN nq = wY at *
  have rY2 : FR3 (wY.setCell ⟨w1.heap.size, 0, none⟩ (.bool false)) w1.heap.size (.bool false) (.string t) (.int .i64 X.e) := fset1 (o := 0) (v := .bool false) (c' := #[.bool false, .string t, .int .i64 X.e]) rY (by simp [Array.setIfInBounds])
  have bY2 := bY.setCell (p := ⟨w1.heap.size, 0, none⟩) HB1.out.size (.bool false)
  obtain ⟨⟨q0, q1, q2⟩, q3, q4, q5⟩ := rY.cells
  obtain ⟨SS, KS, CS, BS, MS⟩ := state (fun w' => FR3 w' w1.heap.size (.bool false) (.string t) (.int .i64 X.e)) w (fun _ _ g hB => FR3.below g hB (FR3.lt g))
  have S0 := hid (MS.out _ rY2 bY2)
  have FT : Hid (∀ wx : World, SS wx → (wx.cell? ⟨w1.heap.size, 0, none⟩ = some (.bool false) ∧ wx.cell? ⟨w1.heap.size, 1, none⟩ = some (.string t) ∧ wx.cell? ⟨w1.heap.size, 2, none⟩ = some (.int .i64 X.e))) := fun wx h => (CS.out wx h).cells.1
  clear rY rY2 bY bY2 MS CS c0
  go_upto_region 9 with fail
  generalize wY.setCell ⟨w1.heap.size, 0, none⟩ (.bool false) = wX at *
  have T0 := hid (KS.out _ _ S0.out (drew_nil _))
  clear S0 q0 q1 q2 q3 q4 q5
  have HO2 : Hid (∀ (wx : World) (s1 s2 s3 : ByteArray), Hid (Str s2 DA.ds ∧ Str s3 DB.ds) → Calls Tryz.prog 28 #[.agg #[.bool DV.neg, .string s1, .int .i64 DV.e, .bool DA.neg, .string s2, .int .i64 DA.e, .bool DB.neg, .string s3, .int .i64 DB.e, .bool cb], .agg #[.bool false, .string t, .int .i64 X.e]] wx fun e w' => e = .returned (.bool RB0) ∧ Below wx.heap.size wx w') := fun wx s1 s2 s3 h => HO.out wx s1 s2 s3 t h.out.1 h.out.2 HT.out
  go_region_held3 (fun wx => (wx.cell? ⟨w1.heap.size, 0, none⟩ = some (.bool false) ∧ wx.cell? ⟨w1.heap.size, 1, none⟩ = some (.string t) ∧ wx.cell? ⟨w1.heap.size, 2, none⟩ = some (.int .i64 X.e))) (first | (with_reducible exact FT.out _ T2.out) | (with_reducible exact FT.out _ T1.out) | (with_reducible exact FT.out _ T0.out)) (first
    | (go_at_call 19; with_reducible refine (SP2.out _).mono ?_; rintro e w5 ⟨s1, s2, s3, rfl, HG, hB⟩; have T1 := hid (KS.out _ _ T0.out hB); clear hB)
    | (go_at_call 28; with_reducible refine (HO2.out _ _ _ _ HG).mono ?_; rintro e w6 ⟨rfl, hB⟩; have T2 := hid (KS.out _ _ T1.out hB); clear hB))
  have K := hid (BS.out _ T2.out)
  clear T0 T1 T2 FT KS BS HO HO2 SP2
  go_wp2_with fail
  go_ret2
  exact ⟨rfl, K.out⟩
end Go.Proofs.YtobiapniidaibaaGreatDoor

namespace Go.Proofs.YtobiapniidaibaaGreatDoor
open Go Go.RowKit Go.Deep

namespace Sh
/-- What Holds tells. -/
noncomputable def hoB (neg : Bool) (xs : List Int) (e d : Int) : Bool := if Sc.IsDec xs e ∧ Ie.fnt d = true then (neg == ng d) && hD (dd (A (d % 9223372036854775808))) (dd (B (d % 9223372036854775808))) ⟨false, (Sc.nrm neg xs e).ds, (Sc.nrm neg xs e).e⟩ (decide ((d % 9223372036854775808) % 2 = 0)) else false
noncomputable def hoE (xs : List Int) (e d : Int) : Int := if Sc.IsDec xs e then (if Ie.fnt d = true then 0 else 5) else 80
theorem nrm_ds (neg : Bool) (xs : List Int) (e : Int) : (Sc.nrm neg xs e).ds = (Sc.nrm false xs e).ds ∧ (Sc.nrm neg xs e).e = (Sc.nrm false xs e).e := by
  unfold Sc.nrm
  split <;> exact ⟨rfl, rfl⟩
theorem nm_nrm {neg : Bool} {xs : List Int} {e : Int} (h : Sc.IsDec xs e) (hl : xs.length ≤ 281474976710654) : Nm ⟨false, (Sc.nrm neg xs e).ds, (Sc.nrm neg xs e).e⟩ := by
  have n := lnml_nrm neg h
  exact ⟨n.1, n.2, by have := Sc.nrm_len neg xs e; show (Sc.nrm neg xs e).ds.length ≤ _; omega⟩
end Sh

def HoTold (neg : Bool) (xs : List Int) (e d : Int) (w : World) (r : Ending) (w' : World) : Prop := r = .returned (.tuple #[.bool (Sh.hoB neg xs e d), .int .i64 (Sh.hoE xs e d)]) ∧ Below w.heap.size w w'

set_option maxRecDepth 100000 in
set_option maxHeartbeats 4000000 in
theorem zhold_any (neg : Bool) (s : ByteArray) (xs : List Int) (e d : Int) (w : World) (h0 : 0 ≤ d) (h1 : d < 18446744073709551616) (hs : Str s xs) (hl : xs.length ≤ 281474976710654) :
    Calls Tryz.prog 13 #[.agg #[.bool neg, .string s, .int .i64 e], .int .u64 d] w fun r w' => HoTold neg xs e d w r w' := by
  have FN := hid (fun wx : World => zfinite_any d wx h0 h1)
  have NG := hid (fun wx : World => znegative_any d wx h0 h1)
  have NO := hid (fun wx : World => norm_any neg s xs e wx hs (by omega))
  have ZB := hid (alloc_b w (.cells #[.bool neg, .string s, .int .i64 e] 25))
  unfold NormTold decV at NO
  by_cases hd : Sc.IsDec xs e
  · have E0 : errOf xs e = 0 ∧ nmd neg xs e = Sc.nrm neg xs e := ⟨by rw [errOf, if_pos hd], by rw [nmd, if_pos hd]⟩
    rw [E0.1, E0.2] at NO
    have hng := Sc.nrm_neg neg xs e
    by_cases hf : Ie.fnt d = true
    · have hfin : d % 9223372036854775808 < 9218868437227405312 := by rw [Sh.fnt_iff] at hf; exact of_decide_eq_true hf
      obtain ⟨a, ha⟩ : ∃ a, d % 9223372036854775808 = a := ⟨_, rfl⟩
      have a0 : 0 ≤ a := by omega
      have SP := fun wx : World => zspan_any d wx h0 h1 hfin
      have nmX := Sh.nm_nrm (neg := neg) hd hl
      have G : Hid (∀ w' r, Below w.heap.size w w' → r = ((neg == Sh.ng d) && Sh.hD (Sh.dd (Sh.A a)) (Sh.dd (Sh.B a)) ⟨false, (Sc.nrm neg xs e).ds, (Sc.nrm neg xs e).e⟩ (decide (a % 2 = 0))) → HoTold neg xs e d w (.returned (.tuple #[.bool r, .int .i64 0])) w') := by
        intro w' r hB hr
        refine ⟨?_, hB⟩
        rw [Sh.hoB, if_pos ⟨hd, hf⟩, Sh.hoE, if_pos hd, if_pos hf, hr, ha]
      rw [ha] at SP hfin
      have HO : Hid (∀ (wx : World) (s1 s2 s3 t : ByteArray), Str s2 (Sh.dd (Sh.A a)).ds → Str s3 (Sh.dd (Sh.B a)).ds → Str t (Sc.nrm neg xs e).ds → Calls Tryz.prog 28 #[spanV (Sh.dd (Sh.V a)) (Sh.dd (Sh.A a)) (Sh.dd (Sh.B a)) s1 s2 s3 (decide (a % 2 = 0)), .agg #[.bool false, .string t, .int .i64 (Sc.nrm neg xs e).e]] wx fun e' w' => e' = .returned (.bool (Sh.hD (Sh.dd (Sh.A a)) (Sh.dd (Sh.B a)) ⟨false, (Sc.nrm neg xs e).ds, (Sc.nrm neg xs e).e⟩ (decide (a % 2 = 0)))) ∧ Below wx.heap.size wx w') :=
        fun wx s1 s2 s3 t q2 q3 qt => zholds_any _ _ _ ⟨false, (Sc.nrm neg xs e).ds, (Sc.nrm neg xs e).e⟩ _ s1 s2 s3 t wx (Sh.nmA a0 hfin) (Sh.nmB a0 hfin) nmX q2 q3 qt
      have SP2 : Hid (∀ wx : World, Calls Tryz.prog 19 #[.int .u64 d] wx fun r w' => ∃ s1 s2 s3, r = .returned (spanV (Sh.dd (Sh.V a)) (Sh.dd (Sh.A a)) (Sh.dd (Sh.B a)) s1 s2 s3 (decide (a % 2 = 0))) ∧ Hid (Str s2 (Sh.dd (Sh.A a)).ds ∧ Str s3 (Sh.dd (Sh.B a)).ds) ∧ Below wx.heap.size wx w') := by
        intro wx
        refine (SP wx).mono ?_
        rintro e w' ⟨v, rfl, ⟨s1, s2, s3, hv, g1, g2, g3⟩, hB⟩
        exact ⟨s1, s2, s3, by rw [hv], ⟨g2, g3⟩, hB⟩
      rw [hf] at FN
      clear SP E0 nmX hs hl hf hfin a0 ha hd
      generalize Sc.nrm neg xs e = X at *
      generalize hRR : Sh.hD (Sh.dd (Sh.A a)) (Sh.dd (Sh.B a)) ⟨false, X.ds, X.e⟩ (decide (a % 2 = 0)) = RB0 at *
      generalize decide (a % 2 = 0) = cb at *
      generalize Sh.dd (Sh.V a) = DV at *
      generalize Sh.dd (Sh.A a) = DA at *
      generalize Sh.dd (Sh.B a) = DB at *
      generalize Sh.ng d = nd at *
      clear hRR
      unfold spanV at HO SP2
      cases neg
      · cases nd
        · go_enter Tryz.func13, Tryz.ntmps13
          go_wp2_with fail
          refine (NO.out _).mono ?_
          rintro e w1 ⟨v, rfl, ⟨t, hv, ht⟩, B1⟩
          rw [hng] at hv
          unfold decV at hv
          subst hv
          have HB1 := hid (ZB.out.trans (B1.mono ZB.out.size))
          have HT := hid ht
          clear B1 NO ht hng
          go_wp2_with fail
          refine (FN.out _).mono ?_
          rintro e wz ⟨rfl, hz⟩
          subst hz
          go_upto_region 6 with fail
          have c0 := (FR3.new w1 (.bool false) (.string t) (.int .i64 X.e)).cells.1.1
          go_quiet (with_reducible exact Calls.quiet_of_same (NG.out _))
          have G2 : Hid (∀ w', Below w.heap.size w w' → HoTold false xs e d w (.returned (.tuple #[.bool RB0, .int .i64 0])) w') := fun w' hB => G.out _ _ hB (by simp)
          have rY : FR3 ((w1.alloc (.cells #[.bool false, .string t, .int .i64 X.e] 25)).drewN nq) w1.heap.size (.bool false) (.string t) (.int .i64 X.e) := FR3.new w1 _ _ _
          have bY := below_drewN (HB1.out.trans ((alloc_b w1 (.cells #[.bool false, .string t, .int .i64 X.e] 25)).mono HB1.out.size)) nq
          generalize (w1.alloc (.cells #[.bool false, .string t, .int .i64 X.e] 25)).drewN nq = wY at *
          have rY2 : FR3 (wY.setCell ⟨w1.heap.size, 0, none⟩ (.bool false)) w1.heap.size (.bool false) (.string t) (.int .i64 X.e) := fset1 (o := 0) (v := .bool false) (c' := #[.bool false, .string t, .int .i64 X.e]) rY (by simp [Array.setIfInBounds])
          have bY2 := bY.setCell (p := ⟨w1.heap.size, 0, none⟩) HB1.out.size (.bool false)
          obtain ⟨⟨q0, q1, q2⟩, q3, q4, q5⟩ := rY.cells
          obtain ⟨SS, KS, CS, BS, MS⟩ := state (fun w' => FR3 w' w1.heap.size (.bool false) (.string t) (.int .i64 X.e)) w (fun _ _ g hB => FR3.below g hB (FR3.lt g))
          have S0 := hid (MS.out _ rY2 bY2)
          have FT : Hid (∀ wx : World, SS wx → (wx.cell? ⟨w1.heap.size, 0, none⟩ = some (.bool false) ∧ wx.cell? ⟨w1.heap.size, 1, none⟩ = some (.string t) ∧ wx.cell? ⟨w1.heap.size, 2, none⟩ = some (.int .i64 X.e))) := fun wx h => (CS.out wx h).cells.1
          clear rY rY2 bY bY2 MS CS c0
          go_upto_region 9 with fail
          generalize wY.setCell ⟨w1.heap.size, 0, none⟩ (.bool false) = wX at *
          have T0 := hid (KS.out _ _ S0.out (drew_nil _))
          clear S0 q0 q1 q2 q3 q4 q5
          have HO2 : Hid (∀ (wx : World) (s1 s2 s3 : ByteArray), Hid (Str s2 DA.ds ∧ Str s3 DB.ds) → Calls Tryz.prog 28 #[.agg #[.bool DV.neg, .string s1, .int .i64 DV.e, .bool DA.neg, .string s2, .int .i64 DA.e, .bool DB.neg, .string s3, .int .i64 DB.e, .bool cb], .agg #[.bool false, .string t, .int .i64 X.e]] wx fun e w' => e = .returned (.bool RB0) ∧ Below wx.heap.size wx w') := fun wx s1 s2 s3 h => HO.out wx s1 s2 s3 t h.out.1 h.out.2 HT.out
          go_region_held3 (fun wx => (wx.cell? ⟨w1.heap.size, 0, none⟩ = some (.bool false) ∧ wx.cell? ⟨w1.heap.size, 1, none⟩ = some (.string t) ∧ wx.cell? ⟨w1.heap.size, 2, none⟩ = some (.int .i64 X.e))) (first | (with_reducible exact FT.out _ T2.out) | (with_reducible exact FT.out _ T1.out) | (with_reducible exact FT.out _ T0.out)) (first
            | (go_at_call 19; with_reducible refine (SP2.out _).mono ?_; rintro e w5 ⟨s1, s2, s3, rfl, HG, hB⟩; have T1 := hid (KS.out _ _ T0.out hB); clear hB)
            | (go_at_call 28; with_reducible refine (HO2.out _ _ _ _ HG).mono ?_; rintro e w6 ⟨rfl, hB⟩; have T2 := hid (KS.out _ _ T1.out hB); clear hB))
          have K := hid (BS.out _ T2.out)
          clear T0 T1 T2 FT KS BS HO HO2 SP2
          go_wp2_with fail
          go_ret2
          exact G2.out _ K.out
        · go_enter Tryz.func13, Tryz.ntmps13
          go_wp2_with fail
          refine (NO.out _).mono ?_
          rintro e w1 ⟨v, rfl, ⟨t, hv, ht⟩, B1⟩
          rw [hng] at hv
          unfold decV at hv
          subst hv
          have HB1 := hid (ZB.out.trans (B1.mono ZB.out.size))
          have HT := hid ht
          clear B1 NO ht hng
          go_wp2_with fail
          refine (FN.out _).mono ?_
          rintro e wz ⟨rfl, hz⟩
          subst hz
          go_upto_region 6 with fail
          have c0 := (FR3.new w1 (.bool false) (.string t) (.int .i64 X.e)).cells.1.1
          go_quiet (with_reducible exact Calls.quiet_of_same (NG.out _))
          have K := hid (G.out _ false (below_drewN (HB1.out.trans ((alloc_b w1 (.cells #[.bool false, .string t, .int .i64 X.e] 25)).mono HB1.out.size)) nq) (by simp))
          clear G HO SP2 HB1 HT c0
          go_wp2_with fail
          go_ret2
          exact K.out
      · cases nd
        · go_enter Tryz.func13, Tryz.ntmps13
          go_wp2_with fail
          refine (NO.out _).mono ?_
          rintro e w1 ⟨v, rfl, ⟨t, hv, ht⟩, B1⟩
          rw [hng] at hv
          unfold decV at hv
          subst hv
          have HB1 := hid (ZB.out.trans (B1.mono ZB.out.size))
          have HT := hid ht
          clear B1 NO ht hng
          go_wp2_with fail
          refine (FN.out _).mono ?_
          rintro e wz ⟨rfl, hz⟩
          subst hz
          go_upto_region 6 with fail
          have c0 := (FR3.new w1 (.bool true) (.string t) (.int .i64 X.e)).cells.1.1
          go_quiet (with_reducible exact Calls.quiet_of_same (NG.out _))
          have K := hid (G.out _ false (below_drewN (HB1.out.trans ((alloc_b w1 (.cells #[.bool true, .string t, .int .i64 X.e] 25)).mono HB1.out.size)) nq) (by simp))
          clear G HO SP2 HB1 HT c0
          go_wp2_with fail
          go_ret2
          exact K.out
        · go_enter Tryz.func13, Tryz.ntmps13
          go_wp2_with fail
          refine (NO.out _).mono ?_
          rintro e w1 ⟨v, rfl, ⟨t, hv, ht⟩, B1⟩
          rw [hng] at hv
          unfold decV at hv
          subst hv
          have HB1 := hid (ZB.out.trans (B1.mono ZB.out.size))
          have HT := hid ht
          clear B1 NO ht hng
          go_wp2_with fail
          refine (FN.out _).mono ?_
          rintro e wz ⟨rfl, hz⟩
          subst hz
          go_upto_region 6 with fail
          have c0 := (FR3.new w1 (.bool true) (.string t) (.int .i64 X.e)).cells.1.1
          go_quiet (with_reducible exact Calls.quiet_of_same (NG.out _))
          have G2 : Hid (∀ w', Below w.heap.size w w' → HoTold true xs e d w (.returned (.tuple #[.bool RB0, .int .i64 0])) w') := fun w' hB => G.out _ _ hB (by simp)
          have rY : FR3 ((w1.alloc (.cells #[.bool true, .string t, .int .i64 X.e] 25)).drewN nq) w1.heap.size (.bool true) (.string t) (.int .i64 X.e) := FR3.new w1 _ _ _
          have bY := below_drewN (HB1.out.trans ((alloc_b w1 (.cells #[.bool true, .string t, .int .i64 X.e] 25)).mono HB1.out.size)) nq
          generalize (w1.alloc (.cells #[.bool true, .string t, .int .i64 X.e] 25)).drewN nq = wY at *
          have rY2 : FR3 (wY.setCell ⟨w1.heap.size, 0, none⟩ (.bool false)) w1.heap.size (.bool false) (.string t) (.int .i64 X.e) := fset1 (o := 0) (v := .bool false) (c' := #[.bool false, .string t, .int .i64 X.e]) rY (by simp [Array.setIfInBounds])
          have bY2 := bY.setCell (p := ⟨w1.heap.size, 0, none⟩) HB1.out.size (.bool false)
          obtain ⟨⟨q0, q1, q2⟩, q3, q4, q5⟩ := rY.cells
          obtain ⟨SS, KS, CS, BS, MS⟩ := state (fun w' => FR3 w' w1.heap.size (.bool false) (.string t) (.int .i64 X.e)) w (fun _ _ g hB => FR3.below g hB (FR3.lt g))
          have S0 := hid (MS.out _ rY2 bY2)
          have FT : Hid (∀ wx : World, SS wx → (wx.cell? ⟨w1.heap.size, 0, none⟩ = some (.bool false) ∧ wx.cell? ⟨w1.heap.size, 1, none⟩ = some (.string t) ∧ wx.cell? ⟨w1.heap.size, 2, none⟩ = some (.int .i64 X.e))) := fun wx h => (CS.out wx h).cells.1
          clear rY rY2 bY bY2 MS CS c0
          go_upto_region 9 with fail
          generalize wY.setCell ⟨w1.heap.size, 0, none⟩ (.bool false) = wX at *
          have T0 := hid (KS.out _ _ S0.out (drew_nil _))
          clear S0 q0 q1 q2 q3 q4 q5
          have HO2 : Hid (∀ (wx : World) (s1 s2 s3 : ByteArray), Hid (Str s2 DA.ds ∧ Str s3 DB.ds) → Calls Tryz.prog 28 #[.agg #[.bool DV.neg, .string s1, .int .i64 DV.e, .bool DA.neg, .string s2, .int .i64 DA.e, .bool DB.neg, .string s3, .int .i64 DB.e, .bool cb], .agg #[.bool false, .string t, .int .i64 X.e]] wx fun e w' => e = .returned (.bool RB0) ∧ Below wx.heap.size wx w') := fun wx s1 s2 s3 h => HO.out wx s1 s2 s3 t h.out.1 h.out.2 HT.out
          go_region_held3 (fun wx => (wx.cell? ⟨w1.heap.size, 0, none⟩ = some (.bool false) ∧ wx.cell? ⟨w1.heap.size, 1, none⟩ = some (.string t) ∧ wx.cell? ⟨w1.heap.size, 2, none⟩ = some (.int .i64 X.e))) (first | (with_reducible exact FT.out _ T2.out) | (with_reducible exact FT.out _ T1.out) | (with_reducible exact FT.out _ T0.out)) (first
            | (go_at_call 19; with_reducible refine (SP2.out _).mono ?_; rintro e w5 ⟨s1, s2, s3, rfl, HG, hB⟩; have T1 := hid (KS.out _ _ T0.out hB); clear hB)
            | (go_at_call 28; with_reducible refine (HO2.out _ _ _ _ HG).mono ?_; rintro e w6 ⟨rfl, hB⟩; have T2 := hid (KS.out _ _ T1.out hB); clear hB))
          have K := hid (BS.out _ T2.out)
          clear T0 T1 T2 FT KS BS HO HO2 SP2
          go_wp2_with fail
          go_ret2
          exact G2.out _ K.out
    · have hf' : Ie.fnt d = false := by simpa using hf
      have G : Hid (∀ w', Below w.heap.size w w' → HoTold neg xs e d w (.returned (.tuple #[.bool false, .int .i64 5])) w') := fun w' hB => ⟨by rw [Sh.hoB, if_neg (fun h => hf h.2), Sh.hoE, if_pos hd, if_neg hf], hB⟩
      rw [hf'] at FN
      clear E0 hd hs hl hf hf'
      generalize Sc.nrm neg xs e = X at *
      go_enter Tryz.func13, Tryz.ntmps13
      go_wp2_with fail
      refine (NO.out _).mono ?_
      rintro e w1 ⟨v, rfl, ⟨t, hv, ht⟩, B1⟩
      rw [hng] at hv
      unfold decV at hv
      subst hv
      have K := hid (G.out _ ((ZB.out.trans (B1.mono ZB.out.size)).trans ((alloc_b w1 (.cells #[.bool neg, .string t, .int .i64 X.e] 25)).mono (ZB.out.trans (B1.mono ZB.out.size)).size)))
      clear B1 NO ht G
      go_wp2_with fail
      refine (FN.out _).mono ?_
      rintro e wz ⟨rfl, hz⟩
      subst hz
      go_wp2_with fail
      go_ret2
      exact K.out
  · have E0 : errOf xs e = 80 := by rw [errOf, if_neg hd]
    have G : Hid (∀ w', Below w.heap.size w w' → HoTold neg xs e d w (.returned (.tuple #[.bool false, .int .i64 80])) w') := fun w' hB => ⟨by rw [Sh.hoB, if_neg (fun h => hd h.1), Sh.hoE, if_neg hd], hB⟩
    rw [E0] at NO
    clear E0 hd hs hl
    generalize nmd neg xs e = X at *
    go_enter Tryz.func13, Tryz.ntmps13
    go_wp2_with fail
    refine (NO.out _).mono ?_
    rintro e w1 ⟨v, rfl, ⟨t, hv, ht⟩, B1⟩
    unfold decV at hv
    subst hv
    have K := hid (G.out _ ((ZB.out.trans (B1.mono ZB.out.size)).trans ((alloc_b w1 (.cells #[.bool X.neg, .string t, .int .i64 X.e] 25)).mono (ZB.out.trans (B1.mono ZB.out.size)).size)))
    clear B1 NO ht G
    go_wp2_with fail
    go_ret2
    exact K.out
end Go.Proofs.YtobiapniidaibaaGreatDoor

namespace Go.Proofs.YtobiapniidaibaaGreatDoor
open Go Go.RowKit Go.Deep

set_option maxRecDepth 100000 in
set_option maxHeartbeats 2000000 in
theorem ldigits_yes (s : ByteArray) (xs : List Int) (w : World) (hs : Str s xs) (hx : Fx.Nml xs) (hn : xs.length ≤ 281474976710656) :
    Calls Tryz.prog 8 #[.string s] w fun e w' => e = .returned (.bool true) ∧ w' = w := by
  have HS := hid hs
  have HN := hid hn
  have HX := hid hx
  have hsz := hs.size
  have hnb : (xs.length : Int) ≤ 281474976710656 := by omega
  clear hs hn hx
  go_enter Tryz.func8, Tryz.ntmps8
  go_wp2_with fail
  go_loop [3] (fun c => ∃ j : Nat, c = .int .i64 j ∧ Hid (j ≤ xs.length)) (fun c => match c with | .int _ j => xs.length - j.toNat | _ => 0)
  case atStart => exact ⟨0, rfl, Nat.zero_le _⟩
  case round =>
    obtain ⟨j, rfl, I⟩ := hrel
    have hjl : j ≤ xs.length := I.out
    have hjb : (j : Int) ≤ 281474976710656 := by have := HN.out; omega
    have hx := HS.out.pk j
    by_cases hj : j < xs.length
    · have hji : (j : Int) < (xs.length : Int) := by omega
      have hd : 48 ≤ Sc.pk xs j ∧ Sc.pk xs j ≤ 57 := Sh.digs_get HX.out.digs hj
      have d1 : ¬ Sc.pk xs j < 48 := by omega
      have d2 : ¬ 57 < Sc.pk xs j := by omega
      have I2 : Hid (j + 1 ≤ xs.length) := hj
      clear hd I hjl
      generalize Sc.pk xs j = xj at *
      go_wp2_with fail
      go_round
      case rel => exact ⟨j + 1, by go_num, I2.out⟩
      case measure => simp; omega
    · have hji : ¬ (j : Int) < (xs.length : Int) := by omega
      obtain ⟨m, hm⟩ := HX.out.len
      have hp' : (0 : Int) < (xs.length : Int) := by omega
      have hm1 : (xs.length : Int) - 1 = (m : Int) := by omega
      have hml : (m : Int) < (xs.length : Int) := by omega
      have y0 := HS.out.pk 0
      have ym := HS.out.pk m
      have q0 : Sc.pk xs 0 ≠ 48 := HX.out.head
      have qm : Sc.pk xs m ≠ 48 := by
        have := HX.out.last
        rw [hm, Nat.add_sub_cancel] at this
        exact this
      have b0 : (Sc.pk xs 0 == 48) = false := by simpa using q0
      have b1 : (Sc.pk xs 0 != 48) = true := by simpa using q0
      have e0 : (Sc.pk xs m == 48) = false := by simpa using qm
      have e1 : (Sc.pk xs m != 48) = true := by simpa using qm
      clear I hx hj qm q0 hm
      generalize Sc.pk xs 0 = x0 at *
      generalize Sc.pk xs m = xm at *
      go_wp2_with fail
      go_ret
      exact ⟨rfl, rfl⟩

namespace Sh
theorem dd_self {U : Int} (h : 0 ≤ U) : (⟨false, (dd U).ds, (dd U).e⟩ : Sc.D) = dd U := by
  have o := (dd_is h).1.neg
  cases hD : dd U with
  | mk n ds e => rw [hD] at o; simp at o; rw [o]
/-- What Holds tells of a row of digits. -/
theorem hold_row {d e : Int} {neg : Bool} {rs : List Int} (hf : Ie.fnt d = true) (_h0 : 0 ≤ d) (hd : Digs rs) (hn : rs ≠ []) (e0 : -1075 ≤ e) (e1 : e ≤ 100000) (hl : rs.length ≤ 100000) :
    hoE rs e d = 0 ∧ (hoB neg rs e d = true → inB (d % 9223372036854775808) (dv rs * 10 ^ (e + 1075).toNat) = true) := by
  have I := isdec hd hn e0 e1 hl
  have U0 : 0 ≤ dv rs * 10 ^ (e + 1075).toNat := Int.mul_nonneg (dv_bd hd).1 (Int.le_of_lt (Fx.p_pos _))
  refine ⟨by rw [hoE, if_pos I, if_pos hf], fun h => ?_⟩
  rw [hoB, if_pos ⟨I, hf⟩, (nrm_ds neg rs e).1, (nrm_ds neg rs e).2, nrm_dd hd e0, dd_self U0, hD_in (by omega) U0] at h
  exact (Bool.and_eq_true_iff.1 h).2
/-- How great a gap can be. -/
theorem gap_bd {xs ys : List Int} {t1 t2 n : Nat} (hx : Digs xs) (hy : Digs ys) (h1 : xs.length + t1 ≤ n) (h2 : ys.length + t2 ≤ n) : ((dv xs * 10 ^ t1 - dv ys * 10 ^ t2).natAbs : Int) < 10 ^ n := by
  have up : ∀ {zs : List Int} {t : Nat}, Digs zs → zs.length + t ≤ n → 0 ≤ dv zs * 10 ^ t ∧ dv zs * 10 ^ t < 10 ^ n := by
    intro zs t hz hl
    have b := dv_bd hz
    have p := Fx.p_pos t
    refine ⟨Int.mul_nonneg b.1 (Int.le_of_lt p), ?_⟩
    obtain ⟨k, hk⟩ : ∃ k, n = zs.length + t + k := ⟨n - (zs.length + t), by omega⟩
    rw [hk, Int.pow_add, Int.pow_add]
    have q : (1 : Int) ≤ 10 ^ k := Fx.p_pos k
    have s1 := Int.mul_lt_mul_of_pos_right b.2 p
    have s2 := Int.mul_le_mul_of_nonneg_left q (Int.le_of_lt (Int.lt_of_le_of_lt (Int.mul_nonneg b.1 (Int.le_of_lt p)) s1))
    rw [Int.mul_one] at s2
    omega
  have a := up hx h1
  have b := up hy h2
  omega
end Sh

/-- What stands in memory as the law goes on. -/
structure NeS (w : World) (bx bv g : Nat) (neg : Bool) (t : ByteArray) (e : Int) (vn : Bool) (u : ByteArray) (f : Int) (n : Nat) (G : Int) (W : World) : Prop where
  x : FR3 W bx (.bool neg) (.string t) (.int .i64 e)
  v : FR3 W bv (.bool vn) (.string u) (.int .i64 f)
  m : OwnB W g (Dn.dg 10 n G)
  b : Below w.heap.size w W
theorem ownb_lt {W : World} {g : Nat} {zs : List Int} (h : OwnB W g zs) : g < W.heap.size := by
  unfold OwnB at h
  rcases Nat.lt_or_ge g W.heap.size with hl | hl
  · exact hl
  · simp [Array.getElem?_eq_none hl] at h
theorem ownb_on {W W' : World} {g : Nat} {zs : List Int} (h : OwnB W g zs) (b : Below W.heap.size W W') : OwnB W' g zs := by
  unfold OwnB at *
  rw [b.block g (ownb_lt h)]; exact h
theorem fr3_on {W W' : World} {g : Nat} {v0 v1 v2 : Value} (h : FR3 W g v0 v1 v2) (b : Below W.heap.size W W') : FR3 W' g v0 v1 v2 := h.below b h.lt
theorem bel_on {w W W' : World} (h : Below w.heap.size w W) (b : Below W.heap.size W W') : Below w.heap.size w W' := h.trans (b.mono h.size)
theorem NeS.on {w : World} {bx bv g : Nat} {neg : Bool} {t : ByteArray} {e : Int} {vn : Bool} {u : ByteArray} {f : Int} {n : Nat} {G : Int} {W W' : World} (h : NeS w bx bv g neg t e vn u f n G W) (b : Below W.heap.size W W') : NeS w bx bv g neg t e vn u f n G W' :=
  ⟨fr3_on h.x b, fr3_on h.v b, ownb_on h.m b, bel_on h.b b⟩
end Go.Proofs.YtobiapniidaibaaGreatDoor

namespace Go.Proofs.YtobiapniidaibaaGreatDoor
open Go Go.RowKit Go.Deep

theorem near_c {G G2 y : Int} {is : Bool} (h : is = true → G ≤ G2 ∧ (G = G2 → y % 2 = 0)) (hi : is = true) : Sc.cmpI (G2 * 10 ^ 0) (G * 10 ^ 0) = 1 ∨ (Sc.cmpI (G2 * 10 ^ 0) (G * 10 ^ 0) = 0 ∧ y % 2 = 0) := by
  obtain ⟨a, b⟩ := h hi
  rw [Int.pow_zero, Int.mul_one, Int.mul_one, Sc.cmpI, if_neg (by omega)]
  by_cases c : G < G2
  · rw [if_pos c]; exact .inl rfl
  · rw [if_neg c]; exact .inr ⟨rfl, b (by omega)⟩

/-- What the law needs to know of a neighbour. -/
def NyTold (d : Int) (neg : Bool) (e : Int) (u : ByteArray) (f lo G y : Int) (w : World) (r : Ending) (w' : World) : Prop :=
  ∃ (t2 : ByteArray) (is : Bool) (n2 : Nat) (G2 : Int), r = .returned (.agg #[.bool neg, .string t2, .int .i64 e]) ∧
    (∀ W, Calls Tryz.prog 13 #[.agg #[.bool neg, .string t2, .int .i64 e], .int .u64 d] W fun r w' => r = .returned (.tuple #[.bool is, .int .i64 0]) ∧ Below W.heap.size W w') ∧
    (∀ W, Calls Tryz.prog 11 #[.agg #[.bool neg, .string t2, .int .i64 e], .agg #[.bool neg, .string u, .int .i64 f]] W fun r w' => GapTold n2 G2 lo W r w') ∧
    (0 ≤ G2 ∧ G2 < 10 ^ n2 ∧ n2 ≤ 5000 ∧ (is = true → G ≤ G2 ∧ (G = G2 → y % 2 = 0))) ∧ Below w.heap.size w w'

set_option maxRecDepth 100000 in
set_option maxHeartbeats 8000000 in
theorem nearest_of (d M : Int) (neg : Bool) (t u : ByteArray) (e f lo G y : Int) (n L : Nat) (w : World)
    (hM : d.tmod 9223372036854775808 = M) (h0 : M ≠ 0) (tl : t.size = L + 1) (L16 : L ≤ 16) (ty : ∀ h : L < t.size, ((t[L]'h).toNat : Int) = y) (y0 : 48 ≤ y) (y1 : y ≤ 57) (e0 : -400 ≤ e) (e1 : e ≤ 400) (l0 : -2000 ≤ lo) (l1 : lo ≤ 2000)
    (hG : 0 ≤ G ∧ G < 10 ^ n ∧ n ≤ 5000)
    (AW : Calls Tryz.prog 5 #[] w fun r w' => r = .returned (.bool true) ∧ Below w.heap.size w w')
    (DG : ∀ W, Below w.heap.size w W → Calls Tryz.prog 6 #[.int .u64 d] W fun r w' => r = .returned (.tuple #[.agg #[.bool neg, .string t, .int .i64 e], .int .i64 0]) ∧ Below W.heap.size W w')
    (FN : ∀ W, Calls Tryz.prog 7 #[.int .u64 d] W fun r w' => r = .returned (.bool true) ∧ w' = W)
    (LD : ∀ W, Calls Tryz.prog 8 #[.string t] W fun r w' => r = .returned (.bool true) ∧ w' = W)
    (AL : ∀ W, Below w.heap.size w W → Calls Tryz.prog 9 #[.int .u64 d] W fun r w' => r = .returned (.tuple #[.agg #[.bool neg, .string u, .int .i64 f], .int .i64 0]) ∧ Below W.heap.size W w')
    (MO : ∀ W, Calls Tryz.prog 10 #[.agg #[.bool neg, .string u, .int .i64 f]] W fun r w' => r = .returned (.bool true) ∧ Below W.heap.size W w')
    (GP : ∀ W, Calls Tryz.prog 11 #[.agg #[.bool neg, .string t, .int .i64 e], .agg #[.bool neg, .string u, .int .i64 f]] W fun r w' => GapTold n G lo W r w')
    (NY : ∀ (up : Bool) W, Calls Tryz.prog 12 #[.agg #[.bool neg, .string t, .int .i64 e], .int .i64 e, .bool up] W fun r w' => NyTold d neg e u f lo G y W r w') :
    Calls Tryz.prog 3 #[.int .u64 d] w fun r w' => r = .returned (.bool true) ∧ Below w.heap.size w w' := by
  have AW := hid AW
  have DG := hid DG
  have FN := hid FN
  have LD := hid LD
  have AL := hid AL
  have MO := hid MO
  have GP := hid GP
  have NY := hid NY
  have HG := hid (And.intro hG.1 (And.intro hG.2.1 (And.intro hG.2.2 True.intro)))
  have hz : (M == 0) = false := by simpa using h0
  have tl1 : (t.size : Int) = (L : Int) + 1 := by omega
  have li : (L : Int) ≤ 16 := by omega
  have wl : IntKind.i64.wrap ((L : Int) + 1 - 1) = (L : Int) := by rw [IntKind.wrap_i64]; omega
  have wy : IntKind.u8.wrap (y - 48) = y - 48 := by rw [IntKind.wrap_u8]; omega
  have n17 : ¬ (17 : Int) < (L : Int) + 1 := by omega
  have lt1 : L < t.size := by omega
  have e0' : ¬ e < -400 := by omega
  have e1' : ¬ 400 < e := by omega
  clear h0 hG
  go_enter Tryz.func3, Tryz.ntmps3
  go_wp2_with fail
  refine AW.out.mono ?_
  rintro r w1 ⟨rfl, b1⟩
  have B1 := hid b1
  clear b1 AW
  go_wp2_with fail
  refine (DG.out _ B1.out).mono ?_
  rintro r w2 ⟨rfl, b2⟩
  have B2 := hid (bel_on B1.out b2)
  have S2 := hid (And.intro (bel_on B2.out (alloc_b w2 (.cells #[.bool neg, .string t, .int .i64 e] 25))) (FR3.new w2 (.bool neg) (.string t) (.int .i64 e)))
  clear b2 B1 DG B2
  go_upto_region 5 with fail
  generalize w2.alloc (.cells #[.bool neg, .string t, .int .i64 e] 25) = w3 at *
  generalize w2.heap.size = bx at *
  go_wp2_with fail
  refine (FN.out _).mono ?_
  rintro r w4 ⟨rfl, hw4⟩
  rw [hw4]
  clear hw4 w4 FN
  obtain ⟨⟨x0, x1, x2⟩, _⟩ := S2.out.2.cells
  go_wp2_with fail
  refine (LD.out _).mono ?_
  rintro r w4 ⟨rfl, hw4⟩
  rw [hw4]
  clear hw4 w4 LD
  go_wp2_with fail
  refine (AL.out _ S2.out.1).mono ?_
  rintro r w5 ⟨rfl, b5⟩
  have c5 := alloc_b w5 (.cells #[.bool neg, .string u, .int .i64 f] 25)
  have S5 := hid (And.intro (bel_on (bel_on S2.out.1 b5) c5) (And.intro (fr3_on (fr3_on S2.out.2 b5) c5) (FR3.new w5 (.bool neg) (.string u) (.int .i64 f))))
  clear b5 c5 S2 AL x0 x1 x2
  go_upto_region 11 with fail
  generalize w5.alloc (.cells #[.bool neg, .string u, .int .i64 f] 25) = w6 at *
  generalize w5.heap.size = bv at *
  obtain ⟨⟨x0, x1, x2⟩, _⟩ := S5.out.2.1.cells
  obtain ⟨⟨v0, v1, v2⟩, _⟩ := S5.out.2.2.cells
  go_wp2_with fail
  refine (MO.out _).mono ?_
  rintro r w7 ⟨rfl, b7⟩
  have S7 := hid (And.intro (bel_on S5.out.1 b7) (And.intro (fr3_on S5.out.2.1 b7) (fr3_on S5.out.2.2 b7)))
  clear b7 S5 MO x0 x1 x2 v0 v1 v2
  obtain ⟨⟨x0, x1, x2⟩, _⟩ := S7.out.2.1.cells
  obtain ⟨⟨v0, v1, v2⟩, _⟩ := S7.out.2.2.cells
  go_wp2_with fail
  refine (GP.out _).mono ?_
  rintro r w8 ⟨g, rfl, _, ow, b8⟩
  have I0 : Hid (NeS w bx bv g neg t e neg u f n G w8) := ⟨fr3_on S7.out.2.1 b8, fr3_on S7.out.2.2 b8, ow, bel_on S7.out.1 b8⟩
  clear b8 ow S7 GP x0 x1 x2 v0 v1 v2
  go_wp2_with fail
  go_loopg [11] 2 (fun q kv wr => ∃ k : Nat, Hid (k + q = 2) ∧ kv = .int .i64 (k : Int) ∧ Hid (NeS w bx bv g neg t e neg u f n G wr))
  case atStart => exact ⟨0, rfl, rfl, I0⟩
  case round =>
    obtain ⟨k, hkm, rfl, S⟩ := hrel
    clear I0
    rcases (show k = 0 ∨ k = 1 ∨ k = 2 by have := hkm.out; omega) with rfl | rfl | rfl
    · skip
      have NK := hid (NY.out true wr)
      obtain ⟨⟨x0, x1, x2⟩, _⟩ := S.out.x.cells
      go_wp2_with fail
      refine NK.out.mono ?_
      rintro r w1 ⟨t2, is, n2, G2, rfl, ho, gq, hq, b1⟩
      have HO := hid ho
      have GQ := hid gq
      have HQ := hid hq
      have S1 := hid (And.intro ((S.out.on b1).on (alloc_b w1 (.cells #[.bool neg, .string t2, .int .i64 e] 25))) (FR3.new w1 (.bool neg) (.string t2) (.int .i64 e)))
      clear ho gq hq b1 NK S x0 x1 x2
      go_upto_region 18 with fail
      generalize w1.alloc (.cells #[.bool neg, .string t2, .int .i64 e] 25) = w2 at *
      generalize w1.heap.size = yb at *
      obtain ⟨⟨x0, x1, x2⟩, _⟩ := S1.out.2.cells
      go_wp2_with fail
      refine (HO.out _).mono ?_
      rintro r w3 ⟨rfl, b3⟩
      have S3 := hid (And.intro (S1.out.1.on b3) (fr3_on S1.out.2 b3))
      clear b3 S1 HO x0 x1 x2
      obtain ⟨⟨x0, x1, x2⟩, _⟩ := S3.out.2.cells
      obtain ⟨⟨v0, v1, v2⟩, _⟩ := S3.out.1.v.cells
      go_wp2_with fail
      refine (GQ.out _).mono ?_
      rintro r w4 ⟨g2, rfl, _, ow, b4⟩
      have S4 := hid (And.intro (S3.out.1.on b4) ow)
      clear b4 ow S3 GQ x0 x1 x2 v0 v1 v2
      have LE := hid (less_any g2 g n2 n n2 n G2 G lo lo w4 S4.out.2 S4.out.1.m HQ.out.1 HQ.out.2.1 HG.out.1 HG.out.2.1 lo 0 0 (by omega) (by omega) (.inl rfl) HQ.out.2.2.1 HG.out.2.2.1 (by omega) (by omega) (by omega) (by omega))
      go_wp2_with fail
      refine LE.out.mono ?_
      rintro r w5 ⟨rfl, rfl⟩
      have CC : Hid (is = true → (Sc.cmpI (G2 * 10 ^ 0) (G * 10 ^ 0) = 1 ∨ (Sc.cmpI (G2 * 10 ^ 0) (G * 10 ^ 0) = 0 ∧ y % 2 = 0))) := fun h => near_c HQ.out.2.2.2 h
      generalize Sc.cmpI (G2 * 10 ^ 0) (G * 10 ^ 0) = c at *
      obtain ⟨⟨x0, x1, x2⟩, _⟩ := S4.out.1.x.cells
      have F := hid S4.out.1
      clear LE S4 HQ
      cases is with
      | false =>
        clear CC
        go_wp2_with fail
        go_roundg 1
        case measure => have := hkm.out; omega
        case rel => exact ⟨1, by rw [Hid], rfl, F⟩
      | true =>
        have cc := CC.out rfl
        clear CC
        rcases cc with rfl | ⟨rfl, hy⟩
        · skip
          go_wp2_with fail
          go_roundg 1
          case measure => have := hkm.out; omega
          case rel => exact ⟨1, by rw [Hid], rfl, F⟩
        · have tm : (y - 48).tmod 2 = 0 := by rw [Int.tmod_eq_emod_of_nonneg (by omega)]; omega
          have te : (y - 48) % 2 = 0 := by omega
          go_wp2_with fail
          go_roundg 1
          case measure => have := hkm.out; omega
          case rel => exact ⟨1, by rw [Hid], rfl, F⟩
    · skip
      have NK := hid (NY.out false wr)
      obtain ⟨⟨x0, x1, x2⟩, _⟩ := S.out.x.cells
      go_wp2_with fail
      refine NK.out.mono ?_
      rintro r w1 ⟨t2, is, n2, G2, rfl, ho, gq, hq, b1⟩
      have HO := hid ho
      have GQ := hid gq
      have HQ := hid hq
      have S1 := hid (And.intro ((S.out.on b1).on (alloc_b w1 (.cells #[.bool neg, .string t2, .int .i64 e] 25))) (FR3.new w1 (.bool neg) (.string t2) (.int .i64 e)))
      clear ho gq hq b1 NK S x0 x1 x2
      go_upto_region 18 with fail
      generalize w1.alloc (.cells #[.bool neg, .string t2, .int .i64 e] 25) = w2 at *
      generalize w1.heap.size = yb at *
      obtain ⟨⟨x0, x1, x2⟩, _⟩ := S1.out.2.cells
      go_wp2_with fail
      refine (HO.out _).mono ?_
      rintro r w3 ⟨rfl, b3⟩
      have S3 := hid (And.intro (S1.out.1.on b3) (fr3_on S1.out.2 b3))
      clear b3 S1 HO x0 x1 x2
      obtain ⟨⟨x0, x1, x2⟩, _⟩ := S3.out.2.cells
      obtain ⟨⟨v0, v1, v2⟩, _⟩ := S3.out.1.v.cells
      go_wp2_with fail
      refine (GQ.out _).mono ?_
      rintro r w4 ⟨g2, rfl, _, ow, b4⟩
      have S4 := hid (And.intro (S3.out.1.on b4) ow)
      clear b4 ow S3 GQ x0 x1 x2 v0 v1 v2
      have LE := hid (less_any g2 g n2 n n2 n G2 G lo lo w4 S4.out.2 S4.out.1.m HQ.out.1 HQ.out.2.1 HG.out.1 HG.out.2.1 lo 0 0 (by omega) (by omega) (.inl rfl) HQ.out.2.2.1 HG.out.2.2.1 (by omega) (by omega) (by omega) (by omega))
      go_wp2_with fail
      refine LE.out.mono ?_
      rintro r w5 ⟨rfl, rfl⟩
      have CC : Hid (is = true → (Sc.cmpI (G2 * 10 ^ 0) (G * 10 ^ 0) = 1 ∨ (Sc.cmpI (G2 * 10 ^ 0) (G * 10 ^ 0) = 0 ∧ y % 2 = 0))) := fun h => near_c HQ.out.2.2.2 h
      generalize Sc.cmpI (G2 * 10 ^ 0) (G * 10 ^ 0) = c at *
      obtain ⟨⟨x0, x1, x2⟩, _⟩ := S4.out.1.x.cells
      have F := hid S4.out.1
      clear LE S4 HQ
      cases is with
      | false =>
        clear CC
        go_wp2_with fail
        go_roundg 0
        case measure => have := hkm.out; omega
        case rel => exact ⟨2, by rw [Hid], rfl, F⟩
      | true =>
        have cc := CC.out rfl
        clear CC
        rcases cc with rfl | ⟨rfl, hy⟩
        · skip
          go_wp2_with fail
          go_roundg 0
          case measure => have := hkm.out; omega
          case rel => exact ⟨2, by rw [Hid], rfl, F⟩
        · have tm : (y - 48).tmod 2 = 0 := by rw [Int.tmod_eq_emod_of_nonneg (by omega)]; omega
          have te : (y - 48) % 2 = 0 := by omega
          go_wp2_with fail
          go_roundg 0
          case measure => have := hkm.out; omega
          case rel => exact ⟨2, by rw [Hid], rfl, F⟩
    · have F := hid S.out.b
      clear S
      go_wp2_with fail
      go_ret
      exact ⟨rfl, F.out⟩
end Go.Proofs.YtobiapniidaibaaGreatDoor

namespace Go.Proofs.YtobiapniidaibaaGreatDoor
open Go Go.RowKit Go.Deep

namespace Sh
theorem zD01 : zD 4591870180066957722 = ⟨false, [49], -1⟩ ∧ zR 4591870180066957722 = 0 := by
  have f : Ie.fnt 4591870180066957722 = true := by decide
  refine ⟨?_, by rw [zR, if_pos f]⟩
  rw [zD, if_pos f, show (4591870180066957722 : Int) % 9223372036854775808 = 4591870180066957722 by decide, dgt01, ddt01]
  rfl
theorem zD25 : zD 4612811918334230528 = ⟨false, [50, 53], -1⟩ ∧ zR 4612811918334230528 = 0 := by
  have f : Ie.fnt 4612811918334230528 = true := by decide
  refine ⟨?_, by rw [zR, if_pos f]⟩
  rw [zD, if_pos f, show (4612811918334230528 : Int) % 9223372036854775808 = 4612811918334230528 by decide, dgt25, dd25]
  rfl
theorem wD13 : wD 4599676419421066581 16 = ⟨false, threes, -16⟩ ∧ wB 4599676419421066581 16 = true := by
  rw [wD, wB, wn13]
  exact ⟨ddt13, rfl⟩
theorem hD01 : hD (dd (A 4591870180066957722)) (dd (B 4591870180066957722)) ⟨false, [49], -1⟩ (decide ((4591870180066957722 : Int) % 2 = 0)) = true := by
  have h := hD_in (a := 4591870180066957722) (U := 10 ^ 1074) (by decide) (Int.le_of_lt (Fx.p_pos 1074))
  rw [ddt01, in01] at h
  exact h
theorem nm01 : Nm ⟨false, [49], -1⟩ := by
  have h := bd_room (U := 10 ^ 1074) (Int.le_of_lt (Fx.p_pos 1074)) (by
    refine Int.lt_of_lt_of_le (b := 10 ^ 1075) ?_ (Fx.p_le (by omega))
    rw [Int.pow_succ 10 1074]
    have := Fx.p_pos 1074
    generalize (10 : Int) ^ 1074 = z at *
    omega)
  rw [ddt01] at h
  exact h
end Sh

set_option maxRecDepth 100000 in
theorem zlaid25 (w : World) : Calls Tryz.prog 31 #[.string ⟨#[50, 53]⟩, .int .i64 1] w fun e w' => e = .returned (.string ⟨#[50, 46, 53]⟩) ∧ Below w.heap.size w w' := by
  have e1 : (⟨#[50, 53]⟩ : ByteArray).size = 2 := rfl
  have e2 : (⟨#[50, 53]⟩ : ByteArray).extract 0 1 ++ ⟨#[46]⟩ ++ (⟨#[50, 53]⟩ : ByteArray).extract 1 2 = ⟨#[50, 46, 53]⟩ := by decide +kernel
  generalize (⟨#[50, 53]⟩ : ByteArray) = s at *
  go_enter Tryz.func31, Tryz.ntmps31
  go_upto_region 5 with fail
  go_quiet (fail)
  go_wp2_with fail
  go_ret
  exact ⟨rfl, below_drewN (Below.refl _ _) _⟩

set_option maxRecDepth 100000 in
theorem ztext25 (w : World) (htab : Tab10 w) : Calls Tryz.prog 17 #[.int .u64 4612811918334230528] w fun e w' => e = .returned (.string ⟨#[50, 46, 53]⟩) ∧ Below w.heap.size w w' := by
  have NG := hid (fun wx : World => znegative_any 4612811918334230528 wx (by decide) (by decide))
  rw [show Sh.ng 4612811918334230528 = false from by decide] at NG
  have CL := hid (fun wx : World => class_any 4612811918334230528 wx (by decide) (by decide))
  rw [show Ie.cls 4612811918334230528 = 2 from by decide] at CL
  have DG := hid (zdig_any 4612811918334230528 w (by decide) (by decide) htab)
  unfold DigTold at DG
  rw [Sh.zD25.1, Sh.zD25.2] at DG
  have LD := hid (fun wx : World => zlaid25 wx)
  clear htab
  go_enter Tryz.func17, Tryz.ntmps17
  go_wp2_with fail
  refine (NG.out _).mono ?_
  rintro e wz ⟨rfl, hz⟩
  subst hz
  go_wp2_with fail
  refine (CL.out _).mono ?_
  rintro e wz ⟨rfl, hz⟩
  subst hz
  go_wp2_with fail
  refine DG.out.mono ?_
  rintro e w1 ⟨t, rfl, ht, hB⟩
  have ht2 : t = ⟨#[50, 53]⟩ := ht.out.inj rfl
  subst ht2
  have e1 : (⟨#[50, 53]⟩ : ByteArray).size = 2 := rfl
  have HB := hid (hB.trans ((alloc_b w1 (.cells #[.bool false, .string ⟨#[50, 53]⟩, .int .i64 (-1)] 25)).mono hB.size))
  clear hB DG ht
  go_wp2_with fail
  refine (LD.out _).mono ?_
  rintro e w2 ⟨rfl, hB⟩
  have K := hid (HB.out.trans (hB.mono HB.out.size))
  clear hB HB
  go_wp2_with fail
  go_ret
  exact ⟨rfl, K.out⟩

set_option maxRecDepth 100000 in
set_option maxHeartbeats 2000000 in
theorem lawake_any (w : World) (htab : Tab10 w) : Calls Tryz.prog 5 #[] w fun e w' => e = .returned (.bool true) ∧ Below w.heap.size w w' := by
  have DG := hid (zdig_any 4591870180066957722 w (by decide) (by decide) htab)
  unfold DigTold at DG
  rw [Sh.zD01.1, Sh.zD01.2] at DG
  have WI : Hid (∀ wx : World, Tab10 wx → Calls Tryz.prog 15 #[.int .u64 4599676419421066581, .int .i64 16] wx fun e w' => ∃ t, e = .returned (.tuple #[.agg #[.bool false, .string t, .int .i64 (-16)], .bool true, .int .i64 0]) ∧ Hid (Str t Sh.threes) ∧ Below wx.heap.size wx w') := by
    intro wx hx
    have h := zwi_any 4599676419421066581 16 wx (by decide) (by decide) (by decide) (by decide) (by decide) hx
    unfold WiTold at h
    rw [show (4599676419421066581 : Int) % 9223372036854775808 = 4599676419421066581 by decide, Sh.wD13.1, Sh.wD13.2, show Sh.ng 4599676419421066581 = false from by decide] at h
    exact h
  have HO := hid (fun wx : World => zhold_pos 4591870180066957722 ⟨#[49]⟩ ⟨false, [49], -1⟩ wx (by decide) (by decide) rfl Sh.nm01 rfl (by decide))
  rw [Sh.hD01] at HO
  have TX := hid (fun (wx : World) (h : Tab10 wx) => ztext25 wx h)
  have Q1 : ∀ wx : World, (Op.equalIn 10000 25 (.agg #[.bool false, .string ⟨#[49]⟩, .int .i64 (-1)]) (.agg #[.bool false, .string ⟨#[49]⟩, .int .i64 (-1)])).run Tryz.prog wx = .ok true wx := fun wx => leq_dec _ _ _ wx
  have Q2 : ∀ wx : World, (Op.equalIn 10000 25 (.agg #[.bool false, .string ⟨#[51, 51, 51, 51, 51, 51, 51, 51, 51, 51, 51, 51, 51, 51, 51, 51]⟩, .int .i64 (-16)]) (.agg #[.bool false, .string ⟨#[51, 51, 51, 51, 51, 51, 51, 51, 51, 51, 51, 51, 51, 51, 51, 51]⟩, .int .i64 (-16)])).run Tryz.prog wx = .ok true wx := fun wx => leq_dec _ _ _ wx
  have TB := hid htab
  clear htab
  go_enter Tryz.func5, Tryz.ntmps5
  go_wp2_with fail
  refine DG.out.mono ?_
  rintro e w1 ⟨t, rfl, ht, hB⟩
  have ht2 : t = ⟨#[49]⟩ := ht.out.inj rfl
  subst ht2
  have HB := hid (hB.trans ((alloc_b w1 (.cells #[.bool false, .string ⟨#[49]⟩, .int .i64 (-1)] 25)).mono hB.size))
  have rX := FR3.new w1 (.bool false) (.string ⟨#[49]⟩) (.int .i64 (-1))
  have W1 := hid (WI.out _ (tab10_below TB.out HB.out))
  have RX := hid rX
  clear hB DG ht WI rX
  go_wp2_with fail
  refine W1.out.mono ?_
  rintro e w2 ⟨t, rfl, ht, hB⟩
  have ht2 : t = ⟨#[51, 51, 51, 51, 51, 51, 51, 51, 51, 51, 51, 51, 51, 51, 51, 51]⟩ := ht.out.inj rfl
  subst ht2
  have aY := alloc_b w2 (.cells #[.bool false, .string ⟨#[51, 51, 51, 51, 51, 51, 51, 51, 51, 51, 51, 51, 51, 51, 51, 51]⟩, .int .i64 (-16)] 25)
  have HB2 := hid (HB.out.trans ((hB.trans (aY.mono hB.size)).mono HB.out.size))
  have RX2 := (RX.out.below (hB.trans (aY.mono hB.size)) RX.out.lt)
  obtain ⟨⟨c0, c1, c2⟩, -⟩ := RX2.cells
  clear hB W1 ht HB aY RX RX2
  go_wp2_with fail
  refine (HO.out _).mono ?_
  rintro e w3 ⟨rfl, hB⟩
  have HB3 := hid (HB2.out.trans (hB.mono HB2.out.size))
  have T3 := hid (TX.out _ (tab10_below TB.out HB3.out))
  clear hB HO HB2 TX c0 c1 c2
  go_wp2_with fail
  refine T3.out.mono ?_
  rintro e w4 ⟨rfl, hB⟩
  have K := hid (HB3.out.trans (hB.mono HB3.out.size))
  clear hB T3 HB3
  go_wp2_with fail
  go_ret
  exact ⟨rfl, K.out⟩
end Go.Proofs.YtobiapniidaibaaGreatDoor

namespace Go.Proofs.YtobiapniidaibaaGreatDoor
open Go Go.RowKit Go.Deep

theorem ltab10_on {w w' : World} (h : Tab10 w) (k : Below w.heap.size w w') : Tab10 w' := by
  unfold Tab10 Lib.TabIs World.var? at *
  cases hg : Tryz.prog.globalNamed "internal/strconv.uint64pow10" with
  | none => rw [hg] at h; simp at h
  | some g =>
    rw [hg] at h
    simp only [Option.bind_some] at h ⊢
    have hl : g < w.heap.size := by
      rcases Nat.lt_or_ge g w.heap.size with c | c
      · exact c
      · rw [Array.getElem?_eq_none c] at h; simp at h
    rw [k.block g hl]; exact h

set_option maxRecDepth 100000 in
set_option maxHeartbeats 2000000 in
theorem nearest_inf (d : Int) (neg : Bool) (t : ByteArray) (e : Int) (w : World)
    (AW : Calls Tryz.prog 5 #[] w fun r w' => r = .returned (.bool true) ∧ Below w.heap.size w w')
    (DG : ∀ W, Below w.heap.size w W → Calls Tryz.prog 6 #[.int .u64 d] W fun r w' => r = .returned (.tuple #[.agg #[.bool neg, .string t, .int .i64 e], .int .i64 5]) ∧ Below W.heap.size W w')
    (FN : ∀ W, Calls Tryz.prog 7 #[.int .u64 d] W fun r w' => r = .returned (.bool false) ∧ w' = W) :
    Calls Tryz.prog 3 #[.int .u64 d] w fun r w' => r = .returned (.bool true) ∧ Below w.heap.size w w' := by
  have AW := hid AW
  have DG := hid DG
  have FN := hid FN
  go_enter Tryz.func3, Tryz.ntmps3
  go_wp2_with fail
  refine AW.out.mono ?_
  rintro r w1 ⟨rfl, b1⟩
  have B1 := hid b1
  clear b1 AW
  go_wp2_with fail
  refine (DG.out _ B1.out).mono ?_
  rintro r w2 ⟨rfl, b2⟩
  have S2 := hid (bel_on (bel_on B1.out b2) (alloc_b w2 (.cells #[.bool neg, .string t, .int .i64 e] 25)))
  clear b2 B1 DG
  go_upto_region 5 with fail
  generalize w2.alloc (.cells #[.bool neg, .string t, .int .i64 e] 25) = w3 at *
  generalize w2.heap.size = bx at *
  go_wp2_with fail
  refine (FN.out _).mono ?_
  rintro r w4 ⟨rfl, hw4⟩
  rw [hw4]
  clear hw4 w4 FN
  go_wp2_with fail
  go_ret
  exact ⟨rfl, S2.out⟩

set_option maxRecDepth 100000 in
set_option maxHeartbeats 2000000 in
theorem nearest_zerofalse (w : World)
    (AW : Calls Tryz.prog 5 #[] w fun r w' => r = .returned (.bool true) ∧ Below w.heap.size w w')
    (DG : ∀ W, Below w.heap.size w W → Calls Tryz.prog 6 #[.int .u64 0] W fun r w' => r = .returned (.tuple #[.agg #[.bool false, .string ⟨#[48]⟩, .int .i64 0], .int .i64 0]) ∧ Below W.heap.size W w')
    (FN : ∀ W, Calls Tryz.prog 7 #[.int .u64 0] W fun r w' => r = .returned (.bool true) ∧ w' = W) :
    Calls Tryz.prog 3 #[.int .u64 0] w fun r w' => r = .returned (.bool true) ∧ Below w.heap.size w w' := by
  have AW := hid AW
  have DG := hid DG
  have FN := hid FN
  have EQ := fun W => leq_dec false ⟨#[48]⟩ 0 W
  go_enter Tryz.func3, Tryz.ntmps3
  go_wp2_with fail
  refine AW.out.mono ?_
  rintro r w1 ⟨rfl, b1⟩
  have B1 := hid b1
  clear b1 AW
  go_wp2_with fail
  refine (DG.out _ B1.out).mono ?_
  rintro r w2 ⟨rfl, b2⟩
  have S2 := hid (And.intro (bel_on (bel_on B1.out b2) (alloc_b w2 (.cells #[.bool false, .string ⟨#[48]⟩, .int .i64 0] 25))) (FR3.new w2 (.bool false) (.string ⟨#[48]⟩) (.int .i64 0)))
  clear b2 B1 DG
  go_upto_region 5 with fail
  generalize w2.alloc (.cells #[.bool false, .string ⟨#[48]⟩, .int .i64 0] 25) = w3 at *
  generalize w2.heap.size = bx at *
  go_wp2_with fail
  refine (FN.out _).mono ?_
  rintro r w4 ⟨rfl, hw4⟩
  rw [hw4]
  clear hw4 w4 FN
  obtain ⟨⟨x0, x1, x2⟩, _⟩ := S2.out.2.cells
  go_wp2_with fail
  go_ret
  exact ⟨rfl, S2.out.1⟩

set_option maxRecDepth 100000 in
set_option maxHeartbeats 2000000 in
theorem nearest_zerotrue (w : World)
    (AW : Calls Tryz.prog 5 #[] w fun r w' => r = .returned (.bool true) ∧ Below w.heap.size w w')
    (DG : ∀ W, Below w.heap.size w W → Calls Tryz.prog 6 #[.int .u64 9223372036854775808] W fun r w' => r = .returned (.tuple #[.agg #[.bool true, .string ⟨#[48]⟩, .int .i64 0], .int .i64 0]) ∧ Below W.heap.size W w')
    (FN : ∀ W, Calls Tryz.prog 7 #[.int .u64 9223372036854775808] W fun r w' => r = .returned (.bool true) ∧ w' = W) :
    Calls Tryz.prog 3 #[.int .u64 9223372036854775808] w fun r w' => r = .returned (.bool true) ∧ Below w.heap.size w w' := by
  have AW := hid AW
  have DG := hid DG
  have FN := hid FN
  have EQ := fun W => leq_dec true ⟨#[48]⟩ 0 W
  go_enter Tryz.func3, Tryz.ntmps3
  go_wp2_with fail
  refine AW.out.mono ?_
  rintro r w1 ⟨rfl, b1⟩
  have B1 := hid b1
  clear b1 AW
  go_wp2_with fail
  refine (DG.out _ B1.out).mono ?_
  rintro r w2 ⟨rfl, b2⟩
  have S2 := hid (And.intro (bel_on (bel_on B1.out b2) (alloc_b w2 (.cells #[.bool true, .string ⟨#[48]⟩, .int .i64 0] 25))) (FR3.new w2 (.bool true) (.string ⟨#[48]⟩) (.int .i64 0)))
  clear b2 B1 DG
  go_upto_region 5 with fail
  generalize w2.alloc (.cells #[.bool true, .string ⟨#[48]⟩, .int .i64 0] 25) = w3 at *
  generalize w2.heap.size = bx at *
  go_wp2_with fail
  refine (FN.out _).mono ?_
  rintro r w4 ⟨rfl, hw4⟩
  rw [hw4]
  clear hw4 w4 FN
  obtain ⟨⟨x0, x1, x2⟩, _⟩ := S2.out.2.cells
  go_wp2_with fail
  go_ret
  exact ⟨rfl, S2.out.1⟩

theorem nearest_main (d : Int) (w : World) (hT : Tab w) (ht : Tab10 w) (d0 : 0 ≤ d) (d1 : d < 18446744073709551616) (hf : Ie.fnt d = true) (ha : 0 < d % 9223372036854775808) :
    Calls Tryz.prog 3 #[.int .u64 d] w fun r w' => r = .returned (.bool true) ∧ Below w.heap.size w w' := by
  have hfin : d % 9223372036854775808 < 9218868437227405312 := by rw [Sh.fnt_iff] at hf; exact of_decide_eq_true hf
  obtain ⟨xs, hxs⟩ : ∃ xs, xs = (Sh.dd (Sh.dgt (d % 9223372036854775808))).ds := ⟨_, rfl⟩
  obtain ⟨e, he⟩ : ∃ e, e = (Sh.dd (Sh.dgt (d % 9223372036854775808))).e := ⟨_, rfl⟩
  obtain ⟨nx, xl, e0, e1⟩ := Sh.dgt_room ha hfin
  rw [← hxs] at nx xl
  rw [← he] at e0 e1
  have xb : ∀ x ∈ xs, 0 ≤ x ∧ x < 256 := fun x hx => by have := nx.digs x hx; omega
  have hst := Str.of_nums xb
  obtain ⟨t, htt⟩ : ∃ t, strOfNums xs = t := ⟨_, rfl⟩
  rw [htt] at hst
  have zd : Sh.zD d = ⟨Sh.ng d, xs, e⟩ := by rw [Sh.zD, if_pos hf, hxs, he]
  have zr : Sh.zR d = 0 := by rw [Sh.zR, if_pos hf]
  have DG : ∀ W, Below w.heap.size w W → Calls Tryz.prog 6 #[.int .u64 d] W fun r w' => r = .returned (.tuple #[.agg #[.bool (Sh.ng d), .string t, .int .i64 e], .int .i64 0]) ∧ Below W.heap.size W w' := fun W hW =>
    (zdig_any d W d0 d1 (ltab10_on ht hW)).mono (fun r w' h => by
      obtain ⟨t', h1, h2, h3⟩ := h
      rw [zd, zr] at h1
      have h4 := h2.out
      rw [zd] at h4
      rw [h1, h4.inj hst]
      exact ⟨rfl, h3⟩)
  obtain ⟨ys, hys⟩ : ∃ ys, ys = Fx.X d := ⟨_, rfl⟩
  obtain ⟨f, hff⟩ : ∃ f, f = Fx.P d := ⟨_, rfl⟩
  have XE := Fx.X_ex hf
  have XD := Fx.X_digs hf
  have XR := Fx.X_room hf
  rw [← hys, ← hff] at XE XR
  rw [← hys] at XD
  have cl : Ie.cls d < 3 := of_decide_eq_true hf
  obtain ⟨_, m1, _, de1, _⟩ := Ie.fdec d cl
  obtain ⟨hV, mp⟩ := Sh.ex_V XE cl ha
  have ysh := Sh.ex_short XE mp m1 de1
  have yb : ∀ x ∈ ys, 0 ≤ x ∧ x < 256 := fun x hx => by have := XD.1 x hx; omega
  have hsu := Str.of_nums yb
  obtain ⟨u, huu⟩ : ∃ u, strOfNums ys = u := ⟨_, rfl⟩
  rw [huu] at hsu
  have AL : ∀ W, Below w.heap.size w W → Calls Tryz.prog 9 #[.int .u64 d] W fun r w' => r = .returned (.tuple #[.agg #[.bool (Sh.ng d), .string u, .int .i64 f], .int .i64 0]) ∧ Below W.heap.size W w' := fun W hW =>
    (fall_any d W (hT.below hW) d0 d1).mono (fun r w' h => by
      obtain ⟨s, h1, h2, h3⟩ := h
      rw [Fx.aS, if_pos hf, ← hys] at h2
      rw [Fx.aN, Fx.aE, Fx.aR, if_pos hf, if_pos hf, hf, Bool.true_and, ← hff] at h1
      rw [h1, h2.inj hsu]
      exact ⟨rfl, h3⟩)
  obtain ⟨lo, hlo⟩ : ∃ lo, min e f = lo := ⟨_, rfl⟩
  obtain ⟨t1, ht1⟩ : ∃ t1 : Nat, e - lo = (t1 : Int) := ⟨(e - lo).toNat, by omega⟩
  obtain ⟨t2, ht2⟩ : ∃ t2 : Nat, f - lo = (t2 : Int) := ⟨(f - lo).toNat, by omega⟩
  have lx : 1 ≤ xs.length := List.length_pos_iff.2 nx.ne
  have NN : ∀ zs : List Int, zs.length ≤ 18 → ∃ n : Nat, max (e + (zs.length : Int)) (f + (ys.length : Int)) - lo = (n : Int) ∧ n ≤ 5000 ∧ zs.length + t1 ≤ n ∧ ys.length + t2 ≤ n := fun zs hz => ⟨(max (e + (zs.length : Int)) (f + (ys.length : Int)) - lo).toNat, by omega, by omega, by omega, by omega⟩
  obtain ⟨n, hn, n5, nx1, ny1⟩ := NN xs (by omega)
  obtain ⟨L, hL⟩ := nx.len
  have GP := fun W => gap_any (Sh.ng d) (Sh.ng d) t u xs ys e f lo _ n t1 t2 W hst hsu nx.digs XD.1 hlo rfl hn ht1 ht2 n5 (by omega) (by omega) (by omega) (by omega)
  have gb := Sh.gap_bd (t1 := t1) (t2 := t2) nx.digs XD.1 nx1 ny1
  have yd := Sh.digs_get nx.digs (show L < xs.length by omega)
  have par : dv xs % 2 = 0 → xs.getD L 0 % 2 = 0 := fun h => by
    have := Fx.dv_mod nx.digs hL
    omega
  have NY : ∀ (up : Bool) W, Calls Tryz.prog 12 #[.agg #[.bool (Sh.ng d), .string t, .int .i64 e], .int .i64 e, .bool up] W fun r w' => NyTold d (Sh.ng d) e u f lo ((dv xs * 10 ^ t1 - dv ys * 10 ^ t2).natAbs : Int) (xs.getD L 0) W r w' := fun up W =>
    (near_any (Sh.ng d) t xs e up W hst nx (by omega)).mono (fun r w' h => by
      obtain ⟨t3, rs, h1, h2, h3, h4, h5, h6⟩ := h
      obtain ⟨n2, hn2, n52, nr1, nr2⟩ := NN rs (by omega)
      have hr := Sh.hold_row (neg := Sh.ng d) (e := e) hf d0 h3 (by intro c; rw [c] at h4; simp at h4) (by omega) (by omega) (by omega)
      have gb2 := Sh.gap_bd (t1 := t1) (t2 := t2) h3 XD.1 nr1 nr2
      refine ⟨t3, Sh.hoB (Sh.ng d) rs e d, n2, ((dv rs * 10 ^ t1 - dv ys * 10 ^ t2).natAbs : Int), h1, fun W' => (zhold_any (Sh.ng d) t3 rs e d W' d0 d1 h2 (by omega)).mono (fun r w' z => by rw [HoTold, hr.1] at z; exact z), fun W' => gap_any (Sh.ng d) (Sh.ng d) t3 u rs ys e f lo _ n2 t1 t2 W' h2 hsu h3 XD.1 hlo rfl hn2 ht1 ht2 n52 (by omega) (by omega) (by omega) (by omega), ⟨by omega, gb2, n52, fun hb => ?_⟩, h6⟩
      have z := Sh.near_cmp (a := d % 9223372036854775808) (r := dv rs) ha hxs he hV (by omega) (by rw [hlo]; exact ht1) (by rw [hlo]; exact ht2) (by rw [h5]; cases up <;> simp <;> omega) (hr.2 hb)
      exact ⟨Int.ofNat_le.2 z.1, fun q => par (z.2 (Int.ofNat.inj q))⟩)
  refine nearest_of d (d % 9223372036854775808) (Sh.ng d) t u e f lo _ (xs.getD L 0) n L w (Int.tmod_eq_emod_of_nonneg d0) (by omega) (by rw [hst.size, hL]) (by omega) (fun h => hst.at L h) yd.1 yd.2 e0 e1 (by omega) (by omega) ⟨by omega, gb, n5⟩
    (lawake_any w ht) DG (fun W => (lfinite_any d W d0).mono (fun r w' h => by rw [decide_eq_true hfin] at h; exact h)) (fun W => ldigits_yes t xs W hst nx (by omega)) AL
    (fun W => modest_any (Sh.ng d) u ys f W hsu ysh (by omega) (by omega)) GP NY

theorem nearest_law (d : Int) (w : World) (hT : Tab w) (ht : Tab10 w) (d0 : 0 ≤ d) (d1 : d < 18446744073709551616) :
    Calls Tryz.prog 3 #[.int .u64 d] w fun r w' => r = .returned (.bool true) ∧ Below w.heap.size w w' := by
  by_cases hf : Ie.fnt d = true
  · rcases (show d % 9223372036854775808 = 0 ∨ 0 < d % 9223372036854775808 by omega) with c | c
    · have zd : Sh.zD d = ⟨Sh.ng d, [48], 0⟩ := by rw [Sh.zD, if_pos hf, c, Sh.dgt_zero, Sh.dd_zero]
      have zr : Sh.zR d = 0 := by rw [Sh.zR, if_pos hf]
      have DG : ∀ W, Below w.heap.size w W → Calls Tryz.prog 6 #[.int .u64 d] W fun r w' => r = .returned (.tuple #[.agg #[.bool (Sh.ng d), .string ⟨#[48]⟩, .int .i64 0], .int .i64 0]) ∧ Below W.heap.size W w' := fun W hW =>
        (zdig_any d W d0 d1 (ltab10_on ht hW)).mono (fun r w' h => by
          obtain ⟨t', h1, h2, h3⟩ := h
          rw [zd, zr] at h1
          have h4 := h2.out
          rw [zd] at h4
          rw [h1, show t' = ⟨#[48]⟩ from h4.inj (t := ⟨#[48]⟩) rfl]
          exact ⟨rfl, h3⟩)
      have FN : ∀ W, Calls Tryz.prog 7 #[.int .u64 d] W fun r w' => r = .returned (.bool true) ∧ w' = W := fun W => (lfinite_any d W d0).mono (fun r w' h => by rw [decide_eq_true (by omega)] at h; exact h)
      rcases (show d = 0 ∨ d = 9223372036854775808 by omega) with rfl | rfl
      · exact nearest_zerofalse w (lawake_any w ht) DG FN
      · exact nearest_zerotrue w (lawake_any w ht) DG FN
    · exact nearest_main d w hT ht d0 d1 hf c
  · have hfin : ¬ d % 9223372036854775808 < 9218868437227405312 := by rw [Sh.fnt_iff] at hf; simpa using hf
    have zd : Sh.zD d = ⟨false, [], 0⟩ := by rw [Sh.zD, if_neg hf]
    have zr : Sh.zR d = 5 := by rw [Sh.zR, if_neg hf]
    refine nearest_inf d false ⟨#[]⟩ 0 w (lawake_any w ht) (fun W hW => (zdig_any d W d0 d1 (ltab10_on ht hW)).mono (fun r w' h => ?_)) (fun W => (lfinite_any d W d0).mono (fun r w' h => by rw [decide_eq_false hfin] at h; exact h))
    obtain ⟨t', h1, h2, h3⟩ := h
    rw [zd, zr] at h1
    have h4 := h2.out
    rw [zd] at h4
    rw [h1, show t' = ⟨#[]⟩ from h4.inj (t := ⟨#[]⟩) rfl]
    exact ⟨rfl, h3⟩
end Go.Proofs.YtobiapniidaibaaGreatDoor
