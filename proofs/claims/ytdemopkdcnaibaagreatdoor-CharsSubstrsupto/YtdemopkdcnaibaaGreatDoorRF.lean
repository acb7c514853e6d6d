/-
  Texts put together: UWhole, ZAgainst, ZRatio, IUp, ZDec, IDown, IOrd3, ZOrd, ArgLit, IWholeA.
-/
import Derived.Test.YtdemopkdcnaibaaGreatDoorRE
import Derived.Test.YtdemopkdcnaibaaGreatDoorINum2
import Derived.Test.YtdemopkdcnaibaaGreatDoorIWalk1C
import Derived.Test.YtdemopkdcnaibaaGreatDoorRB
import Derived.Test.YtdemopkdcnaibaaGreatDoorIOrdD
import Derived.Test.YtdemopkdcnaibaaGreatDoorRD
import Derived.Test.YtdemopkdcnaibaaGreatDoorIDec
import Derived.Test.YtdemopkdcnaibaaGreatDoorMem
import Derived.Test.YtdemopkdcnaibaaGreatDoorIKinds
/-
  The document's layer 6: whole and its four rules (made by mkuwhole.py).
-/
namespace Go.Proofs.YtdemopkdcnaibaaGreatDoor
open Go Go.RowKit Go.Deep

namespace Ie
/-- The parts of a finite double with bits behind the point, in units. -/
theorem sd_un {d : Int} {k : Nat} (hf : fin d) (hk : de d = -(k : Int)) (k1 : 1 ≤ k) (k2 : k ≤ 1074) :
    dm d / 2 ^ k = un (ab d) / 2 ^ 1074 ∧ (sd (dm d) k = 0 ↔ intg d = true) ∧ (sd (dm d) k = 0 ∨ sd (dm d) k = 1 ∨ sd (dm d) k = 2 ∨ sd (dm d) k = 3) ∧
    (sd (dm d) k ≠ 0 → (nrup (un (ab d)) = true ↔ (sd (dm d) k = 3 ∨ (sd (dm d) k = 2 ∧ dm d / 2 ^ k % 2 = 1)))) := by
  obtain ⟨-, -, g, -⟩ := dec_f d hf
  have hp := Nm.two_pos (1074 - k)
  have e1 : (2 : Int) ^ 1074 = 2 ^ k * 2 ^ (1074 - k) := by rw [← Nm.two_add]; congr 1; omega
  have e2 : (2 : Int) ^ 1073 = 2 ^ (k - 1) * 2 ^ (1074 - k) := by rw [← Nm.two_add]; congr 1; omega
  have e3 : (2 : Int) ^ k = 2 * 2 ^ (k - 1) := by rw [← Nm.two_succ]; congr 1; omega
  have hU := (g (1074 - k) (by omega)).symm
  have hW : dm d / 2 ^ k = un (ab d) / 2 ^ 1074 := by rw [hU, e1, ediv_scale _ _ _ hp]
  have hF : un (ab d) % 2 ^ 1074 = dm d % 2 ^ k * 2 ^ (1074 - k) := by rw [hU, e1, emod_scale _ _ _ hp]
  refine ⟨hW, ?_, ?_, fun hs => ?_⟩
  · rw [intg_iff_un hf, hF, sd]
    constructor
    · intro h
      split at h
      · rename_i q; rw [q, Int.zero_mul]
      · split at h
        · omega
        · split at h <;> omega
    · intro h
      rcases Int.mul_eq_zero.1 h with q | q
      · rw [if_pos q]
      · omega
  · rw [sd]; split
    · omega
    · split
      · omega
      · split <;> omega
  · have c1 : cmpI (un (ab d) % 2 ^ 1074) (2 ^ 1073) = cmpI (dm d % 2 ^ k) (2 ^ (k - 1)) := by
      rw [hF, e2]
      have a1 := lt_scale (a := dm d % 2 ^ k) (b := 2 ^ (k - 1)) hp
      have a2 := eq_scale (a := dm d % 2 ^ k) (b := 2 ^ (k - 1)) hp
      by_cases q : dm d % 2 ^ k < 2 ^ (k - 1)
      · rw [cmpI_lt q, cmpI_lt (a1.2 q)]
      · by_cases q2 : dm d % 2 ^ k = 2 ^ (k - 1)
        · rw [cmpI_eq q2, cmpI_eq (a2.2 q2)]
        · have q3 : 2 ^ (k - 1) < dm d % 2 ^ k := by omega
          rw [cmpI_gt q3, cmpI_gt ((lt_scale (a := 2 ^ (k - 1)) (b := dm d % 2 ^ k) hp).2 q3)]
    rw [nrup, decide_eq_true_iff, c1, ← hW, sd] at *
    rw [e3] at hs ⊢
    generalize (2 : Int) ^ (k - 1) = H at *
    generalize dm d % (2 * H) = R at *
    generalize dm d / (2 * H) = Q at *
    rw [cmpI]
    split at hs
    · omega
    · rename_i r0
      rw [if_neg r0]
      split
      · rw [if_pos (by omega)]; omega
      · split
        · rw [if_neg (by omega), if_pos (by omega)]; omega
        · rw [if_neg (by omega), if_neg (by omega)]; omega

theorem wis_sd {d x W' : Int} {up : Bool} {k : Nat} (hf : fin d) (hk : de d = -(k : Int)) (k1 : 1 ≤ k) (k2 : k ≤ 1074) (h : W' = if sd (dm d) k = 0 then dm d / 2 ^ k else wup (dm d / 2 ^ k) up) (hR : Rnd W' 1 0 false x) : WIs d up (sg (ngd d) x) := by
  obtain ⟨q1, q2, -, -⟩ := sd_un hf hk k1 k2
  obtain ⟨⟨m0, m1⟩, -, -, -⟩ := dec_f d hf
  cases g : intg d
  · have s0 : ¬ sd (dm d) k = 0 := fun s => by rw [q2.1 s] at g; cases g
    rw [if_neg s0, q1] at h
    rw [h] at hR
    exact wis_fin hf g hR
  · rw [if_pos (q2.2 g)] at h
    have hp := Nm.two_pos k
    have b0 : 0 ≤ dm d / 2 ^ k := Int.ediv_nonneg m0 (by omega)
    have b1 : dm d / 2 ^ k ≤ dm d := Int.ediv_le_self _ m0
    rw [h] at hR
    obtain ⟨u, x0, x1⟩ := rnd_rep (c := 1074) (by omega) b0 (by omega) (by omega) hR
    rw [q1] at u
    have e := (intg_iff_un hf).1 g
    have dm' := Int.mul_ediv_add_emod (un (ab d)) (2 ^ 1074)
    rw [e, Int.add_zero, Int.mul_comm] at dm'
    have ex' : x = ab d := un_inj x0 (ab_bd d).1 (u.trans dm')
    rw [ex']
    refine ⟨fun q => ?_, fun q => ?_, fun _ => ⟨ab d, rfl, (ab_bd d).1, hf, fun _ => rfl, fun q => ?_⟩⟩
    · rw [(fin_kinds hf).1] at q; cases q
    · rw [(fin_kinds hf).2] at q; cases q
    · rw [g] at q; cases q

theorem intg_nn {d : Int} (hf : fin d) (h : 0 ≤ de d) : intg d = true := by
  obtain ⟨-, -, g, -⟩ := dec_f d hf
  obtain ⟨j, hj⟩ : ∃ j : Nat, (j : Int) = de d := ⟨(de d).toNat, by omega⟩
  rw [intg_iff_un hf, ← g (j + 1074) (by omega), Nm.two_add, ← Int.mul_assoc]
  exact Int.mul_emod_left _ _
end Ie

set_option maxRecDepth 100000 in
set_option maxHeartbeats 2000000 in
theorem uwhole_stay (up : Bool) (rule d : Int) (w : World) (h0 : 0 ≤ d) (h1 : d < 18446744073709551616) (h : Ie.fin d → 0 ≤ Ie.de d) :
    Calls Tryz.prog 161 #[.int .u64 d, .int .i64 rule] w fun e w' => ∃ r, e = .returned (.int .u64 r) ∧ Ie.WIs d up r ∧ Below w.heap.size w w' := by
  have D := hid (fun (wx : World) => zdecode_any d wx h0 h1)
  rw [← Ie.ngd] at D
  have c4 := Ie.isn_cls d
  have c3 := Ie.isi_cls d
  simp only [partsOf] at D
  rcases Ie.kinds d with g | ⟨g, g', g''⟩ | ⟨g, g', g''⟩
  · have E : Hid (Ie.WIs d up 9221120237041090560) := ⟨fun _ => rfl, fun k => (by simp only [Ie.isn, Ie.isi, decide_eq_true_iff] at g k; omega), fun k => (by simp only [Ie.isn, Ie.fin, decide_eq_true_iff] at g k; omega)⟩
    obtain ⟨c, hc⟩ : ∃ c, Ie.cls d = c := ⟨_, rfl⟩
    rw [g, hc, beq_iff_eq] at c4
    rw [hc] at D
    subst c4
    generalize Ie.dm d = m at *
    generalize Ie.de d = x at *
    generalize Ie.ngd d = neg at *
    clear g hc c3 h
    go_enter Tryz.func161, Tryz.ntmps161
    go_wp2_with fail
    refine (D.out _).mono ?_
    rintro e w1 ⟨rfl, hB⟩
    have hb := hB.trans ((alloc_b w1 (.cells #[.bool neg, .int .i64 4, .int .u64 m, .int .i64 x] 26)).mono hB.size)
    have P := Row4.new w1 26 (.bool neg) (.int .i64 4) (.int .u64 m) (.int .i64 x)
    go_upto_region 2 with fail
    have HB1 := hid hb
    obtain ⟨⟨p0, p1, p2, p3⟩, -⟩ := P.cells
    have lt := P.lt
    clear hB hb P D
    generalize w1.alloc (.cells #[.bool neg, .int .i64 4, .int .u64 m, .int .i64 x] 26) = wA at *
    generalize w1.heap.size = b at *
    go_wp2_with fail
    go_ret
    exact ⟨_, rfl, E.out, HB1.out⟩
  · have E := hid (Ie.wis_stay up h0 h1 (.inl g'))
    obtain ⟨c, hc⟩ : ∃ c, Ie.cls d = c := ⟨_, rfl⟩
    rw [g', hc, beq_iff_eq] at c3
    rw [hc] at D
    subst c3
    generalize Ie.dm d = m at *
    generalize Ie.de d = x at *
    generalize Ie.ngd d = neg at *
    clear g g' g'' hc c4 h
    go_enter Tryz.func161, Tryz.ntmps161
    go_wp2_with fail
    refine (D.out _).mono ?_
    rintro e w1 ⟨rfl, hB⟩
    have hb := hB.trans ((alloc_b w1 (.cells #[.bool neg, .int .i64 3, .int .u64 m, .int .i64 x] 26)).mono hB.size)
    have P := Row4.new w1 26 (.bool neg) (.int .i64 3) (.int .u64 m) (.int .i64 x)
    go_upto_region 2 with fail
    have HB1 := hid hb
    obtain ⟨⟨p0, p1, p2, p3⟩, -⟩ := P.cells
    have lt := P.lt
    clear hB hb P D
    generalize w1.alloc (.cells #[.bool neg, .int .i64 3, .int .u64 m, .int .i64 x] 26) = wA at *
    generalize w1.heap.size = b at *
    go_wp2_with fail
    go_ret
    exact ⟨_, rfl, E.out, HB1.out⟩
  · have E := hid (Ie.wis_stay up h0 h1 (.inr ⟨g'', Ie.intg_nn g'' (h g'')⟩))
    have x0 : ¬ Ie.de d < 0 := by have := h g''; omega
    rw [g] at c4
    rw [g'] at c3
    generalize Ie.cls d = c at *
    generalize Ie.dm d = m at *
    generalize Ie.de d = x at *
    generalize Ie.ngd d = neg at *
    clear g g' g'' h
    go_enter Tryz.func161, Tryz.ntmps161
    go_wp2_with fail
    refine (D.out _).mono ?_
    rintro e w1 ⟨rfl, hB⟩
    have hb := hB.trans ((alloc_b w1 (.cells #[.bool neg, .int .i64 c, .int .u64 m, .int .i64 x] 26)).mono hB.size)
    have P := Row4.new w1 26 (.bool neg) (.int .i64 c) (.int .u64 m) (.int .i64 x)
    go_upto_region 2 with fail
    have HB1 := hid hb
    obtain ⟨⟨p0, p1, p2, p3⟩, -⟩ := P.cells
    have lt := P.lt
    clear hB hb P D
    generalize w1.alloc (.cells #[.bool neg, .int .i64 c, .int .u64 m, .int .i64 x] 26) = wA at *
    generalize w1.heap.size = b at *
    go_wp2_with fail
    go_ret
    exact ⟨_, rfl, E.out, HB1.out⟩

set_option maxRecDepth 100000 in
set_option maxHeartbeats 4000000 in
theorem uwhole_f0 (d : Int) (k : Nat) (w : World) (h0 : 0 ≤ d) (h1 : d < 18446744073709551616) (hf : Ie.fin d) (hk : Ie.de d = -(k : Int)) (k1 : 1 ≤ k) (k2 : k ≤ 1074) :
    Calls Tryz.prog 161 #[.int .u64 d, .int .i64 0] w fun e w' => ∃ r, e = .returned (.int .u64 r) ∧ Ie.WIs d false r ∧ Below w.heap.size w w' := by
  have D := hid (fun (wx : World) => zdecode_any d wx h0 h1)
  rw [← Ie.ngd, hk] at D
  have c4 := Ie.isn_cls d
  have c3 := Ie.isi_cls d
  rw [(Ie.fin_kinds hf).1] at c4
  rw [(Ie.fin_kinds hf).2] at c3
  obtain ⟨⟨m0, m1⟩, -, -, -⟩ := Ie.dec_f d hf
  obtain ⟨-, -, s4, nr⟩ := Ie.sd_un hf hk k1 k2
  have WS := hid (fun (x W' : Int) (h : W' = if Ie.sd (Ie.dm d) k = 0 then Ie.dm d / 2 ^ k else Ie.wup (Ie.dm d / 2 ^ k) false) (hR : Ie.Rnd W' 1 0 false x) => Ie.wis_sd hf hk k1 k2 h hR)
  have W0 : 0 ≤ Ie.dm d / 2 ^ k := Int.ediv_nonneg m0 (by have := Nm.two_pos k; omega)
  have W1 : Ie.dm d / 2 ^ k ≤ Ie.dm d := Int.ediv_le_self _ m0
  have CU := hid (fun (wx : World) => cut_any (Ie.ngd d) (Ie.cls d) (Ie.dm d) k wx m0 m1 k1 k2)
  have FX := hid (fun (wx : World) (W' : Int) (a : 0 ≤ W') (b : W' < 18446744073709551616) => zfromU_any W' wx a b)
  have x0 : -(k : Int) < 0 := by omega
  obtain ⟨W, hW⟩ : ∃ W, Ie.dm d / 2 ^ k = W := ⟨_, rfl⟩
  obtain ⟨s, hs⟩ : ∃ s, Ie.sd (Ie.dm d) k = s := ⟨_, rfl⟩
  rw [hW, hs] at CU nr WS
  rw [hs] at s4
  rw [hW] at W0 W1
  have W2 : W < 9007199254740992 := by omega
  clear hf hk hW hs m0 W1
  simp only [partsOf] at D CU
  generalize Ie.cls d = c at *
  generalize Ie.dm d = m at *
  generalize Ie.nrup (Ie.un (Ie.ab d)) = nu at *
  generalize Ie.ngd d = neg at *
  clear nr s4
  have FU := hid (fun (wx : World) => FX.out wx W W0 (by omega))
  have WT := hid (fun (x : Int) (hR : Ie.Rnd W 1 0 false x) => WS.out x W (by rw [Ie.wup]; simp) hR)
  go_enter Tryz.func161, Tryz.ntmps161
  go_wp2_with fail
  refine (D.out _).mono ?_
  rintro e w1 ⟨rfl, hB⟩
  have hb := hB.trans ((alloc_b w1 (.cells #[.bool neg, .int .i64 c, .int .u64 m, .int .i64 (-(k : Int))] 26)).mono hB.size)
  have P := Row4.new w1 26 (.bool neg) (.int .i64 c) (.int .u64 m) (.int .i64 (-(k : Int)))
  go_upto_region 2 with fail
  have HB1 := hid hb
  obtain ⟨⟨p0, p1, p2, p3⟩, -⟩ := P.cells
  have lt := P.lt
  clear hB hb P D
  generalize w1.alloc (.cells #[.bool neg, .int .i64 c, .int .u64 m, .int .i64 (-(k : Int))] 26) = wA at *
  generalize w1.heap.size = b at *
  go_wp2_with fail
  refine (CU.out _).mono ?_
  rintro e w2 ⟨rfl, hB⟩
  have HB2 := hid (HB1.out.trans (hB.mono HB1.out.size))
  have q0 := (hB.cell (p := ⟨b, 0, none⟩) lt).trans p0
  clear hB p0 p1 p2 p3 CU
  go_wp2_with fail
  refine (FU.out _).mono ?_
  rintro e w3 ⟨x, rfl, hR, hB⟩
  have HB3 := hid (HB2.out.trans (hB.mono HB2.out.size))
  have q1 := (hB.cell (p := ⟨b, 0, none⟩) (cell_lt q0)).trans q0
  have xb := hR.bd
  have SG := hid (usigned_any neg x w3 xb.1 (by omega))
  have KK := hid (WT.out x hR)
  clear hB hR xb q0 FU WT
  go_wp2_with fail
  refine SG.out.mono ?_
  rintro e wz ⟨rfl, hz⟩
  replace hz := hz.symm
  subst hz
  go_wp2_with fail
  go_ret
  exact ⟨_, rfl, KK.out, HB3.out⟩

set_option maxRecDepth 100000 in
set_option maxHeartbeats 4000000 in
theorem uwhole_f1 (d : Int) (k : Nat) (w : World) (h0 : 0 ≤ d) (h1 : d < 18446744073709551616) (hf : Ie.fin d) (hk : Ie.de d = -(k : Int)) (k1 : 1 ≤ k) (k2 : k ≤ 1074) :
    Calls Tryz.prog 161 #[.int .u64 d, .int .i64 1] w fun e w' => ∃ r, e = .returned (.int .u64 r) ∧ Ie.WIs d (Ie.ngd d) r ∧ Below w.heap.size w w' := by
  have D := hid (fun (wx : World) => zdecode_any d wx h0 h1)
  rw [← Ie.ngd, hk] at D
  have c4 := Ie.isn_cls d
  have c3 := Ie.isi_cls d
  rw [(Ie.fin_kinds hf).1] at c4
  rw [(Ie.fin_kinds hf).2] at c3
  obtain ⟨⟨m0, m1⟩, -, -, -⟩ := Ie.dec_f d hf
  obtain ⟨-, -, s4, nr⟩ := Ie.sd_un hf hk k1 k2
  have WS := hid (fun (x W' : Int) (h : W' = if Ie.sd (Ie.dm d) k = 0 then Ie.dm d / 2 ^ k else Ie.wup (Ie.dm d / 2 ^ k) (Ie.ngd d)) (hR : Ie.Rnd W' 1 0 false x) => Ie.wis_sd hf hk k1 k2 h hR)
  have W0 : 0 ≤ Ie.dm d / 2 ^ k := Int.ediv_nonneg m0 (by have := Nm.two_pos k; omega)
  have W1 : Ie.dm d / 2 ^ k ≤ Ie.dm d := Int.ediv_le_self _ m0
  have CU := hid (fun (wx : World) => cut_any (Ie.ngd d) (Ie.cls d) (Ie.dm d) k wx m0 m1 k1 k2)
  have FX := hid (fun (wx : World) (W' : Int) (a : 0 ≤ W') (b : W' < 18446744073709551616) => zfromU_any W' wx a b)
  have x0 : -(k : Int) < 0 := by omega
  obtain ⟨W, hW⟩ : ∃ W, Ie.dm d / 2 ^ k = W := ⟨_, rfl⟩
  obtain ⟨s, hs⟩ : ∃ s, Ie.sd (Ie.dm d) k = s := ⟨_, rfl⟩
  rw [hW, hs] at CU nr WS
  rw [hs] at s4
  rw [hW] at W0 W1
  have W2 : W < 9007199254740992 := by omega
  clear hf hk hW hs m0 W1
  simp only [partsOf] at D CU
  generalize Ie.cls d = c at *
  generalize Ie.dm d = m at *
  generalize Ie.nrup (Ie.un (Ie.ab d)) = nu at *
  generalize Ie.ngd d = neg at *
  clear nr
  cases neg
  · have FU := hid (fun (wx : World) => FX.out wx W W0 (by omega))
    have WT := hid (fun (x : Int) (hR : Ie.Rnd W 1 0 false x) => WS.out x W (by simp [Ie.wup]) hR)
    go_enter Tryz.func161, Tryz.ntmps161
    go_wp2_with fail
    refine (D.out _).mono ?_
    rintro e w1 ⟨rfl, hB⟩
    have hb := hB.trans ((alloc_b w1 (.cells #[.bool false, .int .i64 c, .int .u64 m, .int .i64 (-(k : Int))] 26)).mono hB.size)
    have P := Row4.new w1 26 (.bool false) (.int .i64 c) (.int .u64 m) (.int .i64 (-(k : Int)))
    go_upto_region 2 with fail
    have HB1 := hid hb
    obtain ⟨⟨p0, p1, p2, p3⟩, -⟩ := P.cells
    have lt := P.lt
    clear hB hb P D
    generalize w1.alloc (.cells #[.bool false, .int .i64 c, .int .u64 m, .int .i64 (-(k : Int))] 26) = wA at *
    generalize w1.heap.size = b at *
    go_wp2_with fail
    refine (CU.out _).mono ?_
    rintro e w2 ⟨rfl, hB⟩
    have HB2 := hid (HB1.out.trans (hB.mono HB1.out.size))
    have q0 := (hB.cell (p := ⟨b, 0, none⟩) lt).trans p0
    clear hB p0 p1 p2 p3 CU
    go_wp2_with fail
    refine (FU.out _).mono ?_
    rintro e w3 ⟨x, rfl, hR, hB⟩
    have HB3 := hid (HB2.out.trans (hB.mono HB2.out.size))
    have q1 := (hB.cell (p := ⟨b, 0, none⟩) (cell_lt q0)).trans q0
    have xb := hR.bd
    have SG := hid (usigned_any false x w3 xb.1 (by omega))
    have KK := hid (WT.out x hR)
    clear hB hR xb q0 FU WT
    go_wp2_with fail
    refine SG.out.mono ?_
    rintro e wz ⟨rfl, hz⟩
    replace hz := hz.symm
    subst hz
    go_wp2_with fail
    go_ret
    exact ⟨_, rfl, KK.out, HB3.out⟩
  · rcases (show s = 0 ∨ (s > 0 ∧ s ≠ 0) by omega) with z | ⟨z, z'⟩
    · subst z
      have FU := hid (fun (wx : World) => FX.out wx W W0 (by omega))
      have WT := hid (fun (x : Int) (hR : Ie.Rnd W 1 0 false x) => WS.out x W (by simp) hR)
      go_enter Tryz.func161, Tryz.ntmps161
      go_wp2_with fail
      refine (D.out _).mono ?_
      rintro e w1 ⟨rfl, hB⟩
      have hb := hB.trans ((alloc_b w1 (.cells #[.bool true, .int .i64 c, .int .u64 m, .int .i64 (-(k : Int))] 26)).mono hB.size)
      have P := Row4.new w1 26 (.bool true) (.int .i64 c) (.int .u64 m) (.int .i64 (-(k : Int)))
      go_upto_region 2 with fail
      have HB1 := hid hb
      obtain ⟨⟨p0, p1, p2, p3⟩, -⟩ := P.cells
      have lt := P.lt
      clear hB hb P D
      generalize w1.alloc (.cells #[.bool true, .int .i64 c, .int .u64 m, .int .i64 (-(k : Int))] 26) = wA at *
      generalize w1.heap.size = b at *
      go_wp2_with fail
      refine (CU.out _).mono ?_
      rintro e w2 ⟨rfl, hB⟩
      have HB2 := hid (HB1.out.trans (hB.mono HB1.out.size))
      have q0 := (hB.cell (p := ⟨b, 0, none⟩) lt).trans p0
      clear hB p0 p1 p2 p3 CU
      go_wp2_with fail
      refine (FU.out _).mono ?_
      rintro e w3 ⟨x, rfl, hR, hB⟩
      have HB3 := hid (HB2.out.trans (hB.mono HB2.out.size))
      have q1 := (hB.cell (p := ⟨b, 0, none⟩) (cell_lt q0)).trans q0
      have xb := hR.bd
      have SG := hid (usigned_any true x w3 xb.1 (by omega))
      have KK := hid (WT.out x hR)
      clear hB hR xb q0 FU WT
      go_wp2_with fail
      refine SG.out.mono ?_
      rintro e wz ⟨rfl, hz⟩
      replace hz := hz.symm
      subst hz
      go_wp2_with fail
      go_ret
      exact ⟨_, rfl, KK.out, HB3.out⟩
    · have FU := hid (fun (wx : World) => FX.out wx (W + 1) (by omega) (by omega))
      have WT := hid (fun (x : Int) (hR : Ie.Rnd (W + 1) 1 0 false x) => WS.out x (W + 1) (by simp [Ie.wup, z']) hR)
      clear s4 z'
      go_enter Tryz.func161, Tryz.ntmps161
      go_wp2_with fail
      refine (D.out _).mono ?_
      rintro e w1 ⟨rfl, hB⟩
      have hb := hB.trans ((alloc_b w1 (.cells #[.bool true, .int .i64 c, .int .u64 m, .int .i64 (-(k : Int))] 26)).mono hB.size)
      have P := Row4.new w1 26 (.bool true) (.int .i64 c) (.int .u64 m) (.int .i64 (-(k : Int)))
      go_upto_region 2 with fail
      have HB1 := hid hb
      obtain ⟨⟨p0, p1, p2, p3⟩, -⟩ := P.cells
      have lt := P.lt
      clear hB hb P D
      generalize w1.alloc (.cells #[.bool true, .int .i64 c, .int .u64 m, .int .i64 (-(k : Int))] 26) = wA at *
      generalize w1.heap.size = b at *
      go_wp2_with fail
      refine (CU.out _).mono ?_
      rintro e w2 ⟨rfl, hB⟩
      have HB2 := hid (HB1.out.trans (hB.mono HB1.out.size))
      have q0 := (hB.cell (p := ⟨b, 0, none⟩) lt).trans p0
      clear hB p0 p1 p2 p3 CU
      go_wp2_with fail
      refine (FU.out _).mono ?_
      rintro e w3 ⟨x, rfl, hR, hB⟩
      have HB3 := hid (HB2.out.trans (hB.mono HB2.out.size))
      have q1 := (hB.cell (p := ⟨b, 0, none⟩) (cell_lt q0)).trans q0
      have xb := hR.bd
      have SG := hid (usigned_any true x w3 xb.1 (by omega))
      have KK := hid (WT.out x hR)
      clear hB hR xb q0 FU WT
      go_wp2_with fail
      refine SG.out.mono ?_
      rintro e wz ⟨rfl, hz⟩
      replace hz := hz.symm
      subst hz
      go_wp2_with fail
      go_ret
      exact ⟨_, rfl, KK.out, HB3.out⟩

set_option maxRecDepth 100000 in
set_option maxHeartbeats 4000000 in
theorem uwhole_f2 (d : Int) (k : Nat) (w : World) (h0 : 0 ≤ d) (h1 : d < 18446744073709551616) (hf : Ie.fin d) (hk : Ie.de d = -(k : Int)) (k1 : 1 ≤ k) (k2 : k ≤ 1074) :
    Calls Tryz.prog 161 #[.int .u64 d, .int .i64 2] w fun e w' => ∃ r, e = .returned (.int .u64 r) ∧ Ie.WIs d (!Ie.ngd d) r ∧ Below w.heap.size w w' := by
  have D := hid (fun (wx : World) => zdecode_any d wx h0 h1)
  rw [← Ie.ngd, hk] at D
  have c4 := Ie.isn_cls d
  have c3 := Ie.isi_cls d
  rw [(Ie.fin_kinds hf).1] at c4
  rw [(Ie.fin_kinds hf).2] at c3
  obtain ⟨⟨m0, m1⟩, -, -, -⟩ := Ie.dec_f d hf
  obtain ⟨-, -, s4, nr⟩ := Ie.sd_un hf hk k1 k2
  have WS := hid (fun (x W' : Int) (h : W' = if Ie.sd (Ie.dm d) k = 0 then Ie.dm d / 2 ^ k else Ie.wup (Ie.dm d / 2 ^ k) (!Ie.ngd d)) (hR : Ie.Rnd W' 1 0 false x) => Ie.wis_sd hf hk k1 k2 h hR)
  have W0 : 0 ≤ Ie.dm d / 2 ^ k := Int.ediv_nonneg m0 (by have := Nm.two_pos k; omega)
  have W1 : Ie.dm d / 2 ^ k ≤ Ie.dm d := Int.ediv_le_self _ m0
  have CU := hid (fun (wx : World) => cut_any (Ie.ngd d) (Ie.cls d) (Ie.dm d) k wx m0 m1 k1 k2)
  have FX := hid (fun (wx : World) (W' : Int) (a : 0 ≤ W') (b : W' < 18446744073709551616) => zfromU_any W' wx a b)
  have x0 : -(k : Int) < 0 := by omega
  obtain ⟨W, hW⟩ : ∃ W, Ie.dm d / 2 ^ k = W := ⟨_, rfl⟩
  obtain ⟨s, hs⟩ : ∃ s, Ie.sd (Ie.dm d) k = s := ⟨_, rfl⟩
  rw [hW, hs] at CU nr WS
  rw [hs] at s4
  rw [hW] at W0 W1
  have W2 : W < 9007199254740992 := by omega
  clear hf hk hW hs m0 W1
  simp only [partsOf] at D CU
  generalize Ie.cls d = c at *
  generalize Ie.dm d = m at *
  generalize Ie.nrup (Ie.un (Ie.ab d)) = nu at *
  generalize Ie.ngd d = neg at *
  clear nr
  cases neg
  · rcases (show s = 0 ∨ (s > 0 ∧ s ≠ 0) by omega) with z | ⟨z, z'⟩
    · subst z
      have FU := hid (fun (wx : World) => FX.out wx W W0 (by omega))
      have WT := hid (fun (x : Int) (hR : Ie.Rnd W 1 0 false x) => WS.out x W (by simp) hR)
      go_enter Tryz.func161, Tryz.ntmps161
      go_wp2_with fail
      refine (D.out _).mono ?_
      rintro e w1 ⟨rfl, hB⟩
      have hb := hB.trans ((alloc_b w1 (.cells #[.bool false, .int .i64 c, .int .u64 m, .int .i64 (-(k : Int))] 26)).mono hB.size)
      have P := Row4.new w1 26 (.bool false) (.int .i64 c) (.int .u64 m) (.int .i64 (-(k : Int)))
      go_upto_region 2 with fail
      have HB1 := hid hb
      obtain ⟨⟨p0, p1, p2, p3⟩, -⟩ := P.cells
      have lt := P.lt
      clear hB hb P D
      generalize w1.alloc (.cells #[.bool false, .int .i64 c, .int .u64 m, .int .i64 (-(k : Int))] 26) = wA at *
      generalize w1.heap.size = b at *
      go_wp2_with fail
      refine (CU.out _).mono ?_
      rintro e w2 ⟨rfl, hB⟩
      have HB2 := hid (HB1.out.trans (hB.mono HB1.out.size))
      have q0 := (hB.cell (p := ⟨b, 0, none⟩) lt).trans p0
      clear hB p0 p1 p2 p3 CU
      go_wp2_with fail
      refine (FU.out _).mono ?_
      rintro e w3 ⟨x, rfl, hR, hB⟩
      have HB3 := hid (HB2.out.trans (hB.mono HB2.out.size))
      have q1 := (hB.cell (p := ⟨b, 0, none⟩) (cell_lt q0)).trans q0
      have xb := hR.bd
      have SG := hid (usigned_any false x w3 xb.1 (by omega))
      have KK := hid (WT.out x hR)
      clear hB hR xb q0 FU WT
      go_wp2_with fail
      refine SG.out.mono ?_
      rintro e wz ⟨rfl, hz⟩
      replace hz := hz.symm
      subst hz
      go_wp2_with fail
      go_ret
      exact ⟨_, rfl, KK.out, HB3.out⟩
    · have FU := hid (fun (wx : World) => FX.out wx (W + 1) (by omega) (by omega))
      have WT := hid (fun (x : Int) (hR : Ie.Rnd (W + 1) 1 0 false x) => WS.out x (W + 1) (by simp [Ie.wup, z']) hR)
      clear s4 z'
      go_enter Tryz.func161, Tryz.ntmps161
      go_wp2_with fail
      refine (D.out _).mono ?_
      rintro e w1 ⟨rfl, hB⟩
      have hb := hB.trans ((alloc_b w1 (.cells #[.bool false, .int .i64 c, .int .u64 m, .int .i64 (-(k : Int))] 26)).mono hB.size)
      have P := Row4.new w1 26 (.bool false) (.int .i64 c) (.int .u64 m) (.int .i64 (-(k : Int)))
      go_upto_region 2 with fail
      have HB1 := hid hb
      obtain ⟨⟨p0, p1, p2, p3⟩, -⟩ := P.cells
      have lt := P.lt
      clear hB hb P D
      generalize w1.alloc (.cells #[.bool false, .int .i64 c, .int .u64 m, .int .i64 (-(k : Int))] 26) = wA at *
      generalize w1.heap.size = b at *
      go_wp2_with fail
      refine (CU.out _).mono ?_
      rintro e w2 ⟨rfl, hB⟩
      have HB2 := hid (HB1.out.trans (hB.mono HB1.out.size))
      have q0 := (hB.cell (p := ⟨b, 0, none⟩) lt).trans p0
      clear hB p0 p1 p2 p3 CU
      go_wp2_with fail
      refine (FU.out _).mono ?_
      rintro e w3 ⟨x, rfl, hR, hB⟩
      have HB3 := hid (HB2.out.trans (hB.mono HB2.out.size))
      have q1 := (hB.cell (p := ⟨b, 0, none⟩) (cell_lt q0)).trans q0
      have xb := hR.bd
      have SG := hid (usigned_any false x w3 xb.1 (by omega))
      have KK := hid (WT.out x hR)
      clear hB hR xb q0 FU WT
      go_wp2_with fail
      refine SG.out.mono ?_
      rintro e wz ⟨rfl, hz⟩
      replace hz := hz.symm
      subst hz
      go_wp2_with fail
      go_ret
      exact ⟨_, rfl, KK.out, HB3.out⟩
  · have FU := hid (fun (wx : World) => FX.out wx W W0 (by omega))
    have WT := hid (fun (x : Int) (hR : Ie.Rnd W 1 0 false x) => WS.out x W (by simp [Ie.wup]) hR)
    go_enter Tryz.func161, Tryz.ntmps161
    go_wp2_with fail
    refine (D.out _).mono ?_
    rintro e w1 ⟨rfl, hB⟩
    have hb := hB.trans ((alloc_b w1 (.cells #[.bool true, .int .i64 c, .int .u64 m, .int .i64 (-(k : Int))] 26)).mono hB.size)
    have P := Row4.new w1 26 (.bool true) (.int .i64 c) (.int .u64 m) (.int .i64 (-(k : Int)))
    go_upto_region 2 with fail
    have HB1 := hid hb
    obtain ⟨⟨p0, p1, p2, p3⟩, -⟩ := P.cells
    have lt := P.lt
    clear hB hb P D
    generalize w1.alloc (.cells #[.bool true, .int .i64 c, .int .u64 m, .int .i64 (-(k : Int))] 26) = wA at *
    generalize w1.heap.size = b at *
    go_wp2_with fail
    refine (CU.out _).mono ?_
    rintro e w2 ⟨rfl, hB⟩
    have HB2 := hid (HB1.out.trans (hB.mono HB1.out.size))
    have q0 := (hB.cell (p := ⟨b, 0, none⟩) lt).trans p0
    clear hB p0 p1 p2 p3 CU
    go_wp2_with fail
    refine (FU.out _).mono ?_
    rintro e w3 ⟨x, rfl, hR, hB⟩
    have HB3 := hid (HB2.out.trans (hB.mono HB2.out.size))
    have q1 := (hB.cell (p := ⟨b, 0, none⟩) (cell_lt q0)).trans q0
    have xb := hR.bd
    have SG := hid (usigned_any true x w3 xb.1 (by omega))
    have KK := hid (WT.out x hR)
    clear hB hR xb q0 FU WT
    go_wp2_with fail
    refine SG.out.mono ?_
    rintro e wz ⟨rfl, hz⟩
    replace hz := hz.symm
    subst hz
    go_wp2_with fail
    go_ret
    exact ⟨_, rfl, KK.out, HB3.out⟩

set_option maxRecDepth 100000 in
set_option maxHeartbeats 4000000 in
theorem uwhole_f3 (d : Int) (k : Nat) (w : World) (h0 : 0 ≤ d) (h1 : d < 18446744073709551616) (hf : Ie.fin d) (hk : Ie.de d = -(k : Int)) (k1 : 1 ≤ k) (k2 : k ≤ 1074) :
    Calls Tryz.prog 161 #[.int .u64 d, .int .i64 3] w fun e w' => ∃ r, e = .returned (.int .u64 r) ∧ Ie.WIs d (Ie.nrup (Ie.un (Ie.ab d))) r ∧ Below w.heap.size w w' := by
  have D := hid (fun (wx : World) => zdecode_any d wx h0 h1)
  rw [← Ie.ngd, hk] at D
  have c4 := Ie.isn_cls d
  have c3 := Ie.isi_cls d
  rw [(Ie.fin_kinds hf).1] at c4
  rw [(Ie.fin_kinds hf).2] at c3
  obtain ⟨⟨m0, m1⟩, -, -, -⟩ := Ie.dec_f d hf
  obtain ⟨-, -, s4, nr⟩ := Ie.sd_un hf hk k1 k2
  have WS := hid (fun (x W' : Int) (h : W' = if Ie.sd (Ie.dm d) k = 0 then Ie.dm d / 2 ^ k else Ie.wup (Ie.dm d / 2 ^ k) (Ie.nrup (Ie.un (Ie.ab d)))) (hR : Ie.Rnd W' 1 0 false x) => Ie.wis_sd hf hk k1 k2 h hR)
  have W0 : 0 ≤ Ie.dm d / 2 ^ k := Int.ediv_nonneg m0 (by have := Nm.two_pos k; omega)
  have W1 : Ie.dm d / 2 ^ k ≤ Ie.dm d := Int.ediv_le_self _ m0
  have CU := hid (fun (wx : World) => cut_any (Ie.ngd d) (Ie.cls d) (Ie.dm d) k wx m0 m1 k1 k2)
  have FX := hid (fun (wx : World) (W' : Int) (a : 0 ≤ W') (b : W' < 18446744073709551616) => zfromU_any W' wx a b)
  have x0 : -(k : Int) < 0 := by omega
  obtain ⟨W, hW⟩ : ∃ W, Ie.dm d / 2 ^ k = W := ⟨_, rfl⟩
  obtain ⟨s, hs⟩ : ∃ s, Ie.sd (Ie.dm d) k = s := ⟨_, rfl⟩
  rw [hW, hs] at CU nr WS
  rw [hs] at s4
  rw [hW] at W0 W1
  have W2 : W < 9007199254740992 := by omega
  clear hf hk hW hs m0 W1
  simp only [partsOf] at D CU
  generalize Ie.cls d = c at *
  generalize Ie.dm d = m at *
  generalize Ie.nrup (Ie.un (Ie.ab d)) = nu at *
  generalize Ie.ngd d = neg at *
  rcases s4 with z | z | z | z
  · subst z
    have FU := hid (fun (wx : World) => FX.out wx (W) (by omega) (by omega))
    have WT := hid (fun (x : Int) (hR : Ie.Rnd (W) 1 0 false x) => WS.out x (W) (by first | (simp; done) | simp [Ie.wup]) hR)
    clear WS FX nr
    go_enter Tryz.func161, Tryz.ntmps161
    go_wp2_with fail
    refine (D.out _).mono ?_
    rintro e w1 ⟨rfl, hB⟩
    have hb := hB.trans ((alloc_b w1 (.cells #[.bool neg, .int .i64 c, .int .u64 m, .int .i64 (-(k : Int))] 26)).mono hB.size)
    have P := Row4.new w1 26 (.bool neg) (.int .i64 c) (.int .u64 m) (.int .i64 (-(k : Int)))
    go_upto_region 2 with fail
    have HB1 := hid hb
    obtain ⟨⟨p0, p1, p2, p3⟩, -⟩ := P.cells
    have lt := P.lt
    clear hB hb P D
    generalize w1.alloc (.cells #[.bool neg, .int .i64 c, .int .u64 m, .int .i64 (-(k : Int))] 26) = wA at *
    generalize w1.heap.size = b at *
    go_wp2_with fail
    refine (CU.out _).mono ?_
    rintro e w2 ⟨rfl, hB⟩
    have HB2 := hid (HB1.out.trans (hB.mono HB1.out.size))
    have q0 := (hB.cell (p := ⟨b, 0, none⟩) lt).trans p0
    clear hB p0 p1 p2 p3 CU
    go_wp2_with fail
    refine (FU.out _).mono ?_
    rintro e w3 ⟨x, rfl, hR, hB⟩
    have HB3 := hid (HB2.out.trans (hB.mono HB2.out.size))
    have q1 := (hB.cell (p := ⟨b, 0, none⟩) (cell_lt q0)).trans q0
    have xb := hR.bd
    have SG := hid (usigned_any neg x w3 xb.1 (by omega))
    have KK := hid (WT.out x hR)
    clear hB hR xb q0 FU WT
    go_wp2_with fail
    refine SG.out.mono ?_
    rintro e wz ⟨rfl, hz⟩
    replace hz := hz.symm
    subst hz
    go_wp2_with fail
    go_ret
    exact ⟨_, rfl, KK.out, HB3.out⟩
  · subst z
    obtain rfl : nu = false := by
      have := nr (by omega)
      cases nu <;> simp_all
    have FU := hid (fun (wx : World) => FX.out wx (W) (by omega) (by omega))
    have WT := hid (fun (x : Int) (hR : Ie.Rnd (W) 1 0 false x) => WS.out x (W) (by first | (simp; done) | simp [Ie.wup]) hR)
    clear WS FX nr
    go_enter Tryz.func161, Tryz.ntmps161
    go_wp2_with fail
    refine (D.out _).mono ?_
    rintro e w1 ⟨rfl, hB⟩
    have hb := hB.trans ((alloc_b w1 (.cells #[.bool neg, .int .i64 c, .int .u64 m, .int .i64 (-(k : Int))] 26)).mono hB.size)
    have P := Row4.new w1 26 (.bool neg) (.int .i64 c) (.int .u64 m) (.int .i64 (-(k : Int)))
    go_upto_region 2 with fail
    have HB1 := hid hb
    obtain ⟨⟨p0, p1, p2, p3⟩, -⟩ := P.cells
    have lt := P.lt
    clear hB hb P D
    generalize w1.alloc (.cells #[.bool neg, .int .i64 c, .int .u64 m, .int .i64 (-(k : Int))] 26) = wA at *
    generalize w1.heap.size = b at *
    go_wp2_with fail
    refine (CU.out _).mono ?_
    rintro e w2 ⟨rfl, hB⟩
    have HB2 := hid (HB1.out.trans (hB.mono HB1.out.size))
    have q0 := (hB.cell (p := ⟨b, 0, none⟩) lt).trans p0
    clear hB p0 p1 p2 p3 CU
    go_wp2_with fail
    refine (FU.out _).mono ?_
    rintro e w3 ⟨x, rfl, hR, hB⟩
    have HB3 := hid (HB2.out.trans (hB.mono HB2.out.size))
    have q1 := (hB.cell (p := ⟨b, 0, none⟩) (cell_lt q0)).trans q0
    have xb := hR.bd
    have SG := hid (usigned_any neg x w3 xb.1 (by omega))
    have KK := hid (WT.out x hR)
    clear hB hR xb q0 FU WT
    go_wp2_with fail
    refine SG.out.mono ?_
    rintro e wz ⟨rfl, hz⟩
    replace hz := hz.symm
    subst hz
    go_wp2_with fail
    go_ret
    exact ⟨_, rfl, KK.out, HB3.out⟩
  · subst z
    rcases (show W % 2 = 1 ∨ W % 2 = 0 by omega) with e | e
    · obtain rfl : nu = true := by
        have := nr (by omega)
        cases nu <;> simp_all
      have FU := hid (fun (wx : World) => FX.out wx (W + 1) (by omega) (by omega))
      have WT := hid (fun (x : Int) (hR : Ie.Rnd (W + 1) 1 0 false x) => WS.out x (W + 1) (by first | (simp; done) | simp [Ie.wup]) hR)
      clear WS FX nr
      go_enter Tryz.func161, Tryz.ntmps161
      go_wp2_with fail
      refine (D.out _).mono ?_
      rintro e w1 ⟨rfl, hB⟩
      have hb := hB.trans ((alloc_b w1 (.cells #[.bool neg, .int .i64 c, .int .u64 m, .int .i64 (-(k : Int))] 26)).mono hB.size)
      have P := Row4.new w1 26 (.bool neg) (.int .i64 c) (.int .u64 m) (.int .i64 (-(k : Int)))
      go_upto_region 2 with fail
      have HB1 := hid hb
      obtain ⟨⟨p0, p1, p2, p3⟩, -⟩ := P.cells
      have lt := P.lt
      clear hB hb P D
      generalize w1.alloc (.cells #[.bool neg, .int .i64 c, .int .u64 m, .int .i64 (-(k : Int))] 26) = wA at *
      generalize w1.heap.size = b at *
      go_wp2_with fail
      refine (CU.out _).mono ?_
      rintro e w2 ⟨rfl, hB⟩
      have HB2 := hid (HB1.out.trans (hB.mono HB1.out.size))
      have q0 := (hB.cell (p := ⟨b, 0, none⟩) lt).trans p0
      clear hB p0 p1 p2 p3 CU
      go_wp2_with fail
      refine (FU.out _).mono ?_
      rintro e w3 ⟨x, rfl, hR, hB⟩
      have HB3 := hid (HB2.out.trans (hB.mono HB2.out.size))
      have q1 := (hB.cell (p := ⟨b, 0, none⟩) (cell_lt q0)).trans q0
      have xb := hR.bd
      have SG := hid (usigned_any neg x w3 xb.1 (by omega))
      have KK := hid (WT.out x hR)
      clear hB hR xb q0 FU WT
      go_wp2_with fail
      refine SG.out.mono ?_
      rintro e wz ⟨rfl, hz⟩
      replace hz := hz.symm
      subst hz
      go_wp2_with fail
      go_ret
      exact ⟨_, rfl, KK.out, HB3.out⟩
    · obtain rfl : nu = false := by
        have := nr (by omega)
        cases nu <;> simp_all
      have FU := hid (fun (wx : World) => FX.out wx (W) (by omega) (by omega))
      have WT := hid (fun (x : Int) (hR : Ie.Rnd (W) 1 0 false x) => WS.out x (W) (by first | (simp; done) | simp [Ie.wup]) hR)
      clear WS FX nr
      go_enter Tryz.func161, Tryz.ntmps161
      go_wp2_with fail
      refine (D.out _).mono ?_
      rintro e w1 ⟨rfl, hB⟩
      have hb := hB.trans ((alloc_b w1 (.cells #[.bool neg, .int .i64 c, .int .u64 m, .int .i64 (-(k : Int))] 26)).mono hB.size)
      have P := Row4.new w1 26 (.bool neg) (.int .i64 c) (.int .u64 m) (.int .i64 (-(k : Int)))
      go_upto_region 2 with fail
      have HB1 := hid hb
      obtain ⟨⟨p0, p1, p2, p3⟩, -⟩ := P.cells
      have lt := P.lt
      clear hB hb P D
      generalize w1.alloc (.cells #[.bool neg, .int .i64 c, .int .u64 m, .int .i64 (-(k : Int))] 26) = wA at *
      generalize w1.heap.size = b at *
      go_wp2_with fail
      refine (CU.out _).mono ?_
      rintro e w2 ⟨rfl, hB⟩
      have HB2 := hid (HB1.out.trans (hB.mono HB1.out.size))
      have q0 := (hB.cell (p := ⟨b, 0, none⟩) lt).trans p0
      clear hB p0 p1 p2 p3 CU
      go_wp2_with fail
      refine (FU.out _).mono ?_
      rintro e w3 ⟨x, rfl, hR, hB⟩
      have HB3 := hid (HB2.out.trans (hB.mono HB2.out.size))
      have q1 := (hB.cell (p := ⟨b, 0, none⟩) (cell_lt q0)).trans q0
      have xb := hR.bd
      have SG := hid (usigned_any neg x w3 xb.1 (by omega))
      have KK := hid (WT.out x hR)
      clear hB hR xb q0 FU WT
      go_wp2_with fail
      refine SG.out.mono ?_
      rintro e wz ⟨rfl, hz⟩
      replace hz := hz.symm
      subst hz
      go_wp2_with fail
      go_ret
      exact ⟨_, rfl, KK.out, HB3.out⟩
  · subst z
    obtain rfl : nu = true := by
      have := nr (by omega)
      cases nu <;> simp_all
    have FU := hid (fun (wx : World) => FX.out wx (W + 1) (by omega) (by omega))
    have WT := hid (fun (x : Int) (hR : Ie.Rnd (W + 1) 1 0 false x) => WS.out x (W + 1) (by first | (simp; done) | simp [Ie.wup]) hR)
    clear WS FX nr
    go_enter Tryz.func161, Tryz.ntmps161
    go_wp2_with fail
    refine (D.out _).mono ?_
    rintro e w1 ⟨rfl, hB⟩
    have hb := hB.trans ((alloc_b w1 (.cells #[.bool neg, .int .i64 c, .int .u64 m, .int .i64 (-(k : Int))] 26)).mono hB.size)
    have P := Row4.new w1 26 (.bool neg) (.int .i64 c) (.int .u64 m) (.int .i64 (-(k : Int)))
    go_upto_region 2 with fail
    have HB1 := hid hb
    obtain ⟨⟨p0, p1, p2, p3⟩, -⟩ := P.cells
    have lt := P.lt
    clear hB hb P D
    generalize w1.alloc (.cells #[.bool neg, .int .i64 c, .int .u64 m, .int .i64 (-(k : Int))] 26) = wA at *
    generalize w1.heap.size = b at *
    go_wp2_with fail
    refine (CU.out _).mono ?_
    rintro e w2 ⟨rfl, hB⟩
    have HB2 := hid (HB1.out.trans (hB.mono HB1.out.size))
    have q0 := (hB.cell (p := ⟨b, 0, none⟩) lt).trans p0
    clear hB p0 p1 p2 p3 CU
    go_wp2_with fail
    refine (FU.out _).mono ?_
    rintro e w3 ⟨x, rfl, hR, hB⟩
    have HB3 := hid (HB2.out.trans (hB.mono HB2.out.size))
    have q1 := (hB.cell (p := ⟨b, 0, none⟩) (cell_lt q0)).trans q0
    have xb := hR.bd
    have SG := hid (usigned_any neg x w3 xb.1 (by omega))
    have KK := hid (WT.out x hR)
    clear hB hR xb q0 FU WT
    go_wp2_with fail
    refine SG.out.mono ?_
    rintro e wz ⟨rfl, hz⟩
    replace hz := hz.symm
    subst hz
    go_wp2_with fail
    go_ret
    exact ⟨_, rfl, KK.out, HB3.out⟩

set_option maxRecDepth 100000 in
theorem uTrunc_any (d : Int) (w : World) (h0 : 0 ≤ d) (h1 : d < 18446744073709551616) :
    Calls Tryz.prog 142 #[.int .u64 d] w fun e w' => ∃ r, e = .returned (.int .u64 r) ∧ Ie.WIs d false r ∧ Below w.heap.size w w' := by
  have R : Hid (Calls Tryz.prog 161 #[.int .u64 d, .int .i64 0] w fun e w' => ∃ r, e = .returned (.int .u64 r) ∧ Hid (Ie.WIs d false r ∧ Below w.heap.size w w')) := by
    by_cases h : Ie.fin d ∧ Ie.de d < 0
    · have e0 := (Ie.dec_f d h.1).2.1.1
      exact uwhole_f0 d (-Ie.de d).toNat w h0 h1 h.1 (by omega) (by omega) (by omega)
    · exact uwhole_stay _ 0 d w h0 h1 (fun hf => by
        rcases (show Ie.de d < 0 ∨ 0 ≤ Ie.de d by omega) with q | q
        · exact absurd ⟨hf, q⟩ h
        · exact q)
  go_enter Tryz.func142, Tryz.ntmps142
  go_wp2_with fail
  refine R.out.mono ?_
  rintro e w' ⟨r, rfl, h⟩
  go_wp2_with fail
  go_ret
  exact ⟨_, rfl, h.out⟩

set_option maxRecDepth 100000 in
theorem uFloor_any (d : Int) (w : World) (h0 : 0 ≤ d) (h1 : d < 18446744073709551616) :
    Calls Tryz.prog 144 #[.int .u64 d] w fun e w' => ∃ r, e = .returned (.int .u64 r) ∧ Ie.WIs d (Ie.ngd d) r ∧ Below w.heap.size w w' := by
  have R : Hid (Calls Tryz.prog 161 #[.int .u64 d, .int .i64 1] w fun e w' => ∃ r, e = .returned (.int .u64 r) ∧ Hid (Ie.WIs d (Ie.ngd d) r ∧ Below w.heap.size w w')) := by
    by_cases h : Ie.fin d ∧ Ie.de d < 0
    · have e0 := (Ie.dec_f d h.1).2.1.1
      exact uwhole_f1 d (-Ie.de d).toNat w h0 h1 h.1 (by omega) (by omega) (by omega)
    · exact uwhole_stay _ 1 d w h0 h1 (fun hf => by
        rcases (show Ie.de d < 0 ∨ 0 ≤ Ie.de d by omega) with q | q
        · exact absurd ⟨hf, q⟩ h
        · exact q)
  go_enter Tryz.func144, Tryz.ntmps144
  go_wp2_with fail
  refine R.out.mono ?_
  rintro e w' ⟨r, rfl, h⟩
  go_wp2_with fail
  go_ret
  exact ⟨_, rfl, h.out⟩

set_option maxRecDepth 100000 in
theorem uCeil_any (d : Int) (w : World) (h0 : 0 ≤ d) (h1 : d < 18446744073709551616) :
    Calls Tryz.prog 146 #[.int .u64 d] w fun e w' => ∃ r, e = .returned (.int .u64 r) ∧ Ie.WIs d (!Ie.ngd d) r ∧ Below w.heap.size w w' := by
  have R : Hid (Calls Tryz.prog 161 #[.int .u64 d, .int .i64 2] w fun e w' => ∃ r, e = .returned (.int .u64 r) ∧ Hid (Ie.WIs d (!Ie.ngd d) r ∧ Below w.heap.size w w')) := by
    by_cases h : Ie.fin d ∧ Ie.de d < 0
    · have e0 := (Ie.dec_f d h.1).2.1.1
      exact uwhole_f2 d (-Ie.de d).toNat w h0 h1 h.1 (by omega) (by omega) (by omega)
    · exact uwhole_stay _ 2 d w h0 h1 (fun hf => by
        rcases (show Ie.de d < 0 ∨ 0 ≤ Ie.de d by omega) with q | q
        · exact absurd ⟨hf, q⟩ h
        · exact q)
  go_enter Tryz.func146, Tryz.ntmps146
  go_wp2_with fail
  refine R.out.mono ?_
  rintro e w' ⟨r, rfl, h⟩
  go_wp2_with fail
  go_ret
  exact ⟨_, rfl, h.out⟩

set_option maxRecDepth 100000 in
theorem uNear_any (d : Int) (w : World) (h0 : 0 ≤ d) (h1 : d < 18446744073709551616) :
    Calls Tryz.prog 86 #[.int .u64 d] w fun e w' => ∃ r, e = .returned (.int .u64 r) ∧ Ie.WIs d (Ie.nrup (Ie.un (Ie.ab d))) r ∧ Below w.heap.size w w' := by
  have R : Hid (Calls Tryz.prog 161 #[.int .u64 d, .int .i64 3] w fun e w' => ∃ r, e = .returned (.int .u64 r) ∧ Hid (Ie.WIs d (Ie.nrup (Ie.un (Ie.ab d))) r ∧ Below w.heap.size w w')) := by
    by_cases h : Ie.fin d ∧ Ie.de d < 0
    · have e0 := (Ie.dec_f d h.1).2.1.1
      exact uwhole_f3 d (-Ie.de d).toNat w h0 h1 h.1 (by omega) (by omega) (by omega)
    · exact uwhole_stay _ 3 d w h0 h1 (fun hf => by
        rcases (show Ie.de d < 0 ∨ 0 ≤ Ie.de d by omega) with q | q
        · exact absurd ⟨hf, q⟩ h
        · exact q)
  go_enter Tryz.func86, Tryz.ntmps86
  go_wp2_with fail
  refine R.out.mono ?_
  rintro e w' ⟨r, rfl, h⟩
  go_wp2_with fail
  go_ret
  exact ⟨_, rfl, h.out⟩
end Go.Proofs.YtdemopkdcnaibaaGreatDoor

/-
  The document's against: how a double, or the middle above it, lies against a fraction.
-/
namespace Go.Proofs.YtdemopkdcnaibaaGreatDoor
open Go Go.RowKit Go.Deep

/-- The double's mantissa, doubled, and one more for the middle. -/
def Ie.mm (x : Int) (middle : Bool) : Int := if middle = true then 2 * Ie.man x + 1 else 2 * Ie.man x

set_option maxRecDepth 100000 in
set_option maxHeartbeats 8000000 in
theorem against_any (x : Int) (middle : Bool) (p q : Option Addr) (n cap n' cap' : Nat) (zs ys : List Int) (w : World) (ha : Arg w p n cap zs) (hb : Arg w q n' cap' ys) (tz : Nm.tsize zs ≤ 4096) (ty : Nm.tsize ys ≤ 4096) (x0 : 0 ≤ x) (x1 : x ≤ 9218868437227405312)
    (e : Int) (e0 : -1048576 ≤ e) (e1 : e ≤ 1048576) (V D : Int) (hV : Nm.val zs = V) (hD : Nm.val ys = D) (s t : Nat) (hst : (s : Int) - t = (Ie.ex x : Int) - 1075 - e) (h0 : s = 0 ∨ t = 0) :
    Calls Tryz.prog 105 #[.int .u64 x, .bool middle, .slice p n cap, .slice q n' cap', .int .i64 e] w fun r w' => r = .returned (.int .i64 (cmpI (D * Ie.mm x middle * 2 ^ s) (V * 2 ^ t))) ∧ Below w.heap.size w w' := by
  obtain ⟨m, hm⟩ : ∃ m, Ie.mm x middle = m := ⟨_, rfl⟩
  obtain ⟨k, hk⟩ : ∃ k, (Ie.ex x : Int) - 1075 = k := ⟨_, rfl⟩
  have mb := Ie.man_nn x x0
  have m0 : 0 ≤ m ∧ m < 18446744073709551616 := by rw [← hm, Ie.mm]; split <;> omega
  have kb : -1075 ≤ k ∧ k ≤ 972 := by rw [← hk]; have : (Ie.ex x : Int) ≤ 2046 := by simp only [Ie.ex]; omega
                                      omega
  have d0 : 0 ≤ D := by rw [← hD]; exact (Nm.val_bd ys hb.2.2.2.2).1
  have d1 : D < Nm.pw 4096 := by rw [← hD]; exact (Nm.tsize_le_iff hb.2.2.2.2 4096).1 ty
  have v1 : V < Nm.pw 4096 := by rw [← hV]; exact (Nm.tsize_le_iff ha.2.2.2.2 4096).1 tz
  have dm : D * m < Nm.pw 4097 := by
    have g1 : D * m ≤ D * 18446744073709551616 := Int.mul_le_mul_of_nonneg_left (by omega) d0
    have e2 : Nm.pw 4097 = 18446744073709551616 * Nm.pw 4096 := Nm.pw_succ 4096
    omega
  -- the product
  have MU : Hid (∀ g : Obj, g = .cells #[.int .u64 m] 24 → Calls Tryz.prog 128 #[.slice q n' cap', .slice (some ⟨w.heap.size, 0, none⟩) 1 1] (w.alloc g) fun e w' => ∃ r os, e = .returned (.slice r (List.length os) (List.length os)) ∧ (Arg w' r os.length os.length os ∧ Nm.val os = D * m ∧ Nm.tsize os ≤ 1099511627776) ∧ Below w.heap.size w w') := by
    intro g hg
    subst hg
    have hB := alloc_below w (.cells #[.int .u64 m] 24)
    have hmv : Nm.val [m] = m := by simp [Nm.val]
    have := times_any q (some ⟨w.heap.size, 0, none⟩) n' cap' 1 1 ys [m] _ (hb.below hB (Nat.le_refl _)) (arg_z (heap_alloc_new w _) m0.1 m0.2) (by omega) (by have := Nm.tsize_le [m]; simp at this; omega)
    rw [hD, hmv] at this
    refine this.mono ?_
    rintro e w' ⟨r, os, rfl, A, hB2⟩
    have l := ans_small A 4097 dm
    exact ⟨r, os, rfl, ⟨A.arg (by omega), A.2.2.2.1, by rw [A.2.2.1]; omega⟩, hB.trans (hB2.mono hB.size)⟩
  have LI : Hid (∀ (wx : World) (r : Option Addr) (n1 c1 : Nat) (os : List Int) (v kk : Int) (j : Nat), Arg wx r n1 c1 os → Nm.val os = v → Nm.tsize os ≤ 1099511627776 → kk = (j : Int) → j ≤ 4194304 → v < Nm.pw 4097 → Calls Tryz.prog 75 #[.slice r n1 c1, .int .i64 kk] wx fun e w' => ∃ r os, e = .returned (.slice r (List.length os) (List.length os)) ∧ (Arg w' r os.length os.length os ∧ Nm.val os = v * 2 ^ j) ∧ Below wx.heap.size wx w') := by
    intro wx r n1 c1 os v kk j A hv hs hkk hj hvb
    have := lift_any r n1 c1 os kk j wx A hs hkk hj
    rw [hv] at this
    refine this.mono ?_
    rintro e w' ⟨r', os', rfl, A', hB2⟩
    have hb2 : v * 2 ^ j < Nm.pw 100000 := by
      have g1 : v * 2 ^ j < Nm.pw 4097 * 2 ^ j := Int.mul_lt_mul_of_pos_right hvb (Nm.two_pos j)
      have g2 : Nm.pw 4097 * 2 ^ j ≤ Nm.pw 100000 := by rw [Nm.pw_two, Nm.pw_two, ← Nm.two_add]; exact Nm.two_mono (by omega)
      exact Int.lt_of_lt_of_le g1 g2
    have l := ans_small A' 100000 hb2
    exact ⟨r', os', rfl, ⟨A'.arg (by omega), A'.2.2.2.1⟩, hB2⟩
  have CM := hid (fun (wx : World) (r r' : Option Addr) (n1 c1 n2 c2 : Nat) (os os' : List Int) (A : Arg wx r n1 c1 os) (A' : Arg wx r' n2 c2 os') => refCmp_any r r' n1 c1 n2 c2 os os' wx A A')
  have HA := hid ha
  have HV := hid hV
  have TZ := hid tz
  have V1 : Hid (V < Nm.pw 4097) := by
    have e2 : Nm.pw 4097 = 18446744073709551616 * Nm.pw 4096 := Nm.pw_succ 4096
    have := Nm.pw_pos 4096
    rw [Hid]; omega
  have DM := hid dm
  rw [hk] at hst
  have HST := hid hst
  have HM : Hid (Ie.mm x middle = m) := hm
  have MX : (x < 4503599627370496 ∧ Ie.man x = x ∧ k = -1075) ∨ (4503599627370496 ≤ x ∧ Ie.man x = x % 4503599627370496 + 4503599627370496 ∧ k = x / 4503599627370496 - 1076) := by
    by_cases h : x < 4503599627370496
    · left; refine ⟨h, by rw [Ie.man, if_pos h], ?_⟩; rw [← hk, Ie.ex]; omega
    · right; refine ⟨by omega, by rw [Ie.man, if_neg h]; omega, ?_⟩; rw [← hk, Ie.ex]; omega
  obtain ⟨kb0, kb1⟩ := kb
  have MM : Hid (m = if middle = true then 2 * Ie.man x + 1 else 2 * Ie.man x) := by rw [Hid, ← hm, Ie.mm]
  rw [hm]
  clear ha hb tz ty hV hD d0 d1 v1 dm hst hm hk mb m0
  rcases MX with ⟨hx, hmx, hkx⟩ | ⟨hx, hmx, hkx⟩ <;> cases middle <;> rcases (show e ≤ k ∨ k < e by omega) with hke | hke
  · have hM : m = 2 * x := by rw [MM.out, hmx]; rfl
    have HMM := hid hM
    have HKX := hid hkx
    clear hmx hM MM
    have hz : t = 0 := by have := HST.out; omega
    subst hz
    rw [Int.pow_zero, Int.mul_one]
    have c1 : ¬ (-1075) < e := by have := HKX.out; omega
    clear hkx hke
    go_enter Tryz.func105, Tryz.ntmps105
    go_wp2_with fail
    have EM := HMM.out
    refine (MU.out _ (by rw [EM])).mono ?_
    rintro e' w1 ⟨r, os, rfl, A, hB1⟩
    have AA := hid A
    have HB1 := hid hB1
    clear A hB1 MU EM
    go_wp2_with fail
    refine (LI.out _ r _ _ os _ _ s AA.out.1 AA.out.2.1 AA.out.2.2 (by have := HST.out; have := HKX.out; omega) (by have := HST.out; omega) DM.out).mono ?_
    rintro e' w2 ⟨r2, o2, rfl, A2, hB2⟩
    have HB2 := hid (HB1.out.trans (hB2.mono HB1.out.size))
    have C1 := CM.out w2 r2 p _ _ n cap o2 zs A2.1 (HA.out.below HB2.out (Nat.le_refl _))
    rw [A2.2, HV.out] at C1
    have CC := hid C1
    clear A2 hB2 C1 LI
    go_wp2_with fail
    refine CC.out.mono ?_
    rintro e' w3 ⟨rfl, hB3⟩
    have HB3 := hid (HB2.out.trans (hB3.mono HB2.out.size))
    clear hB3
    go_wp2_with fail
    go_ret
    exact ⟨rfl, HB3.out⟩
  · have hM : m = 2 * x := by rw [MM.out, hmx]; rfl
    have HMM := hid hM
    have HKX := hid hkx
    clear hmx hM MM
    have hz : s = 0 := by have := HST.out; omega
    subst hz
    rw [Int.pow_zero, Int.mul_one]
    have c1 : (-1075) < e := by have := HKX.out; omega
    clear hkx hke
    go_enter Tryz.func105, Tryz.ntmps105
    go_wp2_with fail
    have EM := HMM.out
    refine (MU.out _ (by rw [EM])).mono ?_
    rintro e' w1 ⟨r, os, rfl, A, hB1⟩
    have AA := hid A
    have HB1 := hid hB1
    clear A hB1 MU EM
    go_wp2_with fail
    refine (LI.out _ p n cap zs V _ t (HA.out.below HB1.out (Nat.le_refl _)) HV.out (by have := TZ.out; omega) (by have := HST.out; have := HKX.out; omega) (by have := HST.out; omega) V1.out).mono ?_
    rintro e' w2 ⟨r2, o2, rfl, A2, hB2⟩
    have HB2 := hid (HB1.out.trans (hB2.mono HB1.out.size))
    have C1 := CM.out w2 r r2 _ _ _ _ os o2 (AA.out.1.below hB2 (Nat.le_refl _)) A2.1
    rw [A2.2, AA.out.2.1] at C1
    have CC := hid C1
    clear A2 hB2 C1 LI
    go_wp2_with fail
    refine CC.out.mono ?_
    rintro e' w3 ⟨rfl, hB3⟩
    have HB3 := hid (HB2.out.trans (hB3.mono HB2.out.size))
    clear hB3
    go_wp2_with fail
    go_ret
    exact ⟨rfl, HB3.out⟩
  · have hM : m = 2 * x + 1 := by rw [MM.out, hmx]; rfl
    have HMM := hid hM
    have HKX := hid hkx
    clear hmx hM MM
    have hz : t = 0 := by have := HST.out; omega
    subst hz
    rw [Int.pow_zero, Int.mul_one]
    have c1 : ¬ (-1075) < e := by have := HKX.out; omega
    clear hkx hke
    go_enter Tryz.func105, Tryz.ntmps105
    go_wp2_with fail
    have EM := HMM.out
    refine (MU.out _ (by rw [EM])).mono ?_
    rintro e' w1 ⟨r, os, rfl, A, hB1⟩
    have AA := hid A
    have HB1 := hid hB1
    clear A hB1 MU EM
    go_wp2_with fail
    refine (LI.out _ r _ _ os _ _ s AA.out.1 AA.out.2.1 AA.out.2.2 (by have := HST.out; have := HKX.out; omega) (by have := HST.out; omega) DM.out).mono ?_
    rintro e' w2 ⟨r2, o2, rfl, A2, hB2⟩
    have HB2 := hid (HB1.out.trans (hB2.mono HB1.out.size))
    have C1 := CM.out w2 r2 p _ _ n cap o2 zs A2.1 (HA.out.below HB2.out (Nat.le_refl _))
    rw [A2.2, HV.out] at C1
    have CC := hid C1
    clear A2 hB2 C1 LI
    go_wp2_with fail
    refine CC.out.mono ?_
    rintro e' w3 ⟨rfl, hB3⟩
    have HB3 := hid (HB2.out.trans (hB3.mono HB2.out.size))
    clear hB3
    go_wp2_with fail
    go_ret
    exact ⟨rfl, HB3.out⟩
  · have hM : m = 2 * x + 1 := by rw [MM.out, hmx]; rfl
    have HMM := hid hM
    have HKX := hid hkx
    clear hmx hM MM
    have hz : s = 0 := by have := HST.out; omega
    subst hz
    rw [Int.pow_zero, Int.mul_one]
    have c1 : (-1075) < e := by have := HKX.out; omega
    clear hkx hke
    go_enter Tryz.func105, Tryz.ntmps105
    go_wp2_with fail
    have EM := HMM.out
    refine (MU.out _ (by rw [EM])).mono ?_
    rintro e' w1 ⟨r, os, rfl, A, hB1⟩
    have AA := hid A
    have HB1 := hid hB1
    clear A hB1 MU EM
    go_wp2_with fail
    refine (LI.out _ p n cap zs V _ t (HA.out.below HB1.out (Nat.le_refl _)) HV.out (by have := TZ.out; omega) (by have := HST.out; have := HKX.out; omega) (by have := HST.out; omega) V1.out).mono ?_
    rintro e' w2 ⟨r2, o2, rfl, A2, hB2⟩
    have HB2 := hid (HB1.out.trans (hB2.mono HB1.out.size))
    have C1 := CM.out w2 r r2 _ _ _ _ os o2 (AA.out.1.below hB2 (Nat.le_refl _)) A2.1
    rw [A2.2, AA.out.2.1] at C1
    have CC := hid C1
    clear A2 hB2 C1 LI
    go_wp2_with fail
    refine CC.out.mono ?_
    rintro e' w3 ⟨rfl, hB3⟩
    have HB3 := hid (HB2.out.trans (hB3.mono HB2.out.size))
    clear hB3
    go_wp2_with fail
    go_ret
    exact ⟨rfl, HB3.out⟩
  · have hM : m = 2 * (x % 4503599627370496 + 4503599627370496) := by rw [MM.out, hmx]; rfl
    have y1 : x % 4503599627370496 < 4503599627370496 := by omega
    have y0 : 0 ≤ x % 4503599627370496 := by omega
    have f0 : 0 ≤ x / 4503599627370496 := by omega
    have f1 : x / 4503599627370496 ≤ 2047 := by omega
    have HMM := hid hM
    have HKX := hid hkx
    clear hmx hM MM
    have hz : t = 0 := by have := HST.out; omega
    subst hz
    rw [Int.pow_zero, Int.mul_one]
    have c1 : ¬ (x / 4503599627370496 - 1076) < e := by have := HKX.out; omega
    clear hkx hke
    go_enter Tryz.func105, Tryz.ntmps105
    go_wp2_with fail
    have EM := HMM.out
    refine (MU.out _ (by rw [EM])).mono ?_
    rintro e' w1 ⟨r, os, rfl, A, hB1⟩
    have AA := hid A
    have HB1 := hid hB1
    clear A hB1 MU EM
    go_wp2_with fail
    refine (LI.out _ r _ _ os _ _ s AA.out.1 AA.out.2.1 AA.out.2.2 (by have := HST.out; have := HKX.out; omega) (by have := HST.out; omega) DM.out).mono ?_
    rintro e' w2 ⟨r2, o2, rfl, A2, hB2⟩
    have HB2 := hid (HB1.out.trans (hB2.mono HB1.out.size))
    have C1 := CM.out w2 r2 p _ _ n cap o2 zs A2.1 (HA.out.below HB2.out (Nat.le_refl _))
    rw [A2.2, HV.out] at C1
    have CC := hid C1
    clear A2 hB2 C1 LI
    go_wp2_with fail
    refine CC.out.mono ?_
    rintro e' w3 ⟨rfl, hB3⟩
    have HB3 := hid (HB2.out.trans (hB3.mono HB2.out.size))
    clear hB3
    go_wp2_with fail
    go_ret
    exact ⟨rfl, HB3.out⟩
  · have hM : m = 2 * (x % 4503599627370496 + 4503599627370496) := by rw [MM.out, hmx]; rfl
    have y1 : x % 4503599627370496 < 4503599627370496 := by omega
    have y0 : 0 ≤ x % 4503599627370496 := by omega
    have f0 : 0 ≤ x / 4503599627370496 := by omega
    have f1 : x / 4503599627370496 ≤ 2047 := by omega
    have HMM := hid hM
    have HKX := hid hkx
    clear hmx hM MM
    have hz : s = 0 := by have := HST.out; omega
    subst hz
    rw [Int.pow_zero, Int.mul_one]
    have c1 : (x / 4503599627370496 - 1076) < e := by have := HKX.out; omega
    clear hkx hke
    go_enter Tryz.func105, Tryz.ntmps105
    go_wp2_with fail
    have EM := HMM.out
    refine (MU.out _ (by rw [EM])).mono ?_
    rintro e' w1 ⟨r, os, rfl, A, hB1⟩
    have AA := hid A
    have HB1 := hid hB1
    clear A hB1 MU EM
    go_wp2_with fail
    refine (LI.out _ p n cap zs V _ t (HA.out.below HB1.out (Nat.le_refl _)) HV.out (by have := TZ.out; omega) (by have := HST.out; have := HKX.out; omega) (by have := HST.out; omega) V1.out).mono ?_
    rintro e' w2 ⟨r2, o2, rfl, A2, hB2⟩
    have HB2 := hid (HB1.out.trans (hB2.mono HB1.out.size))
    have C1 := CM.out w2 r r2 _ _ _ _ os o2 (AA.out.1.below hB2 (Nat.le_refl _)) A2.1
    rw [A2.2, AA.out.2.1] at C1
    have CC := hid C1
    clear A2 hB2 C1 LI
    go_wp2_with fail
    refine CC.out.mono ?_
    rintro e' w3 ⟨rfl, hB3⟩
    have HB3 := hid (HB2.out.trans (hB3.mono HB2.out.size))
    clear hB3
    go_wp2_with fail
    go_ret
    exact ⟨rfl, HB3.out⟩
  · have hM : m = 2 * (x % 4503599627370496 + 4503599627370496) + 1 := by rw [MM.out, hmx]; rfl
    have y1 : x % 4503599627370496 < 4503599627370496 := by omega
    have y0 : 0 ≤ x % 4503599627370496 := by omega
    have f0 : 0 ≤ x / 4503599627370496 := by omega
    have f1 : x / 4503599627370496 ≤ 2047 := by omega
    have HMM := hid hM
    have HKX := hid hkx
    clear hmx hM MM
    have hz : t = 0 := by have := HST.out; omega
    subst hz
    rw [Int.pow_zero, Int.mul_one]
    have c1 : ¬ (x / 4503599627370496 - 1076) < e := by have := HKX.out; omega
    clear hkx hke
    go_enter Tryz.func105, Tryz.ntmps105
    go_wp2_with fail
    have EM := HMM.out
    refine (MU.out _ (by rw [EM])).mono ?_
    rintro e' w1 ⟨r, os, rfl, A, hB1⟩
    have AA := hid A
    have HB1 := hid hB1
    clear A hB1 MU EM
    go_wp2_with fail
    refine (LI.out _ r _ _ os _ _ s AA.out.1 AA.out.2.1 AA.out.2.2 (by have := HST.out; have := HKX.out; omega) (by have := HST.out; omega) DM.out).mono ?_
    rintro e' w2 ⟨r2, o2, rfl, A2, hB2⟩
    have HB2 := hid (HB1.out.trans (hB2.mono HB1.out.size))
    have C1 := CM.out w2 r2 p _ _ n cap o2 zs A2.1 (HA.out.below HB2.out (Nat.le_refl _))
    rw [A2.2, HV.out] at C1
    have CC := hid C1
    clear A2 hB2 C1 LI
    go_wp2_with fail
    refine CC.out.mono ?_
    rintro e' w3 ⟨rfl, hB3⟩
    have HB3 := hid (HB2.out.trans (hB3.mono HB2.out.size))
    clear hB3
    go_wp2_with fail
    go_ret
    exact ⟨rfl, HB3.out⟩
  · have hM : m = 2 * (x % 4503599627370496 + 4503599627370496) + 1 := by rw [MM.out, hmx]; rfl
    have y1 : x % 4503599627370496 < 4503599627370496 := by omega
    have y0 : 0 ≤ x % 4503599627370496 := by omega
    have f0 : 0 ≤ x / 4503599627370496 := by omega
    have f1 : x / 4503599627370496 ≤ 2047 := by omega
    have HMM := hid hM
    have HKX := hid hkx
    clear hmx hM MM
    have hz : s = 0 := by have := HST.out; omega
    subst hz
    rw [Int.pow_zero, Int.mul_one]
    have c1 : (x / 4503599627370496 - 1076) < e := by have := HKX.out; omega
    clear hkx hke
    go_enter Tryz.func105, Tryz.ntmps105
    go_wp2_with fail
    have EM := HMM.out
    refine (MU.out _ (by rw [EM])).mono ?_
    rintro e' w1 ⟨r, os, rfl, A, hB1⟩
    have AA := hid A
    have HB1 := hid hB1
    clear A hB1 MU EM
    go_wp2_with fail
    refine (LI.out _ p n cap zs V _ t (HA.out.below HB1.out (Nat.le_refl _)) HV.out (by have := TZ.out; omega) (by have := HST.out; have := HKX.out; omega) (by have := HST.out; omega) V1.out).mono ?_
    rintro e' w2 ⟨r2, o2, rfl, A2, hB2⟩
    have HB2 := hid (HB1.out.trans (hB2.mono HB1.out.size))
    have C1 := CM.out w2 r r2 _ _ _ _ os o2 (AA.out.1.below hB2 (Nat.le_refl _)) A2.1
    rw [A2.2, AA.out.2.1] at C1
    have CC := hid C1
    clear A2 hB2 C1 LI
    go_wp2_with fail
    refine CC.out.mono ?_
    rintro e' w3 ⟨rfl, hB3⟩
    have HB3 := hid (HB2.out.trans (hB3.mono HB2.out.size))
    clear hB3
    go_wp2_with fail
    go_ret
    exact ⟨rfl, HB3.out⟩
end Go.Proofs.YtdemopkdcnaibaaGreatDoor

/-
  The document's RoundRatio (made by mkzratio.py).
-/
namespace Go.Proofs.YtdemopkdcnaibaaGreatDoor
open Go Go.RowKit Go.Deep

namespace Ie
/-- One comparison, said at another scale. -/
theorem scale_cmp (D M V Y e : Int) (E s t a b : Nat) (hY : Y = M * 2 ^ E) (hst : (s : Int) - t = (E : Int) - 1075 - e) (hab : (a : Int) - b = e + 1075) :
    (D * M * 2 ^ s < V * 2 ^ t ↔ Y * (D * 2 ^ b) < V * 2 ^ a) ∧ (D * M * 2 ^ s = V * 2 ^ t ↔ Y * (D * 2 ^ b) = V * 2 ^ a) := by
  have p1 := Nm.two_pos (E + b)
  have p2 := Nm.two_pos s
  have e1 : D * M * 2 ^ s * 2 ^ (E + b) = Y * (D * 2 ^ b) * 2 ^ s := by rw [hY, Nm.two_add]; ac_rfl
  have e2 : V * 2 ^ t * 2 ^ (E + b) = V * 2 ^ a * 2 ^ s := by
    rw [Int.mul_assoc, Int.mul_assoc, ← Nm.two_add, ← Nm.two_add]; congr 2; omega
  refine ⟨⟨fun h => ?_, fun h => ?_⟩, ⟨fun h => ?_, fun h => ?_⟩⟩
  · have := Int.mul_lt_mul_of_pos_right h p1
    rw [e1, e2] at this
    exact Int.lt_of_mul_lt_mul_right this (Int.le_of_lt p2)
  · have := Int.mul_lt_mul_of_pos_right h p2
    rw [← e1, ← e2] at this
    exact Int.lt_of_mul_lt_mul_right this (Int.le_of_lt p1)
  · have : Y * (D * 2 ^ b) * 2 ^ s = V * 2 ^ a * 2 ^ s := by rw [← e1, ← e2, h]
    exact Int.eq_of_mul_eq_mul_right (by omega) this
  · have : D * M * 2 ^ s * 2 ^ (E + b) = V * 2 ^ t * 2 ^ (E + b) := by rw [e1, e2, h]
    exact Int.eq_of_mul_eq_mul_right (by omega) this

/-- The search's end. -/
theorem near_search (P Q lo x : Int) (hQ : 0 < Q) (h0 : 0 ≤ lo) (h1 : lo ≤ 9218868437227405312) (hlo : vl lo * Q ≤ P) (hhi : lo < 9218868437227405312 → P < vl (lo + 1) * Q)
    (hx : (lo = 9218868437227405312 ∧ x = lo) ∨ (lo < 9218868437227405312 ∧ x = lo + 1 ∧ (md lo * Q < P ∨ (md lo * Q = P ∧ lo % 2 = 1))) ∨ (lo < 9218868437227405312 ∧ x = lo ∧ (P < md lo * Q ∨ (md lo * Q = P ∧ lo % 2 = 0)))) : Near P Q false x := by
  rcases hx with ⟨h, rfl⟩ | ⟨h, rfl, hm⟩ | ⟨h, rfl, hm⟩
  · refine ⟨⟨h0, h1⟩, fun hp => .inl ?_, fun hc => by omega⟩
    have g := md_lt_vl (x - 1) (by omega)
    rw [show x - 1 + 1 = x by omega] at g
    have := Int.mul_lt_mul_of_pos_right g hQ
    omega
  · refine ⟨⟨by omega, by omega⟩, fun _ => ?_, fun hc => .inl ?_⟩
    · rw [show lo + 1 - 1 = lo by omega]
      rcases hm with g | ⟨g, g'⟩
      · exact .inl g
      · exact .inr ⟨g, .inl (by omega)⟩
    · have := Int.mul_lt_mul_of_pos_right (vl_lt_md (lo + 1)) hQ
      have := hhi h
      omega
  · refine ⟨⟨h0, h1⟩, fun hp => .inl ?_, fun _ => ?_⟩
    · have g := md_lt_vl (x - 1) (by omega)
      rw [show x - 1 + 1 = x by omega] at g
      have := Int.mul_lt_mul_of_pos_right g hQ
      omega
    · rcases hm with g | ⟨g, g'⟩
      · exact .inl g
      · exact .inr ⟨g.symm, g', rfl⟩
end Ie

theorem ret_sg0 {a b : Int} (h : a = b) : Ending.returned (.tuple #[.int .u64 a, .int .i64 0]) = .returned (.tuple #[.int .u64 b, .int .i64 0]) := by rw [h]

theorem split_nat' (z : Int) : ∃ s t : Nat, (s : Int) - t = z ∧ (s = 0 ∨ t = 0) := ⟨z.toNat, (-z).toNat, by omega, by omega⟩

/-- What the search asks. -/
theorem against_vl (p q : Option Addr) (n cap n' cap' : Nat) (zs ys : List Int) (w : World) (ha : Arg w p n cap zs) (hb : Arg w q n' cap' ys) (tz : Nm.tsize zs ≤ 4096) (ty : Nm.tsize ys ≤ 4096) (e : Int) (e0 : -1048576 ≤ e) (e1 : e ≤ 1048576) (V D : Int) (hV : Nm.val zs = V) (hD : Nm.val ys = D)
    (a b : Nat) (hab : (a : Int) - b = e + 1075) (x : Int) (x0 : 0 ≤ x) (x1 : x ≤ 9218868437227405312) (middle : Bool) :
    ∃ c, (c < 0 ↔ (if middle = true then Ie.md x else Ie.vl x) * (D * 2 ^ b) < V * 2 ^ a) ∧ (c = 0 ↔ (if middle = true then Ie.md x else Ie.vl x) * (D * 2 ^ b) = V * 2 ^ a) ∧ (c = -1 ∨ c = 0 ∨ c = 1) ∧
      Calls Tryz.prog 105 #[.int .u64 x, .bool middle, .slice p n cap, .slice q n' cap', .int .i64 e] w fun r w' => r = .returned (.int .i64 c) ∧ Below w.heap.size w w' := by
  obtain ⟨s, t, hst, h0⟩ := split_nat' ((Ie.ex x : Int) - 1075 - e)
  have C := against_any x middle p q n cap n' cap' zs ys w ha hb tz ty x0 x1 e e0 e1 V D hV hD s t hst h0
  have hY : (if middle = true then Ie.md x else Ie.vl x) = Ie.mm x middle * 2 ^ Ie.ex x := by cases middle <;> rfl
  obtain ⟨S1, S2⟩ := Ie.scale_cmp D (Ie.mm x middle) V _ e (Ie.ex x) s t a b hY hst hab
  refine ⟨_, ?_, ?_, ?_, C⟩
  · rw [← S1, cmpI]
    constructor
    · intro h
      by_cases g : D * Ie.mm x middle * 2 ^ s < V * 2 ^ t
      · exact g
      · rw [if_neg g] at h
        by_cases g2 : D * Ie.mm x middle * 2 ^ s = V * 2 ^ t
        · rw [if_pos g2] at h; omega
        · rw [if_neg g2] at h; omega
    · intro h; rw [if_pos h]; omega
  · rw [← S2, cmpI]
    constructor
    · intro h
      by_cases g : D * Ie.mm x middle * 2 ^ s < V * 2 ^ t
      · rw [if_pos g] at h; omega
      · rw [if_neg g] at h
        by_cases g2 : D * Ie.mm x middle * 2 ^ s = V * 2 ^ t
        · exact g2
        · rw [if_neg g2] at h; omega
    · intro h; rw [if_neg (by omega), if_pos h]
  · rw [cmpI]
    split
    · omega
    · split <;> omega

set_option maxRecDepth 100000 in
set_option maxHeartbeats 8000000 in
theorem zratio_any (neg : Bool) (p q : Option Addr) (n cap n' cap' : Nat) (zs ys : List Int) (w : World) (ha : Arg w p n cap zs) (hb : Arg w q n' cap' ys) (tz : Nm.tsize zs ≤ 4096) (ty : Nm.tsize ys ≤ 4096) (V D e : Int) (hV : Nm.val zs = V) (hD : Nm.val ys = D) (hd : 0 < D) (hv : 0 < V) (e0 : -1048576 ≤ e) (e1 : e ≤ 1048576) :
    Calls Tryz.prog 43 #[.bool neg, .slice p n cap, .slice q n' cap', .int .i64 e] w fun r w' => ∃ x, r = .returned (.tuple #[.int .u64 (Ie.sg neg x), .int .i64 0]) ∧ Ie.Rnd V D e false x ∧ Below w.heap.size w w' := by
  obtain ⟨a, b, hab⟩ : ∃ a b : Nat, (a : Int) - b = e + 1075 := ⟨(e + 1075).toNat, (-(e + 1075)).toNat, by omega⟩
  have dpos := Int.mul_pos hd (Nm.two_pos b)
  have AG := hid (fun (wx : World) (hx : Below w.heap.size w wx) (x : Int) (x0 : 0 ≤ x) (x1 : x ≤ 9218868437227405312) (middle : Bool) => against_vl p q n cap n' cap' zs ys wx (ha.below hx (Nat.le_refl _)) (hb.below hx (Nat.le_refl _)) tz ty e e0 e1 V D hV hD a b hab x x0 x1 middle)
  have FIN : Hid (∀ lo x : Int, 0 ≤ lo → lo ≤ 9218868437227405312 → Ie.vl lo * (D * 2 ^ b) ≤ V * 2 ^ a → (lo < 9218868437227405312 → V * 2 ^ a < Ie.vl (lo + 1) * (D * 2 ^ b)) →
      ((lo = 9218868437227405312 ∧ x = lo) ∨ (lo < 9218868437227405312 ∧ x = lo + 1 ∧ (Ie.md lo * (D * 2 ^ b) < V * 2 ^ a ∨ (Ie.md lo * (D * 2 ^ b) = V * 2 ^ a ∧ lo % 2 = 1))) ∨ (lo < 9218868437227405312 ∧ x = lo ∧ (V * 2 ^ a < Ie.md lo * (D * 2 ^ b) ∨ (Ie.md lo * (D * 2 ^ b) = V * 2 ^ a ∧ lo % 2 = 0)))) → Ie.Rnd V D e false x) :=
    fun lo x h0 h1 h2 h3 h4 => Ie.Rnd.of hab (Ie.near_search _ _ lo x dpos h0 h1 h2 h3 h4)
  have B1 := hid (refBig_is false p n cap zs w ha (by simp; omega))
  have B2 := hid (refBig_is false q n' cap' ys w hb (by simp; omega))
  have tp : 0 < Nm.tsize zs := by
    rcases Nat.eq_zero_or_pos (Nm.tsize zs) with h | h
    · have := (Nm.tsize_zero_iff ha.2.2.2.2).1 h; omega
    · exact h
  have tq : 0 < Nm.tsize ys := by
    rcases Nat.eq_zero_or_pos (Nm.tsize ys) with h | h
    · have := (Nm.tsize_zero_iff hb.2.2.2.2).1 h; omega
    · exact h
  obtain ⟨S1, hS1⟩ : ∃ S, Nm.tsize zs = S := ⟨_, rfl⟩
  obtain ⟨S2, hS2⟩ : ∃ S, Nm.tsize ys = S := ⟨_, rfl⟩
  have Z1 := refSize_any p n cap zs w ha.1 (by have := ha.2.1; have := ha.2.2.1; omega) ha.2.2.2.1
  have Z2 := refSize_any q n' cap' ys w hb.1 (by have := hb.2.1; have := hb.2.2.1; omega) hb.2.2.2.1
  rw [hS1] at Z1 tp
  rw [hS2] at Z2 tq
  have Z1 := hid Z1
  have Z2 := hid Z2
  have s1 : ((S1 : Int) == 0) = false := by rw [beq_eq_false_iff_ne]; omega
  have s2 : ((S2 : Int) == 0) = false := by rw [beq_eq_false_iff_ne]; omega
  have l3 : ¬ e < -1048576 := by omega
  have l4 : ¬ 1048576 < e := by omega
  have V0 : Hid (Ie.vl 0 * (D * 2 ^ b) ≤ V * 2 ^ a) := by
    rw [Hid, Ie.vl_zero, Int.zero_mul]
    exact Int.mul_nonneg (by omega) (Int.le_of_lt (Nm.two_pos a))
  generalize D * 2 ^ b = Q at *
  generalize V * 2 ^ a = PP at *
  clear ha hb tz ty hV hD hd hv hab tp tq hS1 hS2 dpos
  go_enter Tryz.func43, Tryz.ntmps43
  go_wp2_with fail
  refine B1.out.mono ?_
  rintro e' w' ⟨rfl, rfl⟩
  go_wp2_with fail
  refine B2.out.mono ?_
  rintro e' w' ⟨rfl, rfl⟩
  go_wp2_with fail
  refine Z2.out.mono ?_
  rintro e' w' ⟨rfl, rfl⟩
  go_wp2_with fail
  refine Z1.out.mono ?_
  rintro e' w0 ⟨rfl, rfl⟩
  go_wp2_with fail
  go_loopw [10, 11, 12] (fun s t _ wr => ∃ lo hi : Int, s = .int .u64 lo ∧ t = .int .u64 hi ∧ 0 ≤ lo ∧ lo ≤ hi ∧ hi ≤ 9218868437227405312 ∧ Hid (Ie.vl lo * Q ≤ PP ∧ (hi < 9218868437227405312 → PP < Ie.vl (hi + 1) * Q)) ∧ Hid (Below w0.heap.size w0 wr)) (fun s t _ _ => (intOf t - intOf s).toNat)
  case atStart => exact ⟨0, _, rfl, rfl, by omega, by omega, by omega, ⟨V0.out, fun h => by omega⟩, Below.refl _ _⟩
  case round =>
    obtain ⟨lo, hi, rfl, rfl, h0, h1, h2, I, HB⟩ := hrel
    rcases (show lo < hi ∨ lo = hi by omega) with hlt | heq
    · obtain ⟨m, hm⟩ : ∃ m, lo + (hi - lo + 1) / 2 = m := ⟨_, rfl⟩
      have m1 : lo < m := by omega
      have m2 : m ≤ hi := by omega
      obtain ⟨c, c1, c2, c3, hc⟩ := AG.out wr HB.out m (by omega) (by omega) false
      simp only [Bool.false_eq_true, if_false] at c1 c2
      have C1 := hid c1
      have C2 := hid c2
      have HC := hid hc
      clear c1 c2 hc
      rcases (show c ≤ 0 ∨ 0 < c by omega) with hc0 | hc0
      · have L1 : Hid (Ie.vl m * Q ≤ PP) := by
          rcases (show c < 0 ∨ c = 0 by omega) with g | g
          · have := C1.out.1 g; rw [Hid]; omega
          · have := C2.out.1 g; rw [Hid]; omega
        clear C1 C2
        go_wp2_with fail
        refine HC.out.mono ?_
        rintro e' w2 ⟨rfl, hB2⟩
        have HB2 := hid (HB.out.trans (hB2.mono HB.out.size))
        clear hB2
        go_wp2_with fail
        go_roundw
        case measure => simp only [intOf]; omega
        case rel => exact ⟨_, _, rfl, rfl, by omega, by omega, by omega, ⟨L1.out, I.out.2⟩, HB2⟩
      · have L1 : Hid (PP < Ie.vl m * Q) := by
          have g1 : ¬ Ie.vl m * Q < PP := fun g => by have := C1.out.2 g; omega
          have g2 : ¬ Ie.vl m * Q = PP := fun g => by have := C2.out.2 g; omega
          rw [Hid]; omega
        have c4 : ¬ c ≤ 0 := by omega
        clear C1 C2
        go_wp2_with fail
        refine HC.out.mono ?_
        rintro e' w2 ⟨rfl, hB2⟩
        have HB2 := hid (HB.out.trans (hB2.mono HB.out.size))
        clear hB2
        go_wp2_with fail
        go_roundw
        case measure => simp only [intOf]; omega
        case rel => exact ⟨_, _, rfl, rfl, by omega, by omega, by omega, ⟨I.out.1, fun _ => by rw [show m - 1 + 1 = m by omega]; exact L1.out⟩, HB2⟩
    · subst heq
      have FF := hid (fun (x : Int) => FIN.out lo x h0 h2 I.out.1 I.out.2)
      clear FIN
      rcases (show lo = 9218868437227405312 ∨ lo < 9218868437227405312 by omega) with hi' | hi'
      · have R := hid (FF.out lo (.inl ⟨hi', rfl⟩))
        subst hi'
        clear I FF AG
        cases neg
        · go_wp2_with fail
          go_ret2
          exact ⟨_, ret_sg0 rfl, R.out, HB.out⟩
        · go_wp2_with fail
          go_ret2
          exact ⟨_, ret_sg0 rfl, R.out, HB.out⟩
      · obtain ⟨c, c1, c2, c3, hc⟩ := AG.out wr HB.out lo h0 h2 true
        simp only [if_true] at c1 c2
        have C1 := hid c1
        have C2 := hid c2
        have HC := hid hc
        have par : lo % 2 = 0 ∨ lo % 2 = 1 := by omega
        clear c1 c2 hc AG I
        rcases c3 with rfl | rfl | rfl
        · have R := hid (FF.out _ (.inr (.inl ⟨hi', rfl, .inl (C1.out.1 (by omega))⟩)))
          clear FF C1 C2
          cases neg
          · go_wp2_with fail
            refine HC.out.mono ?_
            rintro e' w2 ⟨rfl, hB2⟩
            have HB2 := hid (HB.out.trans (hB2.mono HB.out.size))
            clear hB2
            go_wp2_with fail
            go_ret2
            exact ⟨_, ret_sg0 rfl, R.out, HB2.out⟩
          · go_wp2_with fail
            refine HC.out.mono ?_
            rintro e' w2 ⟨rfl, hB2⟩
            have HB2 := hid (HB.out.trans (hB2.mono HB.out.size))
            clear hB2
            go_wp2_with fail
            go_ret2
            exact ⟨_, ret_sg0 rfl, R.out, HB2.out⟩
        · rcases par with hp | hp
          · have R := hid (FF.out _ (.inr (.inr ⟨hi', rfl, .inr ⟨C2.out.1 rfl, hp⟩⟩)))
            clear FF C1 C2
            cases neg
            · go_wp2_with fail
              refine HC.out.mono ?_
              rintro e' w2 ⟨rfl, hB2⟩
              have HB2 := hid (HB.out.trans (hB2.mono HB.out.size))
              clear hB2
              go_wp2_with fail
              go_ret2
              exact ⟨_, ret_sg0 rfl, R.out, HB2.out⟩
            · go_wp2_with fail
              refine HC.out.mono ?_
              rintro e' w2 ⟨rfl, hB2⟩
              have HB2 := hid (HB.out.trans (hB2.mono HB.out.size))
              clear hB2
              go_wp2_with fail
              go_ret2
              exact ⟨_, ret_sg0 rfl, R.out, HB2.out⟩
          · have R := hid (FF.out _ (.inr (.inl ⟨hi', rfl, .inr ⟨C2.out.1 rfl, hp⟩⟩)))
            clear FF C1 C2
            cases neg
            · go_wp2_with fail
              refine HC.out.mono ?_
              rintro e' w2 ⟨rfl, hB2⟩
              have HB2 := hid (HB.out.trans (hB2.mono HB.out.size))
              clear hB2
              go_wp2_with fail
              go_ret2
              exact ⟨_, ret_sg0 rfl, R.out, HB2.out⟩
            · go_wp2_with fail
              refine HC.out.mono ?_
              rintro e' w2 ⟨rfl, hB2⟩
              have HB2 := hid (HB.out.trans (hB2.mono HB.out.size))
              clear hB2
              go_wp2_with fail
              go_ret2
              exact ⟨_, ret_sg0 rfl, R.out, HB2.out⟩
        · have lt : PP < Ie.md lo * Q := by
            have g1 : ¬ Ie.md lo * Q < PP := fun g => by have := C1.out.2 g; omega
            have g2 : ¬ Ie.md lo * Q = PP := fun g => by have := C2.out.2 g; omega
            omega
          have R := hid (FF.out _ (.inr (.inr ⟨hi', rfl, .inl lt⟩)))
          clear FF C1 C2 lt
          cases neg
          · go_wp2_with fail
            refine HC.out.mono ?_
            rintro e' w2 ⟨rfl, hB2⟩
            have HB2 := hid (HB.out.trans (hB2.mono HB.out.size))
            clear hB2
            go_wp2_with fail
            go_ret2
            exact ⟨_, ret_sg0 rfl, R.out, HB2.out⟩
          · go_wp2_with fail
            refine HC.out.mono ?_
            rintro e' w2 ⟨rfl, hB2⟩
            have HB2 := hid (HB.out.trans (hB2.mono HB.out.size))
            clear hB2
            go_wp2_with fail
            go_ret2
            exact ⟨_, ret_sg0 rfl, R.out, HB2.out⟩
end Go.Proofs.YtdemopkdcnaibaaGreatDoor

/-
  ieee: Up, Down.
-/
namespace Go.Proofs.YtdemopkdcnaibaaGreatDoor
open Go Go.RowKit Go.Deep

set_option maxRecDepth 100000 in
set_option maxHeartbeats 2000000 in
theorem up_any (d : Int) (w : World) (h0 : 0 ≤ d) (h1 : d < 18446744073709551616) :
    Calls Tryz.prog 25 #[.int .u64 d] w fun e w' => e = .returned (.int .u64 (Ie.upd d)) ∧ w' = w := by
  have B := Ib.sign_and d h0 h1
  have CL := hid (class_any d w h0 h1)
  have c4 := Ie.cls4 d
  obtain ⟨c, hc⟩ : ∃ c, Ie.cls d = c := ⟨_, rfl⟩
  rw [hc] at CL c4
  obtain ⟨sv, hsv⟩ : ∃ sv, d / 9223372036854775808 * 9223372036854775808 = sv := ⟨_, rfl⟩
  rw [hsv] at B
  by_cases hn : c = 4
  · have E : Hid (9221120237041090560 = Ie.upd d) := by rw [Hid, Ie.upd, if_pos (c4.1 hn)]
    subst hn
    clear hc hsv c4
    go_enter Tryz.func25, Tryz.ntmps25
    go_wp2_with fail
    refine CL.out.mono ?_
    rintro e w' ⟨rfl, rfl⟩
    go_wp2_with fail
    go_ret
    exact ⟨i_retU E.out, rfl⟩
  · have ok : Ie.okd d = true := by
      cases h : Ie.okd d
      · exact absurd (c4.2 h) hn
      · rfl
    have hn' : (c == 4) = false := by rw [beq_eq_false_iff_ne]; exact hn
    have E0 : Ie.upd d = if d = 9218868437227405312 then d else if d = 9223372036854775808 then 1 else if 9223372036854775808 < d then d - 1 else d + 1 := by rw [Ie.upd, ok, if_neg (by decide)]
    by_cases e1 : d = 9218868437227405312
    · subst e1
      rw [if_pos rfl] at E0
      have E := hid E0
      clear hc hsv c4 ok E0 hn
      go_enter Tryz.func25, Tryz.ntmps25
      go_wp2_with fail
      refine CL.out.mono ?_
      rintro e w' ⟨rfl, rfl⟩
      go_wp2_with fail
      go_ret
      exact ⟨i_retU E.out.symm, rfl⟩
    · have e1' : (d == 9218868437227405312) = false := by rw [beq_eq_false_iff_ne]; exact e1
      rw [if_neg e1] at E0
      by_cases e2 : d = 9223372036854775808
      · subst e2
        rw [if_pos rfl] at E0
        have E := hid E0
        clear hc hsv c4 ok E0 hn
        go_enter Tryz.func25, Tryz.ntmps25
        go_wp2_with fail
        refine CL.out.mono ?_
        rintro e w' ⟨rfl, rfl⟩
        go_wp2_with fail
        go_ret
        exact ⟨i_retU E.out.symm, rfl⟩
      · have e2' : (d == 9223372036854775808) = false := by rw [beq_eq_false_iff_ne]; exact e2
        rw [if_neg e2] at E0
        by_cases e3 : 9223372036854775808 < d
        · rw [if_pos e3] at E0
          have E := hid E0
          have hz : sv = 9223372036854775808 := by omega
          subst hz
          clear hc hsv c4 ok E0 hn e1 e2
          go_enter Tryz.func25, Tryz.ntmps25
          go_wp2_with fail
          refine CL.out.mono ?_
          rintro e w' ⟨rfl, rfl⟩
          go_wp2_with fail
          go_ret
          exact ⟨i_retU E.out.symm, rfl⟩
        · rw [if_neg e3] at E0
          have E := hid E0
          have hz : sv = 0 := by omega
          subst hz
          have lt : d < 9223372036854775808 := by omega
          clear hc hsv c4 ok E0 hn e1 e2 e3
          go_enter Tryz.func25, Tryz.ntmps25
          go_wp2_with fail
          refine CL.out.mono ?_
          rintro e w' ⟨rfl, rfl⟩
          go_wp2_with fail
          go_ret
          exact ⟨i_retU E.out.symm, rfl⟩

end Go.Proofs.YtdemopkdcnaibaaGreatDoor

/-
  The document's layer 4: put, Abs, Neg, Finite, IsNaN, rank, Decode, Class.
-/
namespace Go.Proofs.YtdemopkdcnaibaaGreatDoor
open Go Go.RowKit Go.Deep

set_option maxRecDepth 100000 in
theorem zabs_any (d : Int) (w : World) (h0 : 0 ≤ d) (h1 : d < 18446744073709551616) :
    Calls Tryz.prog 30 #[.int .u64 d] w fun e w' => e = .returned (.int .u64 (d % 9223372036854775808)) ∧ w' = w := by
  go_enter Tryz.func30, Tryz.ntmps30
  go_wp2
  go_ret
  exact ⟨rfl, rfl⟩

set_option maxRecDepth 100000 in
theorem zneg_any (d : Int) (w : World) (h0 : 0 ≤ d) (h1 : d < 18446744073709551616) :
    Calls Tryz.prog 29 #[.int .u64 d] w fun e w' => e = .returned (.int .u64 (Ie.ng d)) ∧ w' = w := by
  by_cases h : 9223372036854775808 ≤ d
  · have E : Hid (Ie.ng d = d - 9223372036854775808) := by rw [Hid, Ie.ng, if_neg (by omega)]
    go_enter Tryz.func29, Tryz.ntmps29
    go_wp2
    go_ret
    exact ⟨i_retU E.out.symm, rfl⟩
  · have E : Hid (Ie.ng d = d + 9223372036854775808) := by rw [Hid, Ie.ng, if_pos (by omega)]
    go_enter Tryz.func29, Tryz.ntmps29
    go_wp2
    go_ret
    exact ⟨i_retU E.out.symm, rfl⟩

set_option maxRecDepth 100000 in
theorem zfinite_any (d : Int) (w : World) (h0 : 0 ≤ d) (h1 : d < 18446744073709551616) :
    Calls Tryz.prog 97 #[.int .u64 d] w fun e w' => e = .returned (.bool (decide (d % 9223372036854775808 < 9218868437227405312))) ∧ w' = w := by
  have A := hid (zabs_any d w h0 h1)
  go_enter Tryz.func97, Tryz.ntmps97
  go_wp2_with fail
  refine A.out.mono ?_
  rintro e w' ⟨rfl, rfl⟩
  go_wp2_with fail
  go_ret
  exact ⟨rfl, rfl⟩

set_option maxRecDepth 100000 in
theorem znan_any (d : Int) (w : World) (h0 : 0 ≤ d) (h1 : d < 18446744073709551616) :
    Calls Tryz.prog 63 #[.int .u64 d] w fun e w' => e = .returned (.bool (!Ie.okd d)) ∧ w' = w := by
  have A := hid (zabs_any d w h0 h1)
  have E : Hid (decide (9218868437227405312 < d % 9223372036854775808) = !Ie.okd d) := by
    rw [Hid, Ie.okd]
    by_cases h : d % 9223372036854775808 ≤ 9218868437227405312
    · rw [decide_eq_true h, decide_eq_false (by omega)]; rfl
    · rw [decide_eq_false h, decide_eq_true (by omega)]; rfl
  go_enter Tryz.func63, Tryz.ntmps63
  go_wp2_with fail
  refine A.out.mono ?_
  rintro e w' ⟨rfl, rfl⟩
  go_wp2_with fail
  go_ret
  exact ⟨by rw [← E.out]; rfl, rfl⟩

set_option maxRecDepth 100000 in
theorem zrank_any (d : Int) (w : World) (h0 : 0 ≤ d) (h1 : d < 18446744073709551616) :
    Calls Tryz.prog 96 #[.int .u64 d] w fun e w' => e = .returned (.int .i64 (Ie.rk d)) ∧ w' = w := by
  have A := hid (zabs_any d w h0 h1)
  obtain ⟨r, hr⟩ : ∃ r, d % 9223372036854775808 = r := ⟨_, rfl⟩
  rw [hr] at A
  have r0 : 0 ≤ r := by omega
  have r1 : r < 9223372036854775808 := by omega
  by_cases h : 9223372036854775808 ≤ d
  · have E : Hid (Ie.rk d = -r) := by rw [Hid, Ie.rk, if_neg (by omega)]; omega
    clear hr
    go_enter Tryz.func96, Tryz.ntmps96
    go_wp2_with fail
    refine A.out.mono ?_
    rintro e w' ⟨rfl, rfl⟩
    go_wp2_with fail
    go_ret
    exact ⟨i_retI E.out.symm, rfl⟩
  · have E : Hid (Ie.rk d = r) := by rw [Hid, Ie.rk, if_pos (by omega)]; omega
    clear hr
    go_enter Tryz.func96, Tryz.ntmps96
    go_wp2_with fail
    refine A.out.mono ?_
    rintro e w' ⟨rfl, rfl⟩
    go_wp2_with fail
    go_ret
    exact ⟨i_retI E.out.symm, rfl⟩

end Go.Proofs.YtdemopkdcnaibaaGreatDoor

/-
  ieee: Down.
-/
namespace Go.Proofs.YtdemopkdcnaibaaGreatDoor
open Go Go.RowKit Go.Deep

theorem Ie.ng_bd (d : Int) (h0 : 0 ≤ d) (h1 : d < 18446744073709551616) : 0 ≤ Ie.ng d ∧ Ie.ng d < 18446744073709551616 := by
  simp only [Ie.ng]; split <;> omega

theorem Ie.upd_bd (d : Int) (h0 : 0 ≤ d) (h1 : d < 18446744073709551616) : 0 ≤ Ie.upd d ∧ Ie.upd d < 18446744073709551616 := by
  simp only [Ie.upd]
  split
  · omega
  · split
    · omega
    · split
      · omega
      · split <;> omega

set_option maxRecDepth 100000 in
set_option maxHeartbeats 2000000 in
theorem down_any (d : Int) (w : World) (h0 : 0 ≤ d) (h1 : d < 18446744073709551616) :
    Calls Tryz.prog 53 #[.int .u64 d] w fun e w' => e = .returned (.int .u64 (Ie.dnd d)) ∧ w' = w := by
  have CL := hid (class_any d w h0 h1)
  have c4 := Ie.cls4 d
  obtain ⟨c, hc⟩ : ∃ c, Ie.cls d = c := ⟨_, rfl⟩
  rw [hc] at CL c4
  by_cases hn : c = 4
  · have E : Hid (9221120237041090560 = Ie.dnd d) := by rw [Hid, Ie.dnd, if_pos (c4.1 hn)]
    subst hn
    clear hc c4
    go_enter Tryz.func53, Tryz.ntmps53
    go_wp2_with fail
    refine CL.out.mono ?_
    rintro e w' ⟨rfl, rfl⟩
    go_wp2_with fail
    go_ret
    exact ⟨i_retU E.out, rfl⟩
  · have ok : Ie.okd d = true := by
      cases h : Ie.okd d
      · exact absurd (c4.2 h) hn
      · rfl
    have hn' : (c == 4) = false := by rw [beq_eq_false_iff_ne]; exact hn
    have E : Hid (Ie.dnd d = Ie.ng (Ie.upd (Ie.ng d))) := by rw [Hid, Ie.dnd, ok, if_neg (by decide)]
    have b1 := Ie.ng_bd d h0 h1
    have b2 := Ie.upd_bd _ b1.1 b1.2
    have N1 := hid (neg_any d w h0 h1)
    have U1 := hid (up_any _ w b1.1 b1.2)
    have N2 := hid (neg_any _ w b2.1 b2.2)
    clear hc c4 ok hn b1 b2
    go_enter Tryz.func53, Tryz.ntmps53
    go_wp2_with fail
    refine CL.out.mono ?_
    rintro e w' ⟨rfl, rfl⟩
    go_wp2_with fail
    refine N1.out.mono ?_
    rintro e w' ⟨rfl, rfl⟩
    go_wp2_with fail
    refine U1.out.mono ?_
    rintro e w' ⟨rfl, rfl⟩
    go_wp2_with fail
    refine N2.out.mono ?_
    rintro e w' ⟨rfl, rfl⟩
    go_wp2_with fail
    go_ret
    exact ⟨i_retU E.out.symm, rfl⟩
end Go.Proofs.YtdemopkdcnaibaaGreatDoor

/-
  ieee: place, Total, AtRank, Down.
-/
namespace Go.Proofs.YtdemopkdcnaibaaGreatDoor
open Go Go.RowKit Go.Deep

set_option maxRecDepth 100000 in
theorem place_any (d : Int) (w : World) (h0 : 0 ≤ d) (h1 : d < 18446744073709551616) :
    Calls Tryz.prog 108 #[.int .u64 d] w fun e w' => e = .returned (.int .i64 (Ie.plc d)) ∧ w' = w := by
  have B := Ib.sign_and d h0 h1
  by_cases hs : d < 9223372036854775808
  · have E : Hid (Ie.plc d = d) := by rw [Hid, Ie.plc, if_pos hs]
    have q : d / 9223372036854775808 = 0 := by omega
    rw [q, Int.zero_mul] at B
    clear q
    go_enter Tryz.func108, Tryz.ntmps108
    go_wp2
    go_ret
    exact ⟨i_retI E.out.symm, rfl⟩
  · have E : Hid (Ie.plc d = 9223372036854775807 - d) := by rw [Hid, Ie.plc, if_neg hs]
    have q : d / 9223372036854775808 = 1 := by omega
    rw [q, Int.one_mul] at B
    have X := Ib.low_xor d (by omega) h1
    obtain ⟨y, hy, Y⟩ : ∃ y, bits .xor .u64 d 9223372036854775807 = y ∧ Hid (y = 27670116110564327423 - d) := ⟨_, X, rfl⟩
    have y0 : 9223372036854775808 ≤ y := by have := Y.out; omega
    have y1 : y < 18446744073709551616 := by have := Y.out; omega
    have W : IntKind.i64.wrap y = y - 18446744073709551616 := by rw [IntKind.wrap_i64]; omega
    clear q X
    go_enter Tryz.func108, Tryz.ntmps108
    go_wp2
    go_ret
    exact ⟨i_retI (by rw [E.out]; have := Y.out; omega), rfl⟩

set_option maxRecDepth 100000 in
set_option maxHeartbeats 1000000 in
theorem total_any (a b : Int) (w : World) (a0 : 0 ≤ a) (a1 : a < 18446744073709551616) (b0 : 0 ≤ b) (b1 : b < 18446744073709551616) :
    Calls Tryz.prog 50 #[.int .u64 a, .int .u64 b] w fun e w' => e = .returned (.int .i64 (Ie.cm (Ie.plc a) (Ie.plc b))) ∧ w' = w := by
  have P1 := hid (place_any a w a0 a1)
  have P2 := hid (place_any b w b0 b1)
  go_enter Tryz.func50, Tryz.ntmps50
  go_wp2_with fail
  refine P1.out.mono ?_
  rintro e w' ⟨rfl, rfl⟩
  go_wp2_with fail
  refine P2.out.mono ?_
  rintro e w' ⟨rfl, rfl⟩
  go_wp2_with fail
  refine (ccmp_any _ _ _).mono ?_
  rintro e w' ⟨rfl, rfl⟩
  go_wp2_with fail
  go_ret
  exact ⟨rfl, rfl⟩

set_option maxRecDepth 100000 in
set_option maxHeartbeats 1000000 in
theorem atRank_in (i : Int) (w : World) (h0 : -9218868437227405312 ≤ i) (h1 : i ≤ 9218868437227405312) :
    Calls Tryz.prog 52 #[.int .i64 i] w fun e w' => e = .returned (.tuple #[.int .u64 (Ie.atr i), .bool true]) ∧ w' = w := by
  rcases (show i < 0 ∨ 0 ≤ i by omega) with h | h
  · have E : Hid (Ie.sg true (-i) = Ie.atr i) := by rw [Hid, Ie.sg, if_pos rfl, Ie.atr, if_pos h]; omega
    have W1 : IntKind.u64.wrap i = i + 18446744073709551616 := by rw [IntKind.wrap_u64]; omega
    have W2 : IntKind.u64.wrap (-(i + 18446744073709551616)) = -i := by rw [IntKind.wrap_u64]; omega
    have SG := hid (fun (x : Int) (hx : x = -i) => signed_any true x w (by omega) (by omega))
    go_enter Tryz.func52, Tryz.ntmps52
    go_wp2_with fail
    refine (SG.out _ (by omega)).mono ?_
    rintro e w' ⟨rfl, rfl⟩
    go_wp2_with fail
    go_ret2
    exact ⟨ret_u64b E.out rfl, rfl⟩
  · have E : Hid (Ie.sg false i = Ie.atr i) := by rw [Hid, Ie.sg, if_neg (by decide), Ie.atr, if_neg (by omega)]
    have SG := hid (fun (x : Int) (hx : x = i) => signed_any false x w (by omega) (by omega))
    have hf : decide (i < 0) = false := by simp; omega
    go_enter Tryz.func52, Tryz.ntmps52
    go_wp2_with fail
    refine (SG.out _ (by omega)).mono ?_
    rintro e w' ⟨rfl, rfl⟩
    go_wp2_with fail
    go_ret2
    exact ⟨ret_u64b E.out rfl, rfl⟩

set_option maxRecDepth 100000 in
set_option maxHeartbeats 1000000 in
theorem atRank_out (i : Int) (w : World) (l0 : -9223372036854775808 ≤ i) (l1 : i ≤ 9223372036854775807) (h : i < -9218868437227405312 ∨ 9218868437227405312 < i) :
    Calls Tryz.prog 52 #[.int .i64 i] w fun e w' => e = .returned (.tuple #[.int .u64 0, .bool false]) ∧ w' = w := by
  rcases h with h | h
  · have W1 : IntKind.u64.wrap i = i + 18446744073709551616 := by rw [IntKind.wrap_u64]; omega
    have W2 : IntKind.u64.wrap (-(i + 18446744073709551616)) = -i := by rw [IntKind.wrap_u64]; omega
    go_enter Tryz.func52, Tryz.ntmps52
    go_wp2
    go_ret2
    exact ⟨rfl, rfl⟩
  · go_enter Tryz.func52, Tryz.ntmps52
    go_wp2
    go_ret2
    exact ⟨rfl, rfl⟩
end Go.Proofs.YtdemopkdcnaibaaGreatDoor

/-
  The document's Class, Compare, Total, Rank, AtRank, Up, Down (made by mkzord.py).
-/
namespace Go.Proofs.YtdemopkdcnaibaaGreatDoor
open Go Go.RowKit Go.Deep

set_option maxRecDepth 100000 in
set_option maxHeartbeats 2000000 in
theorem zclass_any (d : Int) (w : World) (h0 : 0 ≤ d) (h1 : d < 18446744073709551616) :
    Calls Tryz.prog 28 #[.int .u64 d] w fun e w' => e = .returned (.int .i64 (Ie.cls d)) ∧ Below w.heap.size w w' := by
  have D := hid (zdecode_any d w h0 h1)
  generalize decide (9223372036854775808 ≤ d) = neg at D
  generalize Ie.cls d = c at *
  generalize Ie.dm d = m at D
  generalize Ie.de d = x at D
  simp only [partsOf] at D
  go_enter Tryz.func28, Tryz.ntmps28
  go_wp2_with fail
  refine D.out.mono ?_
  rintro e w1 ⟨rfl, hB⟩
  have HB := hid hB
  clear hB D
  go_wp2_with fail
  go_ret
  exact ⟨rfl, Below.alloc HB.out HB.out.size _⟩

set_option maxRecDepth 100000 in
set_option maxHeartbeats 2000000 in
theorem zcompare_any (a b : Int) (w : World) (a0 : 0 ≤ a) (a1 : a < 18446744073709551616) (b0 : 0 ≤ b) (b1 : b < 18446744073709551616) :
    Calls Tryz.prog 31 #[.int .u64 a, .int .u64 b] w fun e w' => e = .returned (.tuple #[.int .i64 (Ie.cmv a b), .bool (Ie.okd a && Ie.okd b)]) ∧ w' = w := by
  have N1 := hid (znan_any a w a0 a1)
  have N2 := hid (znan_any b w b0 b1)
  have R1 := hid (zrank_any a w a0 a1)
  have R2 := hid (zrank_any b w b0 b1)
  have V : Hid (Ie.cmv a b = if Ie.okd a = true ∧ Ie.okd b = true then Ie.cm (Ie.rk a) (Ie.rk b) else 0) := rfl
  generalize Ie.cmv a b = cv at *
  generalize Ie.rk a = x at *
  generalize Ie.rk b = y at *
  generalize Ie.okd a = oa at *
  generalize Ie.okd b = ob at *
  clear a0 a1 b0 b1
  cases oa
  · have V0 : Hid (0 = cv) := by rw [Hid, V.out, if_neg (by simp)]
    clear V
    simp only [Bool.not_false] at N1
    go_enter Tryz.func31, Tryz.ntmps31
    go_wp2_with fail
    refine N1.out.mono ?_
    rintro e w' ⟨rfl, rfl⟩
    go_wp2_with fail
    go_ret2
    exact ⟨ret_i64b V0.out rfl, rfl⟩
  · simp only [Bool.not_true] at N1
    cases ob
    · have V0 : Hid (0 = cv) := by rw [Hid, V.out, if_neg (by simp)]
      clear V
      simp only [Bool.not_false] at N2
      go_enter Tryz.func31, Tryz.ntmps31
      go_wp2_with fail
      refine N1.out.mono ?_
      rintro e w' ⟨rfl, rfl⟩
      go_wp2_with fail
      refine N2.out.mono ?_
      rintro e w' ⟨rfl, rfl⟩
      go_wp2_with fail
      go_ret2
      exact ⟨ret_i64b V0.out rfl, rfl⟩
    · simp only [Bool.not_true] at N2
      have V1 : Hid (Ie.cm x y = cv) := by rw [Hid, V.out, if_pos ⟨rfl, rfl⟩]
      clear V
      by_cases h1 : x < y
      · have V0 : Hid (-1 = cv) := by rw [Hid, ← V1.out, Ie.cm, if_pos h1]
        go_enter Tryz.func31, Tryz.ntmps31
        go_wp2_with fail
        refine N1.out.mono ?_
        rintro e w' ⟨rfl, rfl⟩
        go_wp2_with fail
        refine N2.out.mono ?_
        rintro e w' ⟨rfl, rfl⟩
        go_wp2_with fail
        refine R1.out.mono ?_
        rintro e w' ⟨rfl, rfl⟩
        go_wp2_with fail
        refine R2.out.mono ?_
        rintro e w' ⟨rfl, rfl⟩
        go_wp2_with fail
        go_ret2
        exact ⟨ret_i64b V0.out rfl, rfl⟩
      · by_cases h2 : y < x
        · have V0 : Hid (1 = cv) := by rw [Hid, ← V1.out, Ie.cm, if_neg h1, if_pos h2]
          go_enter Tryz.func31, Tryz.ntmps31
          go_wp2_with fail
          refine N1.out.mono ?_
          rintro e w' ⟨rfl, rfl⟩
          go_wp2_with fail
          refine N2.out.mono ?_
          rintro e w' ⟨rfl, rfl⟩
          go_wp2_with fail
          refine R1.out.mono ?_
          rintro e w' ⟨rfl, rfl⟩
          go_wp2_with fail
          refine R2.out.mono ?_
          rintro e w' ⟨rfl, rfl⟩
          go_wp2_with fail
          go_ret2
          exact ⟨ret_i64b V0.out rfl, rfl⟩
        · have V0 : Hid (0 = cv) := by rw [Hid, ← V1.out, Ie.cm, if_neg h1, if_neg h2]
          go_enter Tryz.func31, Tryz.ntmps31
          go_wp2_with fail
          refine N1.out.mono ?_
          rintro e w' ⟨rfl, rfl⟩
          go_wp2_with fail
          refine N2.out.mono ?_
          rintro e w' ⟨rfl, rfl⟩
          go_wp2_with fail
          refine R1.out.mono ?_
          rintro e w' ⟨rfl, rfl⟩
          go_wp2_with fail
          refine R2.out.mono ?_
          rintro e w' ⟨rfl, rfl⟩
          go_wp2_with fail
          go_ret2
          exact ⟨ret_i64b V0.out rfl, rfl⟩

set_option maxRecDepth 100000 in
set_option maxHeartbeats 2000000 in
theorem zrankk_any (d : Int) (w : World) (h0 : 0 ≤ d) (h1 : d < 18446744073709551616) :
    Calls Tryz.prog 33 #[.int .u64 d] w fun e w' => e = .returned (.tuple #[.int .i64 (Ie.rkv d), .bool (Ie.okd d)]) ∧ w' = w := by
  have N1 := hid (znan_any d w h0 h1)
  have R1 := hid (zrank_any d w h0 h1)
  have V : Hid (Ie.rkv d = if Ie.okd d = true then Ie.rk d else 0) := rfl
  generalize Ie.rkv d = cv at *
  generalize Ie.rk d = x at *
  generalize Ie.okd d = oa at *
  cases oa
  · have V0 : Hid (0 = cv) := by rw [Hid, V.out, if_neg (by simp)]
    clear V
    simp only [Bool.not_false] at N1
    go_enter Tryz.func33, Tryz.ntmps33
    go_wp2_with fail
    refine N1.out.mono ?_
    rintro e w' ⟨rfl, rfl⟩
    go_wp2_with fail
    go_ret2
    exact ⟨ret_i64b V0.out rfl, rfl⟩
  · have V0 : Hid (x = cv) := by rw [Hid, V.out, if_pos rfl]
    clear V
    simp only [Bool.not_true] at N1
    go_enter Tryz.func33, Tryz.ntmps33
    go_wp2_with fail
    refine N1.out.mono ?_
    rintro e w' ⟨rfl, rfl⟩
    go_wp2_with fail
    refine R1.out.mono ?_
    rintro e w' ⟨rfl, rfl⟩
    go_wp2_with fail
    go_ret2
    exact ⟨ret_i64b V0.out rfl, rfl⟩

set_option maxRecDepth 100000 in
set_option maxHeartbeats 2000000 in
theorem zatrank_in (i : Int) (w : World) (h0 : -9218868437227405312 ≤ i) (h1 : i ≤ 9218868437227405312) :
    Calls Tryz.prog 34 #[.int .i64 i] w fun e w' => e = .returned (.tuple #[.int .u64 (Ie.atr i), .bool true]) ∧ w' = w := by
  rcases (show i < 0 ∨ 0 ≤ i by omega) with h | h
  · have E : Hid (9223372036854775808 + -i = Ie.atr i) := by rw [Hid, Ie.atr, if_pos h]; omega
    go_enter Tryz.func34, Tryz.ntmps34
    go_wp2
    go_ret2
    exact ⟨ret_u64b E.out rfl, rfl⟩
  · have E : Hid (i = Ie.atr i) := by rw [Hid, Ie.atr, if_neg (by omega)]
    go_enter Tryz.func34, Tryz.ntmps34
    go_wp2
    go_ret2
    exact ⟨ret_u64b E.out rfl, rfl⟩

set_option maxRecDepth 100000 in
set_option maxHeartbeats 2000000 in
theorem zatrank_out (i : Int) (w : World) (h : i < -9218868437227405312 ∨ 9218868437227405312 < i) :
    Calls Tryz.prog 34 #[.int .i64 i] w fun e w' => e = .returned (.tuple #[.int .u64 0, .bool false]) ∧ w' = w := by
  rcases h with h | h
  · go_enter Tryz.func34, Tryz.ntmps34
    go_wp2
    go_ret2
    exact ⟨rfl, rfl⟩
  · go_enter Tryz.func34, Tryz.ntmps34
    go_wp2
    go_ret2
    exact ⟨rfl, rfl⟩

set_option maxRecDepth 100000 in
set_option maxHeartbeats 2000000 in
theorem zup_any (d : Int) (w : World) (h0 : 0 ≤ d) (h1 : d < 18446744073709551616) :
    Calls Tryz.prog 35 #[.int .u64 d] w fun e w' => e = .returned (.int .u64 (Ie.upd d)) ∧ w' = w := by
  have N1 := hid (znan_any d w h0 h1)
  have R1 := hid (zrank_any d w h0 h1)
  cases ho : Ie.okd d
  · have E : Hid (9221120237041090560 = Ie.upd d) := by rw [Hid, Ie.upd, if_pos ho]
    rw [ho] at N1
    simp only [Bool.not_false] at N1
    go_enter Tryz.func35, Tryz.ntmps35
    go_wp2_with fail
    refine N1.out.mono ?_
    rintro e w' ⟨rfl, rfl⟩
    go_wp2_with fail
    go_ret
    exact ⟨i_retU E.out, rfl⟩
  · have hb : d % 9223372036854775808 ≤ 9218868437227405312 := by have := ho; rw [Ie.okd, decide_eq_true_iff] at this; exact this
    have E0 : Ie.upd d = if d = 9218868437227405312 then d else if d = 9223372036854775808 then 1 else if 9223372036854775808 < d then d - 1 else d + 1 := by rw [Ie.upd, ho, if_neg (by decide)]
    rw [ho] at N1
    simp only [Bool.not_true] at N1
    rcases (show d < 9223372036854775808 ∨ 9223372036854775808 ≤ d by omega) with hs | hs
    · have hr : Ie.rk d = d := by rw [Ie.rk, if_pos hs]
      rw [hr] at R1
      by_cases e1 : d = 9218868437227405312
      · have E : Hid (d = Ie.upd d) := by rw [Hid, E0, if_pos e1]
        subst e1
        clear E0 hr ho hb
        go_enter Tryz.func35, Tryz.ntmps35
        go_wp2_with fail
        refine N1.out.mono ?_
        rintro e w' ⟨rfl, rfl⟩
        go_wp2_with fail
        refine R1.out.mono ?_
        rintro e w' ⟨rfl, rfl⟩
        go_wp2_with fail
        go_ret
        exact ⟨i_retU E.out, rfl⟩
      · have E : Hid (d + 1 = Ie.upd d) := by rw [Hid, E0, if_neg e1, if_neg (by omega), if_neg (by omega)]
        have db : d ≤ 9218868437227405311 := by omega
        have e1' : (d == 9218868437227405312) = false := by rw [beq_eq_false_iff_ne]; exact e1
        clear E0 hr ho hb
        go_enter Tryz.func35, Tryz.ntmps35
        go_wp2_with fail
        refine N1.out.mono ?_
        rintro e w' ⟨rfl, rfl⟩
        go_wp2_with fail
        refine R1.out.mono ?_
        rintro e w' ⟨rfl, rfl⟩
        go_wp2_with fail
        go_ret
        exact ⟨i_retU E.out, rfl⟩
    · have hr : Ie.rk d = 9223372036854775808 - d := by rw [Ie.rk, if_neg (by omega)]
      rw [hr] at R1
      obtain ⟨y, hy⟩ : ∃ y, 9223372036854775808 - d = y := ⟨_, rfl⟩
      rw [hy] at R1
      have y0 : y ≤ 0 := by omega
      have y1 : -9218868437227405312 ≤ y := by omega
      have e1' : (y == 9218868437227405312) = false := by rw [beq_eq_false_iff_ne]; omega
      rcases (show y = 0 ∨ y < 0 by omega) with hz | hz
      · have E : Hid (1 = Ie.upd d) := by rw [Hid, E0, if_neg (by omega), if_pos (by omega)]
        subst hz
        clear E0 hr ho hb hy
        go_enter Tryz.func35, Tryz.ntmps35
        go_wp2_with fail
        refine N1.out.mono ?_
        rintro e w' ⟨rfl, rfl⟩
        go_wp2_with fail
        refine R1.out.mono ?_
        rintro e w' ⟨rfl, rfl⟩
        go_wp2_with fail
        go_ret
        exact ⟨i_retU E.out, rfl⟩
      · have E : Hid (9223372036854775808 + (-y - 1) = Ie.upd d) := by rw [Hid, E0, if_neg (by omega), if_neg (by omega), if_pos (by omega)]; omega
        have zn : ¬ 0 ≤ y := by omega
        clear E0 hr ho hb hy
        go_enter Tryz.func35, Tryz.ntmps35
        go_wp2_with fail
        refine N1.out.mono ?_
        rintro e w' ⟨rfl, rfl⟩
        go_wp2_with fail
        refine R1.out.mono ?_
        rintro e w' ⟨rfl, rfl⟩
        go_wp2_with fail
        go_ret
        exact ⟨i_retU (by rw [← E.out]), rfl⟩

set_option maxRecDepth 100000 in
set_option maxHeartbeats 2000000 in
theorem zdown_any (d : Int) (w : World) (h0 : 0 ≤ d) (h1 : d < 18446744073709551616) :
    Calls Tryz.prog 36 #[.int .u64 d] w fun e w' => e = .returned (.int .u64 (Ie.dnd d)) ∧ w' = w := by
  have N1 := hid (znan_any d w h0 h1)
  cases ho : Ie.okd d
  · have E : Hid (9221120237041090560 = Ie.dnd d) := by rw [Hid, Ie.dnd, if_pos ho]
    rw [ho] at N1
    simp only [Bool.not_false] at N1
    go_enter Tryz.func36, Tryz.ntmps36
    go_wp2_with fail
    refine N1.out.mono ?_
    rintro e w' ⟨rfl, rfl⟩
    go_wp2_with fail
    go_ret
    exact ⟨i_retU E.out, rfl⟩
  · have E : Hid (Ie.dnd d = Ie.ng (Ie.upd (Ie.ng d))) := by rw [Hid, Ie.dnd, ho, if_neg (by decide)]
    rw [ho] at N1
    simp only [Bool.not_true] at N1
    have b1 := Ie.ng_bd d h0 h1
    have b2 := Ie.upd_bd _ b1.1 b1.2
    have M1 := hid (zneg_any d w h0 h1)
    have U1 := hid (zup_any _ w b1.1 b1.2)
    have M2 := hid (zneg_any _ w b2.1 b2.2)
    clear ho b1 b2
    go_enter Tryz.func36, Tryz.ntmps36
    go_wp2_with fail
    refine N1.out.mono ?_
    rintro e w' ⟨rfl, rfl⟩
    go_wp2_with fail
    refine M1.out.mono ?_
    rintro e w' ⟨rfl, rfl⟩
    go_wp2_with fail
    refine U1.out.mono ?_
    rintro e w' ⟨rfl, rfl⟩
    go_wp2_with fail
    refine M2.out.mono ?_
    rintro e w' ⟨rfl, rfl⟩
    go_wp2_with fail
    go_ret
    exact ⟨i_retU E.out.symm, rfl⟩

set_option maxRecDepth 100000 in
set_option maxHeartbeats 4000000 in
theorem ztotal_any (a b : Int) (w : World) (a0 : 0 ≤ a) (a1 : a < 18446744073709551616) (b0 : 0 ≤ b) (b1 : b < 18446744073709551616) :
    Calls Tryz.prog 32 #[.int .u64 a, .int .u64 b] w fun e w' => e = .returned (.int .i64 (Ie.cm (Ie.plc a) (Ie.plc b))) ∧ w' = w := by
  have A1 := hid (zabs_any a w a0 a1)
  have A2 := hid (zabs_any b w b0 b1)
  have WA : 9223372036854775808 ≤ a → IntKind.u64.wrap (a + 9223372036854775808) = a - 9223372036854775808 := fun h => by rw [IntKind.wrap_u64]; omega
  have WB : 9223372036854775808 ≤ b → IntKind.u64.wrap (b + 9223372036854775808) = b - 9223372036854775808 := fun h => by rw [IntKind.wrap_u64]; omega
  obtain ⟨ra, hra⟩ : ∃ r, a % 9223372036854775808 = r := ⟨_, rfl⟩
  obtain ⟨rb, hrb⟩ : ∃ r, b % 9223372036854775808 = r := ⟨_, rfl⟩
  rw [hra] at A1
  rw [hrb] at A2
  have ra0 : 0 ≤ ra ∧ ra < 9223372036854775808 := by omega
  have rb0 : 0 ≤ rb ∧ rb < 9223372036854775808 := by omega
  obtain ⟨ra1, ra2⟩ := ra0
  obtain ⟨rb1, rb2⟩ := rb0
  by_cases ha : 9223372036854775808 ≤ a <;> by_cases hb : 9223372036854775808 ≤ b
  · have pa : Ie.plc a + 9223372036854775808 = (9223372036854775807 - ra) := by rw [Ie.plc]; split <;> omega
    have pb : Ie.plc b + 9223372036854775808 = (9223372036854775807 - rb) := by rw [Ie.plc]; split <;> omega
    have wa := WA ha
    have wb := WB hb
    clear WA WB
    rcases (show (9223372036854775807 - ra) < (9223372036854775807 - rb) ∨ (9223372036854775807 - rb) < (9223372036854775807 - ra) ∨ (9223372036854775807 - ra) = (9223372036854775807 - rb) by omega) with h | h | h
    · have E : Hid (-1 = Ie.cm (Ie.plc a) (Ie.plc b)) := by rw [Hid, Ie.cm]; rw [if_pos (by omega)]
      have g1 : (9223372036854775807 - ra) < (9223372036854775807 - rb) := h
      clear pa pb hra hrb
      go_enter Tryz.func32, Tryz.ntmps32
      go_wp2_with fail
      refine A1.out.mono ?_
      rintro e w' ⟨rfl, rfl⟩
      go_wp2_with fail
      refine A2.out.mono ?_
      rintro e w' ⟨rfl, rfl⟩
      go_wp2_with fail
      go_ret
      exact ⟨i_retI E.out, rfl⟩
    · have E : Hid (1 = Ie.cm (Ie.plc a) (Ie.plc b)) := by rw [Hid, Ie.cm]; rw [if_neg (by omega), if_pos (by omega)]
      have g1 : ¬ (9223372036854775807 - ra) < (9223372036854775807 - rb) := by omega
      clear pa pb hra hrb
      go_enter Tryz.func32, Tryz.ntmps32
      go_wp2_with fail
      refine A1.out.mono ?_
      rintro e w' ⟨rfl, rfl⟩
      go_wp2_with fail
      refine A2.out.mono ?_
      rintro e w' ⟨rfl, rfl⟩
      go_wp2_with fail
      go_ret
      exact ⟨i_retI E.out, rfl⟩
    · have E : Hid (0 = Ie.cm (Ie.plc a) (Ie.plc b)) := by rw [Hid, Ie.cm]; rw [if_neg (by omega), if_neg (by omega)]
      have g1 : ¬ (9223372036854775807 - ra) < (9223372036854775807 - rb) := by omega
      have g2 : ¬ (9223372036854775807 - rb) < (9223372036854775807 - ra) := by omega
      clear h
      clear pa pb hra hrb
      go_enter Tryz.func32, Tryz.ntmps32
      go_wp2_with fail
      refine A1.out.mono ?_
      rintro e w' ⟨rfl, rfl⟩
      go_wp2_with fail
      refine A2.out.mono ?_
      rintro e w' ⟨rfl, rfl⟩
      go_wp2_with fail
      go_ret
      exact ⟨i_retI E.out, rfl⟩
  · have pa : Ie.plc a + 9223372036854775808 = (9223372036854775807 - ra) := by rw [Ie.plc]; split <;> omega
    have pb : Ie.plc b + 9223372036854775808 = (b + 9223372036854775808) := by rw [Ie.plc]; split <;> omega
    have wa := WA ha
    clear WA WB
    rcases (show (9223372036854775807 - ra) < (b + 9223372036854775808) ∨ (b + 9223372036854775808) < (9223372036854775807 - ra) ∨ (9223372036854775807 - ra) = (b + 9223372036854775808) by omega) with h | h | h
    · have E : Hid (-1 = Ie.cm (Ie.plc a) (Ie.plc b)) := by rw [Hid, Ie.cm]; rw [if_pos (by omega)]
      have g1 : (9223372036854775807 - ra) < (b + 9223372036854775808) := h
      clear pa pb hra hrb
      go_enter Tryz.func32, Tryz.ntmps32
      go_wp2_with fail
      refine A1.out.mono ?_
      rintro e w' ⟨rfl, rfl⟩
      go_wp2_with fail
      go_ret
      exact ⟨i_retI E.out, rfl⟩
    · exfalso; omega
    · exfalso; omega
  · have pa : Ie.plc a + 9223372036854775808 = (a + 9223372036854775808) := by rw [Ie.plc]; split <;> omega
    have pb : Ie.plc b + 9223372036854775808 = (9223372036854775807 - rb) := by rw [Ie.plc]; split <;> omega
    have wb := WB hb
    clear WA WB
    rcases (show (a + 9223372036854775808) < (9223372036854775807 - rb) ∨ (9223372036854775807 - rb) < (a + 9223372036854775808) ∨ (a + 9223372036854775808) = (9223372036854775807 - rb) by omega) with h | h | h
    · exfalso; omega
    · have E : Hid (1 = Ie.cm (Ie.plc a) (Ie.plc b)) := by rw [Hid, Ie.cm]; rw [if_neg (by omega), if_pos (by omega)]
      have g1 : ¬ (a + 9223372036854775808) < (9223372036854775807 - rb) := by omega
      clear pa pb hra hrb
      go_enter Tryz.func32, Tryz.ntmps32
      go_wp2_with fail
      refine A2.out.mono ?_
      rintro e w' ⟨rfl, rfl⟩
      go_wp2_with fail
      go_ret
      exact ⟨i_retI E.out, rfl⟩
    · exfalso; omega
  · have pa : Ie.plc a + 9223372036854775808 = (a + 9223372036854775808) := by rw [Ie.plc]; split <;> omega
    have pb : Ie.plc b + 9223372036854775808 = (b + 9223372036854775808) := by rw [Ie.plc]; split <;> omega
    clear WA WB
    rcases (show (a + 9223372036854775808) < (b + 9223372036854775808) ∨ (b + 9223372036854775808) < (a + 9223372036854775808) ∨ (a + 9223372036854775808) = (b + 9223372036854775808) by omega) with h | h | h
    · have E : Hid (-1 = Ie.cm (Ie.plc a) (Ie.plc b)) := by rw [Hid, Ie.cm]; rw [if_pos (by omega)]
      have g1 : (a + 9223372036854775808) < (b + 9223372036854775808) := h
      clear pa pb hra hrb
      go_enter Tryz.func32, Tryz.ntmps32
      go_wp2_with fail
      go_ret
      exact ⟨i_retI E.out, rfl⟩
    · have E : Hid (1 = Ie.cm (Ie.plc a) (Ie.plc b)) := by rw [Hid, Ie.cm]; rw [if_neg (by omega), if_pos (by omega)]
      have g1 : ¬ (a + 9223372036854775808) < (b + 9223372036854775808) := by omega
      clear pa pb hra hrb
      go_enter Tryz.func32, Tryz.ntmps32
      go_wp2_with fail
      go_ret
      exact ⟨i_retI E.out, rfl⟩
    · have E : Hid (0 = Ie.cm (Ie.plc a) (Ie.plc b)) := by rw [Hid, Ie.cm]; rw [if_neg (by omega), if_neg (by omega)]
      have g1 : ¬ (a + 9223372036854775808) < (b + 9223372036854775808) := by omega
      have g2 : ¬ (b + 9223372036854775808) < (a + 9223372036854775808) := by omega
      clear h
      clear pa pb hra hrb
      go_enter Tryz.func32, Tryz.ntmps32
      go_wp2_with fail
      go_ret
      exact ⟨i_retI E.out, rfl⟩
end Go.Proofs.YtdemopkdcnaibaaGreatDoor

namespace Go.Proofs.YtdemopkdcnaibaaGreatDoor
open Go Go.RowKit Go.Deep

theorem arg_lit {w : World} {g : Nat} {x : Int} (h : w.heap[g]? = some (.cells #[.int .u64 x] 24 (0, 0))) (h0 : 0 ≤ x) (h1 : x < 18446744073709551616) : Arg w (some ⟨g, 0, none⟩) 1 1 [x] := by
  refine ⟨rfl, Nat.le_refl _, by omega, .inr ⟨g, 0, rfl, fun i hi => ?_⟩, Nm.Limbs.mk h0 h1 Nm.Limbs.nil⟩
  obtain rfl : i = 0 := by simpa using hi
  simp [World.cell?, h]
end Go.Proofs.YtdemopkdcnaibaaGreatDoor


