/-
  Texts put together: UWhole, UScale, UEarly, ZRef9, ZRef13, UCommon, MKindsZ.
-/
import Derived.Test.YtmakkfekomnpbaaGreatDoorRC
import Derived.Test.YtmakkfekomnpbaaGreatDoorZDecA
import Derived.Test.YtmakkfekomnpbaaGreatDoorRB
import Derived.Test.YtmakkfekomnpbaaGreatDoorBare
import Derived.Deep.RegionWith
import Derived.Deep.RegionHeld3
import Derived.Deep.CutRange
import Derived.Deep.CutBlock
import Derived.BigQuiet
import Derived.Test.YtmakkfekomnpbaaGreatDoorRA
/-
  The document's layer 6: whole and its four rules (made by mkuwhole.py).
-/
namespace Go.Proofs.YtmakkfekomnpbaaGreatDoor
open Go Go.RowKit Go.Deep

namespace Ie
/-- The parts of a finite double with bits behind the point, in units. -/
theorem sd_un {d : Int} {k : Nat} (hf : fin d) (hk : de d = -(k : Int)) (k1 : 1 ≤ k) (k2 : k ≤ 1074) :
    dm d / 2 ^ k = un (ab d) / 2 ^ 1074 ∧ (sd (dm d) k = 0 ↔ intg d = true) ∧ (sd (dm d) k = 0 ∨ sd (dm d) k = 1 ∨ sd (dm d) k = 2 ∨ sd (dm d) k = 3) ∧
    (sd (dm d) k ≠ 0 → (nrup (un (ab d)) = true ↔ (sd (dm d) k = 3 ∨ (sd (dm d) k = 2 ∧ dm d / 2 ^ k % 2 = 1)))) := by
  obtain ⟨-, -, g, -⟩ := dec_f d hf
  have hp := Nm.two_pos (1074 - k)
  have e1 : (2 : Int) ^ 1074 = 2 ^ k * 2 ^ (1074 - k) := by rw [← Nm.two_add]; congr 1; omega
  have e2 : (2 : Int) ^ 1073 = 2 ^ (k - 1) * 2 ^ (1074 - k) := by rw [← Nm.two_add]; congr 1; omega
  have e3 : (2 : Int) ^ k = 2 * 2 ^ (k - 1) := by rw [← Nm.two_succ]; congr 1; omega
  have hU := (g (1074 - k) (by omega)).symm
  have hW : dm d / 2 ^ k = un (ab d) / 2 ^ 1074 := by rw [hU, e1, ediv_scale _ _ _ hp]
  have hF : un (ab d) % 2 ^ 1074 = dm d % 2 ^ k * 2 ^ (1074 - k) := by rw [hU, e1, emod_scale _ _ _ hp]
  refine ⟨hW, ?_, ?_, fun hs => ?_⟩
  · rw [intg_iff_un hf, hF, sd]
    constructor
    · intro h
      split at h
      · rename_i q; rw [q, Int.zero_mul]
      · split at h
        · omega
        · split at h <;> omega
    · intro h
      rcases Int.mul_eq_zero.1 h with q | q
      · rw [if_pos q]
      · omega
  · rw [sd]; split
    · omega
    · split
      · omega
      · split <;> omega
  · have c1 : cmpI (un (ab d) % 2 ^ 1074) (2 ^ 1073) = cmpI (dm d % 2 ^ k) (2 ^ (k - 1)) := by
      rw [hF, e2]
      have a1 := lt_scale (a := dm d % 2 ^ k) (b := 2 ^ (k - 1)) hp
      have a2 := eq_scale (a := dm d % 2 ^ k) (b := 2 ^ (k - 1)) hp
      by_cases q : dm d % 2 ^ k < 2 ^ (k - 1)
      · rw [cmpI_lt q, cmpI_lt (a1.2 q)]
      · by_cases q2 : dm d % 2 ^ k = 2 ^ (k - 1)
        · rw [cmpI_eq q2, cmpI_eq (a2.2 q2)]
        · have q3 : 2 ^ (k - 1) < dm d % 2 ^ k := by omega
          rw [cmpI_gt q3, cmpI_gt ((lt_scale (a := 2 ^ (k - 1)) (b := dm d % 2 ^ k) hp).2 q3)]
    rw [nrup, decide_eq_true_iff, c1, ← hW, sd] at *
    rw [e3] at hs ⊢
    generalize (2 : Int) ^ (k - 1) = H at *
    generalize dm d % (2 * H) = R at *
    generalize dm d / (2 * H) = Q at *
    rw [cmpI]
    split at hs
    · omega
    · rename_i r0
      rw [if_neg r0]
      split
      · rw [if_pos (by omega)]; omega
      · split
        · rw [if_neg (by omega), if_pos (by omega)]; omega
        · rw [if_neg (by omega), if_neg (by omega)]; omega

theorem wis_sd {d x W' : Int} {up : Bool} {k : Nat} (hf : fin d) (hk : de d = -(k : Int)) (k1 : 1 ≤ k) (k2 : k ≤ 1074) (h : W' = if sd (dm d) k = 0 then dm d / 2 ^ k else wup (dm d / 2 ^ k) up) (hR : Rnd W' 1 0 false x) : WIs d up (sg (ngd d) x) := by
  obtain ⟨q1, q2, -, -⟩ := sd_un hf hk k1 k2
  obtain ⟨⟨m0, m1⟩, -, -, -⟩ := dec_f d hf
  cases g : intg d
  · have s0 : ¬ sd (dm d) k = 0 := fun s => by rw [q2.1 s] at g; cases g
    rw [if_neg s0, q1] at h
    rw [h] at hR
    exact wis_fin hf g hR
  · rw [if_pos (q2.2 g)] at h
    have hp := Nm.two_pos k
    have b0 : 0 ≤ dm d / 2 ^ k := Int.ediv_nonneg m0 (by omega)
    have b1 : dm d / 2 ^ k ≤ dm d := Int.ediv_le_self _ m0
    rw [h] at hR
    obtain ⟨u, x0, x1⟩ := rnd_rep (c := 1074) (by omega) b0 (by omega) (by omega) hR
    rw [q1] at u
    have e := (intg_iff_un hf).1 g
    have dm' := Int.mul_ediv_add_emod (un (ab d)) (2 ^ 1074)
    rw [e, Int.add_zero, Int.mul_comm] at dm'
    have ex' : x = ab d := un_inj x0 (ab_bd d).1 (u.trans dm')
    rw [ex']
    refine ⟨fun q => ?_, fun q => ?_, fun _ => ⟨ab d, rfl, (ab_bd d).1, hf, fun _ => rfl, fun q => ?_⟩⟩
    · rw [(fin_kinds hf).1] at q; cases q
    · rw [(fin_kinds hf).2] at q; cases q
    · rw [g] at q; cases q

theorem intg_nn {d : Int} (hf : fin d) (h : 0 ≤ de d) : intg d = true := by
  obtain ⟨-, -, g, -⟩ := dec_f d hf
  obtain ⟨j, hj⟩ : ∃ j : Nat, (j : Int) = de d := ⟨(de d).toNat, by omega⟩
  rw [intg_iff_un hf, ← g (j + 1074) (by omega), Nm.two_add, ← Int.mul_assoc]
  exact Int.mul_emod_left _ _
end Ie

set_option maxRecDepth 100000 in
set_option maxHeartbeats 2000000 in
theorem uwhole_stay (up : Bool) (rule d : Int) (w : World) (h0 : 0 ≤ d) (h1 : d < 18446744073709551616) (h : Ie.fin d → 0 ≤ Ie.de d) :
    Calls Tryz.prog 41 #[.int .u64 d, .int .i64 rule] w fun e w' => ∃ r, e = .returned (.int .u64 r) ∧ Ie.WIs d up r ∧ Below w.heap.size w w' := by
  have D := hid (fun (wx : World) => zdecode_any d wx h0 h1)
  rw [← Ie.ngd] at D
  have c4 := Ie.isn_cls d
  have c3 := Ie.isi_cls d
  simp only [partsOf] at D
  rcases Ie.kinds d with g | ⟨g, g', g''⟩ | ⟨g, g', g''⟩
  · have E : Hid (Ie.WIs d up 9221120237041090560) := ⟨fun _ => rfl, fun k => (by simp only [Ie.isn, Ie.isi, decide_eq_true_iff] at g k; omega), fun k => (by simp only [Ie.isn, Ie.fin, decide_eq_true_iff] at g k; omega)⟩
    obtain ⟨c, hc⟩ : ∃ c, Ie.cls d = c := ⟨_, rfl⟩
    rw [g, hc, beq_iff_eq] at c4
    rw [hc] at D
    subst c4
    generalize Ie.dm d = m at *
    generalize Ie.de d = x at *
    generalize Ie.ngd d = neg at *
    clear g hc c3 h
    go_enter Tryz.func41, Tryz.ntmps41
    go_wp2_with fail
    refine (D.out _).mono ?_
    rintro e w1 ⟨rfl, hB⟩
    have hb := hB.trans ((alloc_b w1 (.cells #[.bool neg, .int .i64 4, .int .u64 m, .int .i64 x] 40)).mono hB.size)
    have P := Row4.new w1 40 (.bool neg) (.int .i64 4) (.int .u64 m) (.int .i64 x)
    go_upto_region 2 with fail
    have HB1 := hid hb
    obtain ⟨⟨p0, p1, p2, p3⟩, -⟩ := P.cells
    have lt := P.lt
    clear hB hb P D
    generalize w1.alloc (.cells #[.bool neg, .int .i64 4, .int .u64 m, .int .i64 x] 40) = wA at *
    generalize w1.heap.size = b at *
    go_wp2_with fail
    go_ret
    exact ⟨_, rfl, E.out, HB1.out⟩
  · have E := hid (Ie.wis_stay up h0 h1 (.inl g'))
    obtain ⟨c, hc⟩ : ∃ c, Ie.cls d = c := ⟨_, rfl⟩
    rw [g', hc, beq_iff_eq] at c3
    rw [hc] at D
    subst c3
    generalize Ie.dm d = m at *
    generalize Ie.de d = x at *
    generalize Ie.ngd d = neg at *
    clear g g' g'' hc c4 h
    go_enter Tryz.func41, Tryz.ntmps41
    go_wp2_with fail
    refine (D.out _).mono ?_
    rintro e w1 ⟨rfl, hB⟩
    have hb := hB.trans ((alloc_b w1 (.cells #[.bool neg, .int .i64 3, .int .u64 m, .int .i64 x] 40)).mono hB.size)
    have P := Row4.new w1 40 (.bool neg) (.int .i64 3) (.int .u64 m) (.int .i64 x)
    go_upto_region 2 with fail
    have HB1 := hid hb
    obtain ⟨⟨p0, p1, p2, p3⟩, -⟩ := P.cells
    have lt := P.lt
    clear hB hb P D
    generalize w1.alloc (.cells #[.bool neg, .int .i64 3, .int .u64 m, .int .i64 x] 40) = wA at *
    generalize w1.heap.size = b at *
    go_wp2_with fail
    go_ret
    exact ⟨_, rfl, E.out, HB1.out⟩
  · have E := hid (Ie.wis_stay up h0 h1 (.inr ⟨g'', Ie.intg_nn g'' (h g'')⟩))
    have x0 : ¬ Ie.de d < 0 := by have := h g''; omega
    rw [g] at c4
    rw [g'] at c3
    generalize Ie.cls d = c at *
    generalize Ie.dm d = m at *
    generalize Ie.de d = x at *
    generalize Ie.ngd d = neg at *
    clear g g' g'' h
    go_enter Tryz.func41, Tryz.ntmps41
    go_wp2_with fail
    refine (D.out _).mono ?_
    rintro e w1 ⟨rfl, hB⟩
    have hb := hB.trans ((alloc_b w1 (.cells #[.bool neg, .int .i64 c, .int .u64 m, .int .i64 x] 40)).mono hB.size)
    have P := Row4.new w1 40 (.bool neg) (.int .i64 c) (.int .u64 m) (.int .i64 x)
    go_upto_region 2 with fail
    have HB1 := hid hb
    obtain ⟨⟨p0, p1, p2, p3⟩, -⟩ := P.cells
    have lt := P.lt
    clear hB hb P D
    generalize w1.alloc (.cells #[.bool neg, .int .i64 c, .int .u64 m, .int .i64 x] 40) = wA at *
    generalize w1.heap.size = b at *
    go_wp2_with fail
    go_ret
    exact ⟨_, rfl, E.out, HB1.out⟩

set_option maxRecDepth 100000 in
set_option maxHeartbeats 4000000 in
theorem uwhole_f0 (d : Int) (k : Nat) (w : World) (h0 : 0 ≤ d) (h1 : d < 18446744073709551616) (hf : Ie.fin d) (hk : Ie.de d = -(k : Int)) (k1 : 1 ≤ k) (k2 : k ≤ 1074) :
    Calls Tryz.prog 41 #[.int .u64 d, .int .i64 0] w fun e w' => ∃ r, e = .returned (.int .u64 r) ∧ Ie.WIs d false r ∧ Below w.heap.size w w' := by
  have D := hid (fun (wx : World) => zdecode_any d wx h0 h1)
  rw [← Ie.ngd, hk] at D
  have c4 := Ie.isn_cls d
  have c3 := Ie.isi_cls d
  rw [(Ie.fin_kinds hf).1] at c4
  rw [(Ie.fin_kinds hf).2] at c3
  obtain ⟨⟨m0, m1⟩, -, -, -⟩ := Ie.dec_f d hf
  obtain ⟨-, -, s4, nr⟩ := Ie.sd_un hf hk k1 k2
  have WS := hid (fun (x W' : Int) (h : W' = if Ie.sd (Ie.dm d) k = 0 then Ie.dm d / 2 ^ k else Ie.wup (Ie.dm d / 2 ^ k) false) (hR : Ie.Rnd W' 1 0 false x) => Ie.wis_sd hf hk k1 k2 h hR)
  have W0 : 0 ≤ Ie.dm d / 2 ^ k := Int.ediv_nonneg m0 (by have := Nm.two_pos k; omega)
  have W1 : Ie.dm d / 2 ^ k ≤ Ie.dm d := Int.ediv_le_self _ m0
  have CU := hid (fun (wx : World) => cut_any (Ie.ngd d) (Ie.cls d) (Ie.dm d) k wx m0 m1 k1 k2)
  have FX := hid (fun (wx : World) (W' : Int) (a : 0 ≤ W') (b : W' < 18446744073709551616) => zfromU_any W' wx a b)
  have x0 : -(k : Int) < 0 := by omega
  obtain ⟨W, hW⟩ : ∃ W, Ie.dm d / 2 ^ k = W := ⟨_, rfl⟩
  obtain ⟨s, hs⟩ : ∃ s, Ie.sd (Ie.dm d) k = s := ⟨_, rfl⟩
  rw [hW, hs] at CU nr WS
  rw [hs] at s4
  rw [hW] at W0 W1
  have W2 : W < 9007199254740992 := by omega
  clear hf hk hW hs m0 W1
  simp only [partsOf] at D CU
  generalize Ie.cls d = c at *
  generalize Ie.dm d = m at *
  generalize Ie.nrup (Ie.un (Ie.ab d)) = nu at *
  generalize Ie.ngd d = neg at *
  clear nr s4
  have FU := hid (fun (wx : World) => FX.out wx W W0 (by omega))
  have WT := hid (fun (x : Int) (hR : Ie.Rnd W 1 0 false x) => WS.out x W (by rw [Ie.wup]; simp) hR)
  go_enter Tryz.func41, Tryz.ntmps41
  go_wp2_with fail
  refine (D.out _).mono ?_
  rintro e w1 ⟨rfl, hB⟩
  have hb := hB.trans ((alloc_b w1 (.cells #[.bool neg, .int .i64 c, .int .u64 m, .int .i64 (-(k : Int))] 40)).mono hB.size)
  have P := Row4.new w1 40 (.bool neg) (.int .i64 c) (.int .u64 m) (.int .i64 (-(k : Int)))
  go_upto_region 2 with fail
  have HB1 := hid hb
  obtain ⟨⟨p0, p1, p2, p3⟩, -⟩ := P.cells
  have lt := P.lt
  clear hB hb P D
  generalize w1.alloc (.cells #[.bool neg, .int .i64 c, .int .u64 m, .int .i64 (-(k : Int))] 40) = wA at *
  generalize w1.heap.size = b at *
  go_wp2_with fail
  refine (CU.out _).mono ?_
  rintro e w2 ⟨rfl, hB⟩
  have HB2 := hid (HB1.out.trans (hB.mono HB1.out.size))
  have q0 := (hB.cell (p := ⟨b, 0, none⟩) lt).trans p0
  clear hB p0 p1 p2 p3 CU
  go_wp2_with fail
  refine (FU.out _).mono ?_
  rintro e w3 ⟨x, rfl, hR, hB⟩
  have HB3 := hid (HB2.out.trans (hB.mono HB2.out.size))
  have q1 := (hB.cell (p := ⟨b, 0, none⟩) (cell_lt q0)).trans q0
  have xb := hR.bd
  have SG := hid (usigned_any neg x w3 xb.1 (by omega))
  have KK := hid (WT.out x hR)
  clear hB hR xb q0 FU WT
  go_wp2_with fail
  refine SG.out.mono ?_
  rintro e wz ⟨rfl, hz⟩
  replace hz := hz.symm
  subst hz
  go_wp2_with fail
  go_ret
  exact ⟨_, rfl, KK.out, HB3.out⟩

set_option maxRecDepth 100000 in
set_option maxHeartbeats 4000000 in
theorem uwhole_f1 (d : Int) (k : Nat) (w : World) (h0 : 0 ≤ d) (h1 : d < 18446744073709551616) (hf : Ie.fin d) (hk : Ie.de d = -(k : Int)) (k1 : 1 ≤ k) (k2 : k ≤ 1074) :
    Calls Tryz.prog 41 #[.int .u64 d, .int .i64 1] w fun e w' => ∃ r, e = .returned (.int .u64 r) ∧ Ie.WIs d (Ie.ngd d) r ∧ Below w.heap.size w w' := by
  have D := hid (fun (wx : World) => zdecode_any d wx h0 h1)
  rw [← Ie.ngd, hk] at D
  have c4 := Ie.isn_cls d
  have c3 := Ie.isi_cls d
  rw [(Ie.fin_kinds hf).1] at c4
  rw [(Ie.fin_kinds hf).2] at c3
  obtain ⟨⟨m0, m1⟩, -, -, -⟩ := Ie.dec_f d hf
  obtain ⟨-, -, s4, nr⟩ := Ie.sd_un hf hk k1 k2
  have WS := hid (fun (x W' : Int) (h : W' = if Ie.sd (Ie.dm d) k = 0 then Ie.dm d / 2 ^ k else Ie.wup (Ie.dm d / 2 ^ k) (Ie.ngd d)) (hR : Ie.Rnd W' 1 0 false x) => Ie.wis_sd hf hk k1 k2 h hR)
  have W0 : 0 ≤ Ie.dm d / 2 ^ k := Int.ediv_nonneg m0 (by have := Nm.two_pos k; omega)
  have W1 : Ie.dm d / 2 ^ k ≤ Ie.dm d := Int.ediv_le_self _ m0
  have CU := hid (fun (wx : World) => cut_any (Ie.ngd d) (Ie.cls d) (Ie.dm d) k wx m0 m1 k1 k2)
  have FX := hid (fun (wx : World) (W' : Int) (a : 0 ≤ W') (b : W' < 18446744073709551616) => zfromU_any W' wx a b)
  have x0 : -(k : Int) < 0 := by omega
  obtain ⟨W, hW⟩ : ∃ W, Ie.dm d / 2 ^ k = W := ⟨_, rfl⟩
  obtain ⟨s, hs⟩ : ∃ s, Ie.sd (Ie.dm d) k = s := ⟨_, rfl⟩
  rw [hW, hs] at CU nr WS
  rw [hs] at s4
  rw [hW] at W0 W1
  have W2 : W < 9007199254740992 := by omega
  clear hf hk hW hs m0 W1
  simp only [partsOf] at D CU
  generalize Ie.cls d = c at *
  generalize Ie.dm d = m at *
  generalize Ie.nrup (Ie.un (Ie.ab d)) = nu at *
  generalize Ie.ngd d = neg at *
  clear nr
  cases neg
  · have FU := hid (fun (wx : World) => FX.out wx W W0 (by omega))
    have WT := hid (fun (x : Int) (hR : Ie.Rnd W 1 0 false x) => WS.out x W (by simp [Ie.wup]) hR)
    go_enter Tryz.func41, Tryz.ntmps41
    go_wp2_with fail
    refine (D.out _).mono ?_
    rintro e w1 ⟨rfl, hB⟩
    have hb := hB.trans ((alloc_b w1 (.cells #[.bool false, .int .i64 c, .int .u64 m, .int .i64 (-(k : Int))] 40)).mono hB.size)
    have P := Row4.new w1 40 (.bool false) (.int .i64 c) (.int .u64 m) (.int .i64 (-(k : Int)))
    go_upto_region 2 with fail
    have HB1 := hid hb
    obtain ⟨⟨p0, p1, p2, p3⟩, -⟩ := P.cells
    have lt := P.lt
    clear hB hb P D
    generalize w1.alloc (.cells #[.bool false, .int .i64 c, .int .u64 m, .int .i64 (-(k : Int))] 40) = wA at *
    generalize w1.heap.size = b at *
    go_wp2_with fail
    refine (CU.out _).mono ?_
    rintro e w2 ⟨rfl, hB⟩
    have HB2 := hid (HB1.out.trans (hB.mono HB1.out.size))
    have q0 := (hB.cell (p := ⟨b, 0, none⟩) lt).trans p0
    clear hB p0 p1 p2 p3 CU
    go_wp2_with fail
    refine (FU.out _).mono ?_
    rintro e w3 ⟨x, rfl, hR, hB⟩
    have HB3 := hid (HB2.out.trans (hB.mono HB2.out.size))
    have q1 := (hB.cell (p := ⟨b, 0, none⟩) (cell_lt q0)).trans q0
    have xb := hR.bd
    have SG := hid (usigned_any false x w3 xb.1 (by omega))
    have KK := hid (WT.out x hR)
    clear hB hR xb q0 FU WT
    go_wp2_with fail
    refine SG.out.mono ?_
    rintro e wz ⟨rfl, hz⟩
    replace hz := hz.symm
    subst hz
    go_wp2_with fail
    go_ret
    exact ⟨_, rfl, KK.out, HB3.out⟩
  · rcases (show s = 0 ∨ (s > 0 ∧ s ≠ 0) by omega) with z | ⟨z, z'⟩
    · subst z
      have FU := hid (fun (wx : World) => FX.out wx W W0 (by omega))
      have WT := hid (fun (x : Int) (hR : Ie.Rnd W 1 0 false x) => WS.out x W (by simp) hR)
      go_enter Tryz.func41, Tryz.ntmps41
      go_wp2_with fail
      refine (D.out _).mono ?_
      rintro e w1 ⟨rfl, hB⟩
      have hb := hB.trans ((alloc_b w1 (.cells #[.bool true, .int .i64 c, .int .u64 m, .int .i64 (-(k : Int))] 40)).mono hB.size)
      have P := Row4.new w1 40 (.bool true) (.int .i64 c) (.int .u64 m) (.int .i64 (-(k : Int)))
      go_upto_region 2 with fail
      have HB1 := hid hb
      obtain ⟨⟨p0, p1, p2, p3⟩, -⟩ := P.cells
      have lt := P.lt
      clear hB hb P D
      generalize w1.alloc (.cells #[.bool true, .int .i64 c, .int .u64 m, .int .i64 (-(k : Int))] 40) = wA at *
      generalize w1.heap.size = b at *
      go_wp2_with fail
      refine (CU.out _).mono ?_
      rintro e w2 ⟨rfl, hB⟩
      have HB2 := hid (HB1.out.trans (hB.mono HB1.out.size))
      have q0 := (hB.cell (p := ⟨b, 0, none⟩) lt).trans p0
      clear hB p0 p1 p2 p3 CU
      go_wp2_with fail
      refine (FU.out _).mono ?_
      rintro e w3 ⟨x, rfl, hR, hB⟩
      have HB3 := hid (HB2.out.trans (hB.mono HB2.out.size))
      have q1 := (hB.cell (p := ⟨b, 0, none⟩) (cell_lt q0)).trans q0
      have xb := hR.bd
      have SG := hid (usigned_any true x w3 xb.1 (by omega))
      have KK := hid (WT.out x hR)
      clear hB hR xb q0 FU WT
      go_wp2_with fail
      refine SG.out.mono ?_
      rintro e wz ⟨rfl, hz⟩
      replace hz := hz.symm
      subst hz
      go_wp2_with fail
      go_ret
      exact ⟨_, rfl, KK.out, HB3.out⟩
    · have FU := hid (fun (wx : World) => FX.out wx (W + 1) (by omega) (by omega))
      have WT := hid (fun (x : Int) (hR : Ie.Rnd (W + 1) 1 0 false x) => WS.out x (W + 1) (by simp [Ie.wup, z']) hR)
      clear s4 z'
      go_enter Tryz.func41, Tryz.ntmps41
      go_wp2_with fail
      refine (D.out _).mono ?_
      rintro e w1 ⟨rfl, hB⟩
      have hb := hB.trans ((alloc_b w1 (.cells #[.bool true, .int .i64 c, .int .u64 m, .int .i64 (-(k : Int))] 40)).mono hB.size)
      have P := Row4.new w1 40 (.bool true) (.int .i64 c) (.int .u64 m) (.int .i64 (-(k : Int)))
      go_upto_region 2 with fail
      have HB1 := hid hb
      obtain ⟨⟨p0, p1, p2, p3⟩, -⟩ := P.cells
      have lt := P.lt
      clear hB hb P D
      generalize w1.alloc (.cells #[.bool true, .int .i64 c, .int .u64 m, .int .i64 (-(k : Int))] 40) = wA at *
      generalize w1.heap.size = b at *
      go_wp2_with fail
      refine (CU.out _).mono ?_
      rintro e w2 ⟨rfl, hB⟩
      have HB2 := hid (HB1.out.trans (hB.mono HB1.out.size))
      have q0 := (hB.cell (p := ⟨b, 0, none⟩) lt).trans p0
      clear hB p0 p1 p2 p3 CU
      go_wp2_with fail
      refine (FU.out _).mono ?_
      rintro e w3 ⟨x, rfl, hR, hB⟩
      have HB3 := hid (HB2.out.trans (hB.mono HB2.out.size))
      have q1 := (hB.cell (p := ⟨b, 0, none⟩) (cell_lt q0)).trans q0
      have xb := hR.bd
      have SG := hid (usigned_any true x w3 xb.1 (by omega))
      have KK := hid (WT.out x hR)
      clear hB hR xb q0 FU WT
      go_wp2_with fail
      refine SG.out.mono ?_
      rintro e wz ⟨rfl, hz⟩
      replace hz := hz.symm
      subst hz
      go_wp2_with fail
      go_ret
      exact ⟨_, rfl, KK.out, HB3.out⟩

set_option maxRecDepth 100000 in
set_option maxHeartbeats 4000000 in
theorem uwhole_f2 (d : Int) (k : Nat) (w : World) (h0 : 0 ≤ d) (h1 : d < 18446744073709551616) (hf : Ie.fin d) (hk : Ie.de d = -(k : Int)) (k1 : 1 ≤ k) (k2 : k ≤ 1074) :
    Calls Tryz.prog 41 #[.int .u64 d, .int .i64 2] w fun e w' => ∃ r, e = .returned (.int .u64 r) ∧ Ie.WIs d (!Ie.ngd d) r ∧ Below w.heap.size w w' := by
  have D := hid (fun (wx : World) => zdecode_any d wx h0 h1)
  rw [← Ie.ngd, hk] at D
  have c4 := Ie.isn_cls d
  have c3 := Ie.isi_cls d
  rw [(Ie.fin_kinds hf).1] at c4
  rw [(Ie.fin_kinds hf).2] at c3
  obtain ⟨⟨m0, m1⟩, -, -, -⟩ := Ie.dec_f d hf
  obtain ⟨-, -, s4, nr⟩ := Ie.sd_un hf hk k1 k2
  have WS := hid (fun (x W' : Int) (h : W' = if Ie.sd (Ie.dm d) k = 0 then Ie.dm d / 2 ^ k else Ie.wup (Ie.dm d / 2 ^ k) (!Ie.ngd d)) (hR : Ie.Rnd W' 1 0 false x) => Ie.wis_sd hf hk k1 k2 h hR)
  have W0 : 0 ≤ Ie.dm d / 2 ^ k := Int.ediv_nonneg m0 (by have := Nm.two_pos k; omega)
  have W1 : Ie.dm d / 2 ^ k ≤ Ie.dm d := Int.ediv_le_self _ m0
  have CU := hid (fun (wx : World) => cut_any (Ie.ngd d) (Ie.cls d) (Ie.dm d) k wx m0 m1 k1 k2)
  have FX := hid (fun (wx : World) (W' : Int) (a : 0 ≤ W') (b : W' < 18446744073709551616) => zfromU_any W' wx a b)
  have x0 : -(k : Int) < 0 := by omega
  obtain ⟨W, hW⟩ : ∃ W, Ie.dm d / 2 ^ k = W := ⟨_, rfl⟩
  obtain ⟨s, hs⟩ : ∃ s, Ie.sd (Ie.dm d) k = s := ⟨_, rfl⟩
  rw [hW, hs] at CU nr WS
  rw [hs] at s4
  rw [hW] at W0 W1
  have W2 : W < 9007199254740992 := by omega
  clear hf hk hW hs m0 W1
  simp only [partsOf] at D CU
  generalize Ie.cls d = c at *
  generalize Ie.dm d = m at *
  generalize Ie.nrup (Ie.un (Ie.ab d)) = nu at *
  generalize Ie.ngd d = neg at *
  clear nr
  cases neg
  · rcases (show s = 0 ∨ (s > 0 ∧ s ≠ 0) by omega) with z | ⟨z, z'⟩
    · subst z
      have FU := hid (fun (wx : World) => FX.out wx W W0 (by omega))
      have WT := hid (fun (x : Int) (hR : Ie.Rnd W 1 0 false x) => WS.out x W (by simp) hR)
      go_enter Tryz.func41, Tryz.ntmps41
      go_wp2_with fail
      refine (D.out _).mono ?_
      rintro e w1 ⟨rfl, hB⟩
      have hb := hB.trans ((alloc_b w1 (.cells #[.bool false, .int .i64 c, .int .u64 m, .int .i64 (-(k : Int))] 40)).mono hB.size)
      have P := Row4.new w1 40 (.bool false) (.int .i64 c) (.int .u64 m) (.int .i64 (-(k : Int)))
      go_upto_region 2 with fail
      have HB1 := hid hb
      obtain ⟨⟨p0, p1, p2, p3⟩, -⟩ := P.cells
      have lt := P.lt
      clear hB hb P D
      generalize w1.alloc (.cells #[.bool false, .int .i64 c, .int .u64 m, .int .i64 (-(k : Int))] 40) = wA at *
      generalize w1.heap.size = b at *
      go_wp2_with fail
      refine (CU.out _).mono ?_
      rintro e w2 ⟨rfl, hB⟩
      have HB2 := hid (HB1.out.trans (hB.mono HB1.out.size))
      have q0 := (hB.cell (p := ⟨b, 0, none⟩) lt).trans p0
      clear hB p0 p1 p2 p3 CU
      go_wp2_with fail
      refine (FU.out _).mono ?_
      rintro e w3 ⟨x, rfl, hR, hB⟩
      have HB3 := hid (HB2.out.trans (hB.mono HB2.out.size))
      have q1 := (hB.cell (p := ⟨b, 0, none⟩) (cell_lt q0)).trans q0
      have xb := hR.bd
      have SG := hid (usigned_any false x w3 xb.1 (by omega))
      have KK := hid (WT.out x hR)
      clear hB hR xb q0 FU WT
      go_wp2_with fail
      refine SG.out.mono ?_
      rintro e wz ⟨rfl, hz⟩
      replace hz := hz.symm
      subst hz
      go_wp2_with fail
      go_ret
      exact ⟨_, rfl, KK.out, HB3.out⟩
    · have FU := hid (fun (wx : World) => FX.out wx (W + 1) (by omega) (by omega))
      have WT := hid (fun (x : Int) (hR : Ie.Rnd (W + 1) 1 0 false x) => WS.out x (W + 1) (by simp [Ie.wup, z']) hR)
      clear s4 z'
      go_enter Tryz.func41, Tryz.ntmps41
      go_wp2_with fail
      refine (D.out _).mono ?_
      rintro e w1 ⟨rfl, hB⟩
      have hb := hB.trans ((alloc_b w1 (.cells #[.bool false, .int .i64 c, .int .u64 m, .int .i64 (-(k : Int))] 40)).mono hB.size)
      have P := Row4.new w1 40 (.bool false) (.int .i64 c) (.int .u64 m) (.int .i64 (-(k : Int)))
      go_upto_region 2 with fail
      have HB1 := hid hb
      obtain ⟨⟨p0, p1, p2, p3⟩, -⟩ := P.cells
      have lt := P.lt
      clear hB hb P D
      generalize w1.alloc (.cells #[.bool false, .int .i64 c, .int .u64 m, .int .i64 (-(k : Int))] 40) = wA at *
      generalize w1.heap.size = b at *
      go_wp2_with fail
      refine (CU.out _).mono ?_
      rintro e w2 ⟨rfl, hB⟩
      have HB2 := hid (HB1.out.trans (hB.mono HB1.out.size))
      have q0 := (hB.cell (p := ⟨b, 0, none⟩) lt).trans p0
      clear hB p0 p1 p2 p3 CU
      go_wp2_with fail
      refine (FU.out _).mono ?_
      rintro e w3 ⟨x, rfl, hR, hB⟩
      have HB3 := hid (HB2.out.trans (hB.mono HB2.out.size))
      have q1 := (hB.cell (p := ⟨b, 0, none⟩) (cell_lt q0)).trans q0
      have xb := hR.bd
      have SG := hid (usigned_any false x w3 xb.1 (by omega))
      have KK := hid (WT.out x hR)
      clear hB hR xb q0 FU WT
      go_wp2_with fail
      refine SG.out.mono ?_
      rintro e wz ⟨rfl, hz⟩
      replace hz := hz.symm
      subst hz
      go_wp2_with fail
      go_ret
      exact ⟨_, rfl, KK.out, HB3.out⟩
  · have FU := hid (fun (wx : World) => FX.out wx W W0 (by omega))
    have WT := hid (fun (x : Int) (hR : Ie.Rnd W 1 0 false x) => WS.out x W (by simp [Ie.wup]) hR)
    go_enter Tryz.func41, Tryz.ntmps41
    go_wp2_with fail
    refine (D.out _).mono ?_
    rintro e w1 ⟨rfl, hB⟩
    have hb := hB.trans ((alloc_b w1 (.cells #[.bool true, .int .i64 c, .int .u64 m, .int .i64 (-(k : Int))] 40)).mono hB.size)
    have P := Row4.new w1 40 (.bool true) (.int .i64 c) (.int .u64 m) (.int .i64 (-(k : Int)))
    go_upto_region 2 with fail
    have HB1 := hid hb
    obtain ⟨⟨p0, p1, p2, p3⟩, -⟩ := P.cells
    have lt := P.lt
    clear hB hb P D
    generalize w1.alloc (.cells #[.bool true, .int .i64 c, .int .u64 m, .int .i64 (-(k : Int))] 40) = wA at *
    generalize w1.heap.size = b at *
    go_wp2_with fail
    refine (CU.out _).mono ?_
    rintro e w2 ⟨rfl, hB⟩
    have HB2 := hid (HB1.out.trans (hB.mono HB1.out.size))
    have q0 := (hB.cell (p := ⟨b, 0, none⟩) lt).trans p0
    clear hB p0 p1 p2 p3 CU
    go_wp2_with fail
    refine (FU.out _).mono ?_
    rintro e w3 ⟨x, rfl, hR, hB⟩
    have HB3 := hid (HB2.out.trans (hB.mono HB2.out.size))
    have q1 := (hB.cell (p := ⟨b, 0, none⟩) (cell_lt q0)).trans q0
    have xb := hR.bd
    have SG := hid (usigned_any true x w3 xb.1 (by omega))
    have KK := hid (WT.out x hR)
    clear hB hR xb q0 FU WT
    go_wp2_with fail
    refine SG.out.mono ?_
    rintro e wz ⟨rfl, hz⟩
    replace hz := hz.symm
    subst hz
    go_wp2_with fail
    go_ret
    exact ⟨_, rfl, KK.out, HB3.out⟩

set_option maxRecDepth 100000 in
set_option maxHeartbeats 4000000 in
theorem uwhole_f3 (d : Int) (k : Nat) (w : World) (h0 : 0 ≤ d) (h1 : d < 18446744073709551616) (hf : Ie.fin d) (hk : Ie.de d = -(k : Int)) (k1 : 1 ≤ k) (k2 : k ≤ 1074) :
    Calls Tryz.prog 41 #[.int .u64 d, .int .i64 3] w fun e w' => ∃ r, e = .returned (.int .u64 r) ∧ Ie.WIs d (Ie.nrup (Ie.un (Ie.ab d))) r ∧ Below w.heap.size w w' := by
  have D := hid (fun (wx : World) => zdecode_any d wx h0 h1)
  rw [← Ie.ngd, hk] at D
  have c4 := Ie.isn_cls d
  have c3 := Ie.isi_cls d
  rw [(Ie.fin_kinds hf).1] at c4
  rw [(Ie.fin_kinds hf).2] at c3
  obtain ⟨⟨m0, m1⟩, -, -, -⟩ := Ie.dec_f d hf
  obtain ⟨-, -, s4, nr⟩ := Ie.sd_un hf hk k1 k2
  have WS := hid (fun (x W' : Int) (h : W' = if Ie.sd (Ie.dm d) k = 0 then Ie.dm d / 2 ^ k else Ie.wup (Ie.dm d / 2 ^ k) (Ie.nrup (Ie.un (Ie.ab d)))) (hR : Ie.Rnd W' 1 0 false x) => Ie.wis_sd hf hk k1 k2 h hR)
  have W0 : 0 ≤ Ie.dm d / 2 ^ k := Int.ediv_nonneg m0 (by have := Nm.two_pos k; omega)
  have W1 : Ie.dm d / 2 ^ k ≤ Ie.dm d := Int.ediv_le_self _ m0
  have CU := hid (fun (wx : World) => cut_any (Ie.ngd d) (Ie.cls d) (Ie.dm d) k wx m0 m1 k1 k2)
  have FX := hid (fun (wx : World) (W' : Int) (a : 0 ≤ W') (b : W' < 18446744073709551616) => zfromU_any W' wx a b)
  have x0 : -(k : Int) < 0 := by omega
  obtain ⟨W, hW⟩ : ∃ W, Ie.dm d / 2 ^ k = W := ⟨_, rfl⟩
  obtain ⟨s, hs⟩ : ∃ s, Ie.sd (Ie.dm d) k = s := ⟨_, rfl⟩
  rw [hW, hs] at CU nr WS
  rw [hs] at s4
  rw [hW] at W0 W1
  have W2 : W < 9007199254740992 := by omega
  clear hf hk hW hs m0 W1
  simp only [partsOf] at D CU
  generalize Ie.cls d = c at *
  generalize Ie.dm d = m at *
  generalize Ie.nrup (Ie.un (Ie.ab d)) = nu at *
  generalize Ie.ngd d = neg at *
  rcases s4 with z | z | z | z
  · subst z
    have FU := hid (fun (wx : World) => FX.out wx (W) (by omega) (by omega))
    have WT := hid (fun (x : Int) (hR : Ie.Rnd (W) 1 0 false x) => WS.out x (W) (by first | (simp; done) | simp [Ie.wup]) hR)
    clear WS FX nr
    go_enter Tryz.func41, Tryz.ntmps41
    go_wp2_with fail
    refine (D.out _).mono ?_
    rintro e w1 ⟨rfl, hB⟩
    have hb := hB.trans ((alloc_b w1 (.cells #[.bool neg, .int .i64 c, .int .u64 m, .int .i64 (-(k : Int))] 40)).mono hB.size)
    have P := Row4.new w1 40 (.bool neg) (.int .i64 c) (.int .u64 m) (.int .i64 (-(k : Int)))
    go_upto_region 2 with fail
    have HB1 := hid hb
    obtain ⟨⟨p0, p1, p2, p3⟩, -⟩ := P.cells
    have lt := P.lt
    clear hB hb P D
    generalize w1.alloc (.cells #[.bool neg, .int .i64 c, .int .u64 m, .int .i64 (-(k : Int))] 40) = wA at *
    generalize w1.heap.size = b at *
    go_wp2_with fail
    refine (CU.out _).mono ?_
    rintro e w2 ⟨rfl, hB⟩
    have HB2 := hid (HB1.out.trans (hB.mono HB1.out.size))
    have q0 := (hB.cell (p := ⟨b, 0, none⟩) lt).trans p0
    clear hB p0 p1 p2 p3 CU
    go_wp2_with fail
    refine (FU.out _).mono ?_
    rintro e w3 ⟨x, rfl, hR, hB⟩
    have HB3 := hid (HB2.out.trans (hB.mono HB2.out.size))
    have q1 := (hB.cell (p := ⟨b, 0, none⟩) (cell_lt q0)).trans q0
    have xb := hR.bd
    have SG := hid (usigned_any neg x w3 xb.1 (by omega))
    have KK := hid (WT.out x hR)
    clear hB hR xb q0 FU WT
    go_wp2_with fail
    refine SG.out.mono ?_
    rintro e wz ⟨rfl, hz⟩
    replace hz := hz.symm
    subst hz
    go_wp2_with fail
    go_ret
    exact ⟨_, rfl, KK.out, HB3.out⟩
  · subst z
    obtain rfl : nu = false := by
      have := nr (by omega)
      cases nu <;> simp_all
    have FU := hid (fun (wx : World) => FX.out wx (W) (by omega) (by omega))
    have WT := hid (fun (x : Int) (hR : Ie.Rnd (W) 1 0 false x) => WS.out x (W) (by first | (simp; done) | simp [Ie.wup]) hR)
    clear WS FX nr
    go_enter Tryz.func41, Tryz.ntmps41
    go_wp2_with fail
    refine (D.out _).mono ?_
    rintro e w1 ⟨rfl, hB⟩
    have hb := hB.trans ((alloc_b w1 (.cells #[.bool neg, .int .i64 c, .int .u64 m, .int .i64 (-(k : Int))] 40)).mono hB.size)
    have P := Row4.new w1 40 (.bool neg) (.int .i64 c) (.int .u64 m) (.int .i64 (-(k : Int)))
    go_upto_region 2 with fail
    have HB1 := hid hb
    obtain ⟨⟨p0, p1, p2, p3⟩, -⟩ := P.cells
    have lt := P.lt
    clear hB hb P D
    generalize w1.alloc (.cells #[.bool neg, .int .i64 c, .int .u64 m, .int .i64 (-(k : Int))] 40) = wA at *
    generalize w1.heap.size = b at *
    go_wp2_with fail
    refine (CU.out _).mono ?_
    rintro e w2 ⟨rfl, hB⟩
    have HB2 := hid (HB1.out.trans (hB.mono HB1.out.size))
    have q0 := (hB.cell (p := ⟨b, 0, none⟩) lt).trans p0
    clear hB p0 p1 p2 p3 CU
    go_wp2_with fail
    refine (FU.out _).mono ?_
    rintro e w3 ⟨x, rfl, hR, hB⟩
    have HB3 := hid (HB2.out.trans (hB.mono HB2.out.size))
    have q1 := (hB.cell (p := ⟨b, 0, none⟩) (cell_lt q0)).trans q0
    have xb := hR.bd
    have SG := hid (usigned_any neg x w3 xb.1 (by omega))
    have KK := hid (WT.out x hR)
    clear hB hR xb q0 FU WT
    go_wp2_with fail
    refine SG.out.mono ?_
    rintro e wz ⟨rfl, hz⟩
    replace hz := hz.symm
    subst hz
    go_wp2_with fail
    go_ret
    exact ⟨_, rfl, KK.out, HB3.out⟩
  · subst z
    rcases (show W % 2 = 1 ∨ W % 2 = 0 by omega) with e | e
    · obtain rfl : nu = true := by
        have := nr (by omega)
        cases nu <;> simp_all
      have FU := hid (fun (wx : World) => FX.out wx (W + 1) (by omega) (by omega))
      have WT := hid (fun (x : Int) (hR : Ie.Rnd (W + 1) 1 0 false x) => WS.out x (W + 1) (by first | (simp; done) | simp [Ie.wup]) hR)
      clear WS FX nr
      go_enter Tryz.func41, Tryz.ntmps41
      go_wp2_with fail
      refine (D.out _).mono ?_
      rintro e w1 ⟨rfl, hB⟩
      have hb := hB.trans ((alloc_b w1 (.cells #[.bool neg, .int .i64 c, .int .u64 m, .int .i64 (-(k : Int))] 40)).mono hB.size)
      have P := Row4.new w1 40 (.bool neg) (.int .i64 c) (.int .u64 m) (.int .i64 (-(k : Int)))
      go_upto_region 2 with fail
      have HB1 := hid hb
      obtain ⟨⟨p0, p1, p2, p3⟩, -⟩ := P.cells
      have lt := P.lt
      clear hB hb P D
      generalize w1.alloc (.cells #[.bool neg, .int .i64 c, .int .u64 m, .int .i64 (-(k : Int))] 40) = wA at *
      generalize w1.heap.size = b at *
      go_wp2_with fail
      refine (CU.out _).mono ?_
      rintro e w2 ⟨rfl, hB⟩
      have HB2 := hid (HB1.out.trans (hB.mono HB1.out.size))
      have q0 := (hB.cell (p := ⟨b, 0, none⟩) lt).trans p0
      clear hB p0 p1 p2 p3 CU
      go_wp2_with fail
      refine (FU.out _).mono ?_
      rintro e w3 ⟨x, rfl, hR, hB⟩
      have HB3 := hid (HB2.out.trans (hB.mono HB2.out.size))
      have q1 := (hB.cell (p := ⟨b, 0, none⟩) (cell_lt q0)).trans q0
      have xb := hR.bd
      have SG := hid (usigned_any neg x w3 xb.1 (by omega))
      have KK := hid (WT.out x hR)
      clear hB hR xb q0 FU WT
      go_wp2_with fail
      refine SG.out.mono ?_
      rintro e wz ⟨rfl, hz⟩
      replace hz := hz.symm
      subst hz
      go_wp2_with fail
      go_ret
      exact ⟨_, rfl, KK.out, HB3.out⟩
    · obtain rfl : nu = false := by
        have := nr (by omega)
        cases nu <;> simp_all
      have FU := hid (fun (wx : World) => FX.out wx (W) (by omega) (by omega))
      have WT := hid (fun (x : Int) (hR : Ie.Rnd (W) 1 0 false x) => WS.out x (W) (by first | (simp; done) | simp [Ie.wup]) hR)
      clear WS FX nr
      go_enter Tryz.func41, Tryz.ntmps41
      go_wp2_with fail
      refine (D.out _).mono ?_
      rintro e w1 ⟨rfl, hB⟩
      have hb := hB.trans ((alloc_b w1 (.cells #[.bool neg, .int .i64 c, .int .u64 m, .int .i64 (-(k : Int))] 40)).mono hB.size)
      have P := Row4.new w1 40 (.bool neg) (.int .i64 c) (.int .u64 m) (.int .i64 (-(k : Int)))
      go_upto_region 2 with fail
      have HB1 := hid hb
      obtain ⟨⟨p0, p1, p2, p3⟩, -⟩ := P.cells
      have lt := P.lt
      clear hB hb P D
      generalize w1.alloc (.cells #[.bool neg, .int .i64 c, .int .u64 m, .int .i64 (-(k : Int))] 40) = wA at *
      generalize w1.heap.size = b at *
      go_wp2_with fail
      refine (CU.out _).mono ?_
      rintro e w2 ⟨rfl, hB⟩
      have HB2 := hid (HB1.out.trans (hB.mono HB1.out.size))
      have q0 := (hB.cell (p := ⟨b, 0, none⟩) lt).trans p0
      clear hB p0 p1 p2 p3 CU
      go_wp2_with fail
      refine (FU.out _).mono ?_
      rintro e w3 ⟨x, rfl, hR, hB⟩
      have HB3 := hid (HB2.out.trans (hB.mono HB2.out.size))
      have q1 := (hB.cell (p := ⟨b, 0, none⟩) (cell_lt q0)).trans q0
      have xb := hR.bd
      have SG := hid (usigned_any neg x w3 xb.1 (by omega))
      have KK := hid (WT.out x hR)
      clear hB hR xb q0 FU WT
      go_wp2_with fail
      refine SG.out.mono ?_
      rintro e wz ⟨rfl, hz⟩
      replace hz := hz.symm
      subst hz
      go_wp2_with fail
      go_ret
      exact ⟨_, rfl, KK.out, HB3.out⟩
  · subst z
    obtain rfl : nu = true := by
      have := nr (by omega)
      cases nu <;> simp_all
    have FU := hid (fun (wx : World) => FX.out wx (W + 1) (by omega) (by omega))
    have WT := hid (fun (x : Int) (hR : Ie.Rnd (W + 1) 1 0 false x) => WS.out x (W + 1) (by first | (simp; done) | simp [Ie.wup]) hR)
    clear WS FX nr
    go_enter Tryz.func41, Tryz.ntmps41
    go_wp2_with fail
    refine (D.out _).mono ?_
    rintro e w1 ⟨rfl, hB⟩
    have hb := hB.trans ((alloc_b w1 (.cells #[.bool neg, .int .i64 c, .int .u64 m, .int .i64 (-(k : Int))] 40)).mono hB.size)
    have P := Row4.new w1 40 (.bool neg) (.int .i64 c) (.int .u64 m) (.int .i64 (-(k : Int)))
    go_upto_region 2 with fail
    have HB1 := hid hb
    obtain ⟨⟨p0, p1, p2, p3⟩, -⟩ := P.cells
    have lt := P.lt
    clear hB hb P D
    generalize w1.alloc (.cells #[.bool neg, .int .i64 c, .int .u64 m, .int .i64 (-(k : Int))] 40) = wA at *
    generalize w1.heap.size = b at *
    go_wp2_with fail
    refine (CU.out _).mono ?_
    rintro e w2 ⟨rfl, hB⟩
    have HB2 := hid (HB1.out.trans (hB.mono HB1.out.size))
    have q0 := (hB.cell (p := ⟨b, 0, none⟩) lt).trans p0
    clear hB p0 p1 p2 p3 CU
    go_wp2_with fail
    refine (FU.out _).mono ?_
    rintro e w3 ⟨x, rfl, hR, hB⟩
    have HB3 := hid (HB2.out.trans (hB.mono HB2.out.size))
    have q1 := (hB.cell (p := ⟨b, 0, none⟩) (cell_lt q0)).trans q0
    have xb := hR.bd
    have SG := hid (usigned_any neg x w3 xb.1 (by omega))
    have KK := hid (WT.out x hR)
    clear hB hR xb q0 FU WT
    go_wp2_with fail
    refine SG.out.mono ?_
    rintro e wz ⟨rfl, hz⟩
    replace hz := hz.symm
    subst hz
    go_wp2_with fail
    go_ret
    exact ⟨_, rfl, KK.out, HB3.out⟩

set_option maxRecDepth 100000 in
theorem uTrunc_any (d : Int) (w : World) (h0 : 0 ≤ d) (h1 : d < 18446744073709551616) :
    Calls Tryz.prog 14 #[.int .u64 d] w fun e w' => ∃ r, e = .returned (.int .u64 r) ∧ Ie.WIs d false r ∧ Below w.heap.size w w' := by
  have R : Hid (Calls Tryz.prog 41 #[.int .u64 d, .int .i64 0] w fun e w' => ∃ r, e = .returned (.int .u64 r) ∧ Hid (Ie.WIs d false r ∧ Below w.heap.size w w')) := by
    by_cases h : Ie.fin d ∧ Ie.de d < 0
    · have e0 := (Ie.dec_f d h.1).2.1.1
      exact uwhole_f0 d (-Ie.de d).toNat w h0 h1 h.1 (by omega) (by omega) (by omega)
    · exact uwhole_stay _ 0 d w h0 h1 (fun hf => by
        rcases (show Ie.de d < 0 ∨ 0 ≤ Ie.de d by omega) with q | q
        · exact absurd ⟨hf, q⟩ h
        · exact q)
  go_enter Tryz.func14, Tryz.ntmps14
  go_wp2_with fail
  refine R.out.mono ?_
  rintro e w' ⟨r, rfl, h⟩
  go_wp2_with fail
  go_ret
  exact ⟨_, rfl, h.out⟩

set_option maxRecDepth 100000 in
theorem uFloor_any (d : Int) (w : World) (h0 : 0 ≤ d) (h1 : d < 18446744073709551616) :
    Calls Tryz.prog 16 #[.int .u64 d] w fun e w' => ∃ r, e = .returned (.int .u64 r) ∧ Ie.WIs d (Ie.ngd d) r ∧ Below w.heap.size w w' := by
  have R : Hid (Calls Tryz.prog 41 #[.int .u64 d, .int .i64 1] w fun e w' => ∃ r, e = .returned (.int .u64 r) ∧ Hid (Ie.WIs d (Ie.ngd d) r ∧ Below w.heap.size w w')) := by
    by_cases h : Ie.fin d ∧ Ie.de d < 0
    · have e0 := (Ie.dec_f d h.1).2.1.1
      exact uwhole_f1 d (-Ie.de d).toNat w h0 h1 h.1 (by omega) (by omega) (by omega)
    · exact uwhole_stay _ 1 d w h0 h1 (fun hf => by
        rcases (show Ie.de d < 0 ∨ 0 ≤ Ie.de d by omega) with q | q
        · exact absurd ⟨hf, q⟩ h
        · exact q)
  go_enter Tryz.func16, Tryz.ntmps16
  go_wp2_with fail
  refine R.out.mono ?_
  rintro e w' ⟨r, rfl, h⟩
  go_wp2_with fail
  go_ret
  exact ⟨_, rfl, h.out⟩

set_option maxRecDepth 100000 in
theorem uCeil_any (d : Int) (w : World) (h0 : 0 ≤ d) (h1 : d < 18446744073709551616) :
    Calls Tryz.prog 18 #[.int .u64 d] w fun e w' => ∃ r, e = .returned (.int .u64 r) ∧ Ie.WIs d (!Ie.ngd d) r ∧ Below w.heap.size w w' := by
  have R : Hid (Calls Tryz.prog 41 #[.int .u64 d, .int .i64 2] w fun e w' => ∃ r, e = .returned (.int .u64 r) ∧ Hid (Ie.WIs d (!Ie.ngd d) r ∧ Below w.heap.size w w')) := by
    by_cases h : Ie.fin d ∧ Ie.de d < 0
    · have e0 := (Ie.dec_f d h.1).2.1.1
      exact uwhole_f2 d (-Ie.de d).toNat w h0 h1 h.1 (by omega) (by omega) (by omega)
    · exact uwhole_stay _ 2 d w h0 h1 (fun hf => by
        rcases (show Ie.de d < 0 ∨ 0 ≤ Ie.de d by omega) with q | q
        · exact absurd ⟨hf, q⟩ h
        · exact q)
  go_enter Tryz.func18, Tryz.ntmps18
  go_wp2_with fail
  refine R.out.mono ?_
  rintro e w' ⟨r, rfl, h⟩
  go_wp2_with fail
  go_ret
  exact ⟨_, rfl, h.out⟩

set_option maxRecDepth 100000 in
theorem uNear_any (d : Int) (w : World) (h0 : 0 ≤ d) (h1 : d < 18446744073709551616) :
    Calls Tryz.prog 20 #[.int .u64 d] w fun e w' => ∃ r, e = .returned (.int .u64 r) ∧ Ie.WIs d (Ie.nrup (Ie.un (Ie.ab d))) r ∧ Below w.heap.size w w' := by
  have R : Hid (Calls Tryz.prog 41 #[.int .u64 d, .int .i64 3] w fun e w' => ∃ r, e = .returned (.int .u64 r) ∧ Hid (Ie.WIs d (Ie.nrup (Ie.un (Ie.ab d))) r ∧ Below w.heap.size w w')) := by
    by_cases h : Ie.fin d ∧ Ie.de d < 0
    · have e0 := (Ie.dec_f d h.1).2.1.1
      exact uwhole_f3 d (-Ie.de d).toNat w h0 h1 h.1 (by omega) (by omega) (by omega)
    · exact uwhole_stay _ 3 d w h0 h1 (fun hf => by
        rcases (show Ie.de d < 0 ∨ 0 ≤ Ie.de d by omega) with q | q
        · exact absurd ⟨hf, q⟩ h
        · exact q)
  go_enter Tryz.func20, Tryz.ntmps20
  go_wp2_with fail
  refine R.out.mono ?_
  rintro e w' ⟨r, rfl, h⟩
  go_wp2_with fail
  go_ret
  exact ⟨_, rfl, h.out⟩
end Go.Proofs.YtmakkfekomnpbaaGreatDoor

/-
  The document's layer 6: Scale (made by mkuscale.py).
-/
namespace Go.Proofs.YtmakkfekomnpbaaGreatDoor
open Go Go.RowKit Go.Deep

namespace Ie
theorem clamp_up {m e B n x : Int} (m0 : 0 < m) (e0 : -1074 ≤ e) (hB : 2200 ≤ B) (hn : B ≤ n) (h : Rnd m 1 (e + B) false x) : Rnd m 1 (e + n) false x := by
  have p0 : (2 : Int) ^ 0 ≤ m := by rw [Int.pow_zero]; omega
  have := h.one (by decide) (by decide) (rnd_inf m 1 (e + B) 0 0 false p0 (by decide) (by omega)) (a := 0) (a' := 0) (by omega) rfl
  rw [this]
  exact rnd_inf m 1 _ 0 0 false p0 (by decide) (by omega)
theorem clamp_dn {m e B n x : Int} (m1 : m < 9007199254740992) (e1 : e ≤ 971) (hB : B ≤ -2200) (hn : n ≤ B) (h : Rnd m 1 (e + B) false x) : Rnd m 1 (e + n) false x := by
  have e53 : (2 : Int) ^ 53 = 9007199254740992 := by decide
  have := h.one (by decide) (by decide) (rnd_small m 1 (e + B) 53 0 false (by omega) (by decide) (by omega)) (a := 0) (a' := 0) (by omega) rfl
  rw [this]
  exact rnd_small m 1 _ 53 0 false (by omega) (by decide) (by omega)
end Ie

theorem zround_lit (neg : Bool) (m e : Int) (w : World) (m0 : 0 ≤ m) (m1 : m < 18446744073709551616) :
    Calls Tryz.prog 32 #[.bool neg, .slice (some ⟨w.heap.size, 0, none⟩) 1 1, .int .i64 e, .bool false] (w.alloc (.cells #[.int .u64 m] 26)) fun r w' => ∃ x, r = .returned (.tuple #[.int .u64 (Ie.sg neg x), .int .i64 0]) ∧ Ie.Rnd m 1 e false x ∧ Below w.heap.size w w' := by
  have hB := alloc_b w (.cells #[.int .u64 m] 26)
  have hv : Nm.val [m] = m := by simp [Nm.val]
  have ht : Nm.tsize [m] ≤ 1 := Nm.tsize_le [m]
  refine (zround_any neg _ 1 1 [m] _ (arg_z (heap_alloc_new w _) m0 m1) (by omega) m e false hv).mono ?_
  rintro r w' ⟨x, h2, h3, rfl⟩
  exact ⟨x, h2, h3, hB⟩

set_option maxRecDepth 100000 in
set_option maxHeartbeats 4000000 in
theorem uscale_any (d n : Int) (w : World) (h0 : 0 ≤ d) (h1 : d < 18446744073709551616) :
    Calls Tryz.prog 9 #[.int .u64 d, .int .i64 n] w fun e w' => ∃ r, e = .returned (.int .u64 r) ∧ Ie.ScaleIs d n r ∧ Below w.heap.size w w' := by
  have D := hid (fun (wx : World) => zdecode_any d wx h0 h1)
  rw [← Ie.ngd] at D
  have c4 := Ie.isn_cls d
  have c3 := Ie.isi_cls d
  have c0 := Ie.isz_cls d
  simp only [partsOf] at D
  rcases Ie.kinds d with g | ⟨g, g', g''⟩ | ⟨g, g', g''⟩
  · have E : Hid (Ie.ScaleIs d n 9221120237041090560) := ⟨fun _ => rfl, fun k => (by simp only [Ie.isn, Ie.isi, decide_eq_true_iff] at g k; omega), fun k => (by simp only [Ie.isn, Ie.fin, decide_eq_true_iff] at g k; omega)⟩
    obtain ⟨c, hc⟩ : ∃ c, Ie.cls d = c := ⟨_, rfl⟩
    rw [g, hc, beq_iff_eq] at c4
    rw [hc] at D
    subst c4
    clear c3 c0 g hc
    generalize Ie.dm d = m at *
    generalize Ie.de d = x at *
    generalize Ie.ngd d = neg at *
    go_enter Tryz.func9, Tryz.ntmps9
    go_wp2_with fail
    refine (D.out _).mono ?_
    rintro e w1 ⟨rfl, hB⟩
    have hb := hB.trans ((alloc_b w1 (.cells #[.bool neg, .int .i64 4, .int .u64 m, .int .i64 x] 40)).mono hB.size)
    have P := Row4.new w1 40 (.bool neg) (.int .i64 4) (.int .u64 m) (.int .i64 x)
    go_upto_region 2 with fail
    have HB1 := hid hb
    obtain ⟨⟨p0, p1, p2, p3⟩, -⟩ := P.cells
    have lt := P.lt
    clear hB hb P D
    generalize w1.alloc (.cells #[.bool neg, .int .i64 4, .int .u64 m, .int .i64 x] 40) = wA at *
    generalize w1.heap.size = b at *
    go_wp2_with fail
    go_ret
    exact ⟨_, rfl, E.out, HB1.out⟩
  · have E : Hid (Ie.ScaleIs d n d) := ⟨fun k => (by rw [g] at k; cases k), fun _ => rfl, fun k => absurd k g''⟩
    obtain ⟨c, hc⟩ : ∃ c, Ie.cls d = c := ⟨_, rfl⟩
    rw [g', hc, beq_iff_eq] at c3
    rw [hc] at D
    subst c3
    clear c4 c0 g g' g'' hc
    generalize Ie.dm d = m at *
    generalize Ie.de d = x at *
    generalize Ie.ngd d = neg at *
    go_enter Tryz.func9, Tryz.ntmps9
    go_wp2_with fail
    refine (D.out _).mono ?_
    rintro e w1 ⟨rfl, hB⟩
    have hb := hB.trans ((alloc_b w1 (.cells #[.bool neg, .int .i64 3, .int .u64 m, .int .i64 x] 40)).mono hB.size)
    have P := Row4.new w1 40 (.bool neg) (.int .i64 3) (.int .u64 m) (.int .i64 x)
    go_upto_region 2 with fail
    have HB1 := hid hb
    obtain ⟨⟨p0, p1, p2, p3⟩, -⟩ := P.cells
    have lt := P.lt
    clear hB hb P D
    generalize w1.alloc (.cells #[.bool neg, .int .i64 3, .int .u64 m, .int .i64 x] 40) = wA at *
    generalize w1.heap.size = b at *
    go_wp2_with fail
    go_ret
    exact ⟨_, rfl, E.out, HB1.out⟩
  · cases z : Ie.isz d
    · obtain ⟨⟨m0, m1⟩, ⟨e0, e1⟩, -, m2⟩ := Ie.dec_f d g''
      have mp : 0 < Ie.dm d := by
        rw [Ie.isz, decide_eq_false_iff_not] at z
        have := fun q => z (m2.1 q)
        omega
      have WT : Hid (∀ (x : Int), Ie.Rnd (Ie.dm d) 1 (Ie.de d + n) false x → Ie.ScaleIs d n (Ie.sg (Ie.ngd d) x)) := fun x hx => ⟨fun k => (by rw [g] at k; cases k), fun k => (by rw [g'] at k; cases k), fun _ => ⟨x, rfl, hx⟩⟩
      have ZR := hid (fun (wx : World) (e : Int) => zround_lit (Ie.ngd d) (Ie.dm d) e wx m0 (by omega))
      rw [g] at c4
      rw [g'] at c3
      rw [z] at c0
      clear g g' g'' z m0 m2
      generalize Ie.cls d = c at *
      generalize Ie.dm d = m at *
      generalize Ie.de d = x at *
      generalize Ie.ngd d = neg at *
      rcases (show n > 5000 ∨ (¬ n > 5000 ∧ n < -5000) ∨ (¬ n > 5000 ∧ ¬ n < -5000) by omega) with k | ⟨k, k'⟩ | ⟨k, k'⟩
      · have W2 := hid (fun (y : Int) (hx : Ie.Rnd m 1 (x + (5000)) false y) => WT.out y (Ie.clamp_up mp e0 (by omega) (by omega) hx))
        have ZR1 := hid (fun (wx : World) => ZR.out wx (x + (5000)))
        go_enter Tryz.func9, Tryz.ntmps9
        go_wp2_with fail
        refine (D.out _).mono ?_
        rintro e w1 ⟨rfl, hB⟩
        have hb := hB.trans ((alloc_b w1 (.cells #[.bool neg, .int .i64 c, .int .u64 m, .int .i64 x] 40)).mono hB.size)
        have P := Row4.new w1 40 (.bool neg) (.int .i64 c) (.int .u64 m) (.int .i64 x)
        go_upto_region 2 with fail
        have HB1 := hid hb
        obtain ⟨⟨p0, p1, p2, p3⟩, -⟩ := P.cells
        have lt := P.lt
        clear hB hb P D
        generalize w1.alloc (.cells #[.bool neg, .int .i64 c, .int .u64 m, .int .i64 x] 40) = wA at *
        generalize w1.heap.size = b at *
        have q3 := ((alloc_b wA (.cells #[.int .u64 m] 26)).cell (p := ⟨b, 3, none⟩) lt).trans p3
        clear WT ZR
        go_wp2_with fail
        refine (ZR1.out _).mono ?_
        rintro e w2 ⟨y, rfl, hR, hB⟩
        have HB2 := hid (HB1.out.trans (hB.mono HB1.out.size))
        have KK := hid (W2.out y hR)
        clear hB hR
        go_wp2_with fail
        go_ret
        exact ⟨_, rfl, KK.out, HB2.out⟩
      · have W2 := hid (fun (y : Int) (hx : Ie.Rnd m 1 (x + (-5000)) false y) => WT.out y (Ie.clamp_dn m1 e1 (by omega) (by omega) hx))
        have ZR1 := hid (fun (wx : World) => ZR.out wx (x + (-5000)))
        go_enter Tryz.func9, Tryz.ntmps9
        go_wp2_with fail
        refine (D.out _).mono ?_
        rintro e w1 ⟨rfl, hB⟩
        have hb := hB.trans ((alloc_b w1 (.cells #[.bool neg, .int .i64 c, .int .u64 m, .int .i64 x] 40)).mono hB.size)
        have P := Row4.new w1 40 (.bool neg) (.int .i64 c) (.int .u64 m) (.int .i64 x)
        go_upto_region 2 with fail
        have HB1 := hid hb
        obtain ⟨⟨p0, p1, p2, p3⟩, -⟩ := P.cells
        have lt := P.lt
        clear hB hb P D
        generalize w1.alloc (.cells #[.bool neg, .int .i64 c, .int .u64 m, .int .i64 x] 40) = wA at *
        generalize w1.heap.size = b at *
        have q3 := ((alloc_b wA (.cells #[.int .u64 m] 26)).cell (p := ⟨b, 3, none⟩) lt).trans p3
        clear WT ZR
        go_wp2_with fail
        refine (ZR1.out _).mono ?_
        rintro e w2 ⟨y, rfl, hR, hB⟩
        have HB2 := hid (HB1.out.trans (hB.mono HB1.out.size))
        have KK := hid (W2.out y hR)
        clear hB hR
        go_wp2_with fail
        go_ret
        exact ⟨_, rfl, KK.out, HB2.out⟩
      · have W2 := hid (fun (y : Int) (hx : Ie.Rnd m 1 (x + (n)) false y) => WT.out y (hx))
        have ZR1 := hid (fun (wx : World) => ZR.out wx (x + (n)))
        go_enter Tryz.func9, Tryz.ntmps9
        go_wp2_with fail
        refine (D.out _).mono ?_
        rintro e w1 ⟨rfl, hB⟩
        have hb := hB.trans ((alloc_b w1 (.cells #[.bool neg, .int .i64 c, .int .u64 m, .int .i64 x] 40)).mono hB.size)
        have P := Row4.new w1 40 (.bool neg) (.int .i64 c) (.int .u64 m) (.int .i64 x)
        go_upto_region 2 with fail
        have HB1 := hid hb
        obtain ⟨⟨p0, p1, p2, p3⟩, -⟩ := P.cells
        have lt := P.lt
        clear hB hb P D
        generalize w1.alloc (.cells #[.bool neg, .int .i64 c, .int .u64 m, .int .i64 x] 40) = wA at *
        generalize w1.heap.size = b at *
        have q3 := ((alloc_b wA (.cells #[.int .u64 m] 26)).cell (p := ⟨b, 3, none⟩) lt).trans p3
        clear WT ZR
        go_wp2_with fail
        refine (ZR1.out _).mono ?_
        rintro e w2 ⟨y, rfl, hR, hB⟩
        have HB2 := hid (HB1.out.trans (hB.mono HB1.out.size))
        have KK := hid (W2.out y hR)
        clear hB hR
        go_wp2_with fail
        go_ret
        exact ⟨_, rfl, KK.out, HB2.out⟩
    · have zz : Ie.ab d = 0 := by rw [Ie.isz, decide_eq_true_iff] at z; exact z
      have E : Hid (Ie.ScaleIs d n d) := by
        refine ⟨fun k => ?_, fun k => ?_, fun _ => ⟨0, ?_, ?_⟩⟩
        · rw [g] at k; cases k
        · rfl
        · have := Ie.sg_ab d h0 h1
          rw [zz] at this
          exact this
        · rw [(Ie.dec_f d g'').2.2.2.2 zz]
          exact Ie.rnd_zero 1 _ false (by decide)
      obtain ⟨c, hc⟩ : ∃ c, Ie.cls d = c := ⟨_, rfl⟩
      rw [z, hc, beq_iff_eq] at c0
      rw [hc] at D
      subst c0
      generalize Ie.dm d = m at *
      generalize Ie.de d = x at *
      generalize Ie.ngd d = neg at *
      clear c3 c4 g g' g'' z zz hc
      go_enter Tryz.func9, Tryz.ntmps9
      go_wp2_with fail
      refine (D.out _).mono ?_
      rintro e w1 ⟨rfl, hB⟩
      have hb := hB.trans ((alloc_b w1 (.cells #[.bool neg, .int .i64 0, .int .u64 m, .int .i64 x] 40)).mono hB.size)
      have P := Row4.new w1 40 (.bool neg) (.int .i64 0) (.int .u64 m) (.int .i64 x)
      go_upto_region 2 with fail
      have HB1 := hid hb
      obtain ⟨⟨p0, p1, p2, p3⟩, -⟩ := P.cells
      have lt := P.lt
      clear hB hb P D
      generalize w1.alloc (.cells #[.bool neg, .int .i64 0, .int .u64 m, .int .i64 x] 40) = wA at *
      generalize w1.heap.size = b at *
      go_wp2_with fail
      go_ret
      exact ⟨_, rfl, E.out, HB1.out⟩
end Go.Proofs.YtmakkfekomnpbaaGreatDoor

/-
  The document's layer 6: early (made by mkuearly.py).
-/
namespace Go.Proofs.YtmakkfekomnpbaaGreatDoor
open Go Go.RowKit Go.Deep

/-- Two boxes of parts. -/
theorem two_boxes (w : World) (a0 a1 a2 a3 b0 b1 b2 b3 : Value) :
    Below w.heap.size w ((w.alloc (.cells #[a0, a1, a2, a3] 40)).alloc (.cells #[b0, b1, b2, b3] 40)) ∧ Row4 ((w.alloc (.cells #[a0, a1, a2, a3] 40)).alloc (.cells #[b0, b1, b2, b3] 40)) w.heap.size 40 a0 a1 a2 a3 ∧ Row4 ((w.alloc (.cells #[a0, a1, a2, a3] 40)).alloc (.cells #[b0, b1, b2, b3] 40)) (w.alloc (.cells #[a0, a1, a2, a3] 40)).heap.size 40 b0 b1 b2 b3 := by
  have h1 := alloc_b w (.cells #[a0, a1, a2, a3] 40)
  have h2 := alloc_b (w.alloc (.cells #[a0, a1, a2, a3] 40)) (.cells #[b0, b1, b2, b3] 40)
  have P := Row4.new w 40 a0 a1 a2 a3
  exact ⟨h1.trans (h2.mono h1.size), P.below h2 P.lt, Row4.new _ _ _ _ _ _⟩

set_option maxRecDepth 100000 in
set_option maxHeartbeats 4000000 in
theorem early_nan (na nb : Bool) (ca ma ea cb mb eb a : Int) (w : World) (h : ca = 4 ∨ cb = 4 ∨ ca = 3 ∨ cb = 0) :
    Calls Tryz.prog 51 #[partsOf na ca ma ea, partsOf nb cb mb eb, .int .u64 a] w fun e w' => e = .returned (.tuple #[.int .u64 9221120237041090560, .bool true]) ∧ Below w.heap.size w w' := by
  simp only [partsOf]
  obtain ⟨hB, P, Q⟩ := two_boxes w (.bool na) (.int .i64 ca) (.int .u64 ma) (.int .i64 ea) (.bool nb) (.int .i64 cb) (.int .u64 mb) (.int .i64 eb)
  have HB := hid hB
  obtain ⟨⟨-, p1, -, -⟩, -⟩ := P.cells
  obtain ⟨⟨-, q1, -, -⟩, -⟩ := Q.cells
  clear hB P Q
  rcases (show ca = 4 ∨ (ca ≠ 4 ∧ cb = 4) ∨ (ca ≠ 4 ∧ cb ≠ 4 ∧ ca = 3) ∨ (ca ≠ 4 ∧ cb ≠ 4 ∧ ca ≠ 3 ∧ cb = 0) by omega) with z | ⟨x, z⟩ | ⟨x, y, z⟩ | ⟨x, y, y2, z⟩
  · subst z
    clear h
    go_enter Tryz.func51, Tryz.ntmps51
    go_wp2_with fail
    go_ret2
    exact ⟨rfl, HB.out⟩
  · have nca4 : (ca == 4) = false := by rw [beq_eq_false_iff_ne]; omega
    subst z
    clear h x
    go_enter Tryz.func51, Tryz.ntmps51
    go_wp2_with fail
    go_ret2
    exact ⟨rfl, HB.out⟩
  · have ncb4 : (cb == 4) = false := by rw [beq_eq_false_iff_ne]; omega
    subst z
    clear h x y
    go_enter Tryz.func51, Tryz.ntmps51
    go_wp2_with fail
    go_ret2
    exact ⟨rfl, HB.out⟩
  · have nca4 : (ca == 4) = false := by rw [beq_eq_false_iff_ne]; omega
    have nca3 : (ca == 3) = false := by rw [beq_eq_false_iff_ne]; omega
    subst z
    clear h x y y2
    go_enter Tryz.func51, Tryz.ntmps51
    go_wp2_with fail
    go_ret2
    exact ⟨rfl, HB.out⟩

set_option maxRecDepth 100000 in
set_option maxHeartbeats 4000000 in
theorem early_a (na nb : Bool) (ca ma ea cb mb eb a : Int) (w : World) (h1 : ca ≠ 4) (h2 : cb ≠ 4) (h3 : ca ≠ 3) (h4 : cb ≠ 0) (h : cb = 3 ∨ ca = 0) :
    Calls Tryz.prog 51 #[partsOf na ca ma ea, partsOf nb cb mb eb, .int .u64 a] w fun e w' => e = .returned (.tuple #[.int .u64 a, .bool true]) ∧ Below w.heap.size w w' := by
  simp only [partsOf]
  obtain ⟨hB, P, Q⟩ := two_boxes w (.bool na) (.int .i64 ca) (.int .u64 ma) (.int .i64 ea) (.bool nb) (.int .i64 cb) (.int .u64 mb) (.int .i64 eb)
  have HB := hid hB
  obtain ⟨⟨-, p1, -, -⟩, -⟩ := P.cells
  obtain ⟨⟨-, q1, -, -⟩, -⟩ := Q.cells
  clear hB P Q
  rcases (show cb = 3 ∨ (cb ≠ 3 ∧ ca = 0) by omega) with z | ⟨x, z⟩
  · have nca4 : (ca == 4) = false := by rw [beq_eq_false_iff_ne]; omega
    have nca3 : (ca == 3) = false := by rw [beq_eq_false_iff_ne]; omega
    subst z
    clear h h1 h2 h3 h4
    go_enter Tryz.func51, Tryz.ntmps51
    go_wp2_with fail
    go_ret2
    exact ⟨rfl, HB.out⟩
  · have ncb4 : (cb == 4) = false := by rw [beq_eq_false_iff_ne]; omega
    have ncb0 : (cb == 0) = false := by rw [beq_eq_false_iff_ne]; omega
    have ncb3 : (cb == 3) = false := by rw [beq_eq_false_iff_ne]; omega
    subst z
    clear h h1 h2 h3 h4 x
    go_enter Tryz.func51, Tryz.ntmps51
    go_wp2_with fail
    go_ret2
    exact ⟨rfl, HB.out⟩

set_option maxRecDepth 100000 in
set_option maxHeartbeats 4000000 in
theorem early_no (na nb : Bool) (ca ma ea cb mb eb a : Int) (w : World) (h1 : ca ≠ 4) (h2 : cb ≠ 4) (h3 : ca ≠ 3) (h4 : cb ≠ 0) (h5 : cb ≠ 3) (h6 : ca ≠ 0) :
    Calls Tryz.prog 51 #[partsOf na ca ma ea, partsOf nb cb mb eb, .int .u64 a] w fun e w' => e = .returned (.tuple #[.int .u64 0, .bool false]) ∧ Below w.heap.size w w' := by
  simp only [partsOf]
  obtain ⟨hB, P, Q⟩ := two_boxes w (.bool na) (.int .i64 ca) (.int .u64 ma) (.int .i64 ea) (.bool nb) (.int .i64 cb) (.int .u64 mb) (.int .i64 eb)
  have HB := hid hB
  obtain ⟨⟨-, p1, -, -⟩, -⟩ := P.cells
  obtain ⟨⟨-, q1, -, -⟩, -⟩ := Q.cells
  clear hB P Q
  have nca4 : (ca == 4) = false := by rw [beq_eq_false_iff_ne]; omega
  have nca3 : (ca == 3) = false := by rw [beq_eq_false_iff_ne]; omega
  have ncb4 : (cb == 4) = false := by rw [beq_eq_false_iff_ne]; omega
  have ncb0 : (cb == 0) = false := by rw [beq_eq_false_iff_ne]; omega
  have ncb3 : (cb == 3) = false := by rw [beq_eq_false_iff_ne]; omega
  have nca0 : (ca == 0) = false := by rw [beq_eq_false_iff_ne]; omega
  clear h1 h2 h3 h4 h5 h6
  go_enter Tryz.func51, Tryz.ntmps51
  go_wp2_with fail
  go_ret2
  exact ⟨rfl, HB.out⟩
end Go.Proofs.YtmakkfekomnpbaaGreatDoor

namespace Go.Proofs.YtmakkfekomnpbaaGreatDoor
open Go.RowKit Go.Deep

namespace Nm
theorem v32_set : ∀ (zs : List Int) (i : Nat) (s : Int), i < zs.length → v32 (zs.set i s) = v32 zs + p32 i * (s - zs.getD i 0)
  | [], _, _, h => by simp at h
  | z :: zs, 0, s, _ => by simp only [List.set_cons_zero, v32, p32, List.getD_cons_zero]; omega
  | z :: zs, i + 1, s, h => by
    have := v32_set zs i s (by simpa using h)
    simp only [List.set_cons_succ, v32, p32, List.getD_cons_succ, this, Int.mul_add, Int.mul_assoc]
    omega

theorem Halves.set {zs : List Int} (h : Halves zs) (i : Nat) {s : Int} (h0 : 0 ≤ s) (h1 : s < 4294967296) : Halves (zs.set i s) := by
  intro z hz
  rcases List.mem_or_eq_of_mem_set hz with a | rfl
  · exact h z a
  · exact ⟨h0, h1⟩

theorem v32_zeros : ∀ n, v32 (List.replicate n 0) = 0
  | 0 => rfl
  | n + 1 => by simp only [List.replicate, v32, v32_zeros n]; rfl

theorem Halves.zeros (n : Nat) : Halves (List.replicate n 0) := by
  intro z hz
  rw [List.eq_of_mem_replicate hz]
  omega

theorem p32_add (a : Nat) : ∀ b, p32 (a + b) = p32 a * p32 b
  | 0 => by simp [p32]
  | b + 1 => by rw [← Nat.add_assoc]; simp only [p32, p32_add a b]; rw [Int.mul_left_comm]

/-- One digit of a product added in. -/
theorem times_digit {ps ys : List Int} {i j : Nat} {x c c' lo V pv : Int} (hk : i + j < ps.length) (hp : pv = ps.getD (i + j) 0) (h : v32 ps + p32 (i + j) * c = V + p32 i * (x * v32 (ys.take j))) (hs : lo + 4294967296 * c' = x * ys.getD j 0 + pv + c) :
    v32 (ps.set (i + j) lo) + p32 (i + (j + 1)) * c' = V + p32 i * (x * v32 (ys.take (j + 1))) := by
  rw [v32_set ps (i + j) lo hk, v32_take_next, ← hp, Int.mul_add x, Int.mul_add (p32 i)]
  have e1 : p32 (i + (j + 1)) * c' = p32 (i + j) * (4294967296 * c') := by
    rw [← Nat.add_assoc]; simp only [p32]; rw [Int.mul_comm 4294967296 (p32 (i + j)), Int.mul_assoc]
  have e2 : p32 i * (x * (p32 j * ys.getD j 0)) = p32 (i + j) * (x * ys.getD j 0) := by
    rw [p32_add, Int.mul_left_comm x, ← Int.mul_assoc, ← Int.mul_assoc]
  have e3 : p32 (i + j) * (lo + 4294967296 * c') = p32 (i + j) * (x * ys.getD j 0 + pv + c) := by rw [hs]
  rw [Int.mul_add, Int.mul_add, Int.mul_add] at e3
  rw [e1, e2, Int.mul_sub]
  omega
end Nm

/-- Behind j digits of the second factor, for digit i of the first. -/
def TimesInv (g K : Nat) (w : World) (T c : Int) (k top : Nat) (ps : List Int) (wr : World) : Prop :=
  Own wr g ps ∧ ps.length = K ∧ Nm.Halves ps ∧ Nm.v32 ps + Nm.p32 k * c = T ∧ (∀ t, top ≤ t → ps.getD t 0 = 0) ∧ Below g w wr

set_option maxRecDepth 20000 in
set_option maxRecDepth 100000 in
set_option maxHeartbeats 4000000 in
theorem times_any (p q : Option Addr) (n cap m cap' : Nat) (za zb : List Int) (w : World) (ha : Arg w p n cap za) (hb : Arg w q m cap' zb) (hn : Nm.tsize za ≤ 1099511627776) (hm : Nm.tsize zb ≤ 1099511627776) :
    Calls Tryz.prog 97 #[.slice p n cap, .slice q m cap'] w fun e w' => ∃ r os, e = .returned (.slice r (List.length os) (List.length os)) ∧ Ans w.heap.size w' r os (Nm.val za * Nm.val zb) ∧ Below w.heap.size w w' := by
  have HA := hid ha
  have HB0 := hid hb
  clear ha hb
  go_enter Tryz.func97, Tryz.ntmps97
  go_wp2_with fail
  refine (halves_any p n cap za _ HA.out (by have := HA.out.2.1; have := HA.out.2.2.1; omega)).mono ?_
  rintro e w1 ⟨xs, rfl, lx, hx, vx, kx, bx⟩
  have HB1 := hid (HB0.out.below bx (Nat.le_refl _))
  have D1 := hid bx
  obtain ⟨l1, LX⟩ : ∃ l1, Hid (xs.length = l1) := ⟨_, rfl⟩
  have LX0 := hid lx
  have HX := hid hx
  have VX := hid vx
  have kx1 : l1 ≤ 2 * Nm.tsize za := by have := LX.out; omega
  rw [LX.out]
  clear lx hx vx kx bx HB0
  go_wp2_with fail
  refine (halves_any q m cap' zb _ HB1.out (by have := HB1.out.2.1; have := HB1.out.2.2.1; omega)).mono ?_
  rintro e w2 ⟨ys, rfl, ly, hy, vy, ky, by_⟩
  have D2 := hid (chain D1.out by_ (Nat.le_refl _))
  obtain ⟨l2, LY⟩ : ∃ l2, Hid (ys.length = l2) := ⟨_, rfl⟩
  have HY := hid hy
  have VY := hid vy
  have ky1 : l2 ≤ 2 * Nm.tsize zb := by have := LY.out; omega
  obtain ⟨g1, G1⟩ : ∃ g1, w.heap.size = g1 := ⟨_, rfl⟩
  obtain ⟨g2, G2⟩ : ∃ g2, w1.heap.size = g2 := ⟨_, rfl⟩
  have LX2 := LX0.out.below by_ (Nat.le_refl _)
  rw [G1] at LX2
  have ly2 := ly
  rw [G2] at ly2
  have CX : Hid (∀ i, i < l1 → w2.cell? ⟨g1, i, none⟩ = some (.int .u64 (xs.getD i 0))) := fun i hi => by have := LX2.cells i (by have := LX.out; omega); rwa [Nat.zero_add] at this
  have CY : Hid (∀ i, i < l2 → w2.cell? ⟨g2, i, none⟩ = some (.int .u64 (ys.getD i 0))) := fun i hi => by have := ly2.cells i (by have := LY.out; omega); rwa [Nat.zero_add] at this
  obtain ⟨g, Gg⟩ : ∃ g, Hid (w2.heap.size = g) := ⟨_, rfl⟩
  have BX : Hid (∀ {j : Nat}, j < l1 → g1 < g) := fun {j} hj => by rw [← Gg.out]; exact cell_lt (CX.out j hj)
  have BY : Hid (∀ {j : Nat}, j < l2 → g2 < g) := fun {j} hj => by rw [← Gg.out]; exact cell_lt (CY.out j hj)
  rw [LY.out, G1, G2]
  clear ly hy vy ky by_ LX0 LX2 ly2 HB1 D1 G2
  by_cases hz : l1 = 0 ∨ l2 = 0
  · have V0 : Hid (Nm.val za * Nm.val zb = 0) := by
      rw [Hid, ← VX.out, ← VY.out]
      rcases hz with h | h
      · rw [List.eq_nil_of_length_eq_zero (LX.out.trans h)]; simp [Nm.v32]
      · rw [List.eq_nil_of_length_eq_zero (LY.out.trans h)]; simp [Nm.v32]
    have bm := (Below.refl w2.heap.size w2).alloc (Nat.le_refl _) (.cells #[] 26)
    have D3 := hid (chain D2.out bm (Nat.le_refl _))
    have GS : Hid (w.heap.size ≤ g) := by rw [← Gg.out]; exact D2.out.size
    clear bm
    have fin : ∀ x : World, Below w.heap.size w x → ∃ r os, Ending.returned (.slice (some ⟨g, 0, none⟩) 0 0) = .returned (.slice r (List.length os) (List.length os)) ∧ Ans w.heap.size x r os (Nm.val za * Nm.val zb) ∧ Below w.heap.size w x := fun x hx => ⟨some ⟨g, 0, none⟩, [], rfl, ⟨Lies.nil _ _, Nm.Limbs.nil, rfl, V0.out.symm, fun a h => by cases h; exact GS.out⟩, hx⟩
    have FIN := hid fin
    clear fin
    by_cases h1 : l1 = 0
    · subst h1
      go_wp2
      go_ret
      rw [Gg.out]
      exact FIN.out _ D3.out
    · have h2 : l2 = 0 := by omega
      subst h2
      have h1' : ¬ (l1 : Int) = 0 := by omega
      have h1'' : ((l1 : Int) == 0) = false := by rw [beq_eq_false_iff_ne]; exact h1'
      go_wp2
      go_ret
      rw [Gg.out]
      exact FIN.out _ D3.out
  · have h1 : ¬ (l1 : Int) = 0 := by omega
    have h2 : ¬ (l2 : Int) = 0 := by omega
    have h1' : ((l1 : Int) == 0) = false := by rw [beq_eq_false_iff_ne]; exact h1
    have h2' : ((l2 : Int) == 0) = false := by rw [beq_eq_false_iff_ne]; exact h2
    have hmk := make64 (l1 + l2) (by omega) w2
    rw [show ((l1 + l2 : Nat) : Int) = (l1 : Int) + (l2 : Int) by omega, Gg.out] at hmk
    have bm := hid ((Below.refl w2.heap.size w2).alloc (Nat.le_refl _) (.cells (madeCells #[.int .u64 0] (l1 + l2)) 26))
    have gm : Own (w2.alloc (.cells (madeCells #[.int .u64 0] (l1 + l2)) 26)) w2.heap.size (List.replicate (l1 + l2) 0) := by rw [made_zero]; exact Own.alloc w2 _
    rw [Gg.out] at bm gm
    generalize w2.alloc (.cells (madeCells #[.int .u64 0] (l1 + l2)) 26) = wm at hmk bm gm
    have I0 : Hid (TimesInv g (l1 + l2) w2 (Nm.v32 (xs.take 0) * Nm.v32 ys) 0 0 (0 + l2) (List.replicate (l1 + l2) 0) wm) := ⟨gm, by simp, Nm.Halves.zeros _, by rw [Nm.v32_zeros]; simp [Nm.v32], fun t _ => getD_replicate _ _, bm.out⟩
    clear gm bm hz
    go_wp2
    clear hmk
    obtain ⟨K, HK⟩ : ∃ K, Hid (l1 + l2 = K) := ⟨_, rfl⟩
    have I1 := I0.out
    rw [HK.out] at I1 ⊢
    have J0 := hid I1
    clear I0 I1
    have hKb : K ≤ 35184372088832 := by have := HK.out; omega
    go_loopw [8] (fun i wr => ∃ (k : Nat) (ps : List Int), k ≤ l1 ∧ i = .int .i64 k ∧ Hid (TimesInv g K w2 (Nm.v32 (xs.take k) * Nm.v32 ys) 0 k (k + l2) ps wr)) (fun i _ => l1 - (intOf i).toNat)
    case atStart => exact ⟨0, _, Nat.zero_le _, rfl, J0.out⟩
    case round =>
      obtain ⟨k, ps, hk, rfl, TI⟩ := hrel
      by_cases hlt : k < l1
      · have hlt' : (k : Int) < (l1 : Int) := by omega
        obtain ⟨x, X⟩ : ∃ x, Hid (x = xs.getD k 0) := ⟨_, rfl⟩
        have hx0 : 0 ≤ x := by have := HX.out.at k; have := X.out; omega
        have hx1 : x < 4294967296 := by have := HX.out.at k; have := X.out; omega
        obtain ⟨V, HV⟩ : ∃ V, Hid (V = Nm.v32 (xs.take k) * Nm.v32 ys) := ⟨_, rfl⟩
        have TJ : Hid (TimesInv g K w2 (V + Nm.p32 k * (x * Nm.v32 (ys.take 0))) 0 (k + 0) (k + l2) ps wr) := by
          have h := TI.out
          rw [← HV.out] at h
          simp only [List.take_zero, Nm.v32, Int.mul_zero, Int.add_zero, Nat.add_zero]
          exact h
        clear TI
        go_wp2_with fail
        go_loopw [9, 10] (fun c j wr => ∃ (t : Nat) (cc : Int) (ps : List Int), t ≤ l2 ∧ j = .int .i64 t ∧ c = .int .u64 cc ∧ 0 ≤ cc ∧ cc < 4294967296 ∧ Hid (TimesInv g K w2 (V + Nm.p32 k * (x * Nm.v32 (ys.take t))) cc (k + t) (k + l2) ps wr)) (fun _ j _ => l2 - (intOf j).toNat)
        case atStart => exact ⟨0, 0, ps, Nat.zero_le _, rfl, rfl, by omega, by omega, TJ.out⟩
        case round =>
          clear TJ ps
          obtain ⟨t, cc, ps, ht, rfl, rfl, hc0, hc1, TI⟩ := hrel
          obtain ⟨o1, o2, o3, o4, o5, o6⟩ := TI.out
          by_cases htl : t < l2
          · have htl' : (t : Int) < (l2 : Int) := by omega
            have hx : wr.cell? ⟨g1, k, none⟩ = some (.int .u64 x) := by rw [X.out]; exact (o6.cell (p := ⟨g1, k, none⟩) (BX.out hlt)).trans (CX.out k hlt)
            obtain ⟨y, hy, Y⟩ : ∃ y, wr.cell? ⟨g2, t, none⟩ = some (.int .u64 y) ∧ Hid (y = ys.getD t 0) := ⟨_, (o6.cell (p := ⟨g2, t, none⟩) (BY.out htl)).trans (CY.out t htl), rfl⟩
            have hkt : k + t < K := by have := HK.out; omega
            obtain ⟨pv, hpv, PV⟩ : ∃ pv, wr.cell? ⟨g, k + t, none⟩ = some (.int .u64 pv) ∧ Hid (pv = ps.getD (k + t) 0) := ⟨_, o1.cell (k + t) (by omega), rfl⟩
            have hfr := o1.free (k + t)
            have hy0 : 0 ≤ y := by have := HY.out.at t; have := Y.out; omega
            have hy1 : y < 4294967296 := by have := HY.out.at t; have := Y.out; omega
            have hp0 : 0 ≤ pv := by have := o3.at (k + t); have := PV.out; omega
            have hp1 : pv < 4294967296 := by have := o3.at (k + t); have := PV.out; omega
            have hxy0 : 0 ≤ x * y := Int.mul_nonneg hx0 hy0
            have hxy1 : x * y ≤ 4294967295 * 4294967295 := Int.mul_le_mul (by omega) (by omega) hy0 (by omega)
            obtain ⟨m0, hm0, M0⟩ : ∃ m0, IntKind.u64.wrap (x * y) = m0 ∧ Hid (m0 = x * y) := ⟨_, by rw [IntKind.wrap_u64, Int.emod_eq_of_lt (by omega) (by omega)], rfl⟩
            have hm00 : 0 ≤ m0 := by have := M0.out; omega
            have hm01 : m0 ≤ 18446744065119617025 := by have := M0.out; omega
            obtain ⟨m1, hm1, M1⟩ : ∃ m1, IntKind.u64.wrap (m0 + pv) = m1 ∧ Hid (m1 = m0 + pv) := ⟨_, by rw [IntKind.wrap_u64, Int.emod_eq_of_lt (by omega) (by omega)], rfl⟩
            have hm10 : 0 ≤ m1 := by have := M1.out; omega
            have hm11 : m1 ≤ 18446744069414584320 := by have := M1.out; omega
            obtain ⟨tt, htt, TT⟩ : ∃ tt, IntKind.u64.wrap (m1 + cc) = tt ∧ Hid (tt = m1 + cc) := ⟨_, by rw [IntKind.wrap_u64, Int.emod_eq_of_lt (by omega) (by omega)], rfl⟩
            have htt0 : 0 ≤ tt := by have := TT.out; omega
            have htt1 : tt ≤ 18446744073709551615 := by have := TT.out; omega
            obtain ⟨lo, hlo, LO⟩ : ∃ lo, bits .and .u64 tt 4294967295 = lo ∧ Hid (lo = tt % 4294967296) := ⟨_, r_mask32 tt (by omega) (by omega), rfl⟩
            obtain ⟨hi, hhi, HI⟩ : ∃ hi, tt / 4294967296 = hi ∧ Hid (hi = tt / 4294967296) := ⟨_, rfl, rfl⟩
            have BLO : Hid ((0 ≤ lo ∧ lo < 4294967296) ∧ 0 ≤ hi ∧ hi < 4294967296) := by have := LO.out; have := HI.out; show _ ∧ _; omega
            have ST : Hid (lo + 4294967296 * hi = x * ys.getD t 0 + pv + cc) := by
              have h1 := LO.out; have h2 := HI.out; have h3 := TT.out; have h4 := M1.out; have h5 := M0.out
              rw [Hid, ← Y.out]; omega
            have O1 := hid o1
            have O2 := hid o2
            have O3 := hid o3
            have O4 := hid o4
            have O5 := hid o5
            have O6 := hid o6
            have hkt' : (k : Int) + (t : Int) < (K : Int) := by omega
            clear o1 o2 o3 o4 o5 o6 TI hxy0 hxy1
            go_wp2_with fail
            go_quiet (fail)
            have hpv2 : (wr.drewN nq).cell? ⟨g, k + t, none⟩ = some (.int .u64 pv) := hpv
            have hfr2 : (wr.drewN nq).frozen? ⟨g, k + t, none⟩ = false := hfr
            have P1 : Hid (Own (wr.drewN nq) g ps) := O1.out
            have P6 := hid (below_drewN O6.out nq)
            clear hx hy hpv hfr O1 O6
            generalize wr.drewN nq = wq at *
            go_wp2
            go_roundw
            case rel =>
              refine ⟨t + 1, hi, ps.set (k + t) lo, by omega, by go_num, by first | rfl | rw [hhi], BLO.out.2.1, BLO.out.2.2, P1.out.set _ _, by rw [List.length_set]; exact O2.out, O3.out.set _ BLO.out.1.1 BLO.out.1.2, ?_, ?_, P6.out.setCell (Nat.le_refl _) _⟩
              · exact Nm.times_digit (by have := O2.out; omega) PV.out O4.out ST.out
              · intro s hs
                rw [Nm.getD_set ps (k + t) s lo (by have := O2.out; omega), if_neg (by omega)]
                exact O5.out s hs
            case measure => simp [intOf]; omega
          · have htl' : ¬ (t : Int) < (l2 : Int) := by omega
            obtain rfl : t = l2 := by omega
            rw [List.take_of_length_le (by have := LY.out; omega)] at o4
            have hkt : k + t < K := by have := HK.out; omega
            obtain ⟨pv, hpv⟩ : ∃ pv, wr.cell? ⟨g, k + t, none⟩ = some (.int .u64 pv) := ⟨_, o1.cell (k + t) (by omega)⟩
            have hfr := o1.free (k + t)
            have Z0 := o5 (k + t) (Nat.le_refl _)
            have NX : Hid (TimesInv g K w2 (Nm.v32 (xs.take (k + 1)) * Nm.v32 ys) 0 (k + 1) (k + 1 + t) (ps.set (k + t) cc) (wr.setCell ⟨g, k + t, none⟩ (.int .u64 cc))) := by
              refine ⟨o1.set _ _, by rw [List.length_set]; exact o2, o3.set _ hc0 hc1, ?_, ?_, o6.setCell (Nat.le_refl _) _⟩
              · rw [Nm.v32_set ps (k + t) cc (by omega), Z0, Nm.v32_take_next, ← X.out, Int.add_mul, ← HV.out, Int.mul_zero, Int.add_zero, Int.sub_zero, Int.mul_assoc]
                exact o4
              · intro s hs
                rw [Nm.getD_set ps (k + t) s cc (by omega), if_neg (by omega)]
                exact o5 s (by omega)
            have hkt' : (k : Int) + (t : Int) < (K : Int) := by omega
            clear o1 o2 o3 o4 o5 o6 TI Z0
            go_wp2
            go_roundw
            case rel => exact ⟨k + 1, _, by omega, by go_num, NX.out⟩
            case measure => simp [intOf]; omega
      · have hlt' : ¬ (k : Int) < (l1 : Int) := by omega
        obtain rfl : k = l1 := by omega
        obtain ⟨o1, o2, o3, o4, o5, o6⟩ := TI.out
        rw [List.take_of_length_le (by have := LX.out; omega), VX.out, VY.out, Int.mul_zero, Int.add_zero] at o4
        have D3 := hid (chain D2.out (by rw [Gg.out]; exact o6) (Nat.le_refl _))
        have AG : Hid (Arg wr (some ⟨g, 0, none⟩) K K ps) := ⟨o2, Nat.le_refl _, by have := HK.out; omega, o1.lies, o3.limbs⟩
        have hw3 : Hid (w.heap.size ≤ wr.heap.size) := D3.out.size
        have HV := hid o4
        have HS := hid o3
        clear o1 o2 o3 o4 o5 o6 TI
        go_wp2_with fail
        refine (rlimbs_any _ K K ps _ AG.out HS.out).mono ?_
        rintro e w4 ⟨r, os, rfl, hA, hb⟩
        rw [HV.out] at hA
        have A4 := hid (hA.mono hw3.out)
        have D4 := hid (chain D3.out hb (Nat.le_refl _))
        clear hA hb
        go_wp2
        go_ret
        exact ⟨r, os, rfl, A4.out, D4.out⟩
end Go.Proofs.YtmakkfekomnpbaaGreatDoor

namespace Go.Proofs.YtmakkfekomnpbaaGreatDoor
open Go.RowKit Go.Deep

namespace Nm
theorem p32_pow : ∀ z, p32 z = 2 ^ (32 * z)
  | 0 => rfl
  | z + 1 => by
    rw [show 32 * (z + 1) = 32 * z + 32 by omega, two_add, ← p32_pow z]
    simp only [p32]
    rw [Int.mul_comm, show (2 : Int) ^ 32 = 4294967296 by decide]

theorem lift_step {ss xs : List Int} {z j : Nat} {F c c' lo : Int} (hl : ss.length = z + j) (h : v32 ss + p32 (z + j) * c = p32 z * (F * v32 (xs.take j))) (hs : lo + 4294967296 * c' = xs.getD j 0 * F + c) :
    v32 (ss ++ [lo]) + p32 (z + (j + 1)) * c' = p32 z * (F * v32 (xs.take (j + 1))) := by
  rw [v32_snoc, v32_take_next, hl, Int.mul_add F, Int.mul_add (p32 z)]
  have e1 : p32 (z + (j + 1)) * c' = p32 (z + j) * (4294967296 * c') := by
    rw [← Nat.add_assoc]; simp only [p32]; rw [Int.mul_comm 4294967296 (p32 (z + j)), Int.mul_assoc]
  have e2 : p32 z * (F * (p32 j * xs.getD j 0)) = p32 (z + j) * (xs.getD j 0 * F) := by
    rw [p32_add, Int.mul_left_comm F, ← Int.mul_assoc, Int.mul_comm F]
  have e3 : p32 (z + j) * (lo + 4294967296 * c') = p32 (z + j) * (xs.getD j 0 * F + c) := by rw [hs]
  rw [Int.mul_add, Int.mul_add] at e3
  omega
end Nm

set_option maxRecDepth 20000 in
set_option maxRecDepth 100000 in
set_option maxHeartbeats 4000000 in
theorem lift_any (p : Option Addr) (n cap : Nat) (za : List Int) (kk : Int) (k : Nat) (w : World) (ha : Arg w p n cap za) (hn : Nm.tsize za ≤ 1099511627776) (hkk : kk = (k : Int)) (hk : k ≤ 4194304) :
    Calls Tryz.prog 48 #[.slice p n cap, .int .i64 kk] w fun e w' => ∃ r os, e = .returned (.slice r (List.length os) (List.length os)) ∧ Ans w.heap.size w' r os (Nm.val za * 2 ^ k) ∧ Below w.heap.size w w' := by
  have HA := hid ha
  have hk0 : 0 ≤ kk := by omega
  have hk1 : kk ≤ 4194304 := by omega
  obtain ⟨z, HZ⟩ : ∃ z : Nat, Hid (kk / 32 = (z : Int) ∧ z = k / 32) := ⟨k / 32, by show _ ∧ _; omega⟩
  obtain ⟨r, HR⟩ : ∃ r : Nat, Hid (kk % 32 = (r : Int) ∧ r = k % 32) := ⟨k % 32, by show _ ∧ _; omega⟩
  have KZ : Hid (k = 32 * z + r) := by have := HZ.out; have := HR.out; show _ = _; omega
  have hz8 : z ≤ 131072 := by have := HZ.out; omega
  have hr31 : r ≤ 31 := by have := HR.out; omega
  clear ha hkk hk
  go_enter Tryz.func48, Tryz.ntmps48
  go_wp2_with fail
  refine (halves_any p n cap za _ HA.out (by have := HA.out.2.1; have := HA.out.2.2.1; omega)).mono ?_
  rintro e w1 ⟨xs, rfl, lx, hx, vx, kx, bx⟩
  have D1 := hid bx
  obtain ⟨l1, LX⟩ : ∃ l1, Hid (xs.length = l1) := ⟨_, rfl⟩
  have HX := hid hx
  have VX := hid vx
  have kx1 : l1 ≤ 2 * Nm.tsize za := by have := LX.out; omega
  obtain ⟨g1, G1⟩ : ∃ g1, w.heap.size = g1 := ⟨_, rfl⟩
  have lx2 := lx
  rw [G1] at lx2
  have CX : Hid (∀ i, i < l1 → w1.cell? ⟨g1, i, none⟩ = some (.int .u64 (xs.getD i 0))) := fun i hi => by have := lx2.cells i (by have := LX.out; omega); rwa [Nat.zero_add] at this
  obtain ⟨g, Gg⟩ : ∃ g, Hid (w1.heap.size = g) := ⟨_, rfl⟩
  have BX : Hid (∀ {j : Nat}, j < l1 → g1 < g) := fun {j} hj => by rw [← Gg.out]; exact cell_lt (CX.out j hj)
  rw [LX.out, G1]
  clear lx lx2 hx vx kx bx
  by_cases hz : l1 = 0
  · have V0 : Hid (Nm.val za * 2 ^ k = 0) := by
      rw [Hid, ← VX.out, List.eq_nil_of_length_eq_zero (LX.out.trans hz)]; simp [Nm.v32]
    have D3 := hid (chain D1.out ((Below.refl w1.heap.size w1).alloc (Nat.le_refl _) (.cells #[] 26)) (Nat.le_refl _))
    have GS : Hid (w.heap.size ≤ g) := by rw [← Gg.out]; exact D1.out.size
    have FIN : Hid (∀ x : World, Below w.heap.size w x → ∃ r os, Ending.returned (.slice (some ⟨g, 0, none⟩) 0 0) = .returned (.slice r (List.length os) (List.length os)) ∧ Ans w.heap.size x r os (Nm.val za * 2 ^ k) ∧ Below w.heap.size w x) := fun x hx => ⟨some ⟨g, 0, none⟩, [], rfl, ⟨Lies.nil _ _, Nm.Limbs.nil, rfl, V0.out.symm, fun a h => by cases h; exact GS.out⟩, hx⟩
    subst hz
    go_wp2
    go_ret
    rw [Gg.out]
    exact FIN.out _ D3.out
  · have h1' : ((l1 : Int) == 0) = false := by rw [beq_eq_false_iff_ne]; omega
    obtain ⟨C, HC⟩ : ∃ C, Hid (z + l1 + 1 = C) := ⟨_, rfl⟩
    have hmk := make64_room (z + l1 + 1) (by omega) w1
    rw [show ((z + l1 + 1 : Nat) : Int) = kk / 32 + (l1 : Int) + 1 by have := HZ.out; omega, HC.out, Gg.out] at hmk
    have bm := hid ((Below.refl w1.heap.size w1).alloc (Nat.le_refl _) (.cells (madeCells #[.int .u64 0] C) 26))
    have gm := hid (Grown.made w1 C)
    rw [Gg.out] at bm gm
    generalize w1.alloc (.cells (madeCells #[.int .u64 0] C) 26) = wm at hmk bm gm
    have hCb : C ≤ 35184372088832 := by have := HC.out; omega
    go_wp2
    clear hmk
    go_loopw [6, 7] (fun a i wr => ∃ j : Nat, j ≤ z ∧ i = .int .i64 j ∧ a = .slice (some ⟨g, 0, none⟩) j C ∧ Hid (Grown wr g (List.replicate j 0) (C - j)) ∧ Below g w1 wr) (fun _ i _ => z - (intOf i).toNat)
    case atStart => exact ⟨0, Nat.zero_le _, rfl, rfl, gm.out, bm.out⟩
    case round =>
      obtain ⟨j, hj, rfl, rfl, G, hB⟩ := hrel
      by_cases hlt : j < z
      · have hlt' : (j : Int) < kk / 32 := by have := HZ.out; omega
        have G' := G.out
        rw [show C - j = (C - j - 1) + 1 by have := HC.out; omega] at G'
        obtain ⟨w2, ap, gr, be, sz⟩ := push64 g j (C - j - 1) C (List.replicate j 0) 0 wr (by simp) (by have := HC.out; omega) G'
        have AP := hid ap
        have GR := hid gr
        have BE := hid (hB.trans be)
        clear ap gr be sz hB G G'
        go_wp2_with (at_builtin; refine wpList_append_row rfl _ _ rfl AP.out (by rfl) (by rfl) ?_; clear AP)
        go_roundw
        case rel =>
          refine ⟨j + 1, by omega, by go_num, rfl, ?_, BE.out⟩
          have := GR.out
          rw [← List.replicate_succ'] at this
          exact this
        case measure => simp [intOf]; omega
      · have hlt' : ¬ (j : Int) < kk / 32 := by have := HZ.out; omega
        obtain rfl : j = z := by omega
        have HB := hid hB
        clear hB
        go_wp2
        go_loop [8, 9] (fun f i => ∃ (t : Nat) (F : Int), t ≤ r ∧ i = .int .i64 t ∧ f = .int .u64 F ∧ 1 ≤ F ∧ F ≤ 2147483648 ∧ Hid (F = 2 ^ t)) (fun _ i => r - (intOf i).toNat)
        case atStart => exact ⟨0, 1, Nat.zero_le _, rfl, rfl, by omega, by omega, rfl⟩
        case round =>
          obtain ⟨t, F, ht, rfl, rfl, hF0, hF1, HF⟩ := hrel
          by_cases htl : t < r
          · have htl' : (t : Int) < kk % 32 := by have := HR.out; omega
            obtain ⟨F2, hF2, FF⟩ : ∃ F2, IntKind.u64.wrap (F * 2) = F2 ∧ Hid (F2 = F * 2) := ⟨_, by rw [IntKind.wrap_u64, Int.emod_eq_of_lt (by omega) (by omega)], rfl⟩
            have E2 : Hid (F2 = 2 ^ (t + 1)) := by rw [Hid, FF.out, HF.out, Nm.two_succ, Int.mul_comm]
            have hF20 : 1 ≤ F2 := by have := FF.out; omega
            have hF21 : F2 ≤ 2147483648 := by
              rw [E2.out]
              have := Nm.two_mono (show t + 1 ≤ 31 by omega)
              have e : (2 : Int) ^ 31 = 2147483648 := by decide
              omega
            go_wp2
            go_round
            case rel => exact ⟨t + 1, F2, by omega, by go_num, by first | rfl | rw [hF2], hF20, hF21, E2.out⟩
            case measure => simp [intOf]; omega
          · have htl' : ¬ (t : Int) < kk % 32 := by have := HR.out; omega
            obtain rfl : t = r := by omega
            have FV : Hid (Nm.p32 j * (F * Nm.v32 xs) = Nm.val za * 2 ^ k) := by
              rw [Hid, Nm.p32_pow, HF.out, VX.out, KZ.out, Nm.two_add, ← Int.mul_assoc, Int.mul_comm]
            go_wp2
            go_loopw [6, 10, 11] (fun a c i wr => ∃ (i' : Nat) (cc : Int) (ss : List Int), i' ≤ l1 ∧ i = .int .i64 i' ∧ a = .slice (some ⟨g, 0, none⟩) (j + i') C ∧ c = .int .u64 cc ∧ 0 ≤ cc ∧ cc < 4294967296 ∧ Hid (Grown wr g ss (C - (j + i'))) ∧ Hid (ss.length = j + i') ∧ Hid (Nm.Halves ss) ∧ Hid (Nm.v32 ss + Nm.p32 (j + i') * cc = Nm.p32 j * (F * Nm.v32 (xs.take i'))) ∧ Below g w1 wr) (fun _ _ i _ => l1 - (intOf i).toNat)
            case atStart => exact ⟨0, 0, List.replicate j 0, Nat.zero_le _, rfl, rfl, rfl, by omega, by omega, G.out, by simp [Hid], Nm.Halves.zeros _, by simp [Hid, Nm.v32_zeros, Nm.v32], HB.out⟩
            case round =>
              obtain ⟨i', cc, ss, hi', rfl, rfl, rfl, hc0, hc1, G3, L, HS, V, hB⟩ := hrel
              have G' := G3.out
              rw [show C - (j + i') = (C - (j + i') - 1) + 1 by have := HC.out; omega] at G'
              by_cases hl : i' < l1
              · have hl' : (i' : Int) < (l1 : Int) := by omega
                obtain ⟨x, hx, X⟩ : ∃ x, wr.cell? ⟨g1, i', none⟩ = some (.int .u64 x) ∧ Hid (x = xs.getD i' 0) := ⟨_, (hB.cell (p := ⟨g1, i', none⟩) (BX.out hl)).trans (CX.out i' hl), rfl⟩
                have hx0 : 0 ≤ x := by have := HX.out.at i'; have := X.out; omega
                have hx1 : x < 4294967296 := by have := HX.out.at i'; have := X.out; omega
                have hxf0 : 0 ≤ x * F := Int.mul_nonneg hx0 (by omega)
                have hxf1 : x * F ≤ 4294967295 * 2147483648 := Int.mul_le_mul (by omega) hF1 (by omega) (by omega)
                obtain ⟨m0, hm0, M0⟩ : ∃ m0, IntKind.u64.wrap (x * F) = m0 ∧ Hid (m0 = x * F) := ⟨_, by rw [IntKind.wrap_u64, Int.emod_eq_of_lt (by omega) (by omega)], rfl⟩
                have hm00 : 0 ≤ m0 := by have := M0.out; omega
                have hm01 : m0 ≤ 9223372034707292160 := by have := M0.out; omega
                obtain ⟨tt, htt, TT⟩ : ∃ tt, IntKind.u64.wrap (m0 + cc) = tt ∧ Hid (tt = m0 + cc) := ⟨_, by rw [IntKind.wrap_u64, Int.emod_eq_of_lt (by omega) (by omega)], rfl⟩
                have htt0 : 0 ≤ tt := by have := TT.out; omega
                have htt1 : tt ≤ 9223372039002259455 := by have := TT.out; omega
                obtain ⟨lo, hlo, LO⟩ : ∃ lo, bits .and .u64 tt 4294967295 = lo ∧ Hid (lo = tt % 4294967296) := ⟨_, r_mask32 tt (by omega) (by omega), rfl⟩
                obtain ⟨hi, hhi, HI⟩ : ∃ hi, tt / 4294967296 = hi ∧ Hid (hi = tt / 4294967296) := ⟨_, rfl, rfl⟩
                have BLO : Hid ((0 ≤ lo ∧ lo < 4294967296) ∧ 0 ≤ hi ∧ hi < 4294967296) := by have := LO.out; have := HI.out; show _ ∧ _; omega
                have ST : Hid (lo + 4294967296 * hi = xs.getD i' 0 * F + cc) := by
                  have h1 := LO.out; have h2 := HI.out; have h3 := TT.out; have h5 := M0.out
                  rw [Hid, ← X.out]; omega
                obtain ⟨w2, ap, gr, be, sz⟩ := push64 g (j + i') (C - (j + i') - 1) C ss lo wr L.out (by have := HC.out; omega) G'
                have AP := hid ap
                have GR := hid gr
                have BE := hid (hB.trans be)
                clear ap gr be sz hB G3 G' hxf0 hxf1
                go_wp2_with (at_builtin; refine wpList_append_row rfl _ _ rfl AP.out (by rfl) (by rfl) ?_; clear AP)
                go_roundw
                case rel =>
                  refine ⟨i' + 1, hi, ss ++ [lo], by omega, by go_num, rfl, by first | rfl | rw [hhi], BLO.out.2.1, BLO.out.2.2, GR.out, ?_, HS.out.snoc BLO.out.1.1 BLO.out.1.2, ?_, BE.out⟩
                  · have := L.out; simp only [Hid, List.length_append, List.length_cons, List.length_nil]; omega
                  · exact Nm.lift_step L.out V.out ST.out
                case measure => simp [intOf]; omega
              · have hl' : ¬ (i' : Int) < (l1 : Int) := by omega
                obtain ⟨w3, ap, gr, be, sz⟩ := push64 g (j + i') (C - (j + i') - 1) C ss cc wr L.out (by have := HC.out; omega) G'
                have AP := hid ap
                have D3 := hid (chain D1.out (by rw [Gg.out]; exact hB.trans be) (Nat.le_refl _))
                have VV : Hid (Nm.v32 (ss ++ [cc]) = Nm.val za * 2 ^ k) := by
                  have := V.out
                  rw [List.take_of_length_le (by have := LX.out; omega), FV.out] at this
                  rw [Hid, Nm.v32_snoc, L.out]
                  exact this
                have HS2 := hid (HS.out.snoc hc0 hc1)
                have AG : Hid (Arg w3 (some ⟨g, 0, none⟩) (j + i' + 1) C (ss ++ [cc])) := ⟨by simp [L.out], by have := HC.out; omega, by have := HC.out; omega, gr.lies, HS2.out.limbs⟩
                have hw3 : Hid (w.heap.size ≤ w3.heap.size) := D3.out.size
                clear ap gr be sz hB G3 G'
                go_wp2_with (at_builtin; refine wpList_append_row rfl _ _ rfl AP.out (by rfl) (by rfl) ?_; clear AP)
                refine (rlimbs_any _ (j + i' + 1) C (ss ++ [cc]) _ AG.out HS2.out).mono ?_
                rintro e w4 ⟨r4, os, rfl, hA, hb⟩
                rw [VV.out] at hA
                have A4 := hid (hA.mono hw3.out)
                have D4 := hid (chain D3.out hb (Nat.le_refl _))
                clear hA hb
                go_wp2
                go_ret
                exact ⟨r4, os, rfl, A4.out, D4.out⟩
end Go.Proofs.YtmakkfekomnpbaaGreatDoor

/-
  The document's layer 6: common (made by mkucommon.py).
-/
namespace Go.Proofs.YtmakkfekomnpbaaGreatDoor
open Go Go.RowKit Go.Deep

/-- Two parts in their boxes. -/
def TwoR (w wx : World) (bp bq : Nat) (na nb : Bool) (ca ma ea cb mb eb : Int) : Prop :=
  Below w.heap.size w wx ∧ Row4 wx bp 40 (.bool na) (.int .i64 ca) (.int .u64 ma) (.int .i64 ea) ∧ Row4 wx bq 40 (.bool nb) (.int .i64 cb) (.int .u64 mb) (.int .i64 eb)

theorem TwoR.on {w wx w' : World} {bp bq : Nat} {na nb : Bool} {ca ma ea cb mb eb : Int} (h : TwoR w wx bp bq na nb ca ma ea cb mb eb) (hB : Below wx.heap.size wx w') : TwoR w w' bp bq na nb ca ma ea cb mb eb :=
  ⟨h.1.trans (hB.mono h.1.size), h.2.1.below hB h.2.1.lt, h.2.2.below hB h.2.2.lt⟩

theorem udrew (w : World) : Below w.heap.size w w.drew := ⟨rfl, rfl, rfl, Nat.le_refl _, fun _ _ => rfl⟩

theorem TwoR.cells {w wx : World} {bp bq : Nat} {na nb : Bool} {ca ma ea cb mb eb : Int} (h : TwoR w wx bp bq na nb ca ma ea cb mb eb) :
    (wx.cell? ⟨bp, 2, none⟩ = some (.int .u64 ma) ∧ wx.cell? ⟨bp, 3, none⟩ = some (.int .i64 ea)) ∧ wx.cell? ⟨bq, 2, none⟩ = some (.int .u64 mb) ∧ wx.cell? ⟨bq, 3, none⟩ = some (.int .i64 eb) := by
  obtain ⟨⟨-, -, p2, p3⟩, -⟩ := h.2.1.cells
  obtain ⟨⟨-, -, q2, q3⟩, -⟩ := h.2.2.cells
  exact ⟨⟨p2, p3⟩, q2, q3⟩

theorem TwoR.flat {w wx : World} {bp bq : Nat} {na nb : Bool} {ca ma ea cb mb eb : Int} (h : TwoR w wx bp bq na nb ca ma ea cb mb eb) :
    wx.cell? ⟨bp, 2, none⟩ = some (.int .u64 ma) ∧ wx.cell? ⟨bp, 3, none⟩ = some (.int .i64 ea) ∧ wx.cell? ⟨bq, 2, none⟩ = some (.int .u64 mb) ∧ wx.cell? ⟨bq, 3, none⟩ = some (.int .i64 eb) := ⟨h.cells.1.1, h.cells.1.2, h.cells.2⟩

theorem arg_new (w : World) (m : Int) (m0 : 0 ≤ m) (m1 : m < 18446744073709551616) : Arg (w.alloc (.cells #[.int .u64 m] 26)) (some ⟨w.heap.size, 0, none⟩) 1 1 [m] := arg_z (heap_alloc_new w _) m0 m1

theorem arg_new2 (w : World) (A : Obj) (m : Int) (m0 : 0 ≤ m) (m1 : m < 18446744073709551616) : Arg ((w.alloc A).alloc (.cells #[.int .u64 m] 26)) (some ⟨w.heap.size + 1, 0, none⟩) 1 1 [m] := by
  have h := arg_new (w.alloc A) m m0 m1
  rw [show (w.alloc A).heap.size = w.heap.size + 1 by simp] at h
  exact h

/-- What common answers. -/
def CommonIs (ma ea mb eb : Int) (w : World) (e : Ending) (w' : World) : Prop :=
  ∃ r1 o1 r2 o2 x, e = .returned (.tuple #[.slice r1 (List.length o1) (List.length o1), .slice r2 (List.length o2) (List.length o2), .int .i64 x]) ∧
    (∃ ka kb : Nat, (ka : Int) = ea - x ∧ (kb : Int) = eb - x ∧ (x = ea ∨ x = eb) ∧ (∃ B, Ans B w' r1 o1 (ma * 2 ^ ka)) ∧ ∃ B, Ans B w' r2 o2 (mb * 2 ^ kb)) ∧ Below w.heap.size w w'

theorem ulift (m : Int) (k : Nat) (m0 : 0 ≤ m) (m1 : m < 18446744073709551616) (hk : k ≤ 4194304) (wx : World) (b : Nat) (u : Int) (hu : u = (k : Int)) (A : Arg wx (some ⟨b, 0, none⟩) 1 1 [m]) :
    Calls Tryz.prog 48 #[.slice (some ⟨b, 0, none⟩) 1 1, .int .i64 u] wx fun e w' => ∃ r os, e = .returned (.slice r (List.length os) (List.length os)) ∧ Ans wx.heap.size w' r os (m * 2 ^ k) ∧ Below wx.heap.size wx w' := by
  have _ := m0
  have _ := m1
  have := lift_any (some ⟨b, 0, none⟩) 1 1 [m] u k wx A (by have := Nm.tsize_le [m]; simp at this; omega) hu hk
  rw [show Nm.val [m] = m by simp [Nm.val]] at this
  exact this

set_option maxRecDepth 100000 in
set_option maxHeartbeats 8000000 in
theorem common_any (na nb : Bool) (ca ma ea cb mb eb : Int) (w : World) (a0 : 0 ≤ ma) (a1 : ma < 9007199254740992) (b0 : 0 ≤ mb) (b1 : mb < 9007199254740992) (x0 : -1074 ≤ ea) (x1 : ea ≤ 971) (y0 : -1074 ≤ eb) (y1 : eb ≤ 971) :
    Calls Tryz.prog 52 #[partsOf na ca ma ea, partsOf nb cb mb eb] w fun e w' => CommonIs ma ea mb eb w e w' := by
  simp only [partsOf]
  obtain ⟨hB, P, Q⟩ := two_boxes w (.bool na) (.int .i64 ca) (.int .u64 ma) (.int .i64 ea) (.bool nb) (.int .i64 cb) (.int .u64 mb) (.int .i64 eb)
  have AP := hid (fun (wx : World) => arg_new wx ma a0 (by omega))
  have AQ := hid (fun (wx : World) => arg_new wx mb b0 (by omega))
  have AP2 := hid (fun (wx : World) (A : Obj) => arg_new2 wx A ma a0 (by omega))
  have AQ2 := hid (fun (wx : World) (A : Obj) => arg_new2 wx A mb b0 (by omega))
  rcases (show eb < ea ∨ ¬ eb < ea by omega) with g | g
  · obtain ⟨ka, hka⟩ : ∃ k : Nat, (k : Int) = ea - eb := ⟨(ea - eb).toNat, by omega⟩
    obtain ⟨kb, hkb⟩ : ∃ k : Nat, (k : Int) = eb - eb := ⟨(eb - eb).toNat, by omega⟩
    have LP := hid (fun (wx : World) (b : Nat) (u : Int) (hu : u = (ka : Int)) (A : Arg wx (some ⟨b, 0, none⟩) 1 1 [ma]) => ulift ma ka a0 (by omega) (by omega) wx b u hu A)
    have LQ := hid (fun (wx : World) (b : Nat) (u : Int) (hu : u = (kb : Int)) (A : Arg wx (some ⟨b, 0, none⟩) 1 1 [mb]) => ulift mb kb b0 (by omega) (by omega) wx b u hu A)
    have FI : Hid (∀ (w' : World) (r1 r2 : Option Addr) (o1 o2 : List Int), (∃ B, Ans B w' r1 o1 (ma * 2 ^ ka)) → (∃ B, Ans B w' r2 o2 (mb * 2 ^ kb)) → Below w.heap.size w w' → CommonIs ma ea mb eb w (.returned (.tuple #[.slice r1 (List.length o1) (List.length o1), .slice r2 (List.length o2) (List.length o2), .int .i64 eb])) w') :=
      fun w' r1 r2 o1 o2 h1 h2 h3 => ⟨r1, o1, r2, o2, _, rfl, ⟨ka, kb, by omega, by omega, .inr rfl, h1, h2⟩, h3⟩
    go_enter Tryz.func52, Tryz.ntmps52
    have hsz : (w.alloc (.cells #[.bool na, .int .i64 ca, .int .u64 ma, .int .i64 ea] 40)).heap.size = w.heap.size + 1 := by simp
    rw [hsz] at Q
    obtain ⟨⟨-, -, p2, p3⟩, -⟩ := P.cells
    obtain ⟨⟨-, -, q2, q3⟩, -⟩ := Q.cells
    have S0 : Hid (TwoR w _ _ _ na nb ca ma ea cb mb eb) := ⟨hB, P, Q⟩
    clear hB P Q
    go_upto_region 4 with fail
    clear hsz
    generalize hw2 : (w.alloc (.cells #[.bool na, .int .i64 ca, .int .u64 ma, .int .i64 ea] 40)).alloc (.cells #[.bool nb, .int .i64 cb, .int .u64 mb, .int .i64 eb] 40) = wA at *
    generalize hbp : w.heap.size = bp at *
    clear hw2 p2 p3 q2 q3
    rw [← hbp] at FI
    have SD := hid (S0.out.on (udrew wA))
    obtain ⟨⟨p2, p3⟩, ⟨q2, q3⟩⟩ := S0.out.cells
    go_region_held3 (fun w' => w'.cell? ⟨bp, 2, none⟩ = some (.int .u64 ma) ∧ w'.cell? ⟨bp, 3, none⟩ = some (.int .i64 ea) ∧ w'.cell? ⟨bp + 1, 2, none⟩ = some (.int .u64 mb) ∧ w'.cell? ⟨bp + 1, 3, none⟩ = some (.int .i64 eb)) (first | (with_reducible exact T2.out.flat) | (with_reducible exact T1.out.flat) | (with_reducible exact (T1.out.on (alloc_b _ _)).flat) | (with_reducible exact SD.out.flat) | (with_reducible exact ((S0.out.on (alloc_b _ _)).on (udrew _)).flat) | (with_reducible exact (((S0.out.on (alloc_b _ _)).on (alloc_b _ _)).on (udrew _)).flat)) (first
      | (go_at_call 48; (first
          | (with_reducible refine (LQ.out _ _ _ ?_ (AQ.out _)).mono ?_; (first | omega | (rw [IntKind.wrap_i64]; omega)); rintro e w2 ⟨r2, o2, rfl, A2, hB2⟩; have T2 := hid ((T1.out.on (alloc_b _ (.cells #[.int .u64 mb] 26))).on hB2); have G1 := hid ((R1.out.below (alloc_b _ (.cells #[.int .u64 mb] 26)) (Nat.le_refl _)).below hB2 (Nat.le_refl _)); have G2 := hid A2; clear A2 hB2)
          | (with_reducible refine (LQ.out _ _ _ ?_ CQ.out).mono ?_; (first | omega | (rw [IntKind.wrap_i64]; omega)); rintro e w2 ⟨r2, o2, rfl, A2, hB2⟩; have T2 := hid ((T1.out).on hB2); have G1 := hid ((R1.out).below hB2 (Nat.le_refl _)); have G2 := hid A2; clear A2 hB2)
          | (with_reducible refine (LP.out _ _ _ ?_ (AP.out _)).mono ?_; (first | omega | (rw [IntKind.wrap_i64]; omega)); rintro e w2 ⟨r1, o1, rfl, A2, hB2⟩; have T2 := hid ((T1.out.on (alloc_b _ (.cells #[.int .u64 ma] 26))).on hB2); have G2 := hid ((R2.out.below (alloc_b _ (.cells #[.int .u64 ma] 26)) (Nat.le_refl _)).below hB2 (Nat.le_refl _)); have G1 := hid A2; clear A2 hB2)
          | (with_reducible refine (LP.out _ _ _ ?_ CP.out).mono ?_; (first | omega | (rw [IntKind.wrap_i64]; omega)); rintro e w2 ⟨r1, o1, rfl, A2, hB2⟩; have T2 := hid ((T1.out).on hB2); have G2 := hid ((R2.out).below hB2 (Nat.le_refl _)); have G1 := hid A2; clear A2 hB2)
          | (with_reducible refine (LP.out _ _ _ ?_ ((AP.out _).below (udrew _) (Nat.le_refl _))).mono ?_; (first | omega | (rw [IntKind.wrap_i64]; omega)); rintro e w1 ⟨r1, o1, rfl, A1, hB1⟩; have T1 := hid (((S0.out.on (alloc_b _ (.cells #[.int .u64 ma] 26))).on (udrew _)).on hB1); have R1 := hid A1; obtain ⟨⟨g2, g3⟩, g4, g5⟩ := T1.out.cells; clear A1 hB1)
          | (with_reducible refine (LQ.out _ _ _ ?_ ((AQ.out _).below (udrew _) (Nat.le_refl _))).mono ?_; (first | omega | (rw [IntKind.wrap_i64]; omega)); rintro e w1 ⟨r2, o2, rfl, A1, hB1⟩; have T1 := hid (((S0.out.on (alloc_b _ (.cells #[.int .u64 mb] 26))).on (udrew _)).on hB1); have R2 := hid A1; obtain ⟨⟨g2, g3⟩, g4, g5⟩ := T1.out.cells; clear A1 hB1)
          | (with_reducible refine (LP.out _ _ _ ?_ (((AP.out _).below (alloc_b _ _) (Nat.le_refl _)).below (udrew _) (Nat.le_refl _))).mono ?_; (first | omega | (rw [IntKind.wrap_i64]; omega)); rintro e w1 ⟨r1, o1, rfl, A1, hB1⟩; have T1 := hid ((((S0.out.on (alloc_b _ (.cells #[.int .u64 ma] 26))).on (alloc_b _ (.cells #[.int .u64 mb] 26))).on (udrew _)).on hB1); have R1 := hid A1; have CQ := hid (((AQ2.out wA (.cells #[.int .u64 ma] 26)).below (udrew _) (Nat.le_refl _)).below hB1 (Nat.le_refl _)); obtain ⟨⟨g2, g3⟩, g4, g5⟩ := T1.out.cells; clear A1 hB1)
          | (with_reducible refine (LQ.out _ _ _ ?_ (((AQ.out _).below (alloc_b _ _) (Nat.le_refl _)).below (udrew _) (Nat.le_refl _))).mono ?_; (first | omega | (rw [IntKind.wrap_i64]; omega)); rintro e w1 ⟨r2, o2, rfl, A1, hB1⟩; have T1 := hid ((((S0.out.on (alloc_b _ (.cells #[.int .u64 mb] 26))).on (alloc_b _ (.cells #[.int .u64 ma] 26))).on (udrew _)).on hB1); have R2 := hid A1; have CP := hid (((AP2.out wA (.cells #[.int .u64 mb] 26)).below (udrew _) (Nat.le_refl _)).below hB1 (Nat.le_refl _)); obtain ⟨⟨g2, g3⟩, g4, g5⟩ := T1.out.cells; clear A1 hB1)
          | (with_reducible refine (LP.out _ _ _ ?_ ((AP2.out _ _).below (udrew _) (Nat.le_refl _))).mono ?_; (first | omega | (rw [IntKind.wrap_i64]; omega)); rintro e w1 ⟨r1, o1, rfl, A1, hB1⟩; have T1 := hid ((((S0.out.on (alloc_b _ (.cells #[.int .u64 mb] 26))).on (alloc_b _ (.cells #[.int .u64 ma] 26))).on (udrew _)).on hB1); have R1 := hid A1; have CQ := hid ((((AQ.out wA).below (alloc_b _ (.cells #[.int .u64 ma] 26)) (Nat.le_refl _)).below (udrew _) (Nat.le_refl _)).below hB1 (Nat.le_refl _)); obtain ⟨⟨g2, g3⟩, g4, g5⟩ := T1.out.cells; clear A1 hB1)
          | (with_reducible refine (LQ.out _ _ _ ?_ ((AQ2.out _ _).below (udrew _) (Nat.le_refl _))).mono ?_; (first | omega | (rw [IntKind.wrap_i64]; omega)); rintro e w1 ⟨r2, o2, rfl, A1, hB1⟩; have T1 := hid ((((S0.out.on (alloc_b _ (.cells #[.int .u64 ma] 26))).on (alloc_b _ (.cells #[.int .u64 mb] 26))).on (udrew _)).on hB1); have R2 := hid A1; have CP := hid ((((AP.out wA).below (alloc_b _ (.cells #[.int .u64 mb] 26)) (Nat.le_refl _)).below (udrew _) (Nat.le_refl _)).below hB1 (Nat.le_refl _)); obtain ⟨⟨g2, g3⟩, g4, g5⟩ := T1.out.cells; clear A1 hB1))))
    all_goals (go_wp2_with fail; go_ret3; exact FI.out _ _ _ _ _ ⟨_, G1.out⟩ ⟨_, G2.out⟩ T2.out.1)
  · obtain ⟨ka, hka⟩ : ∃ k : Nat, (k : Int) = ea - ea := ⟨(ea - ea).toNat, by omega⟩
    obtain ⟨kb, hkb⟩ : ∃ k : Nat, (k : Int) = eb - ea := ⟨(eb - ea).toNat, by omega⟩
    have LP := hid (fun (wx : World) (b : Nat) (u : Int) (hu : u = (ka : Int)) (A : Arg wx (some ⟨b, 0, none⟩) 1 1 [ma]) => ulift ma ka a0 (by omega) (by omega) wx b u hu A)
    have LQ := hid (fun (wx : World) (b : Nat) (u : Int) (hu : u = (kb : Int)) (A : Arg wx (some ⟨b, 0, none⟩) 1 1 [mb]) => ulift mb kb b0 (by omega) (by omega) wx b u hu A)
    have FI : Hid (∀ (w' : World) (r1 r2 : Option Addr) (o1 o2 : List Int), (∃ B, Ans B w' r1 o1 (ma * 2 ^ ka)) → (∃ B, Ans B w' r2 o2 (mb * 2 ^ kb)) → Below w.heap.size w w' → CommonIs ma ea mb eb w (.returned (.tuple #[.slice r1 (List.length o1) (List.length o1), .slice r2 (List.length o2) (List.length o2), .int .i64 ea])) w') :=
      fun w' r1 r2 o1 o2 h1 h2 h3 => ⟨r1, o1, r2, o2, _, rfl, ⟨ka, kb, by omega, by omega, .inl rfl, h1, h2⟩, h3⟩
    go_enter Tryz.func52, Tryz.ntmps52
    have hsz : (w.alloc (.cells #[.bool na, .int .i64 ca, .int .u64 ma, .int .i64 ea] 40)).heap.size = w.heap.size + 1 := by simp
    rw [hsz] at Q
    obtain ⟨⟨-, -, p2, p3⟩, -⟩ := P.cells
    obtain ⟨⟨-, -, q2, q3⟩, -⟩ := Q.cells
    have S0 : Hid (TwoR w _ _ _ na nb ca ma ea cb mb eb) := ⟨hB, P, Q⟩
    clear hB P Q
    go_upto_region 4 with fail
    clear hsz
    generalize hw2 : (w.alloc (.cells #[.bool na, .int .i64 ca, .int .u64 ma, .int .i64 ea] 40)).alloc (.cells #[.bool nb, .int .i64 cb, .int .u64 mb, .int .i64 eb] 40) = wA at *
    generalize hbp : w.heap.size = bp at *
    clear hw2 p2 p3 q2 q3
    rw [← hbp] at FI
    have SD := hid (S0.out.on (udrew wA))
    obtain ⟨⟨p2, p3⟩, ⟨q2, q3⟩⟩ := S0.out.cells
    go_region_held3 (fun w' => w'.cell? ⟨bp, 2, none⟩ = some (.int .u64 ma) ∧ w'.cell? ⟨bp, 3, none⟩ = some (.int .i64 ea) ∧ w'.cell? ⟨bp + 1, 2, none⟩ = some (.int .u64 mb) ∧ w'.cell? ⟨bp + 1, 3, none⟩ = some (.int .i64 eb)) (first | (with_reducible exact T2.out.flat) | (with_reducible exact T1.out.flat) | (with_reducible exact (T1.out.on (alloc_b _ _)).flat) | (with_reducible exact SD.out.flat) | (with_reducible exact ((S0.out.on (alloc_b _ _)).on (udrew _)).flat) | (with_reducible exact (((S0.out.on (alloc_b _ _)).on (alloc_b _ _)).on (udrew _)).flat)) (first
      | (go_at_call 48; (first
          | (with_reducible refine (LQ.out _ _ _ ?_ (AQ.out _)).mono ?_; (first | omega | (rw [IntKind.wrap_i64]; omega)); rintro e w2 ⟨r2, o2, rfl, A2, hB2⟩; have T2 := hid ((T1.out.on (alloc_b _ (.cells #[.int .u64 mb] 26))).on hB2); have G1 := hid ((R1.out.below (alloc_b _ (.cells #[.int .u64 mb] 26)) (Nat.le_refl _)).below hB2 (Nat.le_refl _)); have G2 := hid A2; clear A2 hB2)
          | (with_reducible refine (LQ.out _ _ _ ?_ CQ.out).mono ?_; (first | omega | (rw [IntKind.wrap_i64]; omega)); rintro e w2 ⟨r2, o2, rfl, A2, hB2⟩; have T2 := hid ((T1.out).on hB2); have G1 := hid ((R1.out).below hB2 (Nat.le_refl _)); have G2 := hid A2; clear A2 hB2)
          | (with_reducible refine (LP.out _ _ _ ?_ (AP.out _)).mono ?_; (first | omega | (rw [IntKind.wrap_i64]; omega)); rintro e w2 ⟨r1, o1, rfl, A2, hB2⟩; have T2 := hid ((T1.out.on (alloc_b _ (.cells #[.int .u64 ma] 26))).on hB2); have G2 := hid ((R2.out.below (alloc_b _ (.cells #[.int .u64 ma] 26)) (Nat.le_refl _)).below hB2 (Nat.le_refl _)); have G1 := hid A2; clear A2 hB2)
          | (with_reducible refine (LP.out _ _ _ ?_ CP.out).mono ?_; (first | omega | (rw [IntKind.wrap_i64]; omega)); rintro e w2 ⟨r1, o1, rfl, A2, hB2⟩; have T2 := hid ((T1.out).on hB2); have G2 := hid ((R2.out).below hB2 (Nat.le_refl _)); have G1 := hid A2; clear A2 hB2)
          | (with_reducible refine (LP.out _ _ _ ?_ ((AP.out _).below (udrew _) (Nat.le_refl _))).mono ?_; (first | omega | (rw [IntKind.wrap_i64]; omega)); rintro e w1 ⟨r1, o1, rfl, A1, hB1⟩; have T1 := hid (((S0.out.on (alloc_b _ (.cells #[.int .u64 ma] 26))).on (udrew _)).on hB1); have R1 := hid A1; obtain ⟨⟨g2, g3⟩, g4, g5⟩ := T1.out.cells; clear A1 hB1)
          | (with_reducible refine (LQ.out _ _ _ ?_ ((AQ.out _).below (udrew _) (Nat.le_refl _))).mono ?_; (first | omega | (rw [IntKind.wrap_i64]; omega)); rintro e w1 ⟨r2, o2, rfl, A1, hB1⟩; have T1 := hid (((S0.out.on (alloc_b _ (.cells #[.int .u64 mb] 26))).on (udrew _)).on hB1); have R2 := hid A1; obtain ⟨⟨g2, g3⟩, g4, g5⟩ := T1.out.cells; clear A1 hB1)
          | (with_reducible refine (LP.out _ _ _ ?_ (((AP.out _).below (alloc_b _ _) (Nat.le_refl _)).below (udrew _) (Nat.le_refl _))).mono ?_; (first | omega | (rw [IntKind.wrap_i64]; omega)); rintro e w1 ⟨r1, o1, rfl, A1, hB1⟩; have T1 := hid ((((S0.out.on (alloc_b _ (.cells #[.int .u64 ma] 26))).on (alloc_b _ (.cells #[.int .u64 mb] 26))).on (udrew _)).on hB1); have R1 := hid A1; have CQ := hid (((AQ2.out wA (.cells #[.int .u64 ma] 26)).below (udrew _) (Nat.le_refl _)).below hB1 (Nat.le_refl _)); obtain ⟨⟨g2, g3⟩, g4, g5⟩ := T1.out.cells; clear A1 hB1)
          | (with_reducible refine (LQ.out _ _ _ ?_ (((AQ.out _).below (alloc_b _ _) (Nat.le_refl _)).below (udrew _) (Nat.le_refl _))).mono ?_; (first | omega | (rw [IntKind.wrap_i64]; omega)); rintro e w1 ⟨r2, o2, rfl, A1, hB1⟩; have T1 := hid ((((S0.out.on (alloc_b _ (.cells #[.int .u64 mb] 26))).on (alloc_b _ (.cells #[.int .u64 ma] 26))).on (udrew _)).on hB1); have R2 := hid A1; have CP := hid (((AP2.out wA (.cells #[.int .u64 mb] 26)).below (udrew _) (Nat.le_refl _)).below hB1 (Nat.le_refl _)); obtain ⟨⟨g2, g3⟩, g4, g5⟩ := T1.out.cells; clear A1 hB1)
          | (with_reducible refine (LP.out _ _ _ ?_ ((AP2.out _ _).below (udrew _) (Nat.le_refl _))).mono ?_; (first | omega | (rw [IntKind.wrap_i64]; omega)); rintro e w1 ⟨r1, o1, rfl, A1, hB1⟩; have T1 := hid ((((S0.out.on (alloc_b _ (.cells #[.int .u64 mb] 26))).on (alloc_b _ (.cells #[.int .u64 ma] 26))).on (udrew _)).on hB1); have R1 := hid A1; have CQ := hid ((((AQ.out wA).below (alloc_b _ (.cells #[.int .u64 ma] 26)) (Nat.le_refl _)).below (udrew _) (Nat.le_refl _)).below hB1 (Nat.le_refl _)); obtain ⟨⟨g2, g3⟩, g4, g5⟩ := T1.out.cells; clear A1 hB1)
          | (with_reducible refine (LQ.out _ _ _ ?_ ((AQ2.out _ _).below (udrew _) (Nat.le_refl _))).mono ?_; (first | omega | (rw [IntKind.wrap_i64]; omega)); rintro e w1 ⟨r2, o2, rfl, A1, hB1⟩; have T1 := hid ((((S0.out.on (alloc_b _ (.cells #[.int .u64 ma] 26))).on (alloc_b _ (.cells #[.int .u64 mb] 26))).on (udrew _)).on hB1); have R2 := hid A1; have CP := hid ((((AP.out wA).below (alloc_b _ (.cells #[.int .u64 mb] 26)) (Nat.le_refl _)).below (udrew _) (Nat.le_refl _)).below hB1 (Nat.le_refl _)); obtain ⟨⟨g2, g3⟩, g4, g5⟩ := T1.out.cells; clear A1 hB1))))
    all_goals (go_wp2_with fail; go_ret3; exact FI.out _ _ _ _ _ ⟨_, G1.out⟩ ⟨_, G2.out⟩ T2.out.1)
end Go.Proofs.YtmakkfekomnpbaaGreatDoor

/-
  remain: zero.
-/
namespace Go.Proofs.YtmakkfekomnpbaaGreatDoor
open Go Go.RowKit Go.Deep


set_option maxRecDepth 100000 in
theorem mzero_any (d : Int) (w : World) (h0 : 0 ≤ d) (h1 : d < 18446744073709551616) :
    Calls Tryz.prog 74 #[.int .u64 d] w fun e w' => e = .returned (.bool (Ie.isz d)) ∧ w' = w := by
  have CL := hid (class_any d w h0 h1)
  have E := hid (Ie.isz_cls d)
  generalize Ie.cls d = c at CL E
  go_enter Tryz.func74, Tryz.ntmps74
  go_wp2_with fail
  refine CL.out.mono ?_
  rintro e w' ⟨rfl, rfl⟩
  go_wp2_with fail
  go_ret
  exact ⟨by rw [E.out]; rfl, rfl⟩
end Go.Proofs.YtmakkfekomnpbaaGreatDoor
