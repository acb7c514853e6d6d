/-
  THE REFERENCE's Plus.
-/
import Derived.Test.YtmglogncpfoldaaDoorRef3
namespace Go.Proofs.YtmglogncpfoldaaDoor
open Go.RowKit Go.Deep

set_option maxRecDepth 20000 in
set_option maxHeartbeats 4000000 in
theorem plus_any (p q : Option Addr) (n cap m cap' : Nat) (za zb : List Int) (w : World) (ha : Arg w p n cap za) (hb : Arg w q m cap' zb) (hn : Nm.tsize za ≤ 1099511627776) (hm : Nm.tsize zb ≤ 1099511627776) :
    Calls Tryd.prog 52 #[.slice p n cap, .slice q m cap'] w fun e w' => ∃ r os, e = .returned (.slice r (List.length os) (List.length os)) ∧ Ans w.heap.size w' r os (Nm.val za + Nm.val zb) ∧ Below w.heap.size w w' := by
  have HA := hid ha
  have HB0 := hid hb
  clear ha hb
  go_enter Tryd.func52, Tryd.ntmps52
  go_wp2_with fail
  refine (halves_any p n cap za _ HA.out (by have := HA.out.2.1; have := HA.out.2.2.1; omega)).mono ?_
  rintro e w1 ⟨xs, rfl, lx, hx, vx, kx, bx⟩
  have HB1 := hid (HB0.out.below bx (Nat.le_refl _))
  have D1 := hid bx
  obtain ⟨l1, LX⟩ : ∃ l1, Hid (xs.length = l1) := ⟨_, rfl⟩
  have LX0 := hid lx
  have HX := hid hx
  have VX := hid vx
  have kx1 : l1 ≤ 2 * Nm.tsize za := by have := LX.out; omega
  rw [LX.out]
  clear lx hx vx kx bx HB0
  go_wp2_with fail
  refine (halves_any q m cap' zb _ HB1.out (by have := HB1.out.2.1; have := HB1.out.2.2.1; omega)).mono ?_
  rintro e w2 ⟨ys, rfl, ly, hy, vy, ky, by_⟩
  have D2 := hid (chain D1.out by_ (Nat.le_refl _))
  obtain ⟨l2, LY⟩ : ∃ l2, Hid (ys.length = l2) := ⟨_, rfl⟩
  have HY := hid hy
  have VY := hid vy
  have ky1 : l2 ≤ 2 * Nm.tsize zb := by have := LY.out; omega
  obtain ⟨g1, G1⟩ : ∃ g1, w.heap.size = g1 := ⟨_, rfl⟩
  obtain ⟨g2, G2⟩ : ∃ g2, w1.heap.size = g2 := ⟨_, rfl⟩
  have LX2 := LX0.out.below by_ (Nat.le_refl _)
  rw [G1] at LX2
  have ly2 := ly
  rw [G2] at ly2
  have CX : Hid (∀ i, i < l1 → w2.cell? ⟨g1, i, none⟩ = some (.int .u64 (xs.getD i 0))) := fun i hi => by have := LX2.cells i (by have := LX.out; omega); rwa [Nat.zero_add] at this
  have CY : Hid (∀ i, i < l2 → w2.cell? ⟨g2, i, none⟩ = some (.int .u64 (ys.getD i 0))) := fun i hi => by have := ly2.cells i (by have := LY.out; omega); rwa [Nat.zero_add] at this
  obtain ⟨g, Gg⟩ : ∃ g, Hid (w2.heap.size = g) := ⟨_, rfl⟩
  have BX : Hid (∀ {j : Nat}, j < l1 → g1 < g) := fun {j} hj => by rw [← Gg.out]; exact cell_lt (CX.out j hj)
  have BY : Hid (∀ {j : Nat}, j < l2 → g2 < g) := fun {j} hj => by rw [← Gg.out]; exact cell_lt (CY.out j hj)
  rw [LY.out, G1, G2]
  clear ly hy vy ky by_ LX0 LX2 ly2 HB1 D1 G2
  obtain ⟨C, HC⟩ : ∃ C, Hid (l1 + l2 + 1 = C) := ⟨_, rfl⟩
  have hmk := make64_room (l1 + l2 + 1) (by omega) w2
  rw [show ((l1 + l2 + 1 : Nat) : Int) = (l1 : Int) + (l2 : Int) + 1 by omega, HC.out, Gg.out] at hmk
  have bm := hid ((Below.refl w2.heap.size w2).alloc (Nat.le_refl _) (.cells (madeCells #[.int .u64 0] C) 28))
  have gm := hid (Grown.made w2 C)
  rw [Gg.out] at bm gm
  generalize w2.alloc (.cells (madeCells #[.int .u64 0] C) 28) = wm at hmk bm gm
  have hCb : C ≤ 35184372088832 := by have := HC.out; omega
  go_wp2
  clear hmk
  go_loopw [7, 8, 9] (fun a c i wr => ∃ (j : Nat) (cc : Int) (ss : List Int), j ≤ l1 + l2 ∧ j + 1 ≤ C ∧ i = .int .i64 j ∧ a = .slice (some ⟨g, 0, none⟩) j C ∧ c = .int .u64 cc ∧ 0 ≤ cc ∧ cc ≤ 1 ∧ Hid (Grown wr g ss (C - j)) ∧ Hid (ss.length = j) ∧ Hid (Nm.Halves ss) ∧ Hid (Nm.v32 ss + Nm.p32 j * cc = Nm.v32 (xs.take j) + Nm.v32 (ys.take j)) ∧ Below g w2 wr) (fun _ _ i _ => l1 + l2 - (intOf i).toNat)
  case atStart => exact ⟨0, 0, [], Nat.zero_le _, by have := HC.out; omega, rfl, rfl, rfl, by omega, by omega, gm.out, rfl, Nm.Halves.nil, rfl, bm.out⟩
  case round =>
    obtain ⟨j, cc, ss, hj, hjC, rfl, rfl, rfl, hc0, hc1, G, L, HS, V, hB⟩ := hrel
    have G' := G.out
    rw [show C - j = (C - j - 1) + 1 by omega] at G'
    by_cases h1 : j < l1
    · have hj2 : j + 1 ≤ l1 + l2 := by omega
      have hj3 : j + 1 + 1 ≤ C := by have := HC.out; omega
      by_cases h2 : j < l2
      · skip
        obtain ⟨x, hx, X⟩ : ∃ x, wr.cell? ⟨g1, j, none⟩ = some (.int .u64 x) ∧ Hid (x = xs.getD j 0) := ⟨_, (hB.cell (p := ⟨g1, j, none⟩) (BX.out h1)).trans (CX.out j h1), rfl⟩
        have hx0 : 0 ≤ x := by have := HX.out.at j; have := X.out; omega
        have hx1 : x < 4294967296 := by have := HX.out.at j; have := X.out; omega
        have h1' : (j : Int) < (l1 : Int) := by omega
        obtain ⟨y, hy, Y⟩ : ∃ y, wr.cell? ⟨g2, j, none⟩ = some (.int .u64 y) ∧ Hid (y = ys.getD j 0) := ⟨_, (hB.cell (p := ⟨g2, j, none⟩) (BY.out h2)).trans (CY.out j h2), rfl⟩
        have hy0 : 0 ≤ y := by have := HY.out.at j; have := Y.out; omega
        have hy1 : y < 4294967296 := by have := HY.out.at j; have := Y.out; omega
        have h2' : (j : Int) < (l2 : Int) := by omega
        obtain ⟨c1, hc1, C1⟩ : ∃ c1, IntKind.u64.wrap (cc + x) = c1 ∧ Hid (c1 = cc + x) := ⟨_, by rw [IntKind.wrap_u64, Int.emod_eq_of_lt (by omega) (by omega)], rfl⟩
        have hc10 : 0 ≤ c1 := by have := C1.out; omega
        have hc11 : c1 ≤ 4294967296 := by have := C1.out; omega
        obtain ⟨c2, hc2, C2⟩ : ∃ c2, IntKind.u64.wrap (c1 + y) = c2 ∧ Hid (c2 = c1 + y) := ⟨_, by rw [IntKind.wrap_u64, Int.emod_eq_of_lt (by omega) (by omega)], rfl⟩
        have hc20 : 0 ≤ c2 := by have := C2.out; omega
        have hc21 : c2 ≤ 8589934592 := by have := C2.out; omega
        have TOT : Hid (c2 = cc + x + y) := by have := C1.out; have := C2.out; show _ = _; omega
        obtain ⟨lo, hlo, LO⟩ : ∃ lo, bits .and .u64 c2 4294967295 = lo ∧ Hid (lo = c2 % 4294967296) := ⟨_, r_mask32 c2 (by omega) (by omega), rfl⟩
        obtain ⟨hi, hhi, HI⟩ : ∃ hi, c2 / 4294967296 = hi ∧ Hid (hi = c2 / 4294967296) := ⟨_, rfl, rfl⟩
        have hi0 : 0 ≤ hi := by omega
        have hi1 : hi ≤ 1 := by have := TOT.out; have := HX.out.at j; have := HY.out.at j; have := X.out; have := Y.out; omega
        obtain ⟨w2, ap, gr, be, sz⟩ := push64 g j (C - j - 1) C ss lo wr L.out (by omega) G'
        have AP := hid ap
        have GR := hid gr
        have BE := hid (hB.trans be)
        have BLO : Hid (0 ≤ lo ∧ lo < 4294967296) := by have := LO.out; show _ ∧ _; omega
        clear ap gr be sz hB G G'
        go_wp2_with (at_builtin; refine wpList_append_row rfl _ _ rfl AP.out (by rfl) (by rfl) ?_; clear AP)
        go_roundw
        case rel =>
          refine ⟨j + 1, hi, ss ++ [lo], by omega, by omega, by go_num, rfl, rfl, hi0, hi1, GR.out, ?_, HS.out.snoc BLO.out.1 BLO.out.2, ?_, BE.out⟩
          · have := L.out; simp only [Hid, List.length_append, List.length_cons, List.length_nil]; omega
          · exact Nm.plus_step L.out V.out (by rw [← X.out, ← Y.out, ← TOT.out, LO.out, HI.out]; omega)
        case measure => simp [intOf]; omega
      · skip
        obtain ⟨x, hx, X⟩ : ∃ x, wr.cell? ⟨g1, j, none⟩ = some (.int .u64 x) ∧ Hid (x = xs.getD j 0) := ⟨_, (hB.cell (p := ⟨g1, j, none⟩) (BX.out h1)).trans (CX.out j h1), rfl⟩
        have hx0 : 0 ≤ x := by have := HX.out.at j; have := X.out; omega
        have hx1 : x < 4294967296 := by have := HX.out.at j; have := X.out; omega
        have h1' : (j : Int) < (l1 : Int) := by omega
        obtain ⟨y, hy0, Y⟩ : ∃ y : Int, y = 0 ∧ Hid (y = ys.getD j 0) := ⟨0, rfl, by simp [Hid, List.getD, List.getElem?_eq_none (show ys.length ≤ j by have := LY.out; omega)]⟩
        have h2' : ¬ (j : Int) < (l2 : Int) := by omega
        obtain ⟨c1, hc1, C1⟩ : ∃ c1, IntKind.u64.wrap (cc + x) = c1 ∧ Hid (c1 = cc + x) := ⟨_, by rw [IntKind.wrap_u64, Int.emod_eq_of_lt (by omega) (by omega)], rfl⟩
        have hc10 : 0 ≤ c1 := by have := C1.out; omega
        have hc11 : c1 ≤ 4294967296 := by have := C1.out; omega
        have TOT : Hid (c1 = cc + x + y) := by have := C1.out; show _ = _; omega
        obtain ⟨lo, hlo, LO⟩ : ∃ lo, bits .and .u64 c1 4294967295 = lo ∧ Hid (lo = c1 % 4294967296) := ⟨_, r_mask32 c1 (by omega) (by omega), rfl⟩
        obtain ⟨hi, hhi, HI⟩ : ∃ hi, c1 / 4294967296 = hi ∧ Hid (hi = c1 / 4294967296) := ⟨_, rfl, rfl⟩
        have hi0 : 0 ≤ hi := by omega
        have hi1 : hi ≤ 1 := by have := TOT.out; have := HX.out.at j; have := HY.out.at j; have := X.out; have := Y.out; omega
        obtain ⟨w2, ap, gr, be, sz⟩ := push64 g j (C - j - 1) C ss lo wr L.out (by omega) G'
        have AP := hid ap
        have GR := hid gr
        have BE := hid (hB.trans be)
        have BLO : Hid (0 ≤ lo ∧ lo < 4294967296) := by have := LO.out; show _ ∧ _; omega
        clear ap gr be sz hB G G'
        go_wp2_with (at_builtin; refine wpList_append_row rfl _ _ rfl AP.out (by rfl) (by rfl) ?_; clear AP)
        go_roundw
        case rel =>
          refine ⟨j + 1, hi, ss ++ [lo], by omega, by omega, by go_num, rfl, rfl, hi0, hi1, GR.out, ?_, HS.out.snoc BLO.out.1 BLO.out.2, ?_, BE.out⟩
          · have := L.out; simp only [Hid, List.length_append, List.length_cons, List.length_nil]; omega
          · exact Nm.plus_step L.out V.out (by rw [← X.out, ← Y.out, ← TOT.out, LO.out, HI.out]; omega)
        case measure => simp [intOf]; omega
    · by_cases h2 : j < l2
      · have hj2 : j + 1 ≤ l1 + l2 := by omega
        have hj3 : j + 1 + 1 ≤ C := by have := HC.out; omega
        obtain ⟨x, hx0, X⟩ : ∃ x : Int, x = 0 ∧ Hid (x = xs.getD j 0) := ⟨0, rfl, by simp [Hid, List.getD, List.getElem?_eq_none (show xs.length ≤ j by have := LX.out; omega)]⟩
        have h1' : ¬ (j : Int) < (l1 : Int) := by omega
        obtain ⟨y, hy, Y⟩ : ∃ y, wr.cell? ⟨g2, j, none⟩ = some (.int .u64 y) ∧ Hid (y = ys.getD j 0) := ⟨_, (hB.cell (p := ⟨g2, j, none⟩) (BY.out h2)).trans (CY.out j h2), rfl⟩
        have hy0 : 0 ≤ y := by have := HY.out.at j; have := Y.out; omega
        have hy1 : y < 4294967296 := by have := HY.out.at j; have := Y.out; omega
        have h2' : (j : Int) < (l2 : Int) := by omega
        obtain ⟨c2, hc2, C2⟩ : ∃ c2, IntKind.u64.wrap (cc + y) = c2 ∧ Hid (c2 = cc + y) := ⟨_, by rw [IntKind.wrap_u64, Int.emod_eq_of_lt (by omega) (by omega)], rfl⟩
        have hc20 : 0 ≤ c2 := by have := C2.out; omega
        have hc21 : c2 ≤ 8589934592 := by have := C2.out; omega
        have TOT : Hid (c2 = cc + x + y) := by have := C2.out; show _ = _; omega
        obtain ⟨lo, hlo, LO⟩ : ∃ lo, bits .and .u64 c2 4294967295 = lo ∧ Hid (lo = c2 % 4294967296) := ⟨_, r_mask32 c2 (by omega) (by omega), rfl⟩
        obtain ⟨hi, hhi, HI⟩ : ∃ hi, c2 / 4294967296 = hi ∧ Hid (hi = c2 / 4294967296) := ⟨_, rfl, rfl⟩
        have hi0 : 0 ≤ hi := by omega
        have hi1 : hi ≤ 1 := by have := TOT.out; have := HX.out.at j; have := HY.out.at j; have := X.out; have := Y.out; omega
        obtain ⟨w2, ap, gr, be, sz⟩ := push64 g j (C - j - 1) C ss lo wr L.out (by omega) G'
        have AP := hid ap
        have GR := hid gr
        have BE := hid (hB.trans be)
        have BLO : Hid (0 ≤ lo ∧ lo < 4294967296) := by have := LO.out; show _ ∧ _; omega
        clear ap gr be sz hB G G'
        go_wp2_with (at_builtin; refine wpList_append_row rfl _ _ rfl AP.out (by rfl) (by rfl) ?_; clear AP)
        go_roundw
        case rel =>
          refine ⟨j + 1, hi, ss ++ [lo], by omega, by omega, by go_num, rfl, rfl, hi0, hi1, GR.out, ?_, HS.out.snoc BLO.out.1 BLO.out.2, ?_, BE.out⟩
          · have := L.out; simp only [Hid, List.length_append, List.length_cons, List.length_nil]; omega
          · exact Nm.plus_step L.out V.out (by rw [← X.out, ← Y.out, ← TOT.out, LO.out, HI.out]; omega)
        case measure => simp [intOf]; omega
      · have h1' : ¬ (j : Int) < (l1 : Int) := by omega
        have h2' : ¬ (j : Int) < (l2 : Int) := by omega
        obtain ⟨w3, ap, gr, be, sz⟩ := push64 g j (C - j - 1) C ss cc wr L.out (by omega) G'
        have AP := hid ap
        have D3 := hid (chain D2.out (by rw [Gg.out]; exact hB.trans be) (Nat.le_refl _))
        have VV : Hid (Nm.v32 (ss ++ [cc]) = Nm.val za + Nm.val zb) := by
          have := V.out
          rw [List.take_of_length_le (by have := LX.out; omega), List.take_of_length_le (by have := LY.out; omega), VX.out, VY.out] at this
          rw [Hid, Nm.v32_snoc, L.out]
          exact this
        have HS2 := hid (HS.out.snoc hc0 (by omega : cc < 4294967296))
        have AG : Hid (Arg w3 (some ⟨g, 0, none⟩) (j + 1) C (ss ++ [cc])) := ⟨by simp [L.out], by omega, by have := HC.out; omega, gr.lies, HS2.out.limbs⟩
        have hw3 : Hid (w.heap.size ≤ w3.heap.size) := D3.out.size
        clear ap gr be sz hB G G'
        go_wp2_with (at_builtin; refine wpList_append_row rfl _ _ rfl AP.out (by rfl) (by rfl) ?_; clear AP)
        refine (limbs_any _ (j + 1) C (ss ++ [cc]) _ AG.out HS2.out).mono ?_
        rintro e w4 ⟨r, os, rfl, hA, hb⟩
        rw [VV.out] at hA
        have A4 := hid (hA.mono hw3.out)
        have D4 := hid (chain D3.out hb (Nat.le_refl _))
        clear hA hb
        go_wp2
        go_ret
        exact ⟨r, os, rfl, A4.out, D4.out⟩
end Go.Proofs.YtmglogncpfoldaaDoor
