/-
  THE REFERENCE's Less.
-/
import Derived.Test.YtmglogncpfoldaaDoorRef4
namespace Go.Proofs.YtmglogncpfoldaaDoor
open Go.RowKit Go.Deep

namespace Nm
theorem v32_lt : ∀ zs : List Int, Halves zs → v32 zs < p32 zs.length
  | [], _ => by simp [v32, p32]
  | z :: zs, h => by
    have h1 := v32_lt zs (fun x hx => h x (List.mem_cons_of_mem _ hx))
    have h2 := h z List.mem_cons_self
    simp only [v32, List.length_cons, p32]
    omega

theorem v32_split : ∀ (zs : List Int) (k : Nat), v32 zs = v32 (zs.take k) + p32 k * v32 (zs.drop k)
  | zs, 0 => by simp [v32, p32]
  | [], k + 1 => by simp [v32]
  | z :: zs, k + 1 => by
    have := v32_split zs k
    simp only [List.take_succ_cons, List.drop_succ_cons, v32, p32]
    rw [Int.mul_assoc]
    omega

theorem Halves.drop {zs : List Int} (h : Halves zs) (k : Nat) : Halves (zs.drop k) := fun z hz => h z (List.mem_of_mem_drop hz)

theorem less_step {ss xs ys : List Int} {j : Nat} {c c' lo : Int} (hl : ss.length = j) (h : v32 ss + p32 j * (-c) = v32 (xs.take j) - v32 (ys.take j)) (hs : lo + 4294967296 * (-c') = (-c) + xs.getD j 0 + (-ys.getD j 0)) :
    v32 (ss ++ [lo]) + p32 (j + 1) * (-c') = v32 (xs.take (j + 1)) - v32 (ys.take (j + 1)) := by
  rw [v32_snoc, v32_take_next, v32_take_next, hl]
  have e : p32 j * (lo + 4294967296 * (-c')) = p32 j * ((-c) + xs.getD j 0 + (-ys.getD j 0)) := by rw [hs]
  rw [Int.mul_add, Int.mul_add, Int.mul_add, Int.mul_neg (p32 j) (ys.getD j 0)] at e
  have e2 : p32 (j + 1) * (-c') = p32 j * (4294967296 * (-c')) := by simp only [p32]; rw [Int.mul_comm 4294967296 (p32 j), Int.mul_assoc]
  omega

theorem less_end {ss xs ys : List Int} {l : Nat} {c A B : Int} (hl : ss.length = l) (hx : xs.length = l) (hs : Halves ss) (hy : Halves ys) (vx : v32 xs = A) (vy : v32 ys = B) (hc : 0 ≤ c) (hle : B ≤ A) (h : v32 ss + p32 l * (-c) = v32 (xs.take l) - v32 (ys.take l)) : v32 ss = A - B := by
  rw [List.take_of_length_le (by omega), vx] at h
  have h1 := v32_split ys l
  have h2 := v32_lt ss hs
  have h3 := v32_nonneg _ (hy.drop l)
  have h4 := p32_pos l
  rw [hl] at h2
  rw [vy] at h1
  rw [Int.mul_neg] at h
  obtain ⟨r, hr⟩ : ∃ r, v32 (ys.drop l) = r := ⟨_, rfl⟩
  rw [hr] at h1 h3
  have e : p32 l * (c + r) = p32 l * c + p32 l * r := Int.mul_add _ _ _
  have h5 : c + r = 0 := by
    rcases (show c + r = 0 ∨ 1 ≤ c + r by omega) with h6 | h6
    · exact h6
    · have h7 : p32 l * 1 ≤ p32 l * (c + r) := Int.mul_le_mul_of_nonneg_left h6 (by omega)
      omega
  rw [h5, Int.mul_zero] at e
  omega
end Nm

set_option maxRecDepth 20000 in
set_option maxHeartbeats 4000000 in
theorem less_any (p q : Option Addr) (n cap m cap' : Nat) (za zb : List Int) (w : World) (ha : Arg w p n cap za) (hb : Arg w q m cap' zb) (hn : Nm.tsize za ≤ 1099511627776) (hle : Nm.val zb ≤ Nm.val za) :
    Calls Tryd.prog 53 #[.slice p n cap, .slice q m cap'] w fun e w' => ∃ r os, e = .returned (.slice r (List.length os) (List.length os)) ∧ Ans w.heap.size w' r os (Nm.val za - Nm.val zb) ∧ Below w.heap.size w w' := by
  have LE := hid hle
  clear hle
  have HA := hid ha
  have HB0 := hid hb
  clear ha hb
  go_enter Tryd.func53, Tryd.ntmps53
  go_wp2_with fail
  refine (halves_any p n cap za _ HA.out (by have := HA.out.2.1; have := HA.out.2.2.1; omega)).mono ?_
  rintro e w1 ⟨xs, rfl, lx, hx, vx, kx, bx⟩
  have HB1 := hid (HB0.out.below bx (Nat.le_refl _))
  have D1 := hid bx
  obtain ⟨l1, LX⟩ : ∃ l1, Hid (xs.length = l1) := ⟨_, rfl⟩
  have LX0 := hid lx
  have HX := hid hx
  have VX := hid vx
  have kx1 : l1 ≤ 2 * Nm.tsize za := by have := LX.out; omega
  rw [LX.out]
  clear lx hx vx kx bx HB0
  go_wp2_with fail
  refine (halves_any q m cap' zb _ HB1.out (by have := HB1.out.2.1; have := HB1.out.2.2.1; omega)).mono ?_
  rintro e w2 ⟨ys, rfl, ly, hy, vy, ky, by_⟩
  have D2 := hid (chain D1.out by_ (Nat.le_refl _))
  obtain ⟨l2, LY⟩ : ∃ l2, Hid (ys.length = l2) := ⟨_, rfl⟩
  have HY := hid hy
  have VY := hid vy
  have ky1 : l2 ≤ 2 * Nm.tsize zb := by have := LY.out; omega
  obtain ⟨g1, G1⟩ : ∃ g1, w.heap.size = g1 := ⟨_, rfl⟩
  obtain ⟨g2, G2⟩ : ∃ g2, w1.heap.size = g2 := ⟨_, rfl⟩
  have LX2 := LX0.out.below by_ (Nat.le_refl _)
  rw [G1] at LX2
  have ly2 := ly
  rw [G2] at ly2
  have CX : Hid (∀ i, i < l1 → w2.cell? ⟨g1, i, none⟩ = some (.int .u64 (xs.getD i 0))) := fun i hi => by have := LX2.cells i (by have := LX.out; omega); rwa [Nat.zero_add] at this
  have CY : Hid (∀ i, i < l2 → w2.cell? ⟨g2, i, none⟩ = some (.int .u64 (ys.getD i 0))) := fun i hi => by have := ly2.cells i (by have := LY.out; omega); rwa [Nat.zero_add] at this
  obtain ⟨g, Gg⟩ : ∃ g, Hid (w2.heap.size = g) := ⟨_, rfl⟩
  have BX : Hid (∀ {j : Nat}, j < l1 → g1 < g) := fun {j} hj => by rw [← Gg.out]; exact cell_lt (CX.out j hj)
  have BY : Hid (∀ {j : Nat}, j < l2 → g2 < g) := fun {j} hj => by rw [← Gg.out]; exact cell_lt (CY.out j hj)
  rw [LY.out, G1, G2]
  clear ly hy vy ky by_ LX0 LX2 ly2 HB1 D1 G2
  have hmk := make64_room l1 (by omega) w2
  rw [Gg.out] at hmk
  have bm := hid ((Below.refl w2.heap.size w2).alloc (Nat.le_refl _) (.cells (madeCells #[.int .u64 0] l1) 28))
  have gm := hid (Grown.made w2 l1)
  rw [Gg.out] at bm gm
  generalize w2.alloc (.cells (madeCells #[.int .u64 0] l1) 28) = wm at hmk bm gm
  go_wp2
  clear hmk
  go_loopw [7, 8, 9] (fun a c i wr => ∃ (j : Nat) (cc : Int) (ss : List Int), j ≤ l1 ∧ i = .int .i64 j ∧ a = .slice (some ⟨g, 0, none⟩) j l1 ∧ c = .int .u64 cc ∧ 0 ≤ cc ∧ cc ≤ 1 ∧ Hid (Grown wr g ss (l1 - j)) ∧ Hid (ss.length = j) ∧ Hid (Nm.Halves ss) ∧ Hid (Nm.v32 ss + Nm.p32 j * (-cc) = Nm.v32 (xs.take j) - Nm.v32 (ys.take j)) ∧ Below g w2 wr) (fun _ _ i _ => l1 - (intOf i).toNat)
  case atStart => exact ⟨0, 0, [], Nat.zero_le _, rfl, rfl, rfl, by omega, by omega, gm.out, rfl, Nm.Halves.nil, rfl, bm.out⟩
  case round =>
    obtain ⟨j, cc, ss, hj, rfl, rfl, rfl, hc0, hc1, G, L, HS, V, hB⟩ := hrel
    by_cases h1 : j < l1
    · obtain ⟨x, hx, X⟩ : ∃ x, wr.cell? ⟨g1, j, none⟩ = some (.int .u64 x) ∧ Hid (x = xs.getD j 0) := ⟨_, (hB.cell (p := ⟨g1, j, none⟩) (BX.out h1)).trans (CX.out j h1), rfl⟩
      have hx0 : 0 ≤ x := by have := HX.out.at j; have := X.out; omega
      have hx1 : x < 4294967296 := by have := HX.out.at j; have := X.out; omega
      have h1' : (j : Int) < (l1 : Int) := by omega
      have G' := G.out
      rw [show l1 - j = (l1 - j - 1) + 1 by omega] at G'
      by_cases h2 : j < l2
      · skip
        obtain ⟨y, hy, Y⟩ : ∃ y, wr.cell? ⟨g2, j, none⟩ = some (.int .u64 y) ∧ Hid (y = ys.getD j 0) := ⟨_, (hB.cell (p := ⟨g2, j, none⟩) (BY.out h2)).trans (CY.out j h2), rfl⟩
        have hy0 : 0 ≤ y := by have := HY.out.at j; have := Y.out; omega
        have hy1 : y < 4294967296 := by have := HY.out.at j; have := Y.out; omega
        have h2' : (j : Int) < (l2 : Int) := by omega
        obtain ⟨o, ho, O⟩ : ∃ o, IntKind.u64.wrap (cc + y) = o ∧ Hid (o = cc + y) := ⟨_, by rw [IntKind.wrap_u64, Int.emod_eq_of_lt (by omega) (by omega)], rfl⟩
        have ho0 : 0 ≤ o := by have := O.out; omega
        have ho1 : o ≤ 4294967296 := by have := O.out; omega
        by_cases hd : x < o
        · skip
          obtain ⟨d, hd1, DD⟩ : ∃ d, IntKind.u64.wrap (x + 4294967296) = d ∧ Hid (d = x + 4294967296) := ⟨_, by rw [IntKind.wrap_u64, Int.emod_eq_of_lt (by omega) (by omega)], rfl⟩
          have hd2 : 4294967296 ≤ d := by have := DD.out; omega
          have hd3 : d < 8589934592 := by have := DD.out; omega
          obtain ⟨z, hz, Z⟩ : ∃ z, IntKind.u64.wrap (d - o) = z ∧ Hid (z = d - o) := ⟨_, by rw [IntKind.wrap_u64, Int.emod_eq_of_lt (by omega) (by omega)], rfl⟩
          have BZ : Hid (0 ≤ z ∧ z < 4294967296) := by have := Z.out; have := DD.out; show _ ∧ _; omega
          have ST : Hid (z + 4294967296 * (-1) = (-cc) + x + (-y)) := by have := Z.out; have := DD.out; have := O.out; show _ = _; omega
          obtain ⟨w2, ap, gr, be, sz⟩ := push64 g j (l1 - j - 1) l1 ss z wr L.out (by omega) G'
          have AP := hid ap
          have GR := hid gr
          have BE := hid (hB.trans be)
          clear ap gr be sz hB G G'
          go_wp2_with (at_builtin; refine wpList_append_row rfl _ _ rfl AP.out (by rfl) (by rfl) ?_; clear AP)
          go_roundw
          case rel =>
            refine ⟨j + 1, 1, ss ++ [z], by omega, by go_num, rfl, rfl, by omega, by omega, GR.out, ?_, HS.out.snoc BZ.out.1 BZ.out.2, ?_, BE.out⟩
            · have := L.out; simp only [Hid, List.length_append, List.length_cons, List.length_nil]; omega
            · exact Nm.less_step L.out V.out (by rw [← X.out, ← Y.out]; exact ST.out)
          case measure => simp [intOf]; omega
        · skip
          obtain ⟨z, hz, Z⟩ : ∃ z, IntKind.u64.wrap (x - o) = z ∧ Hid (z = x - o) := ⟨_, by rw [IntKind.wrap_u64, Int.emod_eq_of_lt (by omega) (by omega)], rfl⟩
          have BZ : Hid (0 ≤ z ∧ z < 4294967296) := by have := Z.out; show _ ∧ _; omega
          have ST : Hid (z + 4294967296 * (-0) = (-cc) + x + (-y)) := by have := Z.out; have := O.out; show _ = _; omega
          obtain ⟨w2, ap, gr, be, sz⟩ := push64 g j (l1 - j - 1) l1 ss z wr L.out (by omega) G'
          have AP := hid ap
          have GR := hid gr
          have BE := hid (hB.trans be)
          clear ap gr be sz hB G G'
          go_wp2_with (at_builtin; refine wpList_append_row rfl _ _ rfl AP.out (by rfl) (by rfl) ?_; clear AP)
          go_roundw
          case rel =>
            refine ⟨j + 1, 0, ss ++ [z], by omega, by go_num, rfl, rfl, by omega, by omega, GR.out, ?_, HS.out.snoc BZ.out.1 BZ.out.2, ?_, BE.out⟩
            · have := L.out; simp only [Hid, List.length_append, List.length_cons, List.length_nil]; omega
            · exact Nm.less_step L.out V.out (by rw [← X.out, ← Y.out]; exact ST.out)
          case measure => simp [intOf]; omega
      · skip
        obtain ⟨y, hy0, Y⟩ : ∃ y : Int, y = 0 ∧ Hid (y = ys.getD j 0) := ⟨0, rfl, by simp [Hid, List.getD, List.getElem?_eq_none (show ys.length ≤ j by have := LY.out; omega)]⟩
        have h2' : ¬ (j : Int) < (l2 : Int) := by omega
        have O : Hid (cc = cc + y) := by show _ = _; omega
        by_cases hd : x < cc
        · skip
          obtain ⟨d, hd1, DD⟩ : ∃ d, IntKind.u64.wrap (x + 4294967296) = d ∧ Hid (d = x + 4294967296) := ⟨_, by rw [IntKind.wrap_u64, Int.emod_eq_of_lt (by omega) (by omega)], rfl⟩
          have hd2 : 4294967296 ≤ d := by have := DD.out; omega
          have hd3 : d < 8589934592 := by have := DD.out; omega
          obtain ⟨z, hz, Z⟩ : ∃ z, IntKind.u64.wrap (d - cc) = z ∧ Hid (z = d - cc) := ⟨_, by rw [IntKind.wrap_u64, Int.emod_eq_of_lt (by omega) (by omega)], rfl⟩
          have BZ : Hid (0 ≤ z ∧ z < 4294967296) := by have := Z.out; have := DD.out; show _ ∧ _; omega
          have ST : Hid (z + 4294967296 * (-1) = (-cc) + x + (-y)) := by have := Z.out; have := DD.out; have := O.out; show _ = _; omega
          obtain ⟨w2, ap, gr, be, sz⟩ := push64 g j (l1 - j - 1) l1 ss z wr L.out (by omega) G'
          have AP := hid ap
          have GR := hid gr
          have BE := hid (hB.trans be)
          clear ap gr be sz hB G G'
          go_wp2_with (at_builtin; refine wpList_append_row rfl _ _ rfl AP.out (by rfl) (by rfl) ?_; clear AP)
          go_roundw
          case rel =>
            refine ⟨j + 1, 1, ss ++ [z], by omega, by go_num, rfl, rfl, by omega, by omega, GR.out, ?_, HS.out.snoc BZ.out.1 BZ.out.2, ?_, BE.out⟩
            · have := L.out; simp only [Hid, List.length_append, List.length_cons, List.length_nil]; omega
            · exact Nm.less_step L.out V.out (by rw [← X.out, ← Y.out]; exact ST.out)
          case measure => simp [intOf]; omega
        · skip
          obtain ⟨z, hz, Z⟩ : ∃ z, IntKind.u64.wrap (x - cc) = z ∧ Hid (z = x - cc) := ⟨_, by rw [IntKind.wrap_u64, Int.emod_eq_of_lt (by omega) (by omega)], rfl⟩
          have BZ : Hid (0 ≤ z ∧ z < 4294967296) := by have := Z.out; show _ ∧ _; omega
          have ST : Hid (z + 4294967296 * (-0) = (-cc) + x + (-y)) := by have := Z.out; have := O.out; show _ = _; omega
          obtain ⟨w2, ap, gr, be, sz⟩ := push64 g j (l1 - j - 1) l1 ss z wr L.out (by omega) G'
          have AP := hid ap
          have GR := hid gr
          have BE := hid (hB.trans be)
          clear ap gr be sz hB G G'
          go_wp2_with (at_builtin; refine wpList_append_row rfl _ _ rfl AP.out (by rfl) (by rfl) ?_; clear AP)
          go_roundw
          case rel =>
            refine ⟨j + 1, 0, ss ++ [z], by omega, by go_num, rfl, rfl, by omega, by omega, GR.out, ?_, HS.out.snoc BZ.out.1 BZ.out.2, ?_, BE.out⟩
            · have := L.out; simp only [Hid, List.length_append, List.length_cons, List.length_nil]; omega
            · exact Nm.less_step L.out V.out (by rw [← X.out, ← Y.out]; exact ST.out)
          case measure => simp [intOf]; omega
    · have h1' : ¬ (j : Int) < (l1 : Int) := by omega
      obtain rfl : j = l1 := by omega
      have D3 := hid (chain D2.out (by rw [Gg.out]; exact hB) (Nat.le_refl _))
      have VV : Hid (Nm.v32 ss = Nm.val za - Nm.val zb) := Nm.less_end L.out LX.out HS.out HY.out VX.out VY.out hc0 LE.out V.out
      have AG : Hid (Arg wr (some ⟨g, 0, none⟩) j j ss) := ⟨L.out, Nat.le_refl _, by omega, G.out.lies, HS.out.limbs⟩
      have hw3 : Hid (w.heap.size ≤ wr.heap.size) := D3.out.size
      clear hB G
      go_wp2_with fail
      refine (limbs_any _ j j ss _ AG.out HS.out).mono ?_
      rintro e w4 ⟨r, os, rfl, hA, hb⟩
      rw [VV.out] at hA
      have A4 := hid (hA.mono hw3.out)
      have D4 := hid (chain D3.out hb (Nat.le_refl _))
      clear hA hb
      go_wp2
      go_ret
      exact ⟨r, os, rfl, A4.out, D4.out⟩
end Go.Proofs.YtmglogncpfoldaaDoor
