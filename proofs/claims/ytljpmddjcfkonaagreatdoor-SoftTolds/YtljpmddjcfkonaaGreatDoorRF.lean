/-
  Texts put together: ZLess, YRef2, XOneA, YRef3, YRef4, YRef5, YRef6.
-/
import Derived.Test.YtljpmddjcfkonaaGreatDoorZRef3
import Derived.Test.YtljpmddjcfkonaaGreatDoorRB
import Derived.Test.YtljpmddjcfkonaaGreatDoorRE
import Derived.Deep.Cut
import Derived.Test.YtljpmddjcfkonaaGreatDoorRC
import Derived.Test.YtljpmddjcfkonaaGreatDoorRD
import Derived.Deep.RegionHeld3
namespace Go.Proofs.YtljpmddjcfkonaaGreatDoor
open Go.RowKit Go.Deep

namespace Nm
theorem v32_lt : ∀ zs : List Int, Halves zs → v32 zs < p32 zs.length
  | [], _ => by simp [v32, p32]
  | z :: zs, h => by
    have h1 := v32_lt zs (fun x hx => h x (List.mem_cons_of_mem _ hx))
    have h2 := h z List.mem_cons_self
    simp only [v32, List.length_cons, p32]
    omega

theorem v32_split : ∀ (zs : List Int) (k : Nat), v32 zs = v32 (zs.take k) + p32 k * v32 (zs.drop k)
  | zs, 0 => by simp [v32, p32]
  | [], k + 1 => by simp [v32]
  | z :: zs, k + 1 => by
    have := v32_split zs k
    simp only [List.take_succ_cons, List.drop_succ_cons, v32, p32]
    rw [Int.mul_assoc]
    omega

theorem Halves.drop {zs : List Int} (h : Halves zs) (k : Nat) : Halves (zs.drop k) := fun z hz => h z (List.mem_of_mem_drop hz)

theorem less_step {ss xs ys : List Int} {j : Nat} {c c' lo : Int} (hl : ss.length = j) (h : v32 ss + p32 j * (-c) = v32 (xs.take j) - v32 (ys.take j)) (hs : lo + 4294967296 * (-c') = (-c) + xs.getD j 0 + (-ys.getD j 0)) :
    v32 (ss ++ [lo]) + p32 (j + 1) * (-c') = v32 (xs.take (j + 1)) - v32 (ys.take (j + 1)) := by
  rw [v32_snoc, v32_take_next, v32_take_next, hl]
  have e : p32 j * (lo + 4294967296 * (-c')) = p32 j * ((-c) + xs.getD j 0 + (-ys.getD j 0)) := by rw [hs]
  rw [Int.mul_add, Int.mul_add, Int.mul_add, Int.mul_neg (p32 j) (ys.getD j 0)] at e
  have e2 : p32 (j + 1) * (-c') = p32 j * (4294967296 * (-c')) := by simp only [p32]; rw [Int.mul_comm 4294967296 (p32 j), Int.mul_assoc]
  omega

theorem less_end {ss xs ys : List Int} {l : Nat} {c A B : Int} (hl : ss.length = l) (hx : xs.length = l) (hs : Halves ss) (hy : Halves ys) (vx : v32 xs = A) (vy : v32 ys = B) (hc : 0 ≤ c) (hle : B ≤ A) (h : v32 ss + p32 l * (-c) = v32 (xs.take l) - v32 (ys.take l)) : v32 ss = A - B := by
  rw [List.take_of_length_le (by omega), vx] at h
  have h1 := v32_split ys l
  have h2 := v32_lt ss hs
  have h3 := v32_nonneg _ (hy.drop l)
  have h4 := p32_pos l
  rw [hl] at h2
  rw [vy] at h1
  rw [Int.mul_neg] at h
  obtain ⟨r, hr⟩ : ∃ r, v32 (ys.drop l) = r := ⟨_, rfl⟩
  rw [hr] at h1 h3
  have e : p32 l * (c + r) = p32 l * c + p32 l * r := Int.mul_add _ _ _
  have h5 : c + r = 0 := by
    rcases (show c + r = 0 ∨ 1 ≤ c + r by omega) with h6 | h6
    · exact h6
    · have h7 : p32 l * 1 ≤ p32 l * (c + r) := Int.mul_le_mul_of_nonneg_left h6 (by omega)
      omega
  rw [h5, Int.mul_zero] at e
  omega
end Nm

set_option maxRecDepth 20000 in
set_option maxHeartbeats 4000000 in
theorem less_any (p q : Option Addr) (n cap m cap' : Nat) (za zb : List Int) (w : World) (ha : Arg w p n cap za) (hb : Arg w q m cap' zb) (hn : Nm.tsize za ≤ 1099511627776) (hle : Nm.val zb ≤ Nm.val za) :
    Calls Tryz.prog 44 #[.slice p n cap, .slice q m cap'] w fun e w' => ∃ r os, e = .returned (.slice r (List.length os) (List.length os)) ∧ Ans w.heap.size w' r os (Nm.val za - Nm.val zb) ∧ Below w.heap.size w w' := by
  have LE := hid hle
  clear hle
  have HA := hid ha
  have HB0 := hid hb
  clear ha hb
  go_enter Tryz.func44, Tryz.ntmps44
  go_wp2_with fail
  refine (halves_any p n cap za _ HA.out (by have := HA.out.2.1; have := HA.out.2.2.1; omega)).mono ?_
  rintro e w1 ⟨xs, rfl, lx, hx, vx, kx, bx⟩
  have HB1 := hid (HB0.out.below bx (Nat.le_refl _))
  have D1 := hid bx
  obtain ⟨l1, LX⟩ : ∃ l1, Hid (xs.length = l1) := ⟨_, rfl⟩
  have LX0 := hid lx
  have HX := hid hx
  have VX := hid vx
  have kx1 : l1 ≤ 2 * Nm.tsize za := by have := LX.out; omega
  rw [LX.out]
  clear lx hx vx kx bx HB0
  go_wp2_with fail
  refine (halves_any q m cap' zb _ HB1.out (by have := HB1.out.2.1; have := HB1.out.2.2.1; omega)).mono ?_
  rintro e w2 ⟨ys, rfl, ly, hy, vy, ky, by_⟩
  have D2 := hid (chain D1.out by_ (Nat.le_refl _))
  obtain ⟨l2, LY⟩ : ∃ l2, Hid (ys.length = l2) := ⟨_, rfl⟩
  have HY := hid hy
  have VY := hid vy
  have ky1 : l2 ≤ 2 * Nm.tsize zb := by have := LY.out; omega
  obtain ⟨g1, G1⟩ : ∃ g1, w.heap.size = g1 := ⟨_, rfl⟩
  obtain ⟨g2, G2⟩ : ∃ g2, w1.heap.size = g2 := ⟨_, rfl⟩
  have LX2 := LX0.out.below by_ (Nat.le_refl _)
  rw [G1] at LX2
  have ly2 := ly
  rw [G2] at ly2
  have CX : Hid (∀ i, i < l1 → w2.cell? ⟨g1, i, none⟩ = some (.int .u64 (xs.getD i 0))) := fun i hi => by have := LX2.cells i (by have := LX.out; omega); rwa [Nat.zero_add] at this
  have CY : Hid (∀ i, i < l2 → w2.cell? ⟨g2, i, none⟩ = some (.int .u64 (ys.getD i 0))) := fun i hi => by have := ly2.cells i (by have := LY.out; omega); rwa [Nat.zero_add] at this
  obtain ⟨g, Gg⟩ : ∃ g, Hid (w2.heap.size = g) := ⟨_, rfl⟩
  have BX : Hid (∀ {j : Nat}, j < l1 → g1 < g) := fun {j} hj => by rw [← Gg.out]; exact cell_lt (CX.out j hj)
  have BY : Hid (∀ {j : Nat}, j < l2 → g2 < g) := fun {j} hj => by rw [← Gg.out]; exact cell_lt (CY.out j hj)
  rw [LY.out, G1, G2]
  clear ly hy vy ky by_ LX0 LX2 ly2 HB1 D1 G2
  have hmk := make64_room l1 (by omega) w2
  rw [Gg.out] at hmk
  have bm := hid ((Below.refl w2.heap.size w2).alloc (Nat.le_refl _) (.cells (madeCells #[.int .u64 0] l1) 23))
  have gm := hid (Grown.made w2 l1)
  rw [Gg.out] at bm gm
  generalize w2.alloc (.cells (madeCells #[.int .u64 0] l1) 23) = wm at hmk bm gm
  go_wp2
  clear hmk
  go_loopw [7, 8, 9] (fun a c i wr => ∃ (j : Nat) (cc : Int) (ss : List Int), j ≤ l1 ∧ i = .int .i64 j ∧ a = .slice (some ⟨g, 0, none⟩) j l1 ∧ c = .int .u64 cc ∧ 0 ≤ cc ∧ cc ≤ 1 ∧ Hid (Grown wr g ss (l1 - j)) ∧ Hid (ss.length = j) ∧ Hid (Nm.Halves ss) ∧ Hid (Nm.v32 ss + Nm.p32 j * (-cc) = Nm.v32 (xs.take j) - Nm.v32 (ys.take j)) ∧ Below g w2 wr) (fun _ _ i _ => l1 - (intOf i).toNat)
  case atStart => exact ⟨0, 0, [], Nat.zero_le _, rfl, rfl, rfl, by omega, by omega, gm.out, rfl, Nm.Halves.nil, rfl, bm.out⟩
  case round =>
    obtain ⟨j, cc, ss, hj, rfl, rfl, rfl, hc0, hc1, G, L, HS, V, hB⟩ := hrel
    by_cases h1 : j < l1
    · obtain ⟨x, hx, X⟩ : ∃ x, wr.cell? ⟨g1, j, none⟩ = some (.int .u64 x) ∧ Hid (x = xs.getD j 0) := ⟨_, (hB.cell (p := ⟨g1, j, none⟩) (BX.out h1)).trans (CX.out j h1), rfl⟩
      have hx0 : 0 ≤ x := by have := HX.out.at j; have := X.out; omega
      have hx1 : x < 4294967296 := by have := HX.out.at j; have := X.out; omega
      have h1' : (j : Int) < (l1 : Int) := by omega
      have G' := G.out
      rw [show l1 - j = (l1 - j - 1) + 1 by omega] at G'
      by_cases h2 : j < l2
      · skip
        obtain ⟨y, hy, Y⟩ : ∃ y, wr.cell? ⟨g2, j, none⟩ = some (.int .u64 y) ∧ Hid (y = ys.getD j 0) := ⟨_, (hB.cell (p := ⟨g2, j, none⟩) (BY.out h2)).trans (CY.out j h2), rfl⟩
        have hy0 : 0 ≤ y := by have := HY.out.at j; have := Y.out; omega
        have hy1 : y < 4294967296 := by have := HY.out.at j; have := Y.out; omega
        have h2' : (j : Int) < (l2 : Int) := by omega
        obtain ⟨o, ho, O⟩ : ∃ o, IntKind.u64.wrap (cc + y) = o ∧ Hid (o = cc + y) := ⟨_, by rw [IntKind.wrap_u64, Int.emod_eq_of_lt (by omega) (by omega)], rfl⟩
        have ho0 : 0 ≤ o := by have := O.out; omega
        have ho1 : o ≤ 4294967296 := by have := O.out; omega
        by_cases hd : x < o
        · skip
          obtain ⟨d, hd1, DD⟩ : ∃ d, IntKind.u64.wrap (x + 4294967296) = d ∧ Hid (d = x + 4294967296) := ⟨_, by rw [IntKind.wrap_u64, Int.emod_eq_of_lt (by omega) (by omega)], rfl⟩
          have hd2 : 4294967296 ≤ d := by have := DD.out; omega
          have hd3 : d < 8589934592 := by have := DD.out; omega
          obtain ⟨z, hz, Z⟩ : ∃ z, IntKind.u64.wrap (d - o) = z ∧ Hid (z = d - o) := ⟨_, by rw [IntKind.wrap_u64, Int.emod_eq_of_lt (by omega) (by omega)], rfl⟩
          have BZ : Hid (0 ≤ z ∧ z < 4294967296) := by have := Z.out; have := DD.out; show _ ∧ _; omega
          have ST : Hid (z + 4294967296 * (-1) = (-cc) + x + (-y)) := by have := Z.out; have := DD.out; have := O.out; show _ = _; omega
          obtain ⟨w2, ap, gr, be, sz⟩ := push64 g j (l1 - j - 1) l1 ss z wr L.out (by omega) G'
          have AP := hid ap
          have GR := hid gr
          have BE := hid (hB.trans be)
          clear ap gr be sz hB G G'
          go_wp2_with (at_builtin; refine wpList_append_row rfl _ _ rfl AP.out (by rfl) (by rfl) ?_; clear AP)
          go_roundw
          case rel =>
            refine ⟨j + 1, 1, ss ++ [z], by omega, by go_num, rfl, rfl, by omega, by omega, GR.out, ?_, HS.out.snoc BZ.out.1 BZ.out.2, ?_, BE.out⟩
            · have := L.out; simp only [Hid, List.length_append, List.length_cons, List.length_nil]; omega
            · exact Nm.less_step L.out V.out (by rw [← X.out, ← Y.out]; exact ST.out)
          case measure => simp [intOf]; omega
        · skip
          obtain ⟨z, hz, Z⟩ : ∃ z, IntKind.u64.wrap (x - o) = z ∧ Hid (z = x - o) := ⟨_, by rw [IntKind.wrap_u64, Int.emod_eq_of_lt (by omega) (by omega)], rfl⟩
          have BZ : Hid (0 ≤ z ∧ z < 4294967296) := by have := Z.out; show _ ∧ _; omega
          have ST : Hid (z + 4294967296 * (-0) = (-cc) + x + (-y)) := by have := Z.out; have := O.out; show _ = _; omega
          obtain ⟨w2, ap, gr, be, sz⟩ := push64 g j (l1 - j - 1) l1 ss z wr L.out (by omega) G'
          have AP := hid ap
          have GR := hid gr
          have BE := hid (hB.trans be)
          clear ap gr be sz hB G G'
          go_wp2_with (at_builtin; refine wpList_append_row rfl _ _ rfl AP.out (by rfl) (by rfl) ?_; clear AP)
          go_roundw
          case rel =>
            refine ⟨j + 1, 0, ss ++ [z], by omega, by go_num, rfl, rfl, by omega, by omega, GR.out, ?_, HS.out.snoc BZ.out.1 BZ.out.2, ?_, BE.out⟩
            · have := L.out; simp only [Hid, List.length_append, List.length_cons, List.length_nil]; omega
            · exact Nm.less_step L.out V.out (by rw [← X.out, ← Y.out]; exact ST.out)
          case measure => simp [intOf]; omega
      · skip
        obtain ⟨y, hy0, Y⟩ : ∃ y : Int, y = 0 ∧ Hid (y = ys.getD j 0) := ⟨0, rfl, by simp [Hid, List.getD, List.getElem?_eq_none (show ys.length ≤ j by have := LY.out; omega)]⟩
        have h2' : ¬ (j : Int) < (l2 : Int) := by omega
        have O : Hid (cc = cc + y) := by show _ = _; omega
        by_cases hd : x < cc
        · skip
          obtain ⟨d, hd1, DD⟩ : ∃ d, IntKind.u64.wrap (x + 4294967296) = d ∧ Hid (d = x + 4294967296) := ⟨_, by rw [IntKind.wrap_u64, Int.emod_eq_of_lt (by omega) (by omega)], rfl⟩
          have hd2 : 4294967296 ≤ d := by have := DD.out; omega
          have hd3 : d < 8589934592 := by have := DD.out; omega
          obtain ⟨z, hz, Z⟩ : ∃ z, IntKind.u64.wrap (d - cc) = z ∧ Hid (z = d - cc) := ⟨_, by rw [IntKind.wrap_u64, Int.emod_eq_of_lt (by omega) (by omega)], rfl⟩
          have BZ : Hid (0 ≤ z ∧ z < 4294967296) := by have := Z.out; have := DD.out; show _ ∧ _; omega
          have ST : Hid (z + 4294967296 * (-1) = (-cc) + x + (-y)) := by have := Z.out; have := DD.out; have := O.out; show _ = _; omega
          obtain ⟨w2, ap, gr, be, sz⟩ := push64 g j (l1 - j - 1) l1 ss z wr L.out (by omega) G'
          have AP := hid ap
          have GR := hid gr
          have BE := hid (hB.trans be)
          clear ap gr be sz hB G G'
          go_wp2_with (at_builtin; refine wpList_append_row rfl _ _ rfl AP.out (by rfl) (by rfl) ?_; clear AP)
          go_roundw
          case rel =>
            refine ⟨j + 1, 1, ss ++ [z], by omega, by go_num, rfl, rfl, by omega, by omega, GR.out, ?_, HS.out.snoc BZ.out.1 BZ.out.2, ?_, BE.out⟩
            · have := L.out; simp only [Hid, List.length_append, List.length_cons, List.length_nil]; omega
            · exact Nm.less_step L.out V.out (by rw [← X.out, ← Y.out]; exact ST.out)
          case measure => simp [intOf]; omega
        · skip
          obtain ⟨z, hz, Z⟩ : ∃ z, IntKind.u64.wrap (x - cc) = z ∧ Hid (z = x - cc) := ⟨_, by rw [IntKind.wrap_u64, Int.emod_eq_of_lt (by omega) (by omega)], rfl⟩
          have BZ : Hid (0 ≤ z ∧ z < 4294967296) := by have := Z.out; show _ ∧ _; omega
          have ST : Hid (z + 4294967296 * (-0) = (-cc) + x + (-y)) := by have := Z.out; have := O.out; show _ = _; omega
          obtain ⟨w2, ap, gr, be, sz⟩ := push64 g j (l1 - j - 1) l1 ss z wr L.out (by omega) G'
          have AP := hid ap
          have GR := hid gr
          have BE := hid (hB.trans be)
          clear ap gr be sz hB G G'
          go_wp2_with (at_builtin; refine wpList_append_row rfl _ _ rfl AP.out (by rfl) (by rfl) ?_; clear AP)
          go_roundw
          case rel =>
            refine ⟨j + 1, 0, ss ++ [z], by omega, by go_num, rfl, rfl, by omega, by omega, GR.out, ?_, HS.out.snoc BZ.out.1 BZ.out.2, ?_, BE.out⟩
            · have := L.out; simp only [Hid, List.length_append, List.length_cons, List.length_nil]; omega
            · exact Nm.less_step L.out V.out (by rw [← X.out, ← Y.out]; exact ST.out)
          case measure => simp [intOf]; omega
    · have h1' : ¬ (j : Int) < (l1 : Int) := by omega
      obtain rfl : j = l1 := by omega
      have D3 := hid (chain D2.out (by rw [Gg.out]; exact hB) (Nat.le_refl _))
      have VV : Hid (Nm.v32 ss = Nm.val za - Nm.val zb) := Nm.less_end L.out LX.out HS.out HY.out VX.out VY.out hc0 LE.out V.out
      have AG : Hid (Arg wr (some ⟨g, 0, none⟩) j j ss) := ⟨L.out, Nat.le_refl _, by omega, G.out.lies, HS.out.limbs⟩
      have hw3 : Hid (w.heap.size ≤ wr.heap.size) := D3.out.size
      clear hB G
      go_wp2_with fail
      refine (rlimbs_any _ j j ss _ AG.out HS.out).mono ?_
      rintro e w4 ⟨r, os, rfl, hA, hb⟩
      rw [VV.out] at hA
      have A4 := hid (hA.mono hw3.out)
      have D4 := hid (chain D3.out hb (Nat.le_refl _))
      clear hA hb
      go_wp2
      go_ret
      exact ⟨r, os, rfl, A4.out, D4.out⟩
end Go.Proofs.YtljpmddjcfkonaaGreatDoor

namespace Go.Proofs.YtljpmddjcfkonaaGreatDoor
open Go Go.RowKit Go.Deep

theorem bel {a b c : World} (h : Below a.heap.size a b) (k : Below b.heap.size b c) : Below a.heap.size a c := h.trans (k.mono h.size)

/-- The room for an answer. -/
def RT (w wx : World) (v0 v1 v2 v3 : Value) : Prop := Below w.heap.size w wx ∧ Row4 wx w.heap.size 41 v0 v1 v2 v3
theorem RT.new (w : World) (v0 v1 v2 v3 : Value) : RT w (w.alloc (.cells #[v0, v1, v2, v3] 41)) v0 v1 v2 v3 := ⟨alloc_b _ _, Row4.new _ _ _ _ _ _⟩
theorem RT.on {w wx wy : World} {v0 v1 v2 v3 : Value} (h : RT w wx v0 v1 v2 v3) (k : Below wx.heap.size wx wy) : RT w wy v0 v1 v2 v3 := ⟨bel h.1 k, h.2.below k h.2.lt⟩
theorem RT.put {w wx : World} {v0 v1 v2 v3 : Value} (h : RT w wx v0 v1 v2 v3) (u0 u1 u2 u3 : Value) : RT w ((((wx.setCell ⟨w.heap.size, 0, none⟩ u0).setCell ⟨w.heap.size, 1, none⟩ u1).setCell ⟨w.heap.size, 2, none⟩ u2).setCell ⟨w.heap.size, 3, none⟩ u3) u0 u1 u2 u3 :=
  ⟨(((h.1.setCell (p := ⟨w.heap.size, 0, none⟩) (Nat.le_refl _) _).setCell (p := ⟨w.heap.size, 1, none⟩) (Nat.le_refl _) _).setCell (p := ⟨w.heap.size, 2, none⟩) (Nat.le_refl _) _).setCell (p := ⟨w.heap.size, 3, none⟩) (Nat.le_refl _) _, h.2.set⟩
theorem al1 (w : World) (A B C : Obj) : (((w.alloc A).alloc B).alloc C).heap[w.heap.size + 1]? = some B := by
  have h := heap_alloc2_old (w.alloc A) B C
  rwa [show (w.alloc A).heap.size = w.heap.size + 1 from Array.size_push _] at h
theorem al2 (w : World) (A B C : Obj) : (((w.alloc A).alloc B).alloc C).heap[w.heap.size + 1 + 1]? = some C := by
  have h := heap_alloc2_new (w.alloc A) B C
  rwa [show (w.alloc A).heap.size = w.heap.size + 1 from Array.size_push _] at h

theorem cell_far {w : World} {b b' o o' : Nat} {v : Value} (h : b' ≠ b) : (w.setCell ⟨b', o', none⟩ v).cell? ⟨b, o, none⟩ = w.cell? ⟨b, o, none⟩ := by
  simp only [World.cell?, World.setCell, Array.getElem?_modify]
  rw [if_neg h]

theorem put_arg {w wx : World} (u0 u1 u2 u3 : Value) {p : Option Addr} {n c : Nat} {zs : List Int} (a : Arg wx p n c zs) (hp : ∀ x, p = some x → x.block ≠ w.heap.size) :
    Arg ((((wx.setCell ⟨w.heap.size, 0, none⟩ u0).setCell ⟨w.heap.size, 1, none⟩ u1).setCell ⟨w.heap.size, 2, none⟩ u2).setCell ⟨w.heap.size, 3, none⟩ u3) p n c zs := by
  refine ⟨a.1, a.2.1, a.2.2.1, ?_, a.2.2.2.2⟩
  rcases a.2.2.2.1 with g | ⟨b, off, rfl, g⟩
  · exact .inl g
  · refine .inr ⟨b, off, rfl, fun i hi => ?_⟩
    have ne : b ≠ w.heap.size := hp _ rfl
    rw [cell_far (Ne.symm ne), cell_far (Ne.symm ne), cell_far (Ne.symm ne), cell_far (Ne.symm ne)]
    exact g i hi

set_option maxRecDepth 100000 in
set_option maxHeartbeats 1000000 in
theorem yof_any (d : Int) (w : World) (h0 : 0 ≤ d) (h1 : d < 18446744073709551616) (hm : 0 ≤ Ie.dm d ∧ Ie.dm d < 9007199254740992) :
    Calls Tryz.prog 22 #[.int .u64 d] w fun r w' => NumTold5 (Ie.ngd d) (Ie.dm d) 1 (Ie.de d) w r w' := by
  have Z := hid (RT.new w (.bool false) (.slice none 0 0) (.slice none 0 0) (.int .i64 0))
  have DC := hid (fun wx => zdecode_any d wx h0 h1)
  rw [show decide (9223372036854775808 ≤ d) = Ie.ngd d from rfl] at DC
  unfold partsOf at DC
  obtain ⟨m0, m1⟩ := hm
  obtain ⟨M, hM⟩ : ∃ M, Ie.dm d = M := ⟨_, rfl⟩
  obtain ⟨ee, hE⟩ : ∃ ee, Ie.de d = ee := ⟨_, rfl⟩
  obtain ⟨ng, hN⟩ : ∃ ng, Ie.ngd d = ng := ⟨_, rfl⟩
  obtain ⟨cc, hC⟩ : ∃ cc, Ie.cls d = cc := ⟨_, rfl⟩
  rw [hM, hE, hN, hC] at DC
  rw [hM] at m0 m1
  have HH := hid (And.intro hM (And.intro hE hN))
  clear hM hE hN hC
  go_enter Tryz.func22, Tryz.ntmps22
  go_wp2_with fail
  refine (DC.out _).mono ?_
  rintro r w1 ⟨rfl, hB⟩
  have Z1 := hid (Z.out.on hB)
  clear hB Z DC
  have Z3 := hid (Z1.out.on (bel (bel (alloc_b w1 (.cells #[.bool ng, .int .i64 cc, .int .u64 M, .int .i64 ee] 64)) (alloc_b _ (.cells #[.int .u64 M] 23))) (alloc_b _ (.cells #[.int .u64 1] 23))))
  obtain ⟨⟨p0, p1, p2, p3⟩, q0, q1, q2, q3⟩ := Z3.out.2.cells
  have lt := Z1.out.2.lt
  have A1 : Hid (Arg (((w1.alloc (.cells #[.bool ng, .int .i64 cc, .int .u64 M, .int .i64 ee] 64)).alloc (.cells #[.int .u64 M] 23)).alloc (.cells #[.int .u64 1] 23)) (some ⟨w1.heap.size + 1, 0, none⟩) 1 1 [M]) := arg_z (al1 _ _ _ _) m0 (by omega)
  have A2 : Hid (Arg (((w1.alloc (.cells #[.bool ng, .int .i64 cc, .int .u64 M, .int .i64 ee] 64)).alloc (.cells #[.int .u64 M] 23)).alloc (.cells #[.int .u64 1] 23)) (some ⟨w1.heap.size + 1 + 1, 0, none⟩) 1 1 [1]) := arg_z (al2 _ _ _ _) (by omega) (by omega)
  have ne1 : w1.heap.size + 1 ≠ w.heap.size := by omega
  have ne2 : w1.heap.size + 1 + 1 ≠ w.heap.size := by omega
  go_wp2_with fail
  (try simp only [Exit.inBlock, Exit.then])
  refine bodyPost_ret (results_cell_row rfl _ _ w.heap.size 41 _ (0, 0) _ rfl (Z3.out.put _ _ _ _).2 Tryz.underlying41 rfl (by kernel_rfl)) rfl ?_
  refine ⟨_, rfl, ?_, (Z3.out.put _ _ _ _).1⟩
  rw [HH.out.1, HH.out.2.1, HH.out.2.2]
  exact ⟨_, _, _, _, _, _, [M], [1], rfl, put_arg _ _ _ _ A1.out (fun x hx => by cases hx; exact ne1), by simp [Nm.val], Nat.le_trans (Nm.tsize_le _) (by simp), put_arg _ _ _ _ A2.out (fun x hx => by cases hx; exact ne2), by simp [Nm.val], Nat.le_trans (Nm.tsize_le _) (by simp), fun x hx => by cases hx; simp only; omega, fun x hx => by cases hx; simp only; omega⟩

theorem Arg.far {w : World} {p : Option Addr} {n c : Nat} {zs : List Int} (a : Arg w p n c zs) {wx : World} (b : Below w.heap.size w wx) (u0 u1 u2 u3 : Value) :
    Arg ((((wx.setCell ⟨w.heap.size, 0, none⟩ u0).setCell ⟨w.heap.size, 1, none⟩ u1).setCell ⟨w.heap.size, 2, none⟩ u2).setCell ⟨w.heap.size, 3, none⟩ u3) p n c zs := by
  have bb : Below w.heap.size w ((((wx.setCell ⟨w.heap.size, 0, none⟩ u0).setCell ⟨w.heap.size, 1, none⟩ u1).setCell ⟨w.heap.size, 2, none⟩ u2).setCell ⟨w.heap.size, 3, none⟩ u3) := (((b.setCell (p := ⟨w.heap.size, 0, none⟩) (Nat.le_refl _) _).setCell (p := ⟨w.heap.size, 1, none⟩) (Nat.le_refl _) _).setCell (p := ⟨w.heap.size, 2, none⟩) (Nat.le_refl _) _).setCell (p := ⟨w.heap.size, 3, none⟩) (Nat.le_refl _) _
  exact a.below bb (Nat.le_refl _)

theorem yof2 (d : Int) (ng : Bool) (M ee : Int) (w : World) (h0 : 0 ≤ d) (h1 : d < 18446744073709551616) (hN : Ie.ngd d = ng) (hM : Ie.dm d = M) (hE : Ie.de d = ee) (m0 : 0 ≤ M) (m1 : M < 9007199254740992) :
    Calls Tryz.prog 22 #[.int .u64 d] w fun r w' => NumTold5 ng M 1 ee w r w' := by
  subst hN hM hE
  exact yof_any d w h0 h1 ⟨m0, m1⟩

set_option maxRecDepth 100000 in
set_option maxHeartbeats 2000000 in
theorem yratio_any (a b : Int) (na nb : Bool) (Ma Mb ea eb : Int) (w : World)
    (OA : ∀ wx, Calls Tryz.prog 22 #[.int .u64 a] wx fun r w' => NumTold5 na Ma 1 ea wx r w') (OB : ∀ wx, Calls Tryz.prog 22 #[.int .u64 b] wx fun r w' => NumTold5 nb Mb 1 eb wx r w')
    (e0 : -2000 ≤ ea) (e1 : ea ≤ 2000) (f0 : -2000 ≤ eb) (f1 : eb ≤ 2000) :
    Calls Tryz.prog 109 #[.int .u64 a, .int .u64 b] w fun r w' => NumTold5 (na != nb) Ma Mb (ea - eb) w r w' := by
  have Z := hid (RT.new w (.bool false) (.slice none 0 0) (.slice none 0 0) (.int .i64 0))
  have HA := hid OA
  have HB := hid OB
  clear OA OB
  go_enter Tryz.func109, Tryz.ntmps109
  go_wp2_with fail
  refine (HA.out _).mono ?_
  rintro r w1 ⟨v, rfl, ⟨p, n, c, q, m, d, zs, ys, rfl, h2, h3, h4, h5, h6, h7, h8, h9⟩, hB⟩
  have Z1 := hid (Z.out.on hB)
  have Z2 := hid (Z1.out.on (alloc_b w1 (.cells #[.bool na, .slice p n c, .slice q m d, .int .i64 ea] 41)))
  have R2 := hid (Row4.new w1 41 (.bool na) (.slice p n c) (.slice q m d) (.int .i64 ea))
  have l1 := Z1.out.2.lt
  have AA := hid (And.intro (h2.below (alloc_b w1 (.cells #[.bool na, .slice p n c, .slice q m d, .int .i64 ea] 41)) (Nat.le_refl _)) (And.intro h3 h4))
  have PB : Hid (∀ x, p = some x → w.heap.size < x.block) := fun x hx => by
    have h := h8 x hx
    have k := Z.out.2.lt
    omega
  have BB := hid Z.out.2.lt
  clear hB h2 h3 h4 h5 h6 h7 h8 h9 Z Z1 HA
  go_upto_region 2 with fail
  generalize (w1.alloc (.cells #[.bool na, .slice p n c, .slice q m d, .int .i64 ea] 41)) = w2 at *
  generalize w1.heap.size = g1 at *
  go_wp2_with fail
  refine (HB.out _).mono ?_
  rintro r w3 ⟨v, rfl, ⟨p', n', c', q', m', d', zs', ys', rfl, h2, h3, h4, h5, h6, h7, h8, h9⟩, hB⟩
  have l2 := R2.out.lt
  have Z3 := hid ((Z2.out.on hB).on (alloc_b w3 (.cells #[.bool nb, .slice p' n' c', .slice q' m' d', .int .i64 eb] 41)))
  have R3 := hid ((R2.out.below hB l2).below (alloc_b w3 (.cells #[.bool nb, .slice p' n' c', .slice q' m' d', .int .i64 eb] 41)) (Nat.lt_of_lt_of_le l2 hB.size))
  have A3 := hid (And.intro ((AA.out.1.below hB (Nat.le_refl _)).below (alloc_b w3 (.cells #[.bool nb, .slice p' n' c', .slice q' m' d', .int .i64 eb] 41)) (Nat.le_refl _)) AA.out.2)
  have A4 := hid (And.intro (h2.below (alloc_b w3 (.cells #[.bool nb, .slice p' n' c', .slice q' m' d', .int .i64 eb] 41)) (Nat.le_refl _)) (And.intro h3 h4))
  have PC : Hid (∀ x, p' = some x → w.heap.size < x.block) := fun x hx => by
    have h := h8 x hx
    have k := Z2.out.2.lt
    omega
  obtain ⟨⟨p0, p1, p2, p3⟩, q0, q1, q2, q3⟩ := Z3.out.2.cells
  obtain ⟨⟨s0, s1, s2, s3⟩, -⟩ := R3.out.cells
  clear h2 h3 h4 h5 h6 h7 h8 h9 AA Z2 R2 HB
  go_wp2_with fail
  (try simp only [Exit.inBlock, Exit.then])
  refine bodyPost_ret (results_cell_row rfl _ _ w.heap.size 41 _ (0, 0) _ rfl (Z3.out.put _ _ _ _).2 Tryz.underlying41 rfl (by kernel_rfl)) rfl ?_
  exact ⟨_, rfl, ⟨_, _, _, _, _, _, zs, zs', rfl, put_arg _ _ _ _ A3.out.1 (fun x hx => Nat.ne_of_gt (PB.out x hx)), A3.out.2.1, A3.out.2.2, put_arg _ _ _ _ A4.out.1 (fun x hx => Nat.ne_of_gt (PC.out x hx)), A4.out.2.1, A4.out.2.2, fun x hx => Nat.le_of_lt (PB.out x hx), fun x hx => Nat.le_of_lt (PC.out x hx)⟩, (Z3.out.put _ _ _ _).1⟩
end Go.Proofs.YtljpmddjcfkonaaGreatDoor

/-
  What add, mul and div answer is one double (without fma).
-/
namespace Go.Proofs.YtljpmddjcfkonaaGreatDoor
open Go Go.RowKit Go.Deep

namespace Ie
theorem kindk (d : Int) : isn d = true ∨ (isn d = false ∧ isi d = true) ∨ (isn d = false ∧ isi d = false ∧ fin d) := by
  cases h : isn d
  · cases k : isi d
    · exact .inr (.inr ⟨rfl, rfl, fin_of h k⟩)
    · exact .inr (.inl ⟨rfl, rfl⟩)
  · exact .inl rfl

theorem AddIs.uniq {a b r r' f f' : Int} (h : AddIs a b r f) (k : AddIs a b r' f') : r' = r := by
  rcases kindk a with ha | ⟨ha, ia⟩ | ⟨ha, ia, fa⟩ <;> rcases kindk b with hb | ⟨hb, ib⟩ | ⟨hb, ib, fb⟩
  case inr.inr.inr.inr => exact (k.rs fa fb).one (by omega) (by omega) (h.rs fa fb) rfl
  case inr.inl.inr.inl =>
    rw [AddIs, ha, hb, ia, ib] at h k
    by_cases e : a = b
    · simp only [e, Bool.false_eq_true, or_self, if_false, ne_eq, not_true_eq_false, and_false, if_true] at h k; omega
    · simp only [e, Bool.false_eq_true, or_self, if_false, ne_eq, not_false_eq_true, and_self, if_true] at h k; omega
  all_goals
    rw [AddIs] at h k
    simp_all
    try omega

theorem Res.uniq {neg more : Bool} {V e r r' f f' : Int} (h : Res neg V e more r f) (k : Res neg V e more r' f') : r' = r := by
  obtain ⟨x, t, L, rfl, _, hR, _⟩ := h
  obtain ⟨y, t', L', rfl, _, hR', _⟩ := k
  obtain ⟨a, b, hab, hN⟩ := hR.at
  have hp : (0 : Int) < 1 * 2 ^ b := by have := Nm.two_pos b; omega
  rw [(hR' a b hab).one hp hp hN rfl]

theorem MulIs.uniq {a b r r' f f' : Int} (h : MulIs a b r f) (k : MulIs a b r' f') : r' = r := by
  unfold MulIs at h k
  split at h
  · rename_i g; rw [if_pos g] at k; rw [h.1, k.1]
  rename_i g; rw [if_neg g] at k
  split at h
  · rename_i g; rw [if_pos g] at k; rw [h.1, k.1]
  rename_i g; rw [if_neg g] at k
  split at h
  · rename_i g; rw [if_pos g] at k; rw [h.1, k.1]
  rename_i g; rw [if_neg g] at k
  exact h.uniq k

theorem DivIs.uniq {a b r r' f f' : Int} (h : DivIs a b r f) (k : DivIs a b r' f') : r' = r := by
  unfold DivIs at h k
  split at h
  · rename_i g; rw [if_pos g] at k; rw [h.1, k.1]
  rename_i g; rw [if_neg g] at k
  split at h
  · rename_i g; rw [if_pos g] at k; rw [h.1, k.1]
  rename_i g; rw [if_neg g] at k
  split at h
  · rename_i g; rw [if_pos g] at k; rw [h.1, k.1]
  rename_i g; rw [if_neg g] at k
  split at h
  · rename_i g; rw [if_pos g] at k; rw [h.1, k.1]
  rename_i g; rw [if_neg g] at k
  split at h
  · rename_i g; rw [if_pos g] at k; rw [h.1, k.1]
  rename_i g; rw [if_neg g] at k
  exact h.uniq k
end Ie
end Go.Proofs.YtljpmddjcfkonaaGreatDoor

namespace Go.Proofs.YtljpmddjcfkonaaGreatDoor
open Go Go.RowKit Go.Deep

namespace Ie
/-- What a division answers, whoever makes it: one double. -/
def DivR (a b r : Int) : Prop :=
  if isn a = true ∨ isn b = true then r = 9221120237041090560
  else if (isi a = true ∧ isi b = true) ∨ (isz a = true ∧ isz b = true) then r = 9221120237041090560
  else if isi a = true then r = sb (ngd a != ngd b) 9218868437227405312
  else if isi b = true then r = sb (ngd a != ngd b) 0
  else if isz b = true then r = sb (ngd a != ngd b) 9218868437227405312
  else RS (sn (ngd a != ngd b) (un (ab a) * 2 ^ 1074)) (un (ab b)) (ngd a != ngd b) r

theorem ydiv_near {a b x : Int} (fa : fin a) (fb : fin b) (hR : Rnd (dm a) (dm b) (de a - de b) false x) : Near (2 * (un (ab a) * 2 ^ 1074)) (un (ab b)) false x := by
  obtain ⟨⟨da0, da1⟩, ⟨ea0, ea1⟩, ga, za⟩ := dec_f a fa
  obtain ⟨⟨db0, db1⟩, ⟨eb0, eb1⟩, gb, zb⟩ := dec_f b fb
  obtain ⟨ka, hka⟩ : ∃ k : Nat, (k : Int) = de a + 1074 := ⟨(de a + 1074).toNat, by omega⟩
  obtain ⟨kb, hkb⟩ : ∃ k : Nat, (k : Int) = de b + 1074 := ⟨(de b + 1074).toNat, by omega⟩
  have hN := hR (ka + 1075) kb (by omega)
  rw [gb kb hkb] at hN
  have r : dm a * 2 ^ (ka + 1075) = 2 * (dm a * 2 ^ ka * 2 ^ 1074) := by
    rw [show ka + 1075 = (ka + 1074) + 1 by omega, Nm.two_succ, Nm.two_add]
    generalize (2 : Int) ^ 1074 = P
    generalize (2 : Int) ^ ka = R
    ac_rfl
  rw [r, ga ka hka] at hN
  exact hN

theorem DivIs.r {a b r f : Int} (h : DivIs a b r f) : DivR a b r := by
  unfold DivR
  unfold DivIs at h
  split
  · rename_i g; rw [if_pos g] at h; exact h.1
  rename_i g1; rw [if_neg g1] at h
  split
  · rename_i g; rw [if_pos g] at h; exact h.1
  rename_i g2; rw [if_neg g2] at h
  split
  · rename_i g; rw [if_pos g] at h; exact h.1
  rename_i g3; rw [if_neg g3] at h
  split
  · rename_i g; rw [if_pos g] at h; exact h.1
  rename_i g4; rw [if_neg g4] at h
  split
  · rename_i g; rw [if_pos g] at h; exact h.1
  rename_i g5; rw [if_neg g5] at h
  have fa : fin a := fin_of (by cases c : isn a; rfl; exact absurd (.inl c) g1) (by cases c : isi a; rfl; exact absurd c g3)
  have fb : fin b := fin_of (by cases c : isn b; rfl; exact absurd (.inr c) g1) (by cases c : isi b; rfl; exact absurd c g4)
  have hb : ab b ≠ 0 := fun c => g5 (by rw [isz, c]; rfl)
  obtain ⟨x, t, L, rfl, -, hR, -, -⟩ := h
  exact ⟨_, _, x, rfl, rfl, Int.mul_nonneg (un_nn (ab_bd a).1) (by have := Nm.two_pos 1074; omega), div_near fa fb hb hR, fun _ => rfl⟩

theorem DivR.one {a b r r' : Int} (h : DivR a b r) (k : DivR a b r') : r = r' := by
  unfold DivR at h k
  split at h
  · rename_i g; rw [if_pos g] at k; rw [h, k]
  rename_i g1; rw [if_neg g1] at k
  split at h
  · rename_i g; rw [if_pos g] at k; rw [h, k]
  rename_i g2; rw [if_neg g2] at k
  split at h
  · rename_i g; rw [if_pos g] at k; rw [h, k]
  rename_i g3; rw [if_neg g3] at k
  split at h
  · rename_i g; rw [if_pos g] at k; rw [h, k]
  rename_i g4; rw [if_neg g4] at k
  split at h
  · rename_i g; rw [if_pos g] at k; rw [h, k]
  rename_i g5; rw [if_neg g5] at k
  have bp := un_pos (x := ab b) (by
    have h1 := (ab_bd b).1
    have h2 : ab b ≠ 0 := fun c => g5 (by rw [isz, c]; rfl)
    omega)
  exact h.one bp bp k rfl
end Ie

def DivTold5 (a b : Int) (w : World) (r : Ending) (w' : World) : Prop := ∃ x, r = .returned (.int .u64 x) ∧ Ie.DivR a b x ∧ Below w.heap.size w w'

set_option maxRecDepth 100000 in
set_option maxHeartbeats 4000000 in
theorem ydivide_any (a b : Int) (w : World) (a0 : 0 ≤ a) (a1 : a < 18446744073709551616) (b0 : 0 ≤ b) (b1 : b < 18446744073709551616) :
    Calls Tryz.prog 80 #[.int .u64 a, .int .u64 b] w fun e w' => DivTold5 a b w e w' := by
  have GA := hid (fun wx => yngd_any a wx)
  have GB := hid (fun wx => yngd_any b wx)
  have AN := hid (fun wx => yanynan_any a b wx a0 a1 b0 b1)
  have IA := hid (fun wx => yinf_any a wx a0 a1)
  have IB := hid (fun wx => yinf_any b wx b0 b1)
  have ZA := hid (fun wx => yzero_any a wx a0 a1)
  have ZB := hid (fun wx => yzero_any b wx b0 b1)
  have SI := hid (fun wx => ysigned_any (Ie.ngd a != Ie.ngd b) 9218868437227405312 wx (by omega) (by omega))
  have SZ := hid (fun wx => ysigned_any (Ie.ngd a != Ie.ngd b) 0 wx (by omega) (by omega))
  have FF : Hid (∀ x w', Ie.DivR a b x → Below w.heap.size w w' → DivTold5 a b w (.returned (.int .u64 x)) w') := fun x w' h k => ⟨x, rfl, h, k⟩
  have BR := hid (Below.refl w.heap.size w)
  have DR : Hid (∀ r, Ie.DivR a b r ↔ Ie.DivR a b r) := fun r => Iff.rfl
  have RA : Hid (Ie.isn a = false → Ie.isi a = false → Ie.isn b = false → Ie.isi b = false → Ie.isz b = false → Calls Tryz.prog 109 #[.int .u64 a, .int .u64 b] w (fun r w' => NumTold5 (Ie.ngd a != Ie.ngd b) (Ie.dm a) (Ie.dm b) (Ie.de a - Ie.de b) w r w') ∧ Ie.fin a ∧ Ie.fin b ∧ 0 < Ie.dm b) := fun h1 h2 h3 h4 h5 => by
    have fa := Ie.fin_of h1 h2
    have fb := Ie.fin_of h3 h4
    obtain ⟨⟨da0, da1⟩, ⟨ea0, ea1⟩, _, _⟩ := Ie.dec_f a fa
    obtain ⟨⟨db0, db1⟩, ⟨eb0, eb1⟩, _, zb⟩ := Ie.dec_f b fb
    refine ⟨yratio_any a b _ _ _ _ _ _ w (fun wx => yof2 a _ _ _ wx a0 a1 rfl rfl rfl da0 da1) (fun wx => yof2 b _ _ _ wx b0 b1 rfl rfl rfl db0 db1) (by omega) (by omega) (by omega) (by omega), fa, fb, ?_⟩
    have : Ie.ab b ≠ 0 := fun c => by rw [Ie.isz, c] at h5; simp at h5
    omega
  have UN : Hid (∀ r, Ie.DivR a b r = (if Ie.isn a = true ∨ Ie.isn b = true then r = 9221120237041090560 else if (Ie.isi a = true ∧ Ie.isi b = true) ∨ (Ie.isz a = true ∧ Ie.isz b = true) then r = 9221120237041090560 else if Ie.isi a = true then r = Ie.sb (Ie.ngd a != Ie.ngd b) 9218868437227405312 else if Ie.isi b = true then r = Ie.sb (Ie.ngd a != Ie.ngd b) 0 else if Ie.isz b = true then r = Ie.sb (Ie.ngd a != Ie.ngd b) 9218868437227405312 else Ie.RS (Ie.sn (Ie.ngd a != Ie.ngd b) (Ie.un (Ie.ab a) * 2 ^ 1074)) (Ie.un (Ie.ab b)) (Ie.ngd a != Ie.ngd b) r)) := fun r => rfl
  clear DR a0 a1 b0 b1
  rw [show Ie.ab 9218868437227405312 = 9218868437227405312 by decide] at SI
  rw [show Ie.ab 0 = 0 by decide] at SZ
  have SI2 : Hid (∀ wx, Calls Tryz.prog 15 #[.bool (!(Ie.ngd a == Ie.ngd b)), .int .u64 9218868437227405312] wx fun e w' => e = .returned (.int .u64 (Ie.sb (Ie.ngd a != Ie.ngd b) 9218868437227405312)) ∧ w' = wx) := SI.out
  have SZ2 : Hid (∀ wx, Calls Tryz.prog 15 #[.bool (!(Ie.ngd a == Ie.ngd b)), .int .u64 0] wx fun e w' => e = .returned (.int .u64 (Ie.sb (Ie.ngd a != Ie.ngd b) 0)) ∧ w' = wx) := SZ.out
  clear SI SZ
  have XA : Ie.isi a = true → Ie.isz a = false := fun h => by simp only [Ie.isi, Ie.isz, decide_eq_true_eq, decide_eq_false_iff_not] at *; omega
  have XB : Ie.isi b = true → Ie.isz b = false := fun h => by simp only [Ie.isi, Ie.isz, decide_eq_true_eq, decide_eq_false_iff_not] at *; omega
  by_cases hn : (Ie.isn a || Ie.isn b) = true
  · have hn2 : Ie.isn a = true ∨ Ie.isn b = true := by simpa using hn
    rw [hn] at AN
    have F := hid (FF.out (9221120237041090560) w (by rw [UN.out]; simp [hn2]) BR.out)
    clear FF UN RA BR
    go_enter Tryz.func80, Tryz.ntmps80
    go_wp2_with (first | (go_at_call 16; first | (with_reducible refine (GA.out _).mono ?_; rintro e w' ⟨rfl, rfl⟩) | (with_reducible refine (GB.out _).mono ?_; rintro e w' ⟨rfl, rfl⟩)) | (go_at_call 12; first | (with_reducible refine (AN.out _).mono ?_; rintro e w' ⟨rfl, rfl⟩)) | (go_at_call 14; first | (with_reducible refine (IA.out _).mono ?_; rintro e w' ⟨rfl, rfl⟩) | (with_reducible refine (IB.out _).mono ?_; rintro e w' ⟨rfl, rfl⟩)) | (go_at_call 23; first | (with_reducible refine (ZA.out _).mono ?_; rintro e w' ⟨rfl, rfl⟩) | (with_reducible refine (ZB.out _).mono ?_; rintro e w' ⟨rfl, rfl⟩)) | (go_at_call 15; first | (with_reducible refine (SI2.out _).mono ?_; rintro e w' ⟨rfl, rfl⟩) | (with_reducible refine (SZ2.out _).mono ?_; rintro e w' ⟨rfl, rfl⟩)))
    go_ret
    exact F.out
  have h1 : Ie.isn a = false := by cases c : Ie.isn a; rfl; simp [c] at hn
  have h2 : Ie.isn b = false := by cases c : Ie.isn b; rfl; simp [c] at hn
  rw [h1, h2] at AN
  clear hn
  cases h3 : Ie.isi a
  · rw [h3] at IA
    cases h4 : Ie.isi b
    · rw [h4] at IB
      cases h5 : Ie.isz a
      · rw [h5] at ZA
        cases h6 : Ie.isz b
        · rw [h6] at ZB
          obtain ⟨RC, fa, fb, dp⟩ := RA.out h1 h3 h2 h4 h6
          have HC := hid RC
          have KK : Hid (∀ x w', Ie.Rnd (Ie.dm a) (Ie.dm b) (Ie.de a - Ie.de b) false x → Below w.heap.size w w' → DivTold5 a b w (.returned (.int .u64 (Ie.sg (Ie.ngd a != Ie.ngd b) x))) w') := fun x w' hR k => FF.out _ w' (by rw [UN.out]; rw [if_neg (by simp [h1, h2]), if_neg (by simp [h3, h6]), if_neg (by simp [h3]), if_neg (by simp [h4]), if_neg (by simp [h6])]; exact ⟨_, _, x, rfl, rfl, Int.mul_nonneg (Ie.un_nn (Ie.ab_bd a).1) (by have := Nm.two_pos 1074; omega), Ie.ydiv_near fa fb hR, fun _ => rfl⟩) k
          have DP := hid dp
          clear RC fa fb dp FF UN RA BR SI2 SZ2
          generalize Ie.dm a = Ma at *
          generalize Ie.dm b = Mb at *
          generalize Ie.de a - Ie.de b = ee at *
          obtain ⟨ng, hng⟩ : ∃ ng, (Ie.ngd a != Ie.ngd b) = ng := ⟨_, rfl⟩
          rw [hng] at HC KK
          clear hng
          go_enter Tryz.func80, Tryz.ntmps80
          go_wp2_with (first | (go_at_call 16; first | (with_reducible refine (GA.out _).mono ?_; rintro e w' ⟨rfl, rfl⟩) | (with_reducible refine (GB.out _).mono ?_; rintro e w' ⟨rfl, rfl⟩)) | (go_at_call 12; first | (with_reducible refine (AN.out _).mono ?_; rintro e w' ⟨rfl, rfl⟩)) | (go_at_call 14; first | (with_reducible refine (IA.out _).mono ?_; rintro e w' ⟨rfl, rfl⟩) | (with_reducible refine (IB.out _).mono ?_; rintro e w' ⟨rfl, rfl⟩)) | (go_at_call 23; first | (with_reducible refine (ZA.out _).mono ?_; rintro e w' ⟨rfl, rfl⟩) | (with_reducible refine (ZB.out _).mono ?_; rintro e w' ⟨rfl, rfl⟩)))
          with_reducible refine HC.out.mono ?_
          rintro r w1 ⟨v, rfl, N, hB⟩
          have YR := hid (yrounded_any N DP.out)
          have HB := hid hB
          clear N hB HC DP
          go_wp2_with fail
          with_reducible refine YR.out.mono ?_
          rintro r w2 ⟨x, rfl, R, hB2⟩
          have F := hid (KK.out x w2 R (bel HB.out hB2))
          clear R hB2 YR KK HB
          go_wp2_with fail
          go_ret
          exact F.out
        · rw [h6] at ZB
          have F := hid (FF.out (Ie.sb (Ie.ngd a != Ie.ngd b) 9218868437227405312) w (by rw [UN.out]; simp [h1, h2, h3, h4, h5, h6]) BR.out)
          clear FF UN RA BR
          go_enter Tryz.func80, Tryz.ntmps80
          go_wp2_with (first | (go_at_call 16; first | (with_reducible refine (GA.out _).mono ?_; rintro e w' ⟨rfl, rfl⟩) | (with_reducible refine (GB.out _).mono ?_; rintro e w' ⟨rfl, rfl⟩)) | (go_at_call 12; first | (with_reducible refine (AN.out _).mono ?_; rintro e w' ⟨rfl, rfl⟩)) | (go_at_call 14; first | (with_reducible refine (IA.out _).mono ?_; rintro e w' ⟨rfl, rfl⟩) | (with_reducible refine (IB.out _).mono ?_; rintro e w' ⟨rfl, rfl⟩)) | (go_at_call 23; first | (with_reducible refine (ZA.out _).mono ?_; rintro e w' ⟨rfl, rfl⟩) | (with_reducible refine (ZB.out _).mono ?_; rintro e w' ⟨rfl, rfl⟩)) | (go_at_call 15; first | (with_reducible refine (SI2.out _).mono ?_; rintro e w' ⟨rfl, rfl⟩) | (with_reducible refine (SZ2.out _).mono ?_; rintro e w' ⟨rfl, rfl⟩)))
          go_ret
          exact F.out
      · rw [h5] at ZA
        cases h6 : Ie.isz b
        · rw [h6] at ZB
          obtain ⟨RC, fa, fb, dp⟩ := RA.out h1 h3 h2 h4 h6
          have HC := hid RC
          have KK : Hid (∀ x w', Ie.Rnd (Ie.dm a) (Ie.dm b) (Ie.de a - Ie.de b) false x → Below w.heap.size w w' → DivTold5 a b w (.returned (.int .u64 (Ie.sg (Ie.ngd a != Ie.ngd b) x))) w') := fun x w' hR k => FF.out _ w' (by rw [UN.out]; rw [if_neg (by simp [h1, h2]), if_neg (by simp [h3, h6]), if_neg (by simp [h3]), if_neg (by simp [h4]), if_neg (by simp [h6])]; exact ⟨_, _, x, rfl, rfl, Int.mul_nonneg (Ie.un_nn (Ie.ab_bd a).1) (by have := Nm.two_pos 1074; omega), Ie.ydiv_near fa fb hR, fun _ => rfl⟩) k
          have DP := hid dp
          clear RC fa fb dp FF UN RA BR SI2 SZ2
          generalize Ie.dm a = Ma at *
          generalize Ie.dm b = Mb at *
          generalize Ie.de a - Ie.de b = ee at *
          obtain ⟨ng, hng⟩ : ∃ ng, (Ie.ngd a != Ie.ngd b) = ng := ⟨_, rfl⟩
          rw [hng] at HC KK
          clear hng
          go_enter Tryz.func80, Tryz.ntmps80
          go_wp2_with (first | (go_at_call 16; first | (with_reducible refine (GA.out _).mono ?_; rintro e w' ⟨rfl, rfl⟩) | (with_reducible refine (GB.out _).mono ?_; rintro e w' ⟨rfl, rfl⟩)) | (go_at_call 12; first | (with_reducible refine (AN.out _).mono ?_; rintro e w' ⟨rfl, rfl⟩)) | (go_at_call 14; first | (with_reducible refine (IA.out _).mono ?_; rintro e w' ⟨rfl, rfl⟩) | (with_reducible refine (IB.out _).mono ?_; rintro e w' ⟨rfl, rfl⟩)) | (go_at_call 23; first | (with_reducible refine (ZA.out _).mono ?_; rintro e w' ⟨rfl, rfl⟩) | (with_reducible refine (ZB.out _).mono ?_; rintro e w' ⟨rfl, rfl⟩)))
          with_reducible refine HC.out.mono ?_
          rintro r w1 ⟨v, rfl, N, hB⟩
          have YR := hid (yrounded_any N DP.out)
          have HB := hid hB
          clear N hB HC DP
          go_wp2_with fail
          with_reducible refine YR.out.mono ?_
          rintro r w2 ⟨x, rfl, R, hB2⟩
          have F := hid (KK.out x w2 R (bel HB.out hB2))
          clear R hB2 YR KK HB
          go_wp2_with fail
          go_ret
          exact F.out
        · rw [h6] at ZB
          have F := hid (FF.out (9221120237041090560) w (by rw [UN.out]; simp [h1, h2, h3, h4, h5, h6]) BR.out)
          clear FF UN RA BR
          go_enter Tryz.func80, Tryz.ntmps80
          go_wp2_with (first | (go_at_call 16; first | (with_reducible refine (GA.out _).mono ?_; rintro e w' ⟨rfl, rfl⟩) | (with_reducible refine (GB.out _).mono ?_; rintro e w' ⟨rfl, rfl⟩)) | (go_at_call 12; first | (with_reducible refine (AN.out _).mono ?_; rintro e w' ⟨rfl, rfl⟩)) | (go_at_call 14; first | (with_reducible refine (IA.out _).mono ?_; rintro e w' ⟨rfl, rfl⟩) | (with_reducible refine (IB.out _).mono ?_; rintro e w' ⟨rfl, rfl⟩)) | (go_at_call 23; first | (with_reducible refine (ZA.out _).mono ?_; rintro e w' ⟨rfl, rfl⟩) | (with_reducible refine (ZB.out _).mono ?_; rintro e w' ⟨rfl, rfl⟩)) | (go_at_call 15; first | (with_reducible refine (SI2.out _).mono ?_; rintro e w' ⟨rfl, rfl⟩) | (with_reducible refine (SZ2.out _).mono ?_; rintro e w' ⟨rfl, rfl⟩)))
          go_ret
          exact F.out
    · rw [h4] at IB
      have h6 := XB h4
      rw [h6] at ZB
      cases h5 : Ie.isz a
      · rw [h5] at ZA
        have F := hid (FF.out (Ie.sb (Ie.ngd a != Ie.ngd b) 0) w (by rw [UN.out]; simp [h1, h2, h3, h4, h5, h6]) BR.out)
        clear FF UN RA BR
        go_enter Tryz.func80, Tryz.ntmps80
        go_wp2_with (first | (go_at_call 16; first | (with_reducible refine (GA.out _).mono ?_; rintro e w' ⟨rfl, rfl⟩) | (with_reducible refine (GB.out _).mono ?_; rintro e w' ⟨rfl, rfl⟩)) | (go_at_call 12; first | (with_reducible refine (AN.out _).mono ?_; rintro e w' ⟨rfl, rfl⟩)) | (go_at_call 14; first | (with_reducible refine (IA.out _).mono ?_; rintro e w' ⟨rfl, rfl⟩) | (with_reducible refine (IB.out _).mono ?_; rintro e w' ⟨rfl, rfl⟩)) | (go_at_call 23; first | (with_reducible refine (ZA.out _).mono ?_; rintro e w' ⟨rfl, rfl⟩) | (with_reducible refine (ZB.out _).mono ?_; rintro e w' ⟨rfl, rfl⟩)) | (go_at_call 15; first | (with_reducible refine (SI2.out _).mono ?_; rintro e w' ⟨rfl, rfl⟩) | (with_reducible refine (SZ2.out _).mono ?_; rintro e w' ⟨rfl, rfl⟩)))
        go_ret
        exact F.out
      · rw [h5] at ZA
        have F := hid (FF.out (Ie.sb (Ie.ngd a != Ie.ngd b) 0) w (by rw [UN.out]; simp [h1, h2, h3, h4, h5, h6]) BR.out)
        clear FF UN RA BR
        go_enter Tryz.func80, Tryz.ntmps80
        go_wp2_with (first | (go_at_call 16; first | (with_reducible refine (GA.out _).mono ?_; rintro e w' ⟨rfl, rfl⟩) | (with_reducible refine (GB.out _).mono ?_; rintro e w' ⟨rfl, rfl⟩)) | (go_at_call 12; first | (with_reducible refine (AN.out _).mono ?_; rintro e w' ⟨rfl, rfl⟩)) | (go_at_call 14; first | (with_reducible refine (IA.out _).mono ?_; rintro e w' ⟨rfl, rfl⟩) | (with_reducible refine (IB.out _).mono ?_; rintro e w' ⟨rfl, rfl⟩)) | (go_at_call 23; first | (with_reducible refine (ZA.out _).mono ?_; rintro e w' ⟨rfl, rfl⟩) | (with_reducible refine (ZB.out _).mono ?_; rintro e w' ⟨rfl, rfl⟩)) | (go_at_call 15; first | (with_reducible refine (SI2.out _).mono ?_; rintro e w' ⟨rfl, rfl⟩) | (with_reducible refine (SZ2.out _).mono ?_; rintro e w' ⟨rfl, rfl⟩)))
        go_ret
        exact F.out
  · rw [h3] at IA
    have h5 := XA h3
    rw [h5] at ZA
    cases h4 : Ie.isi b
    · rw [h4] at IB
      have F := hid (FF.out (Ie.sb (Ie.ngd a != Ie.ngd b) 9218868437227405312) w (by rw [UN.out]; simp [h1, h2, h3, h4, h5]) BR.out)
      clear FF UN RA BR
      go_enter Tryz.func80, Tryz.ntmps80
      go_wp2_with (first | (go_at_call 16; first | (with_reducible refine (GA.out _).mono ?_; rintro e w' ⟨rfl, rfl⟩) | (with_reducible refine (GB.out _).mono ?_; rintro e w' ⟨rfl, rfl⟩)) | (go_at_call 12; first | (with_reducible refine (AN.out _).mono ?_; rintro e w' ⟨rfl, rfl⟩)) | (go_at_call 14; first | (with_reducible refine (IA.out _).mono ?_; rintro e w' ⟨rfl, rfl⟩) | (with_reducible refine (IB.out _).mono ?_; rintro e w' ⟨rfl, rfl⟩)) | (go_at_call 23; first | (with_reducible refine (ZA.out _).mono ?_; rintro e w' ⟨rfl, rfl⟩) | (with_reducible refine (ZB.out _).mono ?_; rintro e w' ⟨rfl, rfl⟩)) | (go_at_call 15; first | (with_reducible refine (SI2.out _).mono ?_; rintro e w' ⟨rfl, rfl⟩) | (with_reducible refine (SZ2.out _).mono ?_; rintro e w' ⟨rfl, rfl⟩)))
      go_ret
      exact F.out
    · rw [h4] at IB
      have F := hid (FF.out (9221120237041090560) w (by rw [UN.out]; simp [h1, h2, h3, h4, h5]) BR.out)
      clear FF UN RA BR
      go_enter Tryz.func80, Tryz.ntmps80
      go_wp2_with (first | (go_at_call 16; first | (with_reducible refine (GA.out _).mono ?_; rintro e w' ⟨rfl, rfl⟩) | (with_reducible refine (GB.out _).mono ?_; rintro e w' ⟨rfl, rfl⟩)) | (go_at_call 12; first | (with_reducible refine (AN.out _).mono ?_; rintro e w' ⟨rfl, rfl⟩)) | (go_at_call 14; first | (with_reducible refine (IA.out _).mono ?_; rintro e w' ⟨rfl, rfl⟩) | (with_reducible refine (IB.out _).mono ?_; rintro e w' ⟨rfl, rfl⟩)) | (go_at_call 23; first | (with_reducible refine (ZA.out _).mono ?_; rintro e w' ⟨rfl, rfl⟩) | (with_reducible refine (ZB.out _).mono ?_; rintro e w' ⟨rfl, rfl⟩)) | (go_at_call 15; first | (with_reducible refine (SI2.out _).mono ?_; rintro e w' ⟨rfl, rfl⟩) | (with_reducible refine (SZ2.out _).mono ?_; rintro e w' ⟨rfl, rfl⟩)))
      go_ret
      exact F.out
end Go.Proofs.YtljpmddjcfkonaaGreatDoor

namespace Go.Proofs.YtljpmddjcfkonaaGreatDoor
open Go Go.RowKit Go.Deep

/-- Two numbers in their boxes and the room for a third. -/
def R3B (w wx : World) (x0 x1 x2 x3 y0 y1 y2 y3 : Value) : Prop :=
  Below w.heap.size w wx ∧ Row4 wx w.heap.size 41 x0 x1 x2 x3 ∧ Row4 wx (w.heap.size + 1) 41 y0 y1 y2 y3 ∧ Row4 wx (w.heap.size + 1 + 1) 41 (.bool false) (.slice none 0 0) (.slice none 0 0) (.int .i64 0)
theorem R3B.new (w : World) (x0 x1 x2 x3 y0 y1 y2 y3 : Value) : R3B w (((w.alloc (.cells #[x0, x1, x2, x3] 41)).alloc (.cells #[y0, y1, y2, y3] 41)).alloc (.cells #[.bool false, .slice none 0 0, .slice none 0 0, .int .i64 0] 41)) x0 x1 x2 x3 y0 y1 y2 y3 := by
  refine ⟨bel (bel (alloc_b _ _) (alloc_b _ _)) (alloc_b _ _), ?_, al1 _ _ _ _, al2 _ _ _ _⟩
  have h := Row4.new w 41 x0 x1 x2 x3
  have h2 := h.below (alloc_b _ (.cells #[y0, y1, y2, y3] 41)) h.lt
  exact h2.below (alloc_b _ _) h2.lt
theorem R3B.on {w wx wy : World} {x0 x1 x2 x3 y0 y1 y2 y3 : Value} (h : R3B w wx x0 x1 x2 x3 y0 y1 y2 y3) (k : Below wx.heap.size wx wy) : R3B w wy x0 x1 x2 x3 y0 y1 y2 y3 :=
  ⟨bel h.1 k, h.2.1.below k h.2.1.lt, h.2.2.1.below k h.2.2.1.lt, h.2.2.2.below k h.2.2.2.lt⟩
theorem R3B.drew {w wx : World} {x0 x1 x2 x3 y0 y1 y2 y3 : Value} (h : R3B w wx x0 x1 x2 x3 y0 y1 y2 y3) : R3B w wx.drew x0 x1 x2 x3 y0 y1 y2 y3 := ⟨drew_b h.1, h.2.1, h.2.2.1, h.2.2.2⟩
theorem R3B.flat {w wx : World} {x0 x1 x2 x3 y0 y1 y2 y3 : Value} (h : R3B w wx x0 x1 x2 x3 y0 y1 y2 y3) :
    (wx.cell? ⟨w.heap.size, 0, none⟩ = some x0 ∧ wx.cell? ⟨w.heap.size, 1, none⟩ = some x1 ∧ wx.cell? ⟨w.heap.size, 2, none⟩ = some x2 ∧ wx.cell? ⟨w.heap.size, 3, none⟩ = some x3) ∧
    wx.cell? ⟨w.heap.size + 1, 0, none⟩ = some y0 ∧ wx.cell? ⟨w.heap.size + 1, 1, none⟩ = some y1 ∧ wx.cell? ⟨w.heap.size + 1, 2, none⟩ = some y2 ∧ wx.cell? ⟨w.heap.size + 1, 3, none⟩ = some y3 := ⟨h.2.1.cells.1, h.2.2.1.cells.1⟩
theorem R3B.room {w wx : World} {x0 x1 x2 x3 y0 y1 y2 y3 : Value} (h : R3B w wx x0 x1 x2 x3 y0 y1 y2 y3) :
    (wx.cell? ⟨w.heap.size + 1 + 1, 0, none⟩ = some (.bool false) ∧ wx.cell? ⟨w.heap.size + 1 + 1, 1, none⟩ = some (.slice none 0 0) ∧ wx.cell? ⟨w.heap.size + 1 + 1, 2, none⟩ = some (.slice none 0 0) ∧ wx.cell? ⟨w.heap.size + 1 + 1, 3, none⟩ = some (.int .i64 0)) ∧
    (wx.frozen? ⟨w.heap.size + 1 + 1, 0, none⟩ = false ∧ wx.frozen? ⟨w.heap.size + 1 + 1, 1, none⟩ = false ∧ wx.frozen? ⟨w.heap.size + 1 + 1, 2, none⟩ = false ∧ wx.frozen? ⟨w.heap.size + 1 + 1, 3, none⟩ = false) := h.2.2.2.cells
theorem far4 {w : World} {b b' o : Nat} {u0 u1 u2 u3 : Value} (h : b' ≠ b) : ((((w.setCell ⟨b', 0, none⟩ u0).setCell ⟨b', 1, none⟩ u1).setCell ⟨b', 2, none⟩ u2).setCell ⟨b', 3, none⟩ u3).cell? ⟨b, o, none⟩ = w.cell? ⟨b, o, none⟩ := by
  rw [cell_far h, cell_far h, cell_far h, cell_far h]
theorem R3B.flatP {w wx : World} {x0 x1 x2 x3 y0 y1 y2 y3 : Value} (h : R3B w wx x0 x1 x2 x3 y0 y1 y2 y3) (u0 u1 u2 u3 : Value) :
    (((((wx.setCell ⟨w.heap.size + 1 + 1, 0, none⟩ u0).setCell ⟨w.heap.size + 1 + 1, 1, none⟩ u1).setCell ⟨w.heap.size + 1 + 1, 2, none⟩ u2).setCell ⟨w.heap.size + 1 + 1, 3, none⟩ u3).cell? ⟨w.heap.size, 0, none⟩ = some x0 ∧ ((((wx.setCell ⟨w.heap.size + 1 + 1, 0, none⟩ u0).setCell ⟨w.heap.size + 1 + 1, 1, none⟩ u1).setCell ⟨w.heap.size + 1 + 1, 2, none⟩ u2).setCell ⟨w.heap.size + 1 + 1, 3, none⟩ u3).cell? ⟨w.heap.size, 1, none⟩ = some x1 ∧ ((((wx.setCell ⟨w.heap.size + 1 + 1, 0, none⟩ u0).setCell ⟨w.heap.size + 1 + 1, 1, none⟩ u1).setCell ⟨w.heap.size + 1 + 1, 2, none⟩ u2).setCell ⟨w.heap.size + 1 + 1, 3, none⟩ u3).cell? ⟨w.heap.size, 2, none⟩ = some x2 ∧ ((((wx.setCell ⟨w.heap.size + 1 + 1, 0, none⟩ u0).setCell ⟨w.heap.size + 1 + 1, 1, none⟩ u1).setCell ⟨w.heap.size + 1 + 1, 2, none⟩ u2).setCell ⟨w.heap.size + 1 + 1, 3, none⟩ u3).cell? ⟨w.heap.size, 3, none⟩ = some x3) ∧ ((((wx.setCell ⟨w.heap.size + 1 + 1, 0, none⟩ u0).setCell ⟨w.heap.size + 1 + 1, 1, none⟩ u1).setCell ⟨w.heap.size + 1 + 1, 2, none⟩ u2).setCell ⟨w.heap.size + 1 + 1, 3, none⟩ u3).cell? ⟨w.heap.size + 1, 0, none⟩ = some y0 ∧ ((((wx.setCell ⟨w.heap.size + 1 + 1, 0, none⟩ u0).setCell ⟨w.heap.size + 1 + 1, 1, none⟩ u1).setCell ⟨w.heap.size + 1 + 1, 2, none⟩ u2).setCell ⟨w.heap.size + 1 + 1, 3, none⟩ u3).cell? ⟨w.heap.size + 1, 1, none⟩ = some y1 ∧ ((((wx.setCell ⟨w.heap.size + 1 + 1, 0, none⟩ u0).setCell ⟨w.heap.size + 1 + 1, 1, none⟩ u1).setCell ⟨w.heap.size + 1 + 1, 2, none⟩ u2).setCell ⟨w.heap.size + 1 + 1, 3, none⟩ u3).cell? ⟨w.heap.size + 1, 2, none⟩ = some y2 ∧ ((((wx.setCell ⟨w.heap.size + 1 + 1, 0, none⟩ u0).setCell ⟨w.heap.size + 1 + 1, 1, none⟩ u1).setCell ⟨w.heap.size + 1 + 1, 2, none⟩ u2).setCell ⟨w.heap.size + 1 + 1, 3, none⟩ u3).cell? ⟨w.heap.size + 1, 3, none⟩ = some y3 := by
  obtain ⟨⟨a0, a1, a2, a3⟩, b0, b1, b2, b3⟩ := h.flat
  have n1 : w.heap.size + 1 + 1 ≠ w.heap.size := by omega
  have n2 : w.heap.size + 1 + 1 ≠ w.heap.size + 1 := by omega
  exact ⟨⟨by rw [far4 n1]; exact a0, by rw [far4 n1]; exact a1, by rw [far4 n1]; exact a2, by rw [far4 n1]; exact a3⟩, by rw [far4 n2]; exact b0, by rw [far4 n2]; exact b1, by rw [far4 n2]; exact b2, by rw [far4 n2]; exact b3⟩
theorem R3B.put {w wx : World} {x0 x1 x2 x3 y0 y1 y2 y3 : Value} (h : R3B w wx x0 x1 x2 x3 y0 y1 y2 y3) (u0 u1 u2 u3 : Value) :
    Row4 ((((wx.setCell ⟨w.heap.size + 1 + 1, 0, none⟩ u0).setCell ⟨w.heap.size + 1 + 1, 1, none⟩ u1).setCell ⟨w.heap.size + 1 + 1, 2, none⟩ u2).setCell ⟨w.heap.size + 1 + 1, 3, none⟩ u3) (w.heap.size + 1 + 1) 41 u0 u1 u2 u3 ∧
    Below w.heap.size w ((((wx.setCell ⟨w.heap.size + 1 + 1, 0, none⟩ u0).setCell ⟨w.heap.size + 1 + 1, 1, none⟩ u1).setCell ⟨w.heap.size + 1 + 1, 2, none⟩ u2).setCell ⟨w.heap.size + 1 + 1, 3, none⟩ u3) :=
  ⟨h.2.2.2.set, (((h.1.setCell (p := ⟨w.heap.size + 1 + 1, 0, none⟩) (by simp only; omega) _).setCell (p := ⟨w.heap.size + 1 + 1, 1, none⟩) (by simp only; omega) _).setCell (p := ⟨w.heap.size + 1 + 1, 2, none⟩) (by simp only; omega) _).setCell (p := ⟨w.heap.size + 1 + 1, 3, none⟩) (by simp only; omega) _⟩

theorem far_arg {w : World} {b' : Nat} {u0 u1 u2 u3 : Value} {p : Option Addr} {n c : Nat} {zs : List Int} (a : Arg w p n c zs) (hp : ∀ x, p = some x → x.block ≠ b') :
    Arg ((((w.setCell ⟨b', 0, none⟩ u0).setCell ⟨b', 1, none⟩ u1).setCell ⟨b', 2, none⟩ u2).setCell ⟨b', 3, none⟩ u3) p n c zs := by
  refine ⟨a.1, a.2.1, a.2.2.1, ?_, a.2.2.2.2⟩
  rcases a.2.2.2.1 with g | ⟨b, off, rfl, g⟩
  · exact .inl g
  · refine .inr ⟨b, off, rfl, fun i hi => ?_⟩
    rw [far4 (Ne.symm (hp _ rfl))]
    exact g i hi

set_option maxRecDepth 100000 in
set_option maxHeartbeats 4000000 in
theorem yproduct_any {B : Nat} {w : World} {vx vy : Value} {na nb : Bool} {Va Vb ea eb : Int} (hx : RN B w vx na Va 1 ea) (hy : RN B w vy nb Vb 1 eb) (hB0 : B ≤ w.heap.size) (a1 : Va < 9007199254740992) (b1 : Vb < 9007199254740992) (e0 : -2000 ≤ ea) (e1 : ea ≤ 2000) (f0 : -2000 ≤ eb) (f1 : eb ≤ 2000) :
    Calls Tryz.prog 21 #[vx, vy] w fun r w' => ∃ v, r = .returned v ∧ RN B w' v (na != nb) (Va * Vb) 1 (ea + eb) ∧ Below w.heap.size w w' := by
  obtain ⟨p, n, c, q, m, d, zs, ys, rfl, h2, h3, h4, h5, h6, h7, h8, h9⟩ := hx
  obtain ⟨p', n', c', q', m', d', zs', ys', rfl, k2, k3, k4, _⟩ := hy
  have Z := hid (R3B.new w (.bool na) (.slice p n c) (.slice q m d) (.int .i64 ea) (.bool nb) (.slice p' n' c') (.slice q' m' d') (.int .i64 eb))
  have TM : Hid (∀ wx, Below w.heap.size w wx → Calls Tryz.prog 45 #[.slice p n c, .slice p' n' c'] wx fun e w' => ∃ r os, e = .returned (.slice r (List.length os) (List.length os)) ∧ Ans wx.heap.size w' r os (Va * Vb) ∧ Below wx.heap.size wx w') := fun wx b => by
    have h := times_any p p' n c n' c' zs zs' wx (h2.below b (Nat.le_refl _)) (k2.below b (Nat.le_refl _)) (by omega) (by omega)
    rw [h3, k3] at h
    exact h
  have v0 : 0 ≤ Va := by rw [← h3]; exact (Nm.val_bd zs h2.2.2.2.2).1
  have w0 : 0 ≤ Vb := by rw [← k3]; exact (Nm.val_bd zs' k2.2.2.2.2).1
  have big : Hid (Va * Vb < Nm.pw 4096) := by
    have g : Va * Vb ≤ 9007199254740992 * 9007199254740992 := Int.mul_le_mul (by omega) (by omega) w0 (by omega)
    have k := Nm.pw_mono (show 2 ≤ 4096 by omega)
    have e : Nm.pw 2 = 340282366920938463463374607431768211456 := by simp [Nm.pw]
    rw [Hid]
    generalize Nm.pw 4096 = y at *
    omega
  have qlt : ∀ x, q = some x → x.block < w.heap.size := by
    have hl : 0 < ys.length := by
      rcases Nat.eq_zero_or_pos ys.length with g | g
      · rw [List.length_eq_zero_iff.1 g] at h6; simp [Nm.val] at h6
      · exact g
    exact h5.2.2.2.1.lt hl
  have Q5 := hid (And.intro h5 (And.intro h6 (And.intro h7 (And.intro h9 qlt))))
  have WK : IntKind.i64.wrap (ea + eb) = ea + eb := by rw [IntKind.wrap_i64]; omega
  have HB0 := hid hB0
  clear h2 h3 h4 h5 h6 h7 h8 h9 k2 k3 k4 qlt v0 w0 a1 b1 hB0
  go_enter Tryz.func21, Tryz.ntmps21
  go_upto_region 1 with fail
  generalize (((w.alloc (.cells #[.bool na, .slice p n c, .slice q m d, .int .i64 ea] 41)).alloc (.cells #[.bool nb, .slice p' n' c', .slice q' m' d', .int .i64 eb] 41)).alloc (.cells #[.bool false, .slice none 0 0, .slice none 0 0, .int .i64 0] 41)) = wz at *
  have ZD := hid Z.out.drew
  have zb := ZD.out.1
  obtain ⟨⟨c0, c1, c2, c3⟩, d0, d1, d2, d3⟩ := ZD.out.flat
  go_region_held3 (fun wx => (wx.cell? ⟨w.heap.size, 0, none⟩ = some (.bool na) ∧ wx.cell? ⟨w.heap.size, 1, none⟩ = some (.slice p n c) ∧ wx.cell? ⟨w.heap.size, 2, none⟩ = some (.slice q m d) ∧ wx.cell? ⟨w.heap.size, 3, none⟩ = some (.int .i64 ea)) ∧ wx.cell? ⟨w.heap.size + 1, 0, none⟩ = some (.bool nb) ∧ wx.cell? ⟨w.heap.size + 1, 1, none⟩ = some (.slice p' n' c') ∧ wx.cell? ⟨w.heap.size + 1, 2, none⟩ = some (.slice q' m' d') ∧ wx.cell? ⟨w.heap.size + 1, 3, none⟩ = some (.int .i64 eb)) (first | (with_reducible exact T1.out.flatP _ _ _ _) | (with_reducible exact T1.out.flat) | (with_reducible exact ZD.out.flat)) (first
    | (go_at_call 45; with_reducible refine (TM.out _ zb).mono ?_; rintro r w2 ⟨pr, os, rfl, A2, hB2⟩; have T1 := hid (ZD.out.on hB2); have AA := hid A2; have HB2 := hid hB2; obtain ⟨⟨g0, g1, g2, g3⟩, k0, k1, k2, k3⟩ := T1.out.room; clear A2 hB2))
  all_goals go_wp2_with fail
  all_goals (try simp only [Exit.inBlock, Exit.then])
  refine bodyPost_ret (results_cell_row rfl _ _ (w.heap.size + 1 + 1) 41 _ (0, 0) _ rfl (T1.out.put _ _ _ _).1 Tryz.underlying41 rfl (by kernel_rfl)) rfl ?_
  have an : Ans wz.drew.heap.size w2 pr os (Va * Vb) := AA.out
  have ln := ans_small an 4096 big.out
  have ag := an.arg (by omega)
  have ts : Nm.tsize os ≤ 4096 := by rw [an.2.2.1]; exact ln
  have ltw := ZD.out.2.2.2.lt
  have prf : ∀ x, pr = some x → w.heap.size + 1 + 1 < x.block := fun x hx => by
    have h := an.2.2.2.2 x hx
    omega
  have nq : ∀ x, q = some x → x.block ≠ w.heap.size + 1 + 1 := fun x hx => by have := Q5.out.2.2.2.2 x hx; omega
  refine ⟨_, rfl, ⟨_, _, _, _, _, _, os, ys, rfl, ?_, an.2.2.2.1, ts, ?_, Q5.out.2.1, Q5.out.2.2.1, fun x hx => by have := prf x hx; have := HB0.out; omega, Q5.out.2.2.2.1⟩, (T1.out.put _ _ _ _).2⟩
  · exact far_arg ag (fun x hx => Nat.ne_of_gt (prf x hx))
  · exact far_arg (Q5.out.1.below T1.out.1 (Nat.le_refl _)) nq
end Go.Proofs.YtljpmddjcfkonaaGreatDoor

namespace Go.Proofs.YtljpmddjcfkonaaGreatDoor
open Go Go.RowKit Go.Deep

namespace Ie
/-- What a product answers, whoever makes it: one double. -/
def MulR (a b r : Int) : Prop :=
  if isn a = true ∨ isn b = true then r = 9221120237041090560
  else if (isi a = true ∧ isz b = true) ∨ (isz a = true ∧ isi b = true) then r = 9221120237041090560
  else if isi a = true ∨ isi b = true then r = sb (ngd a != ngd b) 9218868437227405312
  else RS (uv a * uv b) (2 ^ 1074) (ngd a != ngd b) r

theorem ymul_rs {a b x : Int} (fa : fin a) (fb : fin b) (hR : Rnd (dm a * dm b) 1 (de a + de b) false x) : RS (uv a * uv b) (2 ^ 1074) (ngd a != ngd b) (sg (ngd a != ngd b) x) := by
  obtain ⟨⟨da0, _⟩, ⟨ea0, ea1⟩, _, _⟩ := dec_f a fa
  obtain ⟨⟨db0, _⟩, ⟨eb0, eb1⟩, _, _⟩ := dec_f b fb
  obtain ⟨c, hc⟩ : ∃ k : Nat, (k : Int) = de a + de b + 2148 := ⟨(de a + de b + 2148).toNat, by omega⟩
  exact rs_of hR (Int.mul_nonneg da0 db0) c 1074 (by omega) (by rw [prod_at fa fb c hc]; exact uv_mul a b) rfl (fun _ => rfl)

theorem MulIs.r {a b r f : Int} (h : MulIs a b r f) : MulR a b r := by
  have h0 := h
  unfold MulR
  unfold MulIs at h
  split
  · rename_i g; rw [if_pos g] at h; exact h.1
  rename_i g1; rw [if_neg g1] at h
  split
  · rename_i g; rw [if_pos g] at h; exact h.1
  rename_i g2; rw [if_neg g2] at h
  split
  · rename_i g; rw [if_pos g] at h; exact h.1
  rename_i g3
  have fa : fin a := fin_of (by cases c : isn a; rfl; exact absurd (.inl c) g1) (by cases c : isi a; rfl; exact absurd (.inl c) g3)
  have fb : fin b := fin_of (by cases c : isn b; rfl; exact absurd (.inr c) g1) (by cases c : isi b; rfl; exact absurd (.inr c) g3)
  exact h0.rs fa fb

theorem MulR.one {a b r r' : Int} (h : MulR a b r) (k : MulR a b r') : r = r' := by
  unfold MulR at h k
  split at h
  · rename_i g; rw [if_pos g] at k; rw [h, k]
  rename_i g1; rw [if_neg g1] at k
  split at h
  · rename_i g; rw [if_pos g] at k; rw [h, k]
  rename_i g2; rw [if_neg g2] at k
  split at h
  · rename_i g; rw [if_pos g] at k; rw [h, k]
  rename_i g3; rw [if_neg g3] at k
  exact h.one (Nm.two_pos 1074) (Nm.two_pos 1074) k rfl
end Ie

theorem RN.lower {B B' : Nat} {w : World} {v : Value} {neg : Bool} {V D e : Int} (h : RN B w v neg V D e) (k : B' ≤ B) : RN B' w v neg V D e := by
  obtain ⟨p, n, c, q, m, d, zs, ys, h1, h2, h3, h4, h5, h6, h7, h8, h9⟩ := h
  exact ⟨p, n, c, q, m, d, zs, ys, h1, h2, h3, h4, h5, h6, h7, fun x hx => Nat.le_trans k (h8 x hx), fun x hx => Nat.le_trans k (h9 x hx)⟩

def MulTold5 (a b : Int) (w : World) (r : Ending) (w' : World) : Prop := ∃ x, r = .returned (.int .u64 x) ∧ Ie.MulR a b x ∧ Below w.heap.size w w'

set_option maxRecDepth 100000 in
set_option maxHeartbeats 4000000 in
theorem ymultiply_any (a b : Int) (w : World) (a0 : 0 ≤ a) (a1 : a < 18446744073709551616) (b0 : 0 ≤ b) (b1 : b < 18446744073709551616) :
    Calls Tryz.prog 17 #[.int .u64 a, .int .u64 b] w fun e w' => MulTold5 a b w e w' := by
  have GA := hid (fun wx => yngd_any a wx)
  have GB := hid (fun wx => yngd_any b wx)
  have AN := hid (fun wx => yanynan_any a b wx a0 a1 b0 b1)
  have IA := hid (fun wx => yinf_any a wx a0 a1)
  have IB := hid (fun wx => yinf_any b wx b0 b1)
  have ZA := hid (fun wx => yzero_any a wx a0 a1)
  have ZB := hid (fun wx => yzero_any b wx b0 b1)
  have SI := hid (fun wx => ysigned_any (Ie.ngd a != Ie.ngd b) 9218868437227405312 wx (by omega) (by omega))
  have FF : Hid (∀ x w', Ie.MulR a b x → Below w.heap.size w w' → MulTold5 a b w (.returned (.int .u64 x)) w') := fun x w' h k => ⟨x, rfl, h, k⟩
  have BR := hid (Below.refl w.heap.size w)
  have RA : Hid (Ie.isn a = false → Ie.isi a = false → Ie.isn b = false → Ie.isi b = false → (∀ wx, Calls Tryz.prog 22 #[.int .u64 a] wx (fun r w' => NumTold5 (Ie.ngd a) (Ie.dm a) 1 (Ie.de a) wx r w')) ∧ (∀ wx, Calls Tryz.prog 22 #[.int .u64 b] wx (fun r w' => NumTold5 (Ie.ngd b) (Ie.dm b) 1 (Ie.de b) wx r w')) ∧ Ie.fin a ∧ Ie.fin b ∧ (Ie.dm a < 9007199254740992 ∧ Ie.dm b < 9007199254740992) ∧ (-2000 ≤ Ie.de a ∧ Ie.de a ≤ 2000) ∧ (-2000 ≤ Ie.de b ∧ Ie.de b ≤ 2000)) := fun h1 h2 h3 h4 => by
    have fa := Ie.fin_of h1 h2
    have fb := Ie.fin_of h3 h4
    obtain ⟨⟨da0, da1⟩, ⟨ea0, ea1⟩, _, _⟩ := Ie.dec_f a fa
    obtain ⟨⟨db0, db1⟩, ⟨eb0, eb1⟩, _, _⟩ := Ie.dec_f b fb
    exact ⟨fun wx => yof2 a _ _ _ wx a0 a1 rfl rfl rfl da0 da1, fun wx => yof2 b _ _ _ wx b0 b1 rfl rfl rfl db0 db1, fa, fb, ⟨da1, db1⟩, ⟨by omega, by omega⟩, by omega, by omega⟩
  have UN : Hid (∀ r, Ie.MulR a b r = (if Ie.isn a = true ∨ Ie.isn b = true then r = 9221120237041090560 else if (Ie.isi a = true ∧ Ie.isz b = true) ∨ (Ie.isz a = true ∧ Ie.isi b = true) then r = 9221120237041090560 else if Ie.isi a = true ∨ Ie.isi b = true then r = Ie.sb (Ie.ngd a != Ie.ngd b) 9218868437227405312 else Ie.RS (Ie.uv a * Ie.uv b) (2 ^ 1074) (Ie.ngd a != Ie.ngd b) r)) := fun r => rfl
  clear a0 a1 b0 b1
  rw [show Ie.ab 9218868437227405312 = 9218868437227405312 by decide] at SI
  have SI2 : Hid (∀ wx, Calls Tryz.prog 15 #[.bool (!(Ie.ngd a == Ie.ngd b)), .int .u64 9218868437227405312] wx fun e w' => e = .returned (.int .u64 (Ie.sb (Ie.ngd a != Ie.ngd b) 9218868437227405312)) ∧ w' = wx) := SI.out
  clear SI
  have XA : Ie.isi a = true → Ie.isz a = false := fun h => by simp only [Ie.isi, Ie.isz, decide_eq_true_eq, decide_eq_false_iff_not] at *; omega
  by_cases hn : (Ie.isn a || Ie.isn b) = true
  · have hn2 : Ie.isn a = true ∨ Ie.isn b = true := by simpa using hn
    rw [hn] at AN
    have F := hid (FF.out (9221120237041090560) w (by rw [UN.out]; simp [hn2]) BR.out)
    clear FF UN RA BR
    go_enter Tryz.func17, Tryz.ntmps17
    go_wp2_with (first | (go_at_call 16; first | (with_reducible refine (GA.out _).mono ?_; rintro e w' ⟨rfl, rfl⟩) | (with_reducible refine (GB.out _).mono ?_; rintro e w' ⟨rfl, rfl⟩)) | (go_at_call 12; first | (with_reducible refine (AN.out _).mono ?_; rintro e w' ⟨rfl, rfl⟩)) | (go_at_call 14; first | (with_reducible refine (IA.out _).mono ?_; rintro e w' ⟨rfl, rfl⟩) | (with_reducible refine (IB.out _).mono ?_; rintro e w' ⟨rfl, rfl⟩)) | (go_at_call 23; first | (with_reducible refine (ZA.out _).mono ?_; rintro e w' ⟨rfl, rfl⟩) | (with_reducible refine (ZB.out _).mono ?_; rintro e w' ⟨rfl, rfl⟩)) | (go_at_call 15; first | (with_reducible refine (SI2.out _).mono ?_; rintro e w' ⟨rfl, rfl⟩)))
    go_ret
    exact F.out
  have h1 : Ie.isn a = false := by cases c : Ie.isn a; rfl; simp [c] at hn
  have h2 : Ie.isn b = false := by cases c : Ie.isn b; rfl; simp [c] at hn
  rw [h1, h2] at AN
  clear hn
  cases h3 : Ie.isi a
  · rw [h3] at IA
    cases h5 : Ie.isz a
    · rw [h5] at ZA
      cases h4 : Ie.isi b
      · rw [h4] at IB
        obtain ⟨OA, OB, fa, fb, ⟨ma, mb⟩, ⟨ea0, ea1⟩, eb0, eb1⟩ := RA.out h1 h3 h2 h4
        have HA := hid OA
        have HB := hid OB
        have KK : Hid (∀ x w', Ie.Rnd (Ie.dm a * Ie.dm b) 1 (Ie.de a + Ie.de b) false x → Below w.heap.size w w' → MulTold5 a b w (.returned (.int .u64 (Ie.sg (Ie.ngd a != Ie.ngd b) x))) w') := fun x w' hR k => FF.out _ w' (by rw [UN.out]; rw [if_neg (by simp [h1, h2]), if_neg (by simp [h3, h4]), if_neg (by simp [h3, h4])]; exact Ie.ymul_rs fa fb hR) k
        clear OA OB fa fb FF UN RA BR SI2
        go_enter Tryz.func17, Tryz.ntmps17
        go_wp2_with (first | (go_at_call 16; first | (with_reducible refine (GA.out _).mono ?_; rintro e w' ⟨rfl, rfl⟩) | (with_reducible refine (GB.out _).mono ?_; rintro e w' ⟨rfl, rfl⟩)) | (go_at_call 12; first | (with_reducible refine (AN.out _).mono ?_; rintro e w' ⟨rfl, rfl⟩)) | (go_at_call 14; first | (with_reducible refine (IA.out _).mono ?_; rintro e w' ⟨rfl, rfl⟩) | (with_reducible refine (IB.out _).mono ?_; rintro e w' ⟨rfl, rfl⟩)) | (go_at_call 23; first | (with_reducible refine (ZA.out _).mono ?_; rintro e w' ⟨rfl, rfl⟩) | (with_reducible refine (ZB.out _).mono ?_; rintro e w' ⟨rfl, rfl⟩)))
        with_reducible refine (HA.out _).mono ?_
        rintro r w1 ⟨v1, rfl, N1, hB1⟩
        go_wp2_with fail
        with_reducible refine (HB.out _).mono ?_
        rintro r w2 ⟨v2, rfl, N2, hB2⟩
        have PR := hid (yproduct_any (N1.on hB2) (N2.lower hB1.size) (Nat.le_trans hB1.size hB2.size) ma mb ea0 ea1 eb0 eb1)
        have B2 := hid (bel hB1 hB2)
        clear N1 N2 hB1 hB2 HA HB
        go_wp2_with fail
        with_reducible refine PR.out.mono ?_
        rintro r w3 ⟨v3, rfl, N3, hB3⟩
        have YR := hid (yrounded_any N3 (by omega))
        have B3 := hid (bel B2.out hB3)
        clear N3 hB3 PR B2
        go_wp2_with fail
        with_reducible refine YR.out.mono ?_
        rintro r w4 ⟨x, rfl, R, hB4⟩
        have F := hid (KK.out x w4 R (bel B3.out hB4))
        clear R hB4 YR KK B3
        go_wp2_with fail
        go_ret
        exact F.out
      · rw [h4] at IB
        have F := hid (FF.out (Ie.sb (Ie.ngd a != Ie.ngd b) 9218868437227405312) w (by rw [UN.out]; simp [h1, h2, h3, h4, h5]) BR.out)
        clear FF UN RA BR
        go_enter Tryz.func17, Tryz.ntmps17
        go_wp2_with (first | (go_at_call 16; first | (with_reducible refine (GA.out _).mono ?_; rintro e w' ⟨rfl, rfl⟩) | (with_reducible refine (GB.out _).mono ?_; rintro e w' ⟨rfl, rfl⟩)) | (go_at_call 12; first | (with_reducible refine (AN.out _).mono ?_; rintro e w' ⟨rfl, rfl⟩)) | (go_at_call 14; first | (with_reducible refine (IA.out _).mono ?_; rintro e w' ⟨rfl, rfl⟩) | (with_reducible refine (IB.out _).mono ?_; rintro e w' ⟨rfl, rfl⟩)) | (go_at_call 23; first | (with_reducible refine (ZA.out _).mono ?_; rintro e w' ⟨rfl, rfl⟩) | (with_reducible refine (ZB.out _).mono ?_; rintro e w' ⟨rfl, rfl⟩)) | (go_at_call 15; first | (with_reducible refine (SI2.out _).mono ?_; rintro e w' ⟨rfl, rfl⟩)))
        go_ret
        exact F.out
    · rw [h5] at ZA
      cases h4 : Ie.isi b
      · rw [h4] at IB
        obtain ⟨OA, OB, fa, fb, ⟨ma, mb⟩, ⟨ea0, ea1⟩, eb0, eb1⟩ := RA.out h1 h3 h2 h4
        have HA := hid OA
        have HB := hid OB
        have KK : Hid (∀ x w', Ie.Rnd (Ie.dm a * Ie.dm b) 1 (Ie.de a + Ie.de b) false x → Below w.heap.size w w' → MulTold5 a b w (.returned (.int .u64 (Ie.sg (Ie.ngd a != Ie.ngd b) x))) w') := fun x w' hR k => FF.out _ w' (by rw [UN.out]; rw [if_neg (by simp [h1, h2]), if_neg (by simp [h3, h4]), if_neg (by simp [h3, h4])]; exact Ie.ymul_rs fa fb hR) k
        clear OA OB fa fb FF UN RA BR SI2
        go_enter Tryz.func17, Tryz.ntmps17
        go_wp2_with (first | (go_at_call 16; first | (with_reducible refine (GA.out _).mono ?_; rintro e w' ⟨rfl, rfl⟩) | (with_reducible refine (GB.out _).mono ?_; rintro e w' ⟨rfl, rfl⟩)) | (go_at_call 12; first | (with_reducible refine (AN.out _).mono ?_; rintro e w' ⟨rfl, rfl⟩)) | (go_at_call 14; first | (with_reducible refine (IA.out _).mono ?_; rintro e w' ⟨rfl, rfl⟩) | (with_reducible refine (IB.out _).mono ?_; rintro e w' ⟨rfl, rfl⟩)) | (go_at_call 23; first | (with_reducible refine (ZA.out _).mono ?_; rintro e w' ⟨rfl, rfl⟩) | (with_reducible refine (ZB.out _).mono ?_; rintro e w' ⟨rfl, rfl⟩)))
        with_reducible refine (HA.out _).mono ?_
        rintro r w1 ⟨v1, rfl, N1, hB1⟩
        go_wp2_with fail
        with_reducible refine (HB.out _).mono ?_
        rintro r w2 ⟨v2, rfl, N2, hB2⟩
        have PR := hid (yproduct_any (N1.on hB2) (N2.lower hB1.size) (Nat.le_trans hB1.size hB2.size) ma mb ea0 ea1 eb0 eb1)
        have B2 := hid (bel hB1 hB2)
        clear N1 N2 hB1 hB2 HA HB
        go_wp2_with fail
        with_reducible refine PR.out.mono ?_
        rintro r w3 ⟨v3, rfl, N3, hB3⟩
        have YR := hid (yrounded_any N3 (by omega))
        have B3 := hid (bel B2.out hB3)
        clear N3 hB3 PR B2
        go_wp2_with fail
        with_reducible refine YR.out.mono ?_
        rintro r w4 ⟨x, rfl, R, hB4⟩
        have F := hid (KK.out x w4 R (bel B3.out hB4))
        clear R hB4 YR KK B3
        go_wp2_with fail
        go_ret
        exact F.out
      · rw [h4] at IB
        have F := hid (FF.out (9221120237041090560) w (by rw [UN.out]; simp [h1, h2, h3, h4, h5]) BR.out)
        clear FF UN RA BR
        go_enter Tryz.func17, Tryz.ntmps17
        go_wp2_with (first | (go_at_call 16; first | (with_reducible refine (GA.out _).mono ?_; rintro e w' ⟨rfl, rfl⟩) | (with_reducible refine (GB.out _).mono ?_; rintro e w' ⟨rfl, rfl⟩)) | (go_at_call 12; first | (with_reducible refine (AN.out _).mono ?_; rintro e w' ⟨rfl, rfl⟩)) | (go_at_call 14; first | (with_reducible refine (IA.out _).mono ?_; rintro e w' ⟨rfl, rfl⟩) | (with_reducible refine (IB.out _).mono ?_; rintro e w' ⟨rfl, rfl⟩)) | (go_at_call 23; first | (with_reducible refine (ZA.out _).mono ?_; rintro e w' ⟨rfl, rfl⟩) | (with_reducible refine (ZB.out _).mono ?_; rintro e w' ⟨rfl, rfl⟩)) | (go_at_call 15; first | (with_reducible refine (SI2.out _).mono ?_; rintro e w' ⟨rfl, rfl⟩)))
        go_ret
        exact F.out
  · rw [h3] at IA
    have h5 := XA h3
    rw [h5] at ZA
    cases h6 : Ie.isz b
    · rw [h6] at ZB
      have F := hid (FF.out (Ie.sb (Ie.ngd a != Ie.ngd b) 9218868437227405312) w (by rw [UN.out]; simp [h1, h2, h3, h5, h6]) BR.out)
      clear FF UN RA BR
      go_enter Tryz.func17, Tryz.ntmps17
      go_wp2_with (first | (go_at_call 16; first | (with_reducible refine (GA.out _).mono ?_; rintro e w' ⟨rfl, rfl⟩) | (with_reducible refine (GB.out _).mono ?_; rintro e w' ⟨rfl, rfl⟩)) | (go_at_call 12; first | (with_reducible refine (AN.out _).mono ?_; rintro e w' ⟨rfl, rfl⟩)) | (go_at_call 14; first | (with_reducible refine (IA.out _).mono ?_; rintro e w' ⟨rfl, rfl⟩) | (with_reducible refine (IB.out _).mono ?_; rintro e w' ⟨rfl, rfl⟩)) | (go_at_call 23; first | (with_reducible refine (ZA.out _).mono ?_; rintro e w' ⟨rfl, rfl⟩) | (with_reducible refine (ZB.out _).mono ?_; rintro e w' ⟨rfl, rfl⟩)) | (go_at_call 15; first | (with_reducible refine (SI2.out _).mono ?_; rintro e w' ⟨rfl, rfl⟩)))
      go_ret
      exact F.out
    · rw [h6] at ZB
      have F := hid (FF.out (9221120237041090560) w (by rw [UN.out]; simp [h1, h2, h3, h6]) BR.out)
      clear FF UN RA BR
      go_enter Tryz.func17, Tryz.ntmps17
      go_wp2_with (first | (go_at_call 16; first | (with_reducible refine (GA.out _).mono ?_; rintro e w' ⟨rfl, rfl⟩) | (with_reducible refine (GB.out _).mono ?_; rintro e w' ⟨rfl, rfl⟩)) | (go_at_call 12; first | (with_reducible refine (AN.out _).mono ?_; rintro e w' ⟨rfl, rfl⟩)) | (go_at_call 14; first | (with_reducible refine (IA.out _).mono ?_; rintro e w' ⟨rfl, rfl⟩) | (with_reducible refine (IB.out _).mono ?_; rintro e w' ⟨rfl, rfl⟩)) | (go_at_call 23; first | (with_reducible refine (ZA.out _).mono ?_; rintro e w' ⟨rfl, rfl⟩) | (with_reducible refine (ZB.out _).mono ?_; rintro e w' ⟨rfl, rfl⟩)) | (go_at_call 15; first | (with_reducible refine (SI2.out _).mono ?_; rintro e w' ⟨rfl, rfl⟩)))
      go_ret
      exact F.out
end Go.Proofs.YtljpmddjcfkonaaGreatDoor

namespace Go.Proofs.YtljpmddjcfkonaaGreatDoor
open Go Go.RowKit Go.Deep

/-- The sum, told: a number with that sign. -/
def SumTold5 (B : Nat) (n1 : Bool) (V1 e1 : Int) (n2 : Bool) (V2 e2 : Int) (w : World) (r : Ending) (w' : World) : Prop :=
  ∃ v neg V m, r = .returned v ∧ RN B w' v neg V 1 m ∧ Ie.SumIs n1 V1 e1 n2 V2 e2 neg V m ∧ Below w.heap.size w w'

theorem sum_zeros (n1 n2 : Bool) (e1 e2 : Int) : Ie.SumIs n1 0 e1 n2 0 e2 (n1 && n2) 0 0 :=
  ⟨.inr ⟨rfl, rfl⟩, fun _ => rfl, ⟨by omega, Nm.two_pos 5000⟩, fun B a b c _ _ _ => by rw [Ie.sn_zero, Ie.sn_zero, Ie.sn_zero]; simp⟩

theorem none_far (B : Nat) : ∀ x : Addr, (none : Option Addr) = some x → B ≤ x.block := fun x h => by cases h

theorem nil_arg (w : World) : Arg w none 0 0 [] := ⟨rfl, Nat.le_refl _, by omega, Lies.nil _ _, Nm.Limbs.nil⟩

set_option maxRecDepth 100000 in
set_option maxHeartbeats 4000000 in
theorem ysum_none {B : Nat} {w : World} {vx vy : Value} {n1 n2 : Bool} {e1 e2 : Int} (hx : RN B w vx n1 0 1 e1) (hy : RN B w vy n2 0 1 e2) :
    Calls Tryz.prog 20 #[vx, vy] w fun r w' => SumTold5 B n1 0 e1 n2 0 e2 w r w' := by
  have HX := hid hx
  have HY := hid hy
  obtain ⟨p, n, c, q, m, d, zs, ys, rfl, h2, h3, h4, h5, h6, h7, h8, h9⟩ := hx
  obtain ⟨p', n', c', q', m', d', zs', ys', rfl, k2, k3, k4, _⟩ := hy
  have Z := hid (R3B.new w (.bool n1) (.slice p n c) (.slice q m d) (.int .i64 e1) (.bool n2) (.slice p' n' c') (.slice q' m' d') (.int .i64 e2))
  have NX := hid (fun wx (b : Below w.heap.size w wx) => ynone_any (HX.out.on b))
  have NY := hid (fun wx (b : Below w.heap.size w wx) => ynone_any (HY.out.on b))
  rw [show decide ((0 : Int) = 0) = true from rfl] at NX NY
  have qlt : ∀ x, q = some x → x.block < w.heap.size := by
    have hl : 0 < ys.length := by
      rcases Nat.eq_zero_or_pos ys.length with g | g
      · rw [List.length_eq_zero_iff.1 g] at h6; simp [Nm.val] at h6
      · exact g
    exact h5.2.2.2.1.lt hl
  have Q5 := hid (And.intro h5 (And.intro h6 (And.intro h7 (And.intro h9 qlt))))
  clear h2 h3 h4 h5 h6 h7 h8 h9 k2 k3 k4 qlt HX HY
  go_enter Tryz.func20, Tryz.ntmps20
  go_upto_region 1 with fail
  generalize (((w.alloc (.cells #[.bool n1, .slice p n c, .slice q m d, .int .i64 e1] 41)).alloc (.cells #[.bool n2, .slice p' n' c', .slice q' m' d', .int .i64 e2] 41)).alloc (.cells #[.bool false, .slice none 0 0, .slice none 0 0, .int .i64 0] 41)) = wz at *
  have zb := Z.out.1
  obtain ⟨⟨c0, c1, c2, c3⟩, d0, d1, d2, d3⟩ := Z.out.flat
  go_wp2_with fail
  with_reducible refine (NX.out _ zb).mono ?_
  rintro r w1 ⟨rfl, hB1⟩
  have Z1 := hid (Z.out.on hB1)
  have z1 := Z1.out.1
  clear zb hB1 Z NX c0 c1 c2 c3 d0 d1 d2 d3
  obtain ⟨⟨c0, c1, c2, c3⟩, d0, d1, d2, d3⟩ := Z1.out.flat
  go_wp2_with fail
  with_reducible refine (NY.out _ z1).mono ?_
  rintro r w2 ⟨rfl, hB2⟩
  have Z2 := hid (Z1.out.on hB2)
  clear z1 hB2 Z1 NY c0 c1 c2 c3 d0 d1 d2 d3
  obtain ⟨⟨c0, c1, c2, c3⟩, d0, d1, d2, d3⟩ := Z2.out.flat
  obtain ⟨⟨g0, g1, g2, g3⟩, k0, k1, k2, k3⟩ := Z2.out.room
  have nq : ∀ x, q = some x → x.block ≠ w.heap.size + 1 + 1 := fun x hx => by have := Q5.out.2.2.2.2 x hx; omega
  have NQ := hid nq
  clear nq
  cases n1 <;> cases n2
  all_goals go_wp2_with fail
  all_goals (try simp only [Exit.inBlock, Exit.then])
  all_goals refine bodyPost_ret (results_cell_row rfl _ _ (w.heap.size + 1 + 1) 41 _ (0, 0) _ rfl (Z2.out.put _ _ _ _).1 Tryz.underlying41 rfl (by kernel_rfl)) rfl ?_
  all_goals exact ⟨_, _, 0, 0, rfl, ⟨_, _, _, _, _, _, [], ys, rfl, nil_arg _, rfl, by simp [Nm.tsize], far_arg (Q5.out.1.below Z2.out.1 (Nat.le_refl _)) NQ.out, Q5.out.2.1, Q5.out.2.2.1, none_far B, Q5.out.2.2.2.1⟩, sum_zeros _ _ _ _, (Z2.out.put _ _ _ _).2⟩
end Go.Proofs.YtljpmddjcfkonaaGreatDoor
