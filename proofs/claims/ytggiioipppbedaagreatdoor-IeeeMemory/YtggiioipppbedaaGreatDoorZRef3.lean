/-
  THE REFERENCE's limbs AND Plus.
-/
import Derived.Test.YtggiioipppbedaaGreatDoorZRef2
namespace Go.Proofs.YtggiioipppbedaaGreatDoor
open Go.RowKit Go.Deep

theorem Ans.mono {B B' : Nat} {w : World} {p : Option Addr} {ys : List Int} {n : Int} (h : Ans B w p ys n) (hB : B' ≤ B) : Ans B' w p ys n :=
  ⟨h.1, h.2.1, h.2.2.1, h.2.2.2.1, fun a ha => ⟨Nat.le_trans hB (h.2.2.2.2 a ha).1, (h.2.2.2.2 a ha).2⟩⟩

theorem Lies.cells {w : World} {g o : Nat} {zs : List Int} (h : Lies w (some ⟨g, o, none⟩) zs) (i : Nat) (hi : i < zs.length) : w.cell? ⟨g, o + i, none⟩ = some (.int .u64 (zs.getD i 0)) := by
  rcases h with rfl | ⟨b, off, hp, h⟩
  · simp at hi
  · cases hp
    exact h i hi

namespace Nm
theorem v32_take_next (zs : List Int) (k : Nat) : v32 (zs.take (k + 1)) = v32 (zs.take k) + p32 k * zs.getD k 0 := by
  by_cases h : k < zs.length
  · exact v32_take_succ zs k h
  · rw [List.take_of_length_le (by omega), List.take_of_length_le (by omega)]
    simp [List.getD, List.getElem?_eq_none (Nat.le_of_not_lt h)]

theorem plus_step {ss xs ys : List Int} {j : Nat} {c c' lo : Int} (hl : ss.length = j) (h : v32 ss + p32 j * c = v32 (xs.take j) + v32 (ys.take j)) (hs : lo + 4294967296 * c' = c + xs.getD j 0 + ys.getD j 0) :
    v32 (ss ++ [lo]) + p32 (j + 1) * c' = v32 (xs.take (j + 1)) + v32 (ys.take (j + 1)) := by
  rw [v32_snoc, v32_take_next, v32_take_next, hl]
  have e : p32 j * (lo + 4294967296 * c') = p32 j * (c + xs.getD j 0 + ys.getD j 0) := by rw [hs]
  rw [Int.mul_add, Int.mul_add, Int.mul_add] at e
  have e2 : p32 (j + 1) * c' = p32 j * (4294967296 * c') := by simp only [p32]; rw [Int.mul_comm 4294967296 (p32 j), Int.mul_assoc]
  omega

/-- Two halves make a limb. -/
theorem limbs_step {ls hs : List Int} {j : Nat} {z : Int} (hl : ls.length = j) (hz : z = hs.getD (2 * j) 0 + 4294967296 * hs.getD (2 * j + 1) 0) (h : val ls = v32 (hs.take (2 * j))) : val (ls ++ [z]) = v32 (hs.take (2 * (j + 1))) := by
  rw [val_snoc, h, hl, show 2 * (j + 1) = 2 * j + 1 + 1 by omega, v32_take_next, v32_take_next, hz]
  simp only [p32, p32_two]
  rw [Int.mul_add, Int.mul_left_comm]
  rw [Int.mul_assoc]
  omega
end Nm

set_option maxRecDepth 100000 in
set_option maxHeartbeats 2000000 in
theorem rlimbs_any (p : Option Addr) (n cap : Nat) (zs : List Int) (w : World) (ha : Arg w p n cap zs) (hH : Nm.Halves zs) :
    Calls Tryz.prog 82 #[.slice p n cap] w fun e w' => ∃ r os, e = .returned (.slice r (List.length os) (List.length os)) ∧ Ans w.heap.size w' r os (Nm.v32 zs) ∧ Below w.heap.size w w' := by
  obtain ⟨a1, a2, a3, a4, a5⟩ := ha
  obtain ⟨C, HC0⟩ : ∃ C, Hid ((n + 1) / 2 = C) := ⟨_, rfl⟩
  have hC : ((n : Int) + 1) / 2 = (C : Int) := by have := HC0.out; omega
  have hC2 : C ≤ n := by have := HC0.out; omega
  have hmk := make64_room C (by omega) w
  have bm := hid ((Below.refl w.heap.size w).alloc (Nat.le_refl _) (.cells (madeCells #[.int .u64 0] C) 25))
  have gm := hid (Grown.made w C)
  generalize w.alloc (.cells (madeCells #[.int .u64 0] C) 25) = wm at hmk bm gm
  have FIN : Hid (∀ (k : Nat) (ls : List Int) (wr : World), n ≤ k → k = 2 * C → ls.length = C → Nm.Limbs ls → Nm.val ls = Nm.v32 (zs.take k) → Grown wr w.heap.size ls (C - C) → Below w.heap.size w wr →
      Calls Tryz.prog 98 #[.slice (some ⟨w.heap.size, 0, none⟩) C C] wr fun e w' => ∃ r os, e = .returned (.slice r (List.length os) (List.length os)) ∧ Ans w.heap.size w' r os (Nm.v32 zs) ∧ Below w.heap.size w w') := by
    intro k ls wr hk _ hl hL hv hg hb
    refine (refTrim_any _ C C ls wr ⟨hl, Nat.le_refl _, by omega, hg.lies, hL⟩).mono ?_
    rintro e w' ⟨r, os, rfl, _, hA, hB⟩
    rw [hv, List.take_of_length_le (by omega)] at hA
    exact ⟨r, os, rfl, hA.mono hb.size, chain hb hB (Nat.le_refl _)⟩
  rcases a4 with rfl | ⟨b, off, rfl, hcell⟩
  · have hn0 : n = 0 := by simpa using a1.symm
    subst hn0
    obtain rfl : C = 0 := by omega
    have E := hid (FIN.out 0 [] wm (Nat.le_refl _) rfl rfl Nm.Limbs.nil rfl (by simpa using gm.out) bm.out)
    rw [show ((0 : Nat) : Int) = 0 from rfl] at hmk hC
    clear a1 a5 gm bm FIN hH
    go_enter Tryz.func82, Tryz.ntmps82
    go_wp2
    refine wp_loop_rounds 1 ?_
    rw [rounds_succ]
    go_wp2_with fail
    refine E.out.mono ?_
    rintro e w' ⟨r, os, rfl, h⟩
    have HH := hid h
    clear h
    go_wp2
    go_ret
    exact ⟨r, os, rfl, HH.out⟩
  · have H : Hid (zs.length = n) := a1
    have HC : Hid (∀ i, i < zs.length → w.cell? ⟨b, off + i, none⟩ = some (.int .u64 (zs.getD i 0))) := hcell
    have hbw : 0 < n → b < w.heap.size := fun h => cell_lt (hcell 0 (by omega))
    have HH := hid hH
    clear a1 hcell a5 hH
    go_enter Tryz.func82, Tryz.ntmps82
    go_wp2
    clear hC hmk
    go_loopw [3, 4] (fun a i wr => ∃ (k j : Nat) (ls : List Int), k ≤ n + 1 ∧ Hid (k = 2 * j) ∧ j ≤ C ∧ i = .int .i64 k ∧ a = .slice (some ⟨w.heap.size, 0, none⟩) j C ∧ Hid (Grown wr w.heap.size ls (C - j)) ∧ Hid (ls.length = j) ∧ Hid (Nm.Limbs ls) ∧ Hid (Nm.val ls = Nm.v32 (zs.take k)) ∧ Below w.heap.size w wr) (fun _ i _ => n + 1 - (intOf i).toNat)
    case atStart => exact ⟨0, 0, [], Nat.zero_le _, rfl, Nat.zero_le _, rfl, rfl, gm.out, rfl, Nm.Limbs.nil, rfl, bm.out⟩
    case round =>
      obtain ⟨k, j, ls, hk, K, hj, rfl, rfl, G, L, HL, V, hB⟩ := hrel
      by_cases hlt : k < n
      · have hbb := hbw (by omega)
        have hjC : j < C := by have := K.out; have := HC0.out; omega
        obtain ⟨x, hx, X⟩ : ∃ x, wr.cell? ⟨b, off + k, none⟩ = some (.int .u64 x) ∧ Hid (x = zs.getD k 0) := ⟨_, (hB.cell (p := ⟨b, off + k, none⟩) hbb).trans (HC.out k (by have := H.out; omega)), rfl⟩
        have hx0 : 0 ≤ x := by have := HH.out.at k; have := X.out; omega
        have hx1 : x < 4294967296 := by have := HH.out.at k; have := X.out; omega
        have hlt' : (k : Int) < (n : Int) := by omega
        have G' := G.out
        rw [show C - j = (C - j - 1) + 1 by omega] at G'
        by_cases h2 : k + 1 < n
        · obtain ⟨y, hy, Y⟩ : ∃ y, wr.cell? ⟨b, off + (k + 1), none⟩ = some (.int .u64 y) ∧ Hid (y = zs.getD (k + 1) 0) := ⟨_, (hB.cell (p := ⟨b, off + (k + 1), none⟩) hbb).trans (HC.out (k + 1) (by have := H.out; omega)), rfl⟩
          have hy0 : 0 ≤ y := by have := HH.out.at (k + 1); have := Y.out; omega
          have hy1 : y < 4294967296 := by have := HH.out.at (k + 1); have := Y.out; omega
          obtain ⟨t, ht, T⟩ : ∃ t, IntKind.u64.wrap (y * 4294967296) = t ∧ Hid (t = y * 4294967296) := ⟨_, by rw [IntKind.wrap_u64, Int.emod_eq_of_lt (by omega) (by omega)], rfl⟩
          have ht0 : 0 ≤ t := by have := T.out; omega
          have ht1 : t ≤ 18446744069414584320 := by have := T.out; omega
          obtain ⟨z, hz, Z⟩ : ∃ z, IntKind.u64.wrap (x + t) = z ∧ Hid (z = x + t) := ⟨_, by rw [IntKind.wrap_u64, Int.emod_eq_of_lt (by omega) (by omega)], rfl⟩
          obtain ⟨w2, ap, gr, be, sz⟩ := push64 w.heap.size j (C - j - 1) C ls z wr L.out (by omega) G'
          have AP := hid ap
          have GR := hid gr
          have BE := hid (hB.trans be)
          have h2' : (k : Int) + 1 < (n : Int) := by omega
          clear ap gr be sz hB G G'
          go_wp2_with (at_builtin; refine wpList_append_row rfl _ _ rfl AP.out (by rfl) (by rfl) ?_; clear AP)
          go_roundw
          case rel =>
            refine ⟨k + 2, j + 1, ls ++ [z], by omega, ?_, by omega, by go_num, rfl, ?_, ?_, ?_, ?_, BE.out⟩
            · have := K.out; show _ = _; omega
            · exact GR.out
            · have := L.out; simp only [Hid, List.length_append, List.length_cons, List.length_nil]; omega
            · have := Z.out; exact HL.out.snoc (by omega) (by omega)
            · have hk2 := K.out
              have := Nm.limbs_step (hs := zs) L.out (z := z) (by rw [← hk2, ← X.out, ← Y.out, Z.out, T.out]; omega) (by rw [← hk2]; exact V.out)
              rw [show 2 * (j + 1) = k + 2 by omega] at this
              exact this
          case measure => simp [intOf]; omega
        · obtain ⟨w2, ap, gr, be, sz⟩ := push64 w.heap.size j (C - j - 1) C ls x wr L.out (by omega) G'
          have AP := hid ap
          have GR := hid gr
          have BE := hid (hB.trans be)
          have h2' : ¬ (k : Int) + 1 < (n : Int) := by omega
          clear ap gr be sz hB G G'
          go_wp2_with (at_builtin; refine wpList_append_row rfl _ _ rfl AP.out (by rfl) (by rfl) ?_; clear AP)
          go_roundw
          case rel =>
            refine ⟨k + 2, j + 1, ls ++ [x], by omega, ?_, by omega, by go_num, rfl, ?_, ?_, ?_, ?_, BE.out⟩
            · have := K.out; show _ = _; omega
            · exact GR.out
            · have := L.out; simp only [Hid, List.length_append, List.length_cons, List.length_nil]; omega
            · exact HL.out.snoc (by omega) (by omega)
            · have hk2 := K.out
              have e0 : zs.getD (k + 1) 0 = 0 := by simp [List.getD, List.getElem?_eq_none (show zs.length ≤ k + 1 by have := H.out; omega)]
              have := Nm.limbs_step (hs := zs) L.out (z := x) (by rw [← hk2, ← X.out, e0]; omega) (by rw [← hk2]; exact V.out)
              rw [show 2 * (j + 1) = k + 2 by omega] at this
              exact this
          case measure => simp [intOf]; omega
      · have hlt' : ¬ (k : Int) < (n : Int) := by omega
        obtain rfl : j = C := by have := K.out; have := HC0.out; omega
        have E := hid (FIN.out k ls wr (by omega) K.out L.out HL.out V.out G.out hB)
        clear FIN G hB V
        go_wp2_with fail
        refine E.out.mono ?_
        rintro e w' ⟨r, os, rfl, h⟩
        have HF := hid h
        clear h
        go_wp2
        go_ret
        exact ⟨r, os, rfl, HF.out⟩
end Go.Proofs.YtggiioipppbedaaGreatDoor
