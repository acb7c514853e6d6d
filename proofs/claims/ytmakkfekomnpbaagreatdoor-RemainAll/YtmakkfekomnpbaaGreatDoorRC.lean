/-
  Texts put together: ZRef3, ZRef6, ZRef7, ZRef17, ZRound, ZRef12, ZRound2, ZArg, ZFromU, UCut.
-/
import Derived.Test.YtmakkfekomnpbaaGreatDoorRB
import Derived.Test.YtmakkfekomnpbaaGreatDoorTrailW
import Derived.Test.YtmakkfekomnpbaaGreatDoorWalk5
import Derived.Test.YtmakkfekomnpbaaGreatDoorBlenIs
import Derived.Test.YtmakkfekomnpbaaGreatDoorBitW
import Derived.Test.YtmakkfekomnpbaaGreatDoorZDecA
import Derived.Test.YtmakkfekomnpbaaGreatDoorINum2
import Derived.Test.YtmakkfekomnpbaaGreatDoorRA
import Derived.Deep.RegionWith
namespace Go.Proofs.YtmakkfekomnpbaaGreatDoor
open Go.RowKit Go.Deep

theorem Ans.mono {B B' : Nat} {w : World} {p : Option Addr} {ys : List Int} {n : Int} (h : Ans B w p ys n) (hB : B' ≤ B) : Ans B' w p ys n :=
  ⟨h.1, h.2.1, h.2.2.1, h.2.2.2.1, fun a ha => Nat.le_trans hB (h.2.2.2.2 a ha)⟩

theorem Lies.cells {w : World} {g o : Nat} {zs : List Int} (h : Lies w (some ⟨g, o, none⟩) zs) (i : Nat) (hi : i < zs.length) : w.cell? ⟨g, o + i, none⟩ = some (.int .u64 (zs.getD i 0)) := by
  rcases h with rfl | ⟨b, off, hp, h⟩
  · simp at hi
  · cases hp
    exact h i hi

namespace Nm
theorem v32_take_next (zs : List Int) (k : Nat) : v32 (zs.take (k + 1)) = v32 (zs.take k) + p32 k * zs.getD k 0 := by
  by_cases h : k < zs.length
  · exact v32_take_succ zs k h
  · rw [List.take_of_length_le (by omega), List.take_of_length_le (by omega)]
    simp [List.getD, List.getElem?_eq_none (Nat.le_of_not_lt h)]

theorem plus_step {ss xs ys : List Int} {j : Nat} {c c' lo : Int} (hl : ss.length = j) (h : v32 ss + p32 j * c = v32 (xs.take j) + v32 (ys.take j)) (hs : lo + 4294967296 * c' = c + xs.getD j 0 + ys.getD j 0) :
    v32 (ss ++ [lo]) + p32 (j + 1) * c' = v32 (xs.take (j + 1)) + v32 (ys.take (j + 1)) := by
  rw [v32_snoc, v32_take_next, v32_take_next, hl]
  have e : p32 j * (lo + 4294967296 * c') = p32 j * (c + xs.getD j 0 + ys.getD j 0) := by rw [hs]
  rw [Int.mul_add, Int.mul_add, Int.mul_add] at e
  have e2 : p32 (j + 1) * c' = p32 j * (4294967296 * c') := by simp only [p32]; rw [Int.mul_comm 4294967296 (p32 j), Int.mul_assoc]
  omega

/-- Two halves make a limb. -/
theorem limbs_step {ls hs : List Int} {j : Nat} {z : Int} (hl : ls.length = j) (hz : z = hs.getD (2 * j) 0 + 4294967296 * hs.getD (2 * j + 1) 0) (h : val ls = v32 (hs.take (2 * j))) : val (ls ++ [z]) = v32 (hs.take (2 * (j + 1))) := by
  rw [val_snoc, h, hl, show 2 * (j + 1) = 2 * j + 1 + 1 by omega, v32_take_next, v32_take_next, hz]
  simp only [p32, p32_two]
  rw [Int.mul_add, Int.mul_left_comm]
  rw [Int.mul_assoc]
  omega
end Nm

set_option maxRecDepth 100000 in
set_option maxHeartbeats 2000000 in
theorem rlimbs_any (p : Option Addr) (n cap : Nat) (zs : List Int) (w : World) (ha : Arg w p n cap zs) (hH : Nm.Halves zs) :
    Calls Tryz.prog 86 #[.slice p n cap] w fun e w' => ∃ r os, e = .returned (.slice r (List.length os) (List.length os)) ∧ Ans w.heap.size w' r os (Nm.v32 zs) ∧ Below w.heap.size w w' := by
  obtain ⟨a1, a2, a3, a4, a5⟩ := ha
  obtain ⟨C, HC0⟩ : ∃ C, Hid ((n + 1) / 2 = C) := ⟨_, rfl⟩
  have hC : ((n : Int) + 1) / 2 = (C : Int) := by have := HC0.out; omega
  have hC2 : C ≤ n := by have := HC0.out; omega
  have hmk := make64_room C (by omega) w
  have bm := hid ((Below.refl w.heap.size w).alloc (Nat.le_refl _) (.cells (madeCells #[.int .u64 0] C) 26))
  have gm := hid (Grown.made w C)
  generalize w.alloc (.cells (madeCells #[.int .u64 0] C) 26) = wm at hmk bm gm
  have FIN : Hid (∀ (k : Nat) (ls : List Int) (wr : World), n ≤ k → k = 2 * C → ls.length = C → Nm.Limbs ls → Nm.val ls = Nm.v32 (zs.take k) → Grown wr w.heap.size ls (C - C) → Below w.heap.size w wr →
      Calls Tryz.prog 117 #[.slice (some ⟨w.heap.size, 0, none⟩) C C] wr fun e w' => ∃ r os, e = .returned (.slice r (List.length os) (List.length os)) ∧ Ans w.heap.size w' r os (Nm.v32 zs) ∧ Below w.heap.size w w') := by
    intro k ls wr hk _ hl hL hv hg hb
    refine (refTrim_any _ C C ls wr ⟨hl, Nat.le_refl _, by omega, hg.lies, hL⟩).mono ?_
    rintro e w' ⟨r, os, rfl, _, hA, hB⟩
    rw [hv, List.take_of_length_le (by omega)] at hA
    exact ⟨r, os, rfl, hA.mono hb.size, chain hb hB (Nat.le_refl _)⟩
  rcases a4 with rfl | ⟨b, off, rfl, hcell⟩
  · have hn0 : n = 0 := by simpa using a1.symm
    subst hn0
    obtain rfl : C = 0 := by omega
    have E := hid (FIN.out 0 [] wm (Nat.le_refl _) rfl rfl Nm.Limbs.nil rfl (by simpa using gm.out) bm.out)
    rw [show ((0 : Nat) : Int) = 0 from rfl] at hmk hC
    clear a1 a5 gm bm FIN hH
    go_enter Tryz.func86, Tryz.ntmps86
    go_wp2
    refine wp_loop_rounds 1 ?_
    rw [rounds_succ]
    go_wp2_with fail
    refine E.out.mono ?_
    rintro e w' ⟨r, os, rfl, h⟩
    have HH := hid h
    clear h
    go_wp2
    go_ret
    exact ⟨r, os, rfl, HH.out⟩
  · have H : Hid (zs.length = n) := a1
    have HC : Hid (∀ i, i < zs.length → w.cell? ⟨b, off + i, none⟩ = some (.int .u64 (zs.getD i 0))) := hcell
    have hbw : 0 < n → b < w.heap.size := fun h => cell_lt (hcell 0 (by omega))
    have HH := hid hH
    clear a1 hcell a5 hH
    go_enter Tryz.func86, Tryz.ntmps86
    go_wp2
    clear hC hmk
    go_loopw [3, 4] (fun a i wr => ∃ (k j : Nat) (ls : List Int), k ≤ n + 1 ∧ Hid (k = 2 * j) ∧ j ≤ C ∧ i = .int .i64 k ∧ a = .slice (some ⟨w.heap.size, 0, none⟩) j C ∧ Hid (Grown wr w.heap.size ls (C - j)) ∧ Hid (ls.length = j) ∧ Hid (Nm.Limbs ls) ∧ Hid (Nm.val ls = Nm.v32 (zs.take k)) ∧ Below w.heap.size w wr) (fun _ i _ => n + 1 - (intOf i).toNat)
    case atStart => exact ⟨0, 0, [], Nat.zero_le _, rfl, Nat.zero_le _, rfl, rfl, gm.out, rfl, Nm.Limbs.nil, rfl, bm.out⟩
    case round =>
      obtain ⟨k, j, ls, hk, K, hj, rfl, rfl, G, L, HL, V, hB⟩ := hrel
      by_cases hlt : k < n
      · have hbb := hbw (by omega)
        have hjC : j < C := by have := K.out; have := HC0.out; omega
        obtain ⟨x, hx, X⟩ : ∃ x, wr.cell? ⟨b, off + k, none⟩ = some (.int .u64 x) ∧ Hid (x = zs.getD k 0) := ⟨_, (hB.cell (p := ⟨b, off + k, none⟩) hbb).trans (HC.out k (by have := H.out; omega)), rfl⟩
        have hx0 : 0 ≤ x := by have := HH.out.at k; have := X.out; omega
        have hx1 : x < 4294967296 := by have := HH.out.at k; have := X.out; omega
        have hlt' : (k : Int) < (n : Int) := by omega
        have G' := G.out
        rw [show C - j = (C - j - 1) + 1 by omega] at G'
        by_cases h2 : k + 1 < n
        · obtain ⟨y, hy, Y⟩ : ∃ y, wr.cell? ⟨b, off + (k + 1), none⟩ = some (.int .u64 y) ∧ Hid (y = zs.getD (k + 1) 0) := ⟨_, (hB.cell (p := ⟨b, off + (k + 1), none⟩) hbb).trans (HC.out (k + 1) (by have := H.out; omega)), rfl⟩
          have hy0 : 0 ≤ y := by have := HH.out.at (k + 1); have := Y.out; omega
          have hy1 : y < 4294967296 := by have := HH.out.at (k + 1); have := Y.out; omega
          obtain ⟨t, ht, T⟩ : ∃ t, IntKind.u64.wrap (y * 4294967296) = t ∧ Hid (t = y * 4294967296) := ⟨_, by rw [IntKind.wrap_u64, Int.emod_eq_of_lt (by omega) (by omega)], rfl⟩
          have ht0 : 0 ≤ t := by have := T.out; omega
          have ht1 : t ≤ 18446744069414584320 := by have := T.out; omega
          obtain ⟨z, hz, Z⟩ : ∃ z, IntKind.u64.wrap (x + t) = z ∧ Hid (z = x + t) := ⟨_, by rw [IntKind.wrap_u64, Int.emod_eq_of_lt (by omega) (by omega)], rfl⟩
          obtain ⟨w2, ap, gr, be, sz⟩ := push64 w.heap.size j (C - j - 1) C ls z wr L.out (by omega) G'
          have AP := hid ap
          have GR := hid gr
          have BE := hid (hB.trans be)
          have h2' : (k : Int) + 1 < (n : Int) := by omega
          clear ap gr be sz hB G G'
          go_wp2_with (at_builtin; refine wpList_append_row rfl _ _ rfl AP.out (by rfl) (by rfl) ?_; clear AP)
          go_roundw
          case rel =>
            refine ⟨k + 2, j + 1, ls ++ [z], by omega, ?_, by omega, by go_num, rfl, ?_, ?_, ?_, ?_, BE.out⟩
            · have := K.out; show _ = _; omega
            · exact GR.out
            · have := L.out; simp only [Hid, List.length_append, List.length_cons, List.length_nil]; omega
            · have := Z.out; exact HL.out.snoc (by omega) (by omega)
            · have hk2 := K.out
              have := Nm.limbs_step (hs := zs) L.out (z := z) (by rw [← hk2, ← X.out, ← Y.out, Z.out, T.out]; omega) (by rw [← hk2]; exact V.out)
              rw [show 2 * (j + 1) = k + 2 by omega] at this
              exact this
          case measure => simp [intOf]; omega
        · obtain ⟨w2, ap, gr, be, sz⟩ := push64 w.heap.size j (C - j - 1) C ls x wr L.out (by omega) G'
          have AP := hid ap
          have GR := hid gr
          have BE := hid (hB.trans be)
          have h2' : ¬ (k : Int) + 1 < (n : Int) := by omega
          clear ap gr be sz hB G G'
          go_wp2_with (at_builtin; refine wpList_append_row rfl _ _ rfl AP.out (by rfl) (by rfl) ?_; clear AP)
          go_roundw
          case rel =>
            refine ⟨k + 2, j + 1, ls ++ [x], by omega, ?_, by omega, by go_num, rfl, ?_, ?_, ?_, ?_, BE.out⟩
            · have := K.out; show _ = _; omega
            · exact GR.out
            · have := L.out; simp only [Hid, List.length_append, List.length_cons, List.length_nil]; omega
            · exact HL.out.snoc (by omega) (by omega)
            · have hk2 := K.out
              have e0 : zs.getD (k + 1) 0 = 0 := by simp [List.getD, List.getElem?_eq_none (show zs.length ≤ k + 1 by have := H.out; omega)]
              have := Nm.limbs_step (hs := zs) L.out (z := x) (by rw [← hk2, ← X.out, e0]; omega) (by rw [← hk2]; exact V.out)
              rw [show 2 * (j + 1) = k + 2 by omega] at this
              exact this
          case measure => simp [intOf]; omega
      · have hlt' : ¬ (k : Int) < (n : Int) := by omega
        obtain rfl : j = C := by have := K.out; have := HC0.out; omega
        have E := hid (FIN.out k ls wr (by omega) K.out L.out HL.out V.out G.out hB)
        clear FIN G hB V
        go_wp2_with fail
        refine E.out.mono ?_
        rintro e w' ⟨r, os, rfl, h⟩
        have HF := hid h
        clear h
        go_wp2
        go_ret
        exact ⟨r, os, rfl, HF.out⟩
end Go.Proofs.YtmakkfekomnpbaaGreatDoor

namespace Go.Proofs.YtmakkfekomnpbaaGreatDoor
open Go.RowKit Go.Deep

theorem cmp_at3 {zs ys : List Int} (hz : Nm.Limbs zs) (hy : Nm.Limbs ys) (hl : (Nm.trim zs).length = (Nm.trim ys).length) (t : Nat) (ht : t < (Nm.trim zs).length) (he : ∀ i, t + 1 ≤ i → (Nm.trim zs).getD i 0 = (Nm.trim ys).getD i 0) {x y : Int}
    (hx : x = (Nm.trim zs).getD t 0) (hy' : y = (Nm.trim ys).getD t 0) : (x < y → cmpI (Nm.val zs) (Nm.val ys) = -1) ∧ (y < x → cmpI (Nm.val zs) (Nm.val ys) = 1) := by
  refine ⟨fun h => ?_, fun h => ?_⟩
  · rw [← cmp_at hz hy hl t ht he hx hy' (by omega)]
    simp [sgn]; omega
  · rw [← cmp_at hz hy hl t ht he hx hy' (by omega)]
    simp [sgn, h]

set_option maxRecDepth 100000 in
set_option maxHeartbeats 2000000 in
theorem refCmp_any (p q : Option Addr) (n cap m cap' : Nat) (zs ys : List Int) (w : World) (ha : Arg w p n cap zs) (hb : Arg w q m cap' ys) :
    Calls Tryz.prog 55 #[.slice p n cap, .slice q m cap'] w fun e w' => e = .returned (.int .i64 (cmpI (Nm.val zs) (Nm.val ys))) ∧ Below w.heap.size w w' := by
  obtain ⟨a1, a2, a3, a4, a5⟩ := ha
  obtain ⟨b1, b2, b3, b4, b5⟩ := hb
  have tl := Nm.tsize_le zs
  have tl' := Nm.tsize_le ys
  have S1 := hid (refSize_any p n cap zs w a1 (by omega) a4)
  have S2 := hid (refSize_any q m cap' ys w b1 (by omega) b4)
  by_cases h1 : Nm.tsize zs < Nm.tsize ys
  · have E := hid (cmpI_lt (val_lt_of_tsize a5 b5 h1))
    have h1' : (Nm.tsize zs : Int) < (Nm.tsize ys : Int) := by omega
    clear h1
    go_enter Tryz.func55, Tryz.ntmps55
    go_wp2_with fail
    refine S1.out.mono ?_
    rintro e w' ⟨rfl, rfl⟩
    go_wp2_with fail
    refine S2.out.mono ?_
    rintro e w' ⟨rfl, rfl⟩
    go_wp2
    go_ret
    exact ⟨ret_i64 E.out.symm, Below.refl _ _⟩
  by_cases h2 : Nm.tsize ys < Nm.tsize zs
  · have E := hid (cmpI_gt (val_lt_of_tsize b5 a5 h2))
    have h1' : ¬ (Nm.tsize zs : Int) < (Nm.tsize ys : Int) := by omega
    have h2' : (Nm.tsize ys : Int) < (Nm.tsize zs : Int) := by omega
    clear h1 h2
    go_enter Tryz.func55, Tryz.ntmps55
    go_wp2_with fail
    refine S1.out.mono ?_
    rintro e w' ⟨rfl, rfl⟩
    go_wp2_with fail
    refine S2.out.mono ?_
    rintro e w' ⟨rfl, rfl⟩
    go_wp2
    go_ret
    exact ⟨ret_i64 E.out.symm, Below.refl _ _⟩
  obtain ⟨N, HN⟩ : ∃ N, Hid (Nm.tsize zs = N) := ⟨_, rfl⟩
  have HN' : Hid (Nm.tsize ys = N) := by have := HN.out; exact (show Nm.tsize ys = N by omega)
  have T1 := S1.out
  have T2 := S2.out
  rw [HN.out] at T1
  rw [HN'.out] at T2
  have HT1 := hid T1
  have HT2 := hid T2
  have hN : N ≤ 17592186044416 := by have := HN.out; omega
  have L1 := hid (Nm.trim_length zs)
  have L2 := hid (Nm.trim_length ys)
  clear h1 h2 tl tl' T1 T2 S1 S2
  have FIN : Hid (Nm.trim zs = Nm.trim ys → cmpI (Nm.val zs) (Nm.val ys) = 0) := fun h => cmpI_eq (by rw [← Nm.val_trim zs, ← Nm.val_trim ys, h])
  by_cases h0 : N = 0
  · subst h0
    go_enter Tryz.func55, Tryz.ntmps55
    go_wp2_with fail
    refine HT1.out.mono ?_
    rintro e w' ⟨rfl, rfl⟩
    go_wp2_with fail
    refine HT2.out.mono ?_
    rintro e w' ⟨rfl, rfl⟩
    go_wp2_with fail
    refine wp_loop_rounds 1 ?_
    rw [rounds_succ]
    go_wp2
    go_ret
    exact ⟨ret_i64 (FIN.out (by rw [List.eq_nil_of_length_eq_zero (L1.out.trans HN.out), List.eq_nil_of_length_eq_zero (L2.out.trans HN'.out)])).symm, Below.refl _ _⟩
  · obtain ⟨b, off, rfl, hbw, HC⟩ := a4.trim.at (by have := L1.out; have := HN.out; omega)
    obtain ⟨b', off', rfl, hbw', HC'⟩ := b4.trim.at (by have := L2.out; have := HN'.out; omega)
    have hNn : N ≤ n := by have := HN.out; have := Nm.tsize_le zs; omega
    have hNm : N ≤ m := by have := HN'.out; have := Nm.tsize_le ys; omega
    go_enter Tryz.func55, Tryz.ntmps55
    go_wp2_with fail
    refine HT1.out.mono ?_
    rintro e w' ⟨rfl, rfl⟩
    go_wp2_with fail
    refine HT2.out.mono ?_
    rintro e w' ⟨rfl, rfl⟩
    go_wp2_with fail
    go_loopw [7] (fun i wr => ∃ j : Nat, j ≤ N ∧ i = .int .i64 ((j : Int) - 1) ∧ Hid (∀ t, j ≤ t → (Nm.trim zs).getD t 0 = (Nm.trim ys).getD t 0) ∧ Below w'.heap.size w' wr) (fun i _ => (intOf i + 1).toNat)
    case atStart => exact ⟨N, Nat.le_refl _, rfl, fun t ht => by rw [List.getD, List.getElem?_eq_none (by have := L1.out; have := HN.out; omega), List.getD, List.getElem?_eq_none (by have := L2.out; have := HN'.out; omega)], Below.refl _ _⟩
    case round =>
      obtain ⟨j, hj, rfl, hE, hB⟩ := hrel
      by_cases hj0 : j = 0
      · subst hj0
        have HB := hid hB
        clear hB
        go_wp2
        go_ret
        refine ⟨ret_i64 (FIN.out ?_).symm, HB.out⟩
        have e := Nm.drop_eq_of_getD (by rw [L1.out, L2.out, HN.out, HN'.out]) 0 hE.out
        simpa using e
      · obtain ⟨t, rfl⟩ : ∃ t, j = t + 1 := ⟨j - 1, by omega⟩
        obtain ⟨x, hx, X⟩ : ∃ x, wr.cell? ⟨b, off + t, none⟩ = some (.int .u64 x) ∧ Hid (x = (Nm.trim zs).getD t 0) := ⟨_, (hB.cell (p := ⟨b, off + t, none⟩) hbw).trans (HC.out t (by have := L1.out; have := HN.out; omega)), rfl⟩
        obtain ⟨y, hy, Y⟩ : ∃ y, wr.cell? ⟨b', off' + t, none⟩ = some (.int .u64 y) ∧ Hid (y = (Nm.trim ys).getD t 0) := ⟨_, (hB.cell (p := ⟨b', off' + t, none⟩) hbw').trans (HC'.out t (by have := L2.out; have := HN'.out; omega)), rfl⟩
        have HB := hid hB
        have CM := hid (cmp_at3 a5 b5 (by rw [L1.out, L2.out, HN.out, HN'.out]) t (by rw [L1.out, HN.out]; omega) hE.out X.out Y.out)
        clear hB
        have htn : (t : Int) < (n : Int) := by omega
        have htm : (t : Int) < (m : Int) := by omega
        by_cases hxy : x < y
        · go_wp2_with fail
          go_quiet (fail)
          go_wp2
          go_ret
          exact ⟨ret_i64 (CM.out.1 hxy).symm, below_drewN HB.out _⟩
        · go_wp2_with fail
          go_quiet (fail)
          have hx2 : (wr.drewN nq).cell? ⟨b, off + t, none⟩ = some (.int .u64 x) := hx
          have hy2 : (wr.drewN nq).cell? ⟨b', off' + t, none⟩ = some (.int .u64 y) := hy
          have HB2 := hid (below_drewN HB.out nq)
          clear hx hy HB
          generalize wr.drewN nq = wq at *
          by_cases hyx : y < x
          · go_wp2_with fail
            go_quiet (fail)
            go_wp2
            go_ret
            exact ⟨ret_i64 (CM.out.2 hyx).symm, below_drewN HB2.out _⟩
          · have EQ : Hid (x = y) := by show _ = _; omega
            go_wp2_with fail
            go_quiet (fail)
            go_wp2
            go_roundw
            case rel =>
              refine ⟨t, by omega, by go_num, fun i hi => ?_, below_drewN HB2.out _⟩
              by_cases e : i = t
              · subst e; rw [← X.out, ← Y.out]; exact EQ.out
              · exact hE.out i (by omega)
            case measure => simp [intOf]
end Go.Proofs.YtmakkfekomnpbaaGreatDoor

namespace Go.Proofs.YtmakkfekomnpbaaGreatDoor
open Go.RowKit Go.Deep

theorem half_more (x0 : Int) (c : Nat) : x0 / 2 ^ c / 2 = x0 / 2 ^ (c + 1) := by
  rw [Nm.two_add, ← Int.ediv_ediv_of_nonneg (by have := Nm.two_pos c; omega)]
  rfl

set_option maxRecDepth 20000 in
set_option maxRecDepth 100000 in
set_option maxHeartbeats 2000000 in
theorem refBitLen_any (p : Option Addr) (n cap : Nat) (zs : List Int) (w : World) (ha : Arg w p n cap zs) :
    Calls Tryz.prog 64 #[.slice p n cap] w fun e w' => (∃ L : Nat, e = .returned (.int .i64 (L : Int)) ∧ Nm.BLen (Nm.val zs) L) ∧ w' = w := by
  obtain ⟨a1, a2, a3, a4, a5⟩ := ha
  have tl := Nm.tsize_le zs
  have S1 := refSize_any p n cap zs w a1 (by omega) a4
  by_cases h0 : Nm.tsize zs = 0
  · rw [h0] at S1
    have HS := hid S1
    have hv := (Nm.tsize_zero_iff a5).1 h0
    have B0 : Hid (Nm.BLen (Nm.val zs) 0) := ⟨by rw [hv]; decide, fun _ => rfl, fun h => by omega⟩
    clear S1 h0 hv
    go_enter Tryz.func64, Tryz.ntmps64
    go_wp2_with fail
    refine HS.out.mono ?_
    rintro e w' ⟨rfl, rfl⟩
    go_wp2
    go_ret
    exact ⟨⟨0, rfl, B0.out⟩, rfl⟩
  · obtain ⟨t, ht⟩ : ∃ t, Nm.tsize zs = t + 1 := ⟨Nm.tsize zs - 1, by omega⟩
    obtain ⟨b, off, rfl, hbw, HC⟩ := a4.at (by omega)
    obtain ⟨x0, hx, X⟩ : ∃ x0, w.cell? ⟨b, off + t, none⟩ = some (.int .u64 x0) ∧ Hid (x0 = zs.getD t 0) := ⟨_, HC.out t (by omega), rfl⟩
    have hx0 : 0 ≤ x0 := by have := a5.at t; have := X.out; omega
    have hx1 : x0 < 18446744073709551616 := by have := a5.at t; have := X.out; omega
    have XP : Hid (0 < x0) := by
      have h := Nm.tsize_top zs (by omega)
      rw [ht, Nat.add_sub_cancel, ← X.out] at h
      show 0 < x0
      omega
    have FIN : Hid (∀ c : Nat, x0 / 2 ^ c = 0 → (c = 0 ∨ 2 ^ (c - 1) ≤ x0) → Nm.BLen (Nm.val zs) (64 * t + c)) := by
      intro c h1 h2
      have hp := Nm.two_pos c
      have hlt : x0 < 2 ^ c := by
        rcases Int.lt_or_le x0 (2 ^ c) with h | h
        · exact h
        · have : 1 ≤ x0 / 2 ^ c := (Int.le_ediv_iff_mul_le hp).2 (by omega)
          omega
      have hc : 1 ≤ c := by
        rcases Nat.eq_zero_or_pos c with h | h
        · subst h
          have := XP.out
          have e : (2 : Int) ^ 0 = 1 := rfl
          omega
        · exact h
      have h3 : (2 : Int) ^ (c - 1) ≤ x0 := by
        rcases h2 with h | h
        · omega
        · exact h
      exact Nm.blen_at zs t c a5 ht hc (by rw [← X.out]; exact h3) (by rw [← X.out]; exact hlt)
    have CB : Hid (∀ c : Nat, 2 ^ (c - 1) ≤ x0 → c ≤ 64) := by
      intro c h
      have h2 : (2 : Int) ^ (c - 1) < 2 ^ 64 := by rw [Nm.two_64]; omega
      rcases Nat.lt_or_ge (c - 1) 64 with h3 | h3
      · omega
      · have := Nm.two_mono h3
        omega
    rw [ht] at S1
    have hS : ((t + 1 : Nat) : Int) = (t : Int) + 1 := by omega
    rw [hS] at S1
    have HS := hid S1
    have htn : (t : Int) < (n : Int) := by omega
    have htb : t ≤ 17592186044416 := by omega
    clear S1 h0 hS ht tl a4
    go_enter Tryz.func64, Tryz.ntmps64
    go_wp2_with fail
    refine HS.out.mono ?_
    rintro e w' ⟨rfl, rfl⟩
    go_wp2_with fail
    go_loop [4, 5] (fun s y => ∃ (c S : Nat) (x : Int), Hid (S = 64 * t + c) ∧ S ≤ 1125899906842688 ∧ s = .int .i64 S ∧ y = .int .u64 x ∧ 0 ≤ x ∧ x ≤ x0 ∧ Hid (x = x0 / 2 ^ c) ∧ Hid (c = 0 ∨ 2 ^ (c - 1) ≤ x0)) (fun _ y => (intOf y).toNat)
    case atStart => exact ⟨0, 64 * t, x0, rfl, by omega, by first | rfl | go_num, rfl, hx0, by omega, by simp [Hid], .inl rfl⟩
    case round =>
      obtain ⟨c, S, x, HSS, hS, rfl, rfl, h1, h2, HX, HCc⟩ := hrel
      by_cases hz : x = 0
      · have hz' : ¬ (0 : Int) < x := by omega
        have E : Hid (Nm.BLen (Nm.val zs) S) := by rw [HSS.out]; exact FIN.out c (by rw [← HX.out]; exact hz) HCc.out
        clear hz
        go_wp2
        go_ret
        exact ⟨⟨S, rfl, E.out⟩, rfl⟩
      · have hz' : (0 : Int) < x := by omega
        have P1 : Hid (2 ^ c ≤ x0) := by
          have h := HX.out
          have hp := Nm.two_pos c
          have : 1 ≤ x0 / 2 ^ c := by omega
          have := (Int.le_ediv_iff_mul_le hp).1 this
          show _ ≤ _
          omega
        have hc64 : c + 1 ≤ 64 := CB.out (c + 1) (by rw [Nat.add_sub_cancel]; exact P1.out)
        have hS2 : S + 1 ≤ 1125899906842688 := by have := HSS.out; omega
        obtain ⟨y, hy, Y⟩ : ∃ y, x / 2 = y ∧ Hid (y = x / 2) := ⟨_, rfl, rfl⟩
        have hy0 : 0 ≤ y := by omega
        have hyx : y < x := by omega
        have YX : Hid (y = x0 / 2 ^ (c + 1)) := by rw [Hid, Y.out, HX.out, half_more]
        clear hz
        go_wp2
        go_round
        case rel => exact ⟨c + 1, S + 1, y, by have := HSS.out; show _ = _; omega, hS2, by go_num, by rw [hy], hy0, by omega, YX.out, .inr (by rw [Nat.add_sub_cancel]; exact P1.out)⟩
        case measure => simp [intOf]; omega
end Go.Proofs.YtmakkfekomnpbaaGreatDoor

namespace Go.Proofs.YtmakkfekomnpbaaGreatDoor
open Go.RowKit Go.Deep


theorem refBit_neg (p : Option Addr) (n cap : Nat) (i : Int) (w : World) (hi : i < 0) :
    Calls Tryz.prog 56 #[.slice p n cap, .int .i64 i] w fun e w' => e = .returned (.int .i64 0) ∧ w' = w := by
  go_enter Tryz.func56, Tryz.ntmps56
  go_wp2
  go_ret
  exact ⟨rfl, rfl⟩

set_option maxRecDepth 20000 in
set_option maxRecDepth 100000 in
set_option maxHeartbeats 2000000 in
theorem refBit_any (p : Option Addr) (n cap : Nat) (zs : List Int) (i : Nat) (ii : Int) (w : World) (ha : Arg w p n cap zs) (hi : ii ≤ 9223372036854775807) (hii : ii = (i : Int)) :
    Calls Tryz.prog 56 #[.slice p n cap, .int .i64 ii] w fun e w' => e = .returned (.int .i64 (Nm.val zs / 2 ^ i % 2)) ∧ w' = w := by
  obtain ⟨a1, a2, a3, a4, a5⟩ := ha
  have hi0 : 0 ≤ ii := by omega
  have hi0' : ¬ ii < 0 := by omega
  obtain ⟨k, HK⟩ : ∃ k : Nat, Hid (ii / 64 = (k : Int) ∧ k = i / 64) := ⟨i / 64, by show _ ∧ _; omega⟩
  obtain ⟨r, HR⟩ : ∃ r : Nat, Hid (ii % 64 = (r : Int) ∧ r = i % 64) := ⟨i % 64, by show _ ∧ _; omega⟩
  have hr : r ≤ 63 := by have := HR.out; omega
  by_cases hk : n ≤ k
  · have hk' : (n : Int) ≤ ii / 64 := by have := HK.out; omega
    have E : Hid (0 = Nm.val zs / 2 ^ i % 2) := by
      have h1 := Nm.val_bd zs a5
      rw [a1, Nm.pw_two] at h1
      have h2 := Nm.two_mono (show 64 * n ≤ i by have := HK.out; omega)
      rw [Hid, Int.ediv_eq_zero_of_lt h1.1 (by omega)]
      rfl
    clear hii
    go_enter Tryz.func56, Tryz.ntmps56
    go_wp2
    go_ret
    exact ⟨ret_i64 E.out, rfl⟩
  · have hk' : ¬ (n : Int) ≤ ii / 64 := by have := HK.out; omega
    obtain ⟨b, off, rfl, hbw, HC⟩ := a4.at (by omega)
    obtain ⟨x0, hx, X⟩ : ∃ x0, w.cell? ⟨b, off + k, none⟩ = some (.int .u64 x0) ∧ Hid (x0 = zs.getD k 0) := ⟨_, HC.out k (by omega), rfl⟩
    have hx0 : 0 ≤ x0 := by have := a5.at k; have := X.out; omega
    have hx1 : x0 < 18446744073709551616 := by have := a5.at k; have := X.out; omega
    have E : Hid (x0 / 2 ^ r % 2 = Nm.val zs / 2 ^ i % 2) := by
      rw [Hid, X.out]
      exact (Nm.bit_at zs i k r (by have := HK.out; have := HR.out; omega) (by omega) a5 (by omega)).symm
    have hq : ii / 64 = (k : Int) := HK.out.1
    have hkn : (k : Int) < (n : Int) := by omega
    have hkn' : ¬ (n : Int) ≤ (k : Int) := by omega
    clear hii a4
    go_enter Tryz.func56, Tryz.ntmps56
    go_wp2
    clear hq
    go_loop [5, 6] (fun y t => ∃ (c : Nat) (x : Int), c ≤ r ∧ t = .int .i64 c ∧ y = .int .u64 x ∧ 0 ≤ x ∧ x ≤ x0 ∧ Hid (x = x0 / 2 ^ c)) (fun _ t => r - (intOf t).toNat)
    case atStart => exact ⟨0, x0, Nat.zero_le _, rfl, rfl, hx0, by omega, by simp [Hid]⟩
    case round =>
      obtain ⟨c, x, hc, rfl, rfl, h1, h2, HX⟩ := hrel
      by_cases hlt : c < r
      · have hlt' : (c : Int) < ii % 64 := by have := HR.out; omega
        obtain ⟨y, hy, Y⟩ : ∃ y, x / 2 = y ∧ Hid (y = x / 2) := ⟨_, rfl, rfl⟩
        have hy0 : 0 ≤ y := by omega
        have hyx : y ≤ x0 := by omega
        have YX : Hid (y = x0 / 2 ^ (c + 1)) := by rw [Hid, Y.out, HX.out, half_more]
        go_wp2
        go_round
        case rel => exact ⟨c + 1, y, by omega, by go_num, by first | rfl | rw [hy], hy0, hyx, YX.out⟩
        case measure => simp [intOf]; omega
      · have hlt' : ¬ (c : Int) < ii % 64 := by have := HR.out; omega
        obtain rfl : c = r := by omega
        obtain ⟨y, hy, Y⟩ : ∃ y, x % 2 = y ∧ Hid (y = x % 2) := ⟨_, rfl, rfl⟩
        have hy0 : 0 ≤ y := by omega
        have hy1 : y ≤ 1 := by omega
        have E2 : Hid (y = Nm.val zs / 2 ^ i % 2) := by rw [Hid, Y.out, HX.out]; exact E.out
        go_wp2
        go_ret
        exact ⟨ret_i64 E2.out, rfl⟩
end Go.Proofs.YtmakkfekomnpbaaGreatDoor

/-
  The document's Round (made by mkzround.py).
-/
namespace Go.Proofs.YtmakkfekomnpbaaGreatDoor
open Go Go.RowKit Go.Deep

/-- What the document's Round tells, once the digits are read. -/
def ZRTold (neg more rs : Bool) (hb : Int) (U : Nat) (g : Int) (r : Ending) : Prop :=
  ∃ up : Bool, r = .returned (.tuple #[.int .u64 (Ie.sg neg ((U : Int) * 4503599627370496 + g + if up = true then 1 else 0)), .int .i64 0]) ∧ (up = true ↔ (hb = 1 ∧ (rs = true ∨ more = true ∨ g % 2 = 1)))

theorem ret_sg {neg : Bool} {a b : Int} (h : a = b) : Ending.returned (.tuple #[.int .u64 (Ie.sg neg a), .int .i64 0]) = .returned (.tuple #[.int .u64 (Ie.sg neg b), .int .i64 0]) := by rw [h]

set_option maxRecDepth 100000 in
set_option maxHeartbeats 8000000 in
theorem zround_core (neg : Bool) (p : Option Addr) (n cap : Nat) (w : World) (e u : Int) (L U J T : Nat) (more rs : Bool) (G : Nat → Int) (bv : Nat → Int) (hb : Int)
    (BG : Calls Tryz.prog 63 #[.slice p n cap] w fun r w' => r = .returned (.bool false) ∧ w' = w)
    (BL : Calls Tryz.prog 64 #[.slice p n cap] w fun r w' => r = .returned (.int .i64 (L : Int)) ∧ w' = w)
    (BT : ∀ j, j < J → ∀ ii, ii = u + (j : Int) - e → Calls Tryz.prog 56 #[.slice p n cap, .int .i64 ii] w fun r w' => r = .returned (.int .i64 (bv j)) ∧ w' = w)
    (BH : ∀ ii, ii = u - 1 - e → Calls Tryz.prog 56 #[.slice p n cap, .int .i64 ii] w fun r w' => r = .returned (.int .i64 hb) ∧ w' = w)
    (TR : Calls Tryz.prog 66 #[.slice p n cap] w fun r w' => r = .returned (.int .i64 (T : Int)) ∧ w' = w)
    (hL0 : 0 < L) (hL2 : L ≤ 262144) (he0 : -1048576 ≤ e) (he1 : e ≤ 1048576) (hbig : (L : Int) + e ≤ 1024) (hT : T ≤ 17592186044416)
    (hU : u + 1074 = (U : Int)) (hU2 : U ≤ 2045) (hmax : ((L : Int) + e - 53 < -1074 ∧ u = -1074) ∨ (-1074 ≤ (L : Int) + e - 53 ∧ u = (L : Int) + e - 53))
    (hJ : u + (J : Int) = (L : Int) + e ∨ (J = 0 ∧ (L : Int) + e ≤ u)) (GB : ∀ j, j ≤ J → 0 ≤ G j ∧ G j < 9007199254740992) (GJ : G J = 0) (GS : ∀ j, j < J → G j = 2 * G (j + 1) + bv j ∧ 0 ≤ bv j ∧ bv j ≤ 1)
    (hbb : hb = 0 ∨ hb = 1) (hrs : decide ((T : Int) + e < u - 1) = rs) (hUm : 0 < U → 4503599627370496 ≤ G 0) :
    Calls Tryz.prog 32 #[.bool neg, .slice p n cap, .int .i64 e, .bool more] w fun r w' => ZRTold neg more rs hb U (G 0) r ∧ w' = w := by
  have HBG := hid BG
  have HBL := hid BL
  have HBT := hid BT
  have HBH := hid BH
  have HTR := hid TR
  have HGB := hid GB
  have HGS := hid GS
  have HGJ := hid GJ
  have HRS := hid hrs
  have g0 := GB 0 (Nat.zero_le _)
  obtain ⟨G0, hG0⟩ : ∃ g, G 0 = g := ⟨_, rfl⟩
  rw [hG0] at g0 hUm ⊢
  have HG0 := hid hG0
  clear hG0
  obtain ⟨g00, g01⟩ := g0
  have PZ : Hid (∀ (wx : World) (m : Int), 0 ≤ m → m < 4503599627370496 → U = 0 → Calls Tryz.prog 65 #[.bool neg, .int .i64 0, .int .u64 m] wx fun r w' => r = .returned (.int .u64 (Ie.sg neg ((U : Int) * 4503599627370496 + m))) ∧ w' = wx) := by
    intro wx m m0 m1 hu
    have := zput_any neg 0 m wx (by omega) (by omega) m0 (by omega) (by omega)
    rw [hu]
    exact this
  have PU : Hid (∀ (wx : World) (m ee : Int), 0 ≤ m → m ≤ 9007199254740992 → ee = (U : Int) → Calls Tryz.prog 65 #[.bool neg, .int .i64 ee, .int .u64 m] wx fun r w' => r = .returned (.int .u64 (Ie.sg neg ((U : Int) * 4503599627370496 + m))) ∧ w' = wx) := by
    intro wx m ee m0 m1 hu
    subst hu
    exact zput_any neg U m wx (by omega) (by omega) m0 m1 (by omega)
  have l0 : ((L : Int) == 0) = false := by rw [beq_eq_false_iff_ne]; omega
  have l1 : ¬ 1023 < (L : Int) - 1 + e := by omega
  have l2 : (L : Int) ≤ 262144 := by omega
  have l3 : ¬ e < -1048576 := by omega
  have l4 : ¬ 1048576 < e := by omega
  have t1 : (T : Int) ≤ 17592186044416 := by omega
  have u0 : -1074 ≤ u := by omega
  have u1 : u ≤ 971 := by omega
  have hJ2 : (J : Int) ≤ 1100000 := by omega
  have HUM := hid hUm
  have HU := hid hU
  have HJ := hid hJ
  clear BG BL BT BH TR GB GS GJ hrs hL2 hT hUm hU hJ
  rcases hmax with ⟨hx, hue⟩ | ⟨hx, hue⟩
  · have HUE := hid hue
    clear hue
    go_enter Tryz.func32, Tryz.ntmps32
    go_wp2_with fail
    refine HBG.out.mono ?_
    rintro e' w' ⟨rfl, rfl⟩
    go_wp2_with fail
    refine HBL.out.mono ?_
    rintro e' w' ⟨rfl, rfl⟩
    go_wp2_with fail
    rw [← HUE.out]
    go_loopw [13, 14] (fun a i wr => ∃ (j : Nat) (M z : Int), a = .int .u64 M ∧ i = .int .i64 z ∧ j ≤ J ∧ 0 ≤ M ∧ M < 9007199254740992 ∧ -2000000 ≤ z ∧ z ≤ 1100 ∧ Hid (M = G j ∧ (z = u + (j : Int) - 1 ∨ (j = 0 ∧ z ≤ u - 1))) ∧ wr = w') (fun _ i _ => (intOf i + 2000001).toNat)
    case atStart => exact ⟨J, 0, _, rfl, rfl, Nat.le_refl _, by omega, by omega, by omega, by omega, ⟨HGJ.out.symm, by have := HJ.out; omega⟩, rfl⟩
    case round =>
      obtain ⟨j, M, z, rfl, rfl, hj, M0, M1, z0, z1, I, rfl⟩ := hrel
      cases j with
      | zero =>
        have hM : M = G0 := I.out.1.trans HG0.out
        have hz : z < u := by have := I.out.2; omega
        have hM2 := hM.symm
        clear hM
        subst hM2
        clear I HGS HBT
        go_wp2_with fail
        refine (HBH.out _ (by omega)).mono ?_
        rintro e' w' ⟨rfl, rfl⟩
        rcases hbb with rfl | rfl
        · go_wp2_with fail
          refine HTR.out.mono ?_
          rintro e' w' ⟨rfl, rfl⟩
          by_cases hsm : G0 < 4503599627370496
          · have hu0 : U = 0 := Nat.eq_zero_of_not_pos (fun h => absurd (HUM.out h) (by omega))
            go_wp2_with fail
            refine (PZ.out _ _ (by omega) (by omega) hu0).mono ?_
            rintro e' w' ⟨rfl, rfl⟩
            go_wp2_with fail
            go_ret2
            exact ⟨⟨false, ret_sg (by simp <;> omega), by simp⟩, rfl⟩
          · go_wp2_with fail
            refine (PU.out _ _ _ (by omega) (by omega) (by have := HU.out; omega)).mono ?_
            rintro e' w' ⟨rfl, rfl⟩
            go_wp2_with fail
            go_ret2
            exact ⟨⟨false, ret_sg (by simp <;> omega), by simp⟩, rfl⟩
        · cases rs
          · have HF := of_decide_eq_false HRS.out
            cases more
            · rcases (show G0 % 2 = 0 ∨ G0 % 2 = 1 by omega) with hp | hp
              · go_wp2_with fail
                refine HTR.out.mono ?_
                rintro e' w' ⟨rfl, rfl⟩
                by_cases hsm : G0 < 4503599627370496
                · have hu0 : U = 0 := Nat.eq_zero_of_not_pos (fun h => absurd (HUM.out h) (by omega))
                  go_wp2_with fail
                  refine (PZ.out _ _ (by omega) (by omega) hu0).mono ?_
                  rintro e' w' ⟨rfl, rfl⟩
                  go_wp2_with fail
                  go_ret2
                  exact ⟨⟨false, ret_sg (by simp <;> omega), by simp [hp]⟩, rfl⟩
                · go_wp2_with fail
                  refine (PU.out _ _ _ (by omega) (by omega) (by have := HU.out; omega)).mono ?_
                  rintro e' w' ⟨rfl, rfl⟩
                  go_wp2_with fail
                  go_ret2
                  exact ⟨⟨false, ret_sg (by simp <;> omega), by simp [hp]⟩, rfl⟩
              · go_wp2_with fail
                refine HTR.out.mono ?_
                rintro e' w' ⟨rfl, rfl⟩
                by_cases hsm : G0 + 1 < 4503599627370496
                · have hu0 : U = 0 := Nat.eq_zero_of_not_pos (fun h => absurd (HUM.out h) (by omega))
                  go_wp2_with fail
                  refine (PZ.out _ _ (by omega) (by omega) hu0).mono ?_
                  rintro e' w' ⟨rfl, rfl⟩
                  go_wp2_with fail
                  go_ret2
                  exact ⟨⟨true, ret_sg (by simp <;> omega), by simp [hp]⟩, rfl⟩
                · go_wp2_with fail
                  refine (PU.out _ _ _ (by omega) (by omega) (by have := HU.out; omega)).mono ?_
                  rintro e' w' ⟨rfl, rfl⟩
                  go_wp2_with fail
                  go_ret2
                  exact ⟨⟨true, ret_sg (by simp <;> omega), by simp [hp]⟩, rfl⟩
            · go_wp2_with fail
              refine HTR.out.mono ?_
              rintro e' w' ⟨rfl, rfl⟩
              by_cases hsm : G0 + 1 < 4503599627370496
              · have hu0 : U = 0 := Nat.eq_zero_of_not_pos (fun h => absurd (HUM.out h) (by omega))
                go_wp2_with fail
                refine (PZ.out _ _ (by omega) (by omega) hu0).mono ?_
                rintro e' w' ⟨rfl, rfl⟩
                go_wp2_with fail
                go_ret2
                exact ⟨⟨true, ret_sg (by simp <;> omega), by simp⟩, rfl⟩
              · go_wp2_with fail
                refine (PU.out _ _ _ (by omega) (by omega) (by have := HU.out; omega)).mono ?_
                rintro e' w' ⟨rfl, rfl⟩
                go_wp2_with fail
                go_ret2
                exact ⟨⟨true, ret_sg (by simp <;> omega), by simp⟩, rfl⟩
          · have HF := of_decide_eq_true HRS.out
            go_wp2_with fail
            refine HTR.out.mono ?_
            rintro e' w' ⟨rfl, rfl⟩
            by_cases hsm : G0 + 1 < 4503599627370496
            · have hu0 : U = 0 := Nat.eq_zero_of_not_pos (fun h => absurd (HUM.out h) (by omega))
              go_wp2_with fail
              refine (PZ.out _ _ (by omega) (by omega) hu0).mono ?_
              rintro e' w' ⟨rfl, rfl⟩
              go_wp2_with fail
              go_ret2
              exact ⟨⟨true, ret_sg (by simp <;> omega), by simp⟩, rfl⟩
            · go_wp2_with fail
              refine (PU.out _ _ _ (by omega) (by omega) (by have := HU.out; omega)).mono ?_
              rintro e' w' ⟨rfl, rfl⟩
              go_wp2_with fail
              go_ret2
              exact ⟨⟨true, ret_sg (by simp <;> omega), by simp⟩, rfl⟩
      | succ k =>
        have hz : z = u + (k : Int) := by have := I.out.2; omega
        have hz2 : u ≤ z := by omega
        obtain ⟨s1, s2, s3⟩ := HGS.out k (by omega)
        have B1 := hid (HBT.out k (by omega))
        have gb := HGB.out k (by omega)
        obtain ⟨b, hbk⟩ : ∃ b, bv k = b := ⟨_, rfl⟩
        rw [hbk] at s1 s2 s3 B1
        have HZ := hid hz
        have S1 : Hid (2 * M + b = G k) := by rw [Hid, s1, I.out.1]
        have n1 : 2 * M + b < 9007199254740992 := by rw [S1.out]; exact gb.2
        clear s1 I hz gb hbk
        go_wp2_with fail
        refine (B1.out _ (by have := HZ.out; omega)).mono ?_
        rintro e' wq ⟨rfl, rfl⟩
        go_wp2_with fail
        go_roundw
        case measure => simp only [intOf]; omega
        case rel => exact ⟨k, _, _, rfl, rfl, by omega, by omega, by omega, by omega, by omega, ⟨S1.out, .inl (by have := HZ.out; omega)⟩, by first | rfl | trivial⟩
  · subst hue
    go_enter Tryz.func32, Tryz.ntmps32
    go_wp2_with fail
    refine HBG.out.mono ?_
    rintro e' w' ⟨rfl, rfl⟩
    go_wp2_with fail
    refine HBL.out.mono ?_
    rintro e' w' ⟨rfl, rfl⟩
    go_wp2_with fail
    go_loopw [13, 14] (fun a i wr => ∃ (j : Nat) (M z : Int), a = .int .u64 M ∧ i = .int .i64 z ∧ j ≤ J ∧ 0 ≤ M ∧ M < 9007199254740992 ∧ -2000000 ≤ z ∧ z ≤ 1100 ∧ Hid (M = G j ∧ (z = ((L : Int) + e - 53) + (j : Int) - 1 ∨ (j = 0 ∧ z ≤ ((L : Int) + e - 53) - 1))) ∧ wr = w') (fun _ i _ => (intOf i + 2000001).toNat)
    case atStart => exact ⟨J, 0, _, rfl, rfl, Nat.le_refl _, by omega, by omega, by omega, by omega, ⟨HGJ.out.symm, by have := HJ.out; omega⟩, rfl⟩
    case round =>
      obtain ⟨j, M, z, rfl, rfl, hj, M0, M1, z0, z1, I, rfl⟩ := hrel
      cases j with
      | zero =>
        have hM : M = G0 := I.out.1.trans HG0.out
        have hz : z < ((L : Int) + e - 53) := by have := I.out.2; omega
        have hM2 := hM.symm
        clear hM
        subst hM2
        clear I HGS HBT
        go_wp2_with fail
        refine (HBH.out _ (by omega)).mono ?_
        rintro e' w' ⟨rfl, rfl⟩
        rcases hbb with rfl | rfl
        · go_wp2_with fail
          refine HTR.out.mono ?_
          rintro e' w' ⟨rfl, rfl⟩
          by_cases hsm : G0 < 4503599627370496
          · have hu0 : U = 0 := Nat.eq_zero_of_not_pos (fun h => absurd (HUM.out h) (by omega))
            go_wp2_with fail
            refine (PZ.out _ _ (by omega) (by omega) hu0).mono ?_
            rintro e' w' ⟨rfl, rfl⟩
            go_wp2_with fail
            go_ret2
            exact ⟨⟨false, ret_sg (by simp <;> omega), by simp⟩, rfl⟩
          · go_wp2_with fail
            refine (PU.out _ _ _ (by omega) (by omega) (by have := HU.out; omega)).mono ?_
            rintro e' w' ⟨rfl, rfl⟩
            go_wp2_with fail
            go_ret2
            exact ⟨⟨false, ret_sg (by simp <;> omega), by simp⟩, rfl⟩
        · cases rs
          · have HF := of_decide_eq_false HRS.out
            cases more
            · rcases (show G0 % 2 = 0 ∨ G0 % 2 = 1 by omega) with hp | hp
              · go_wp2_with fail
                refine HTR.out.mono ?_
                rintro e' w' ⟨rfl, rfl⟩
                by_cases hsm : G0 < 4503599627370496
                · have hu0 : U = 0 := Nat.eq_zero_of_not_pos (fun h => absurd (HUM.out h) (by omega))
                  go_wp2_with fail
                  refine (PZ.out _ _ (by omega) (by omega) hu0).mono ?_
                  rintro e' w' ⟨rfl, rfl⟩
                  go_wp2_with fail
                  go_ret2
                  exact ⟨⟨false, ret_sg (by simp <;> omega), by simp [hp]⟩, rfl⟩
                · go_wp2_with fail
                  refine (PU.out _ _ _ (by omega) (by omega) (by have := HU.out; omega)).mono ?_
                  rintro e' w' ⟨rfl, rfl⟩
                  go_wp2_with fail
                  go_ret2
                  exact ⟨⟨false, ret_sg (by simp <;> omega), by simp [hp]⟩, rfl⟩
              · go_wp2_with fail
                refine HTR.out.mono ?_
                rintro e' w' ⟨rfl, rfl⟩
                by_cases hsm : G0 + 1 < 4503599627370496
                · have hu0 : U = 0 := Nat.eq_zero_of_not_pos (fun h => absurd (HUM.out h) (by omega))
                  go_wp2_with fail
                  refine (PZ.out _ _ (by omega) (by omega) hu0).mono ?_
                  rintro e' w' ⟨rfl, rfl⟩
                  go_wp2_with fail
                  go_ret2
                  exact ⟨⟨true, ret_sg (by simp <;> omega), by simp [hp]⟩, rfl⟩
                · go_wp2_with fail
                  refine (PU.out _ _ _ (by omega) (by omega) (by have := HU.out; omega)).mono ?_
                  rintro e' w' ⟨rfl, rfl⟩
                  go_wp2_with fail
                  go_ret2
                  exact ⟨⟨true, ret_sg (by simp <;> omega), by simp [hp]⟩, rfl⟩
            · go_wp2_with fail
              refine HTR.out.mono ?_
              rintro e' w' ⟨rfl, rfl⟩
              by_cases hsm : G0 + 1 < 4503599627370496
              · have hu0 : U = 0 := Nat.eq_zero_of_not_pos (fun h => absurd (HUM.out h) (by omega))
                go_wp2_with fail
                refine (PZ.out _ _ (by omega) (by omega) hu0).mono ?_
                rintro e' w' ⟨rfl, rfl⟩
                go_wp2_with fail
                go_ret2
                exact ⟨⟨true, ret_sg (by simp <;> omega), by simp⟩, rfl⟩
              · go_wp2_with fail
                refine (PU.out _ _ _ (by omega) (by omega) (by have := HU.out; omega)).mono ?_
                rintro e' w' ⟨rfl, rfl⟩
                go_wp2_with fail
                go_ret2
                exact ⟨⟨true, ret_sg (by simp <;> omega), by simp⟩, rfl⟩
          · have HF := of_decide_eq_true HRS.out
            go_wp2_with fail
            refine HTR.out.mono ?_
            rintro e' w' ⟨rfl, rfl⟩
            by_cases hsm : G0 + 1 < 4503599627370496
            · have hu0 : U = 0 := Nat.eq_zero_of_not_pos (fun h => absurd (HUM.out h) (by omega))
              go_wp2_with fail
              refine (PZ.out _ _ (by omega) (by omega) hu0).mono ?_
              rintro e' w' ⟨rfl, rfl⟩
              go_wp2_with fail
              go_ret2
              exact ⟨⟨true, ret_sg (by simp <;> omega), by simp⟩, rfl⟩
            · go_wp2_with fail
              refine (PU.out _ _ _ (by omega) (by omega) (by have := HU.out; omega)).mono ?_
              rintro e' w' ⟨rfl, rfl⟩
              go_wp2_with fail
              go_ret2
              exact ⟨⟨true, ret_sg (by simp <;> omega), by simp⟩, rfl⟩
      | succ k =>
        have hz : z = ((L : Int) + e - 53) + (k : Int) := by have := I.out.2; omega
        have hz2 : ((L : Int) + e - 53) ≤ z := by omega
        obtain ⟨s1, s2, s3⟩ := HGS.out k (by omega)
        have B1 := hid (HBT.out k (by omega))
        have gb := HGB.out k (by omega)
        obtain ⟨b, hbk⟩ : ∃ b, bv k = b := ⟨_, rfl⟩
        rw [hbk] at s1 s2 s3 B1
        have HZ := hid hz
        have S1 : Hid (2 * M + b = G k) := by rw [Hid, s1, I.out.1]
        have n1 : 2 * M + b < 9007199254740992 := by rw [S1.out]; exact gb.2
        clear s1 I hz gb hbk
        go_wp2_with fail
        refine (B1.out _ (by have := HZ.out; omega)).mono ?_
        rintro e' wq ⟨rfl, rfl⟩
        go_wp2_with fail
        go_roundw
        case measure => simp only [intOf]; omega
        case rel => exact ⟨k, _, _, rfl, rfl, by omega, by omega, by omega, by omega, by omega, ⟨S1.out, .inl (by have := HZ.out; omega)⟩, by first | rfl | trivial⟩
end Go.Proofs.YtmakkfekomnpbaaGreatDoor

namespace Go.Proofs.YtmakkfekomnpbaaGreatDoor
open Go.RowKit Go.Deep

theorem val_zero_of {zs : List Int} (h : ∀ j, zs.getD j 0 = 0) : Nm.val zs = 0 := by
  rw [← Nm.val_take_of_zero zs 0 (fun j _ => h j)]
  rfl

set_option maxRecDepth 20000 in
set_option maxRecDepth 100000 in
set_option maxHeartbeats 2000000 in
theorem refTrail_any (p : Option Addr) (n cap : Nat) (zs : List Int) (w : World) (ha : Arg w p n cap zs) :
    Calls Tryz.prog 66 #[.slice p n cap] w fun e w' => (∃ t : Nat, e = .returned (.int .i64 (t : Int)) ∧ Nm.Trl (Nm.val zs) t) ∧ w' = w := by
  obtain ⟨a1, a2, a3, a4, a5⟩ := ha
  rcases a4 with rfl | ⟨b, off, rfl, hcell⟩
  · have hn0 : n = 0 := by simpa using a1.symm
    subst hn0
    clear a1 a5
    go_enter Tryz.func66, Tryz.ntmps66
    go_wp2
    refine wp_loop_rounds 1 ?_
    rw [rounds_succ]
    go_wp2
    go_ret
    exact ⟨⟨0, rfl, .inl ⟨rfl, rfl⟩⟩, rfl⟩
  · have H : Hid (zs.length = n) := a1
    have HC : Hid (∀ i, i < zs.length → w.cell? ⟨b, off + i, none⟩ = some (.int .u64 (zs.getD i 0))) := hcell
    have HL := hid a5
    clear a1 hcell a5
    go_enter Tryz.func66, Tryz.ntmps66
    go_wp2
    go_loop [3] (fun i => ∃ k : Nat, k ≤ n ∧ i = .int .i64 k ∧ Hid (∀ j, j < k → zs.getD j 0 = 0)) (fun i => n - (intOf i).toNat)
    case atStart => exact ⟨0, Nat.zero_le _, rfl, fun j hj => by omega⟩
    case round =>
      obtain ⟨k, hk, rfl, Z⟩ := hrel
      by_cases hlt : k < n
      · have hlt' : (k : Int) < (n : Int) := by omega
        obtain ⟨x, hx, X⟩ : ∃ x, w.cell? ⟨b, off + k, none⟩ = some (.int .u64 x) ∧ Hid (x = zs.getD k 0) := ⟨_, HC.out k (by have := H.out; omega), rfl⟩
        have hx0 : 0 ≤ x := by have := HL.out.at k; have := X.out; omega
        have hx1 : x < 18446744073709551616 := by have := HL.out.at k; have := X.out; omega
        by_cases hz : x = 0
        · have hz' : (x != 0) = false := by simp [hz]
          have Z2 : Hid (∀ j, j < k + 1 → zs.getD j 0 = 0) := by
            intro j hj
            by_cases e : j = k
            · rw [e, ← X.out]; exact hz
            · exact Z.out j (by omega)
          clear hz
          go_wp2
          go_round
          case rel => exact ⟨k + 1, by omega, by go_num, Z2.out⟩
          case measure => simp [intOf]; omega
        · have hz' : (x != 0) = true := by simp [hz]
          have XP : Hid (0 < x) := by show 0 < x; omega
          have FIN : Hid (∀ (c : Nat) (m : Int), x = 2 ^ c * (2 * m + 1) → c ≤ 63 → Nm.Trl (Nm.val zs) (64 * k + c)) := fun c m h hc => Nm.trl_at zs k c m (by have := H.out; omega) Z.out (by rw [← X.out]; exact h) hc
          have CB : Hid (∀ (c : Nat) (y : Int), 1 ≤ y → x = 2 ^ c * y → c ≤ 63) := by
            intro c y hy h
            rcases Nat.lt_or_ge c 64 with h1 | h1
            · omega
            · exfalso
              have h2 := Nm.two_mono h1
              rw [Nm.two_64] at h2
              have h3 : (2 : Int) ^ c * 1 ≤ 2 ^ c * y := Int.mul_le_mul_of_nonneg_left hy (by omega)
              omega
          have hkb : k ≤ 17592186044416 := by omega
          clear hz
          go_wp2_with fail
          go_loop [4, 5] (fun s y => ∃ (c S : Nat) (v : Int), Hid (S = 64 * k + c) ∧ S ≤ 1125899906842688 ∧ s = .int .i64 S ∧ y = .int .u64 v ∧ 1 ≤ v ∧ v ≤ x ∧ Hid (x = 2 ^ c * v)) (fun _ y => (intOf y).toNat)
          case atStart => exact ⟨0, 64 * k, x, rfl, by omega, by first | rfl | go_num, rfl, by have := XP.out; omega, by omega, by simp [Hid]⟩
          case round =>
            obtain ⟨c, S, v, HS, hS, rfl, rfl, hv1, hv2, HX⟩ := hrel
            have hc63 := CB.out c v hv1 HX.out
            by_cases hodd : v % 2 = 0
            · have hodd' : (v % 2 == 0) = true := by simp [hodd]
              obtain ⟨u, hu, U⟩ : ∃ u, v / 2 = u ∧ Hid (u = v / 2) := ⟨_, rfl, rfl⟩
              have hu1 : 1 ≤ u := by omega
              have huv : u < v := by omega
              have HX2 : Hid (x = 2 ^ (c + 1) * u) := by
                rw [Hid, Nm.two_succ, HX.out, Int.mul_assoc, Int.mul_left_comm]
                congr 1
                omega
              have hc2 := CB.out (c + 1) u hu1 HX2.out
              have hS2 : S + 1 ≤ 1125899906842688 := by have := HS.out; omega
              clear hodd
              go_wp2
              go_round
              case rel => exact ⟨c + 1, S + 1, u, by have := HS.out; show _ = _; omega, hS2, by go_num, by rw [hu], hu1, by omega, HX2.out⟩
              case measure => simp [intOf]; omega
            · have hodd' : (v % 2 == 0) = false := by simp; omega
              have E : Hid (Nm.Trl (Nm.val zs) S) := by
                rw [HS.out]
                exact FIN.out c (v / 2) (by rw [HX.out]; congr 1; omega) hc63
              clear hodd
              go_wp2
              go_ret
              exact ⟨⟨S, rfl, E.out⟩, rfl⟩
      · have hlt' : ¬ (k : Int) < (n : Int) := by omega
        have E : Hid (Nm.Trl (Nm.val zs) 0) := by
          refine .inl ⟨val_zero_of (fun j => ?_), rfl⟩
          by_cases hj : j < k
          · exact Z.out j hj
          · simp [List.getD, List.getElem?_eq_none (show zs.length ≤ j by have := H.out; omega)]
        go_wp2
        go_ret
        exact ⟨⟨0, rfl, E.out⟩, rfl⟩
end Go.Proofs.YtmakkfekomnpbaaGreatDoor

/-
  The document's Round, whole.
-/
namespace Go.Proofs.YtmakkfekomnpbaaGreatDoor
open Go Go.RowKit Go.Deep

theorem ztrl_ex : ∀ (n : Nat) (V : Int), 0 < V → V.toNat ≤ n → ∃ t, Nm.Trl V t
  | 0, V, h0, h => by omega
  | n + 1, V, h0, h => by
    rcases (show V % 2 = 1 ∨ V % 2 = 0 by omega) with g | g
    · exact ⟨0, .inr ⟨V / 2, by rw [Int.pow_zero, Int.one_mul]; omega⟩⟩
    · obtain ⟨t, ht⟩ := ztrl_ex n (V / 2) (by omega) (by omega)
      rcases ht with ⟨hz, _⟩ | ⟨m, hm⟩
      · omega
      · exact ⟨t + 1, .inr ⟨m, by rw [Nm.two_succ, Int.mul_assoc, ← hm]; omega⟩⟩

/-- The digits of V from the place z on. -/
def Ie.dgs (V z : Int) : Int := if 0 ≤ z then V / 2 ^ z.toNat else V * 2 ^ (-z).toNat
/-- The digit at the place z. -/
def Ie.dgt (V z : Int) : Int := if 0 ≤ z then V / 2 ^ z.toNat % 2 else 0

theorem Ie.dgs_step (V z : Int) : Ie.dgs V z = 2 * Ie.dgs V (z + 1) + Ie.dgt V z ∧ 0 ≤ Ie.dgt V z ∧ Ie.dgt V z ≤ 1 := by
  by_cases h : 0 ≤ z
  · rw [Ie.dgs, Ie.dgs, Ie.dgt, if_pos h, if_pos (by omega), if_pos h]
    have e : (z + 1).toNat = z.toNat + 1 := by omega
    have : V / 2 ^ (z.toNat + 1) = V / 2 ^ z.toNat / 2 := by
      rw [Int.ediv_ediv_of_nonneg (Int.le_of_lt (Nm.two_pos _)), Int.mul_comm, ← Nm.two_succ]
    rw [e, this]
    omega
  · by_cases h1 : z = -1
    · subst h1
      rw [Ie.dgs, Ie.dgs, Ie.dgt, if_neg (by omega), if_pos (by omega), if_neg (by omega)]
      have e1 : (2 : Int) ^ ((-(-1) : Int)).toNat = 2 := rfl
      have e2 : (2 : Int) ^ ((-1 + 1 : Int)).toNat = 1 := rfl
      rw [e1, e2, Int.ediv_one]
      omega
    · rw [Ie.dgs, Ie.dgs, Ie.dgt, if_neg h, if_neg (by omega), if_neg h]
      have e : (-z).toNat = (-(z + 1)).toNat + 1 := by omega
      rw [e, Nm.two_succ, Int.mul_left_comm]
      omega

theorem Ie.dgs_bd (V z : Int) (L : Nat) (h0 : 0 ≤ V) (h1 : V < 2 ^ L) (hz : (L : Int) ≤ z + 53) : 0 ≤ Ie.dgs V z ∧ Ie.dgs V z < 9007199254740992 := by
  have e53 : (2 : Int) ^ 53 = 9007199254740992 := by decide
  by_cases h : 0 ≤ z
  · rw [Ie.dgs, if_pos h]
    have hp := Nm.two_pos z.toNat
    refine ⟨Int.ediv_nonneg h0 (by omega), ?_⟩
    rw [Int.ediv_lt_iff_lt_mul hp]
    have g := Nm.two_mono (show L ≤ z.toNat + 53 by omega)
    rw [Nm.two_add, e53] at g
    rw [Int.mul_comm]
    omega
  · rw [Ie.dgs, if_neg h]
    have hp := Nm.two_pos (-z).toNat
    refine ⟨Int.mul_nonneg h0 (by omega), ?_⟩
    have g1 : V * 2 ^ (-z).toNat < 2 ^ (L + (-z).toNat) := by rw [Nm.two_add]; exact Int.mul_lt_mul_of_pos_right h1 hp
    have g2 := Nm.two_mono (show L + (-z).toNat ≤ 53 by omega)
    omega

theorem Ie.dgs_top (V z : Int) (L : Nat) (h0 : 0 ≤ V) (h1 : V < 2 ^ L) (hz : (L : Int) ≤ z) : Ie.dgs V z = 0 := by
  rw [Ie.dgs, if_pos (by omega)]
  have := Nm.two_mono (show L ≤ z.toNat by omega)
  exact Int.ediv_eq_zero_of_lt h0 (by omega)

theorem refBit_dgt (p : Option Addr) (n cap : Nat) (zs : List Int) (V z : Int) (w : World) (ha : Arg w p n cap zs) (hV : Nm.val zs = V) (hz : z ≤ 9223372036854775807) :
    Calls Tryz.prog 56 #[.slice p n cap, .int .i64 z] w fun e w' => e = .returned (.int .i64 (Ie.dgt V z)) ∧ w' = w := by
  by_cases h : 0 ≤ z
  · have := refBit_any p n cap zs z.toNat z w ha hz (by omega)
    rw [hV] at this
    rw [Ie.dgt, if_pos h]
    exact this
  · rw [Ie.dgt, if_neg h]
    exact refBit_neg p n cap z w (by omega)

set_option maxRecDepth 100000 in
set_option maxHeartbeats 4000000 in
theorem zround_any (neg : Bool) (p : Option Addr) (n cap : Nat) (zs : List Int) (w : World) (ha : Arg w p n cap zs) (tz : Nm.tsize zs ≤ 4096) (V e : Int) (more : Bool) (hV : Nm.val zs = V) :
    Calls Tryz.prog 32 #[.bool neg, .slice p n cap, .int .i64 e, .bool more] w fun r w' => ∃ x, r = .returned (.tuple #[.int .u64 (Ie.sg neg x), .int .i64 0]) ∧ Ie.Rnd V 1 e more x ∧ w' = w := by
  obtain ⟨L, hL, BL, hl, _⟩ := blen_is zs ha.2.2.2.2
  have v0 : 0 ≤ V := by rw [← hV]; exact (Nm.val_bd zs ha.2.2.2.2).1
  rw [hV] at BL
  have hL2 : L ≤ 262144 := by omega
  have BG := refBig_is false p n cap zs w ha (by simp; omega)
  have B1 : Calls Tryz.prog 64 #[.slice p n cap] w fun r w' => r = .returned (.int .i64 (L : Int)) ∧ w' = w := by
    refine (refBitLen_any p n cap zs w ha).mono ?_
    rintro r w' ⟨⟨L', rfl, h⟩, rfl⟩
    rw [hV] at h
    rw [Nm.BLen.unique v0 h BL]
    exact ⟨rfl, rfl⟩
  rcases (show V = 0 ∨ 0 < V by omega) with hv | hv
  · have hL0 : L = 0 := BL.2.1 hv
    subst hL0
    have R := hid (Ie.rnd_zero 1 e more (by omega))
    subst hv
    have H1 := hid BG
    have H2 := hid B1
    have PP := hid (zput_any neg 0 0 w (by omega) (by omega) (by omega) (by omega) (by omega))
    clear ha tz hV hL BL hl hL2 v0 BG B1
    go_enter Tryz.func32, Tryz.ntmps32
    go_wp2_with fail
    refine H1.out.mono ?_
    rintro e' w' ⟨rfl, rfl⟩
    go_wp2_with fail
    refine H2.out.mono ?_
    rintro e' w' ⟨rfl, rfl⟩
    go_wp2_with fail
    refine PP.out.mono ?_
    rintro e' w' ⟨rfl, rfl⟩
    go_wp2_with fail
    go_ret2
    exact ⟨0, ret_sg (by simp), R.out, rfl⟩
  · obtain ⟨hL1, hp⟩ := BL.2.2 hv
    have l0 : ((L : Int) == 0) = false := by rw [beq_eq_false_iff_ne]; omega
    have l2 : (L : Int) ≤ 262144 := by omega
    by_cases c1 : e < -1048576
    · have R := hid (Ie.rnd_small V 1 e L 0 more BL.1 (by decide) (by omega))
      have H1 := hid BG
      have H2 := hid B1
      have PP := hid (zput_any neg 0 0 w (by omega) (by omega) (by omega) (by omega) (by omega))
      clear ha tz hV hL BL hl hL2 v0 hv hp hL1 BG B1
      go_enter Tryz.func32, Tryz.ntmps32
      go_wp2_with fail
      refine H1.out.mono ?_
      rintro e' w' ⟨rfl, rfl⟩
      go_wp2_with fail
      refine H2.out.mono ?_
      rintro e' w' ⟨rfl, rfl⟩
      go_wp2_with fail
      refine PP.out.mono ?_
      rintro e' w' ⟨rfl, rfl⟩
      go_wp2_with fail
      go_ret2
      exact ⟨0, ret_sg (by simp), R.out, rfl⟩
    · by_cases c2 : 1048576 < e
      · have R := hid (Ie.rnd_inf V 1 e (L - 1) 0 more hp (by decide) (by omega))
        have H1 := hid BG
        have H2 := hid B1
        have PP := hid (zput_any neg 2047 0 w (by omega) (by omega) (by omega) (by omega) (by omega))
        clear ha tz hV hL BL hl hL2 v0 hv hp hL1 BG B1
        go_enter Tryz.func32, Tryz.ntmps32
        go_wp2_with fail
        refine H1.out.mono ?_
        rintro e' w' ⟨rfl, rfl⟩
        go_wp2_with fail
        refine H2.out.mono ?_
        rintro e' w' ⟨rfl, rfl⟩
        go_wp2_with fail
        refine PP.out.mono ?_
        rintro e' w' ⟨rfl, rfl⟩
        go_wp2_with fail
        go_ret2
        exact ⟨_, ret_sg (by simp), R.out, rfl⟩
      · by_cases c3 : 1023 < (L : Int) - 1 + e
        · have R := hid (Ie.rnd_inf V 1 e (L - 1) 0 more hp (by decide) (by omega))
          have H1 := hid BG
          have H2 := hid B1
          have PP := hid (zput_any neg 2047 0 w (by omega) (by omega) (by omega) (by omega) (by omega))
          clear ha tz hV hL BL hl hL2 v0 hv hp hL1 BG B1
          go_enter Tryz.func32, Tryz.ntmps32
          go_wp2_with fail
          refine H1.out.mono ?_
          rintro e' w' ⟨rfl, rfl⟩
          go_wp2_with fail
          refine H2.out.mono ?_
          rintro e' w' ⟨rfl, rfl⟩
          go_wp2_with fail
          refine PP.out.mono ?_
          rintro e' w' ⟨rfl, rfl⟩
          go_wp2_with fail
          go_ret2
          exact ⟨_, ret_sg (by simp), R.out, rfl⟩
        · obtain ⟨u, hu⟩ : ∃ u : Int, ((L : Int) + e - 53 < -1074 ∧ u = -1074) ∨ (-1074 ≤ (L : Int) + e - 53 ∧ u = (L : Int) + e - 53) := by
            rcases (show (L : Int) + e - 53 < -1074 ∨ -1074 ≤ (L : Int) + e - 53 by omega) with h | h
            · exact ⟨_, .inl ⟨h, rfl⟩⟩
            · exact ⟨_, .inr ⟨h, rfl⟩⟩
          obtain ⟨U, hU⟩ : ∃ U : Nat, u + 1074 = (U : Int) := ⟨(u + 1074).toNat, by omega⟩
          obtain ⟨T, hT⟩ := ztrl_ex V.toNat V hv (Nat.le_refl _)
          have hTb : T ≤ 262144 := by
            rcases hT with ⟨h, _⟩ | ⟨m, hm⟩
            · omega
            · rcases Nat.lt_or_ge T (L + 1) with g | g
              · omega
              · exfalso
                have g1 := Nm.two_mono (show L ≤ T by omega)
                have hm1 : 1 ≤ 2 * m + 1 := by
                  rcases (show 1 ≤ 2 * m + 1 ∨ 2 * m + 1 ≤ 0 by omega) with q | q
                  · exact q
                  · have := Int.mul_le_mul_of_nonneg_left q (Int.le_of_lt (Nm.two_pos T)); rw [Int.mul_zero] at this; omega
                have g2 : (2 : Int) ^ T * 1 ≤ 2 ^ T * (2 * m + 1) := Int.mul_le_mul_of_nonneg_left hm1 (Int.le_of_lt (Nm.two_pos T))
                have := BL.1
                omega
          have TR : Calls Tryz.prog 66 #[.slice p n cap] w fun r w' => r = .returned (.int .i64 (T : Int)) ∧ w' = w := by
            refine (refTrail_any p n cap zs w ha).mono ?_
            rintro r w' ⟨⟨t, rfl, h⟩, rfl⟩
            rw [hV] at h
            rw [Nm.Trl.unique h hT]
            exact ⟨rfl, rfl⟩
          obtain ⟨J, hJ⟩ : ∃ J : Nat, u + (J : Int) = (L : Int) + e ∨ (J = 0 ∧ (L : Int) + e ≤ u) := ⟨((L : Int) + e - u).toNat, by omega⟩
          have key := zround_core neg p n cap w e u L U J T more (decide ((T : Int) + e < u - 1)) (fun j => Ie.dgs V (u + (j : Int) - e)) (fun j => Ie.dgt V (u + (j : Int) - e)) (Ie.dgt V (u - 1 - e)) BG B1
            (fun j hj ii hii => by subst hii; exact refBit_dgt p n cap zs V _ w ha hV (by omega)) (fun ii hii => by subst hii; exact refBit_dgt p n cap zs V _ w ha hV (by omega)) TR
            (by omega) hL2 (by omega) (by omega) (by omega) (by omega) hU (by omega) hu hJ (fun j _ => Ie.dgs_bd V _ L v0 BL.1 (by omega))
            (Ie.dgs_top V _ L v0 BL.1 (by omega)) (fun j _ => by
              have := Ie.dgs_step V (u + (j : Int) - e)
              rw [show u + (j : Int) - e + 1 = u + ((j + 1 : Nat) : Int) - e by omega] at this
              exact this)
            (by have := (Ie.dgs_step V (u - 1 - e)).2; omega) rfl ?_
          · refine key.mono ?_
            rintro r w' ⟨⟨up, rfl, hup⟩, rfl⟩
            refine ⟨_, rfl, ?_, rfl⟩
            simp only [Int.natCast_zero, Int.add_zero] at hup ⊢
            by_cases hk : u ≤ e
            · obtain ⟨j, hj⟩ : ∃ j : Nat, e - u = (j : Int) := ⟨(e - u).toNat, by omega⟩
              have hd : Ie.dgt V (u - 1 - e) = 0 := by rw [Ie.dgt, if_neg (by omega)]
              have hup' : up = false := by
                cases up
                · rfl
                · have := (hup.1 rfl).1; omega
              have hg : Ie.dgs V (u - e) = V * 2 ^ j := by
                rw [Ie.dgs]
                rcases Nat.eq_zero_or_pos j with h | h
                · rw [if_pos (by omega), h, show (u - e).toNat = 0 by omega, Int.pow_zero, Int.ediv_one, Int.mul_one]
                · rw [if_neg (by omega), show (-(u - e)).toNat = j by omega]
              rw [hup', hg]
              have := Ie.rnd_exact V e L j U more hv hp hL1 BL.1 (by omega) (by omega) (by omega) (by omega)
              simpa using this
            · obtain ⟨k, hk⟩ : ∃ k : Nat, u - e = (k : Int) + 1 := ⟨(u - e - 1).toNat, by omega⟩
              have hg : Ie.dgs V (u - e) = V / 2 ^ (k + 1) := by rw [Ie.dgs, if_pos (by omega), show (u - e).toNat = k + 1 by omega]
              have hd : Ie.dgt V (u - 1 - e) = V / 2 ^ k % 2 := by rw [Ie.dgt, if_pos (by omega), show (u - 1 - e).toNat = k by omega]
              have hl := Sh.lost_iff (n := k) hT hv
              rw [hg] at hup ⊢
              refine Ie.rnd_cut V e L (k + 1) U more up hv hp hL1 BL.1 (by omega) (by omega) (by omega) (by omega) ?_
              rw [hup, Nat.add_sub_cancel, hd]
              have hr : decide ((T : Int) + e < u - 1) = true ↔ V % 2 ^ k ≠ 0 := by
                rw [decide_eq_true_iff]
                have h2 : (T : Int) < (k : Int) ↔ V % 2 ^ k ≠ 0 := by simpa only [decide_eq_decide] using hl
                rw [← h2]
                omega
              constructor
              · rintro ⟨g1, g | g | g⟩
                · exact ⟨by omega, g1, .inr (.inr (hr.1 g))⟩
                · exact ⟨by omega, g1, .inl g⟩
                · exact ⟨by omega, g1, .inr (.inl g)⟩
              · rintro ⟨_, g1, g | g | g⟩
                · exact ⟨g1, .inr (.inl g)⟩
                · exact ⟨g1, .inr (.inr g)⟩
                · exact ⟨g1, .inl (hr.2 g)⟩
          · intro hU0
            have hue : u = (L : Int) + e - 53 := by omega
            rw [Ie.dgs]
            have e52 : (2 : Int) ^ 52 = 4503599627370496 := by decide
            by_cases hz : 0 ≤ u + ((0 : Nat) : Int) - e
            · rw [if_pos hz, Int.le_ediv_iff_mul_le (Nm.two_pos _)]
              rw [show L - 1 = 52 + (u + ((0 : Nat) : Int) - e).toNat by omega, Nm.two_add, e52] at hp
              exact hp
            · rw [if_neg hz]
              have g1 : (2 : Int) ^ (L - 1 + (-(u + ((0 : Nat) : Int) - e)).toNat) ≤ V * 2 ^ (-(u + ((0 : Nat) : Int) - e)).toNat := by rw [Nm.two_add]; exact Int.mul_le_mul_of_nonneg_right hp (Int.le_of_lt (Nm.two_pos _))
              rw [show L - 1 + (-(u + ((0 : Nat) : Int) - e)).toNat = 52 by omega, e52] at g1
              exact g1

set_option maxRecDepth 100000 in
theorem zround_big (neg : Bool) (p : Option Addr) (n cap : Nat) (zs : List Int) (w : World) (ha : Arg w p n cap zs) (tz : 4096 < Nm.tsize zs) (e : Int) (more : Bool) :
    Calls Tryz.prog 32 #[.bool neg, .slice p n cap, .int .i64 e, .bool more] w fun r w' => r = .returned (.tuple #[.int .u64 0, .int .i64 2]) ∧ w' = w := by
  have H1 := hid (refBig_is true p n cap zs w ha (by simp; omega))
  clear ha tz
  go_enter Tryz.func32, Tryz.ntmps32
  go_wp2_with fail
  refine H1.out.mono ?_
  rintro e' w' ⟨rfl, rfl⟩
  go_wp2_with fail
  go_ret2
  exact ⟨rfl, rfl⟩
end Go.Proofs.YtmakkfekomnpbaaGreatDoor

/-
  The document's FromUint.
-/
namespace Go.Proofs.YtmakkfekomnpbaaGreatDoor
open Go Go.RowKit Go.Deep

theorem arg_z {w : World} {g : Nat} {x : Int} (h : w.heap[g]? = some (.cells #[.int .u64 x] 26 (0, 0))) (h0 : 0 ≤ x) (h1 : x < 18446744073709551616) : Arg w (some ⟨g, 0, none⟩) 1 1 [x] := by
  refine ⟨rfl, Nat.le_refl _, by omega, .inr ⟨g, 0, rfl, fun i hi => ?_⟩, Nm.Limbs.mk h0 h1 Nm.Limbs.nil⟩
  obtain rfl : i = 0 := by simpa using hi
  simp [World.cell?, h]
end Go.Proofs.YtmakkfekomnpbaaGreatDoor

namespace Go.Proofs.YtmakkfekomnpbaaGreatDoor
open Go Go.RowKit Go.Deep

set_option maxRecDepth 100000 in
set_option maxHeartbeats 2000000 in
theorem zfromU_any (u : Int) (w : World) (h0 : 0 ≤ u) (h1 : u < 18446744073709551616) :
    Calls Tryz.prog 71 #[.int .u64 u] w fun e w' => ∃ x, e = .returned (.int .u64 x) ∧ Ie.Rnd u 1 0 false x ∧ Below w.heap.size w w' := by
  have R : Hid (∀ g : Obj, g = .cells #[.int .u64 u] 26 → Calls Tryz.prog 32 #[.bool false, .slice (some ⟨w.heap.size, 0, none⟩) 1 1, .int .i64 0, .bool false] (w.alloc g) fun r w' => ∃ x, r = .returned (.tuple #[.int .u64 x, .int .i64 0]) ∧ Ie.Rnd u 1 0 false x ∧ Below w.heap.size w w') := by
    intro g hg
    subst hg
    have hB := alloc_below w (.cells #[.int .u64 u] 26)
    have hv : Nm.val [u] = u := by simp [Nm.val]
    refine (zround_any false _ 1 1 [u] _ (arg_z (heap_alloc_new w _) h0 h1) (by have := Nm.tsize_le [u]; simp at this; omega) u 0 false hv).mono ?_
    rintro r w' ⟨x, h2, h3, rfl⟩
    exact ⟨x, h2, h3, hB⟩
  go_enter Tryz.func71, Tryz.ntmps71
  go_wp2_with fail
  refine (R.out _ rfl).mono ?_
  rintro e w1 ⟨x, rfl, rx, hB⟩
  have K := hid (And.intro rx hB)
  clear rx hB R
  go_wp2_with fail
  go_ret
  exact ⟨x, rfl, K.out⟩

end Go.Proofs.YtmakkfekomnpbaaGreatDoor

/-
  The document's layer 6: signed, Cut (made by mkucut.py).
-/
namespace Go.Proofs.YtmakkfekomnpbaaGreatDoor
open Go Go.RowKit Go.Deep

set_option maxRecDepth 100000 in
theorem usigned_any (neg : Bool) (d : Int) (w : World) (h0 : 0 ≤ d) (h1 : d < 9223372036854775808) :
    Calls Tryz.prog 46 #[.bool neg, .int .u64 d] w fun e w' => e = .returned (.int .u64 (Ie.sg neg d)) ∧ w' = w := by
  cases neg
  · go_enter Tryz.func46, Tryz.ntmps46
    go_wp2_with fail
    go_ret
    exact ⟨rfl, rfl⟩
  · go_enter Tryz.func46, Tryz.ntmps46
    go_wp2_with fail
    go_ret
    exact ⟨rfl, rfl⟩

/-- What is left, against a half. -/
def Ie.sd (m : Int) (k : Nat) : Int := if m % 2 ^ k = 0 then 0 else if 2 * (m % 2 ^ k) < 2 ^ k then 1 else if 2 * (m % 2 ^ k) = 2 ^ k then 2 else 3

theorem uret_ui {a b c d : Int} (h : a = b) (k : c = d) : Ending.returned (.tuple #[.int .u64 a, .int .i64 c]) = .returned (.tuple #[.int .u64 b, .int .i64 d]) := by rw [h, k]

set_option maxRecDepth 100000 in
set_option maxHeartbeats 4000000 in
theorem cut_any (neg : Bool) (c m : Int) (k : Nat) (w : World) (m0 : 0 ≤ m) (m1 : m < 9007199254740992) (k1 : 1 ≤ k) (k2 : k ≤ 1074) :
    Calls Tryz.prog 47 #[partsOf neg c m (-(k : Int))] w fun e w' => e = .returned (.tuple #[.int .u64 (m / 2 ^ k), .int .i64 (Ie.sd m k)]) ∧ Below w.heap.size w w' := by
  simp only [partsOf]
  have HB := hid (alloc_b w (.cells #[.bool neg, .int .i64 c, .int .u64 m, .int .i64 (-(k : Int))] 40))
  have P := Row4.new w 40 (.bool neg) (.int .i64 c) (.int .u64 m) (.int .i64 (-(k : Int)))
  obtain ⟨⟨-, -, p2, p3⟩, -⟩ := P.cells
  clear P
  have x0 : -(k : Int) < 0 := by omega
  rcases (show m = 0 ∨ 0 < m by omega) with hz | hz
  · subst hz
    have E : Hid ((0 : Int) / 2 ^ k = 0 ∧ Ie.sd 0 k = 0) := ⟨Int.zero_ediv _, by rw [Ie.sd, Int.zero_emod, if_pos rfl]⟩
    go_enter Tryz.func47, Tryz.ntmps47
    go_wp2_with fail
    go_ret2
    exact ⟨uret_ui E.out.1.symm E.out.2.symm, HB.out⟩
  · have mz : (m == 0) = false := by rw [beq_eq_false_iff_ne]; omega
    rcases Nat.lt_or_ge 60 k with hk | hk
    · have E : Hid (m / 2 ^ k = 0 ∧ Ie.sd m k = 1) := by
        have g := Nm.two_mono (show 54 ≤ k by omega)
        have e54 : (2 : Int) ^ 54 = 18014398509481984 := by decide
        have d1 : m / 2 ^ k = 0 := Int.ediv_eq_zero_of_lt m0 (by omega)
        have d2 : m % 2 ^ k = m := Int.emod_eq_of_lt m0 (by omega)
        exact ⟨d1, by rw [Ie.sd, d2, if_neg (by omega), if_pos (by omega)]⟩
      have x1 : -(k : Int) < -60 := by omega
      go_enter Tryz.func47, Tryz.ntmps47
      go_wp2_with fail
      go_ret2
      exact ⟨uret_ui E.out.1.symm E.out.2.symm, HB.out⟩
    · have x1 : ¬ -(k : Int) < -60 := by omega
      have TP : Hid (∀ j : Nat, j ≤ k → 1 ≤ (2 : Int) ^ j ∧ (2 : Int) ^ j ≤ 1152921504606846976) := by
        intro j hj
        have g := Nm.two_mono (show j ≤ 60 by omega)
        have e60 : (2 : Int) ^ 60 = 1152921504606846976 := by decide
        have := Nm.two_pos j
        omega
      go_enter Tryz.func47, Tryz.ntmps47
      go_wp2_with fail
      go_loop [4, 5] (fun u i => ∃ (j : Nat) (P I : Int), u = .int .u64 P ∧ i = .int .i64 I ∧ -60 ≤ I ∧ I ≤ 0 ∧ 1 ≤ P ∧ P ≤ 1152921504606846976 ∧ Hid (P = 2 ^ j ∧ I = -(j : Int) ∧ j ≤ k)) (fun _ i => k - (-(intOf i)).toNat)
      case atStart => exact ⟨0, 1, 0, rfl, rfl, by omega, by omega, by omega, by omega, rfl, rfl, by omega⟩
      case round =>
        obtain ⟨j, P, I, rfl, rfl, i0, i1, q0, q1, hj⟩ := hrel
        rcases Nat.lt_or_ge j k with lt | ge
        · have g : I > -(k : Int) := by have := hj.out.2.1; omega
          have N2 : Hid (2 * P = 2 ^ (j + 1) ∧ 2 * P ≤ 1152921504606846976) := by
            have e : 2 * P = 2 ^ (j + 1) := by rw [hj.out.1, Nm.two_succ]
            exact ⟨e, by rw [e]; exact (TP.out (j + 1) (by omega)).2⟩
          go_wp2_with fail
          go_round
          case rel => exact ⟨j + 1, 2 * P, I - 1, rfl, rfl, by have := hj.out.2.1; omega, by omega, by omega, N2.out.2, N2.out.1, by have := hj.out.2.1; omega, by omega⟩
          case measure => have := hj.out.2.1; simp [intOf]; omega
        · have g : ¬ I > -(k : Int) := by have := hj.out.2; omega
          obtain ⟨R, hR⟩ : ∃ R, m % P = R := ⟨_, rfl⟩
          obtain ⟨Q, hQ⟩ : ∃ Q, m / P = Q := ⟨_, rfl⟩
          have R0 : 0 ≤ R ∧ R < P := by rw [← hR]; exact ⟨Int.emod_nonneg _ (by omega), Int.emod_lt_of_pos _ (by omega)⟩
          obtain ⟨R0, R1⟩ := R0
          have EP : Hid (P = 2 ^ k) := by
            have h := hj.out
            rw [Hid, h.1, show j = k by omega]
          have EQ : Hid (m / 2 ^ k = Q ∧ m % 2 ^ k = R) := by rw [Hid, ← EP.out]; exact ⟨hQ, hR⟩
          have P0 : 0 < P := by omega
          have Pn : (P == 0) = false := by rw [beq_eq_false_iff_ne]; omega
          rcases (show R = 0 ∨ (0 < R ∧ 2 * R < P) ∨ (0 < R ∧ 2 * R = P) ∨ (0 < R ∧ P < 2 * R) by omega) with s | ⟨s, s'⟩ | ⟨s, s'⟩ | ⟨s, s'⟩
          · have E : Hid (Ie.sd m k = 0) := by rw [Hid, Ie.sd, EQ.out.2, if_pos s]
            subst s
            have n1 : ((0 : Int) == P) = false := by rw [beq_eq_false_iff_ne]; omega
            have n2 : ¬ (0 : Int) > P := by omega
            clear hj TP
            go_wp2_with fail
            go_ret2
            exact ⟨uret_ui EQ.out.1.symm E.out.symm, HB.out⟩
          · have E : Hid (Ie.sd m k = 1) := by rw [Hid, Ie.sd, EQ.out.2, ← EP.out, if_neg (by omega), if_pos s']
            have n1 : (2 * R == P) = false := by rw [beq_eq_false_iff_ne]; omega
            have n2 : ¬ 2 * R > P := by omega
            clear hj TP
            go_wp2_with fail
            go_ret2
            exact ⟨uret_ui EQ.out.1.symm E.out.symm, HB.out⟩
          · have E : Hid (Ie.sd m k = 2) := by rw [Hid, Ie.sd, EQ.out.2, ← EP.out, if_neg (by omega), if_neg (by omega), if_pos s']
            clear hj TP
            go_wp2_with fail
            go_ret2
            exact ⟨uret_ui EQ.out.1.symm E.out.symm, HB.out⟩
          · have E : Hid (Ie.sd m k = 3) := by rw [Hid, Ie.sd, EQ.out.2, ← EP.out, if_neg (by omega), if_neg (by omega), if_neg (by omega)]
            have n1 : (2 * R == P) = false := by rw [beq_eq_false_iff_ne]; omega
            have n2 : 2 * R > P := by omega
            clear hj TP
            go_wp2_with fail
            go_ret2
            exact ⟨uret_ui EQ.out.1.symm E.out.symm, HB.out⟩
end Go.Proofs.YtmakkfekomnpbaaGreatDoor
