/-
  THE REFERENCE's Size, Big, Trim.
-/
import Derived.Test.YtggiioipppbedaaGreatDoorZPush
namespace Go.Proofs.YtggiioipppbedaaGreatDoor
open Go.RowKit Go.Deep

theorem refSize_any (p : Option Addr) (n cap : Nat) (zs : List Int) (w : World) (hn : zs.length = n) (hm : n ≤ 140737488355328) (h : Lies w p zs) :
    Calls Tryz.prog 64 #[.slice p n cap] w fun e w' => e = .returned (.int .i64 (Nm.tsize zs)) ∧ w' = w := by
  rcases h with rfl | ⟨b, off, rfl, hcell⟩
  · have hn0 : n = 0 := by simpa using hn.symm
    subst hn0
    go_enter Tryz.func64, Tryz.ntmps64
    go_wp2
    refine wp_loop_rounds 1 ?_
    rw [rounds_succ]
    go_wp2
    go_ret
    exact ⟨rfl, rfl⟩
  · have H : Hid (zs.length = n) := hn
    have HC : Hid (∀ i, i < zs.length → w.cell? ⟨b, off + i, none⟩ = some (.int .u64 (zs.getD i 0))) := hcell
    clear hn hcell
    go_enter Tryz.func64, Tryz.ntmps64
    go_wp2
    go_loop [3] (fun t => ∃ k : Nat, k ≤ n ∧ t = .int .i64 k ∧ Hid (∀ j, k ≤ j → zs.getD j 0 = 0)) (fun t => (intOf t).toNat)
    case atStart => exact ⟨n, Nat.le_refl _, rfl, fun j hj => by simp [List.getD, List.getElem?_eq_none (show zs.length ≤ j by have := H.out; omega)]⟩
    case round =>
      obtain ⟨k, hk, rfl, hz⟩ := hrel
      by_cases h0 : k = 0
      · subst h0
        go_wp2
        go_ret
        exact ⟨by rw [Nm.tsize_unique zs 0 hz.out (.inl rfl)]; rfl, rfl⟩
      · obtain ⟨j, rfl⟩ : ∃ j, k = j + 1 := ⟨k - 1, by omega⟩
        obtain ⟨x, hx, X⟩ : ∃ x, w.cell? ⟨b, off + j, none⟩ = some (.int .u64 x) ∧ Hid (x = zs.getD j 0) := ⟨_, HC.out j (by have := H.out; omega), rfl⟩
        by_cases hx0 : x = 0
        · subst hx0
          go_wp2
          go_round
          case rel =>
            refine ⟨j, by omega, rfl, fun i hi => ?_⟩
            by_cases e : i = j
            · subst e; exact X.out.symm
            · exact hz.out i (by omega)
          case measure => simp [intOf]
        · go_wp2
          go_ret
          exact ⟨by rw [Nm.tsize_unique zs (j + 1) hz.out (.inr (by rw [Nat.add_sub_cancel, ← X.out]; exact hx0))]; rfl, rfl⟩


theorem refBig_is (s : Bool) (p : Option Addr) (n cap : Nat) (zs : List Int) (w : World) (ha : Arg w p n cap zs) (hs : decide (4096 < Nm.tsize zs) = s) :
    Calls Tryz.prog 61 #[.slice p n cap] w fun e w' => e = .returned (.bool s) ∧ w' = w := by
  obtain ⟨a1, a2, a3, a4, a5⟩ := ha
  have hs' : decide ((4096 : Int) < (Nm.tsize zs : Int)) = s := by rw [← hs]; simp; omega
  have HS := hid hs'
  clear hs hs'
  go_enter Tryz.func61, Tryz.ntmps61
  go_wp2_with (go_at_call 64; refine (refSize_any p n cap zs _ a1 (by omega) a4).mono ?_; rintro e w' ⟨rfl, rfl⟩)
  go_ret
  exact ⟨ret_bool HS.out, rfl⟩

set_option maxRecDepth 100000 in
set_option maxHeartbeats 1000000 in
/-- Trim: the trimmed list in new memory. -/
theorem refTrim_any (p : Option Addr) (n cap : Nat) (zs : List Int) (w : World) (ha : Arg w p n cap zs) :
    Calls Tryz.prog 98 #[.slice p n cap] w fun e w' => ∃ r os, e = .returned (.slice r (List.length os) (List.length os)) ∧ os = Nm.trim zs ∧ Ans w.heap.size w' r os (Nm.val zs) ∧ Below w.heap.size w w' := by
  obtain ⟨a1, a2, a3, a4, a5⟩ := ha
  have tl := Nm.tsize_le zs
  obtain ⟨N, HN⟩ : ∃ N, Hid (Nm.tsize zs = N) := ⟨_, rfl⟩
  have hNn : N ≤ n := by have := HN.out; omega
  have FIN : Hid (∀ w', Grown w' w.heap.size (zs.take N) (N - N) → Below w.heap.size w w' → ∃ r os, Ending.returned (.slice (some ⟨w.heap.size, 0, none⟩) N N) = .returned (.slice r (List.length os) (List.length os)) ∧ os = Nm.trim zs ∧ Ans w.heap.size w' r os (Nm.val zs) ∧ Below w.heap.size w w') := by
    intro w' hg hb
    have e : zs.take N = Nm.trim zs := by rw [← HN.out]; rfl
    rw [e] at hg
    refine ⟨some ⟨w.heap.size, 0, none⟩, Nm.trim zs, ?_, rfl, ⟨hg.lies, a5.trim, ?_, Nm.val_trim zs, fun a h => ?_⟩, hb⟩
    · rw [Nm.trim_length, HN.out]
    · rw [Nm.trim_trim, Nm.trim_length]
    · cases h; exact ⟨Nat.le_refl _, fun _ o => Own.free hg o⟩
  have hmk := make64_room N (by omega) w
  have bm := hid ((Below.refl w.heap.size w).alloc (Nat.le_refl _) (.cells (madeCells #[.int .u64 0] N) 25))
  have gm := hid (Grown.made w N)
  generalize w.alloc (.cells (madeCells #[.int .u64 0] N) 25) = wm at hmk bm gm
  rcases a4 with rfl | ⟨b, off, rfl, hcell⟩
  · have hn0 : n = 0 := by simpa using a1.symm
    subst hn0
    obtain rfl : N = 0 := by omega
    have E := hid (FIN.out wm (by simpa using gm.out) bm.out)
    clear FIN a1 a5 gm
    rw [show ((0 : Nat) : Int) = 0 from rfl] at hmk
    go_enter Tryz.func98, Tryz.ntmps98
    go_wp2
    refine wp_loop_rounds 1 ?_
    rw [rounds_succ]
    go_wp2
    refine wp_loop_rounds 1 ?_
    rw [rounds_succ]
    go_wp2
    go_ret
    exact E.out
  · have H : Hid (zs.length = n) := a1
    have HC : Hid (∀ i, i < zs.length → w.cell? ⟨b, off + i, none⟩ = some (.int .u64 (zs.getD i 0))) := hcell
    have hbw : 0 < N → b < w.heap.size := fun h => cell_lt (hcell 0 (by omega))
    clear a1 hcell a5 tl
    go_enter Tryz.func98, Tryz.ntmps98
    go_wp2
    go_loop [3] (fun t => ∃ k : Nat, k ≤ n ∧ t = .int .i64 k ∧ Hid (∀ j, k ≤ j → zs.getD j 0 = 0)) (fun t => (intOf t).toNat)
    case atStart => exact ⟨n, Nat.le_refl _, rfl, fun j hj => by simp [List.getD, List.getElem?_eq_none (show zs.length ≤ j by have := H.out; omega)]⟩
    case round =>
      obtain ⟨k, hk, rfl, hz⟩ := hrel
      by_cases h0 : k = N
      · subst h0
        by_cases h1 : k = 0
        · subst h1
          rw [show ((0 : Nat) : Int) = 0 from rfl] at hmk
          go_wp2
          refine wp_loop_rounds 1 ?_
          rw [rounds_succ]
          go_wp2
          go_ret
          exact FIN.out wm (by simpa using gm.out) bm.out
        · obtain ⟨t, rfl⟩ : ∃ t, k = t + 1 := ⟨k - 1, by omega⟩
          obtain ⟨x, hx, hx0⟩ : ∃ x, w.cell? ⟨b, off + t, none⟩ = some (.int .u64 x) ∧ x ≠ 0 := by
            refine ⟨_, HC.out t (by have := H.out; omega), ?_⟩
            have := Nm.tsize_top zs (by have := HN.out; omega)
            rw [HN.out] at this
            exact this
          obtain ⟨N, hN, NE⟩ : ∃ N, N ≤ n ∧ Hid (t + 1 = N) := ⟨_, hk, rfl⟩
          have hmk2 : (Instr.makeSlice 28 (.int .i64 0) (.int .i64 ((t : Int) + 1))).run Tryz.prog w = .ok (.slice (some ⟨w.heap.size, 0, none⟩) 0 N) wm := by
            rw [NE.out] at hmk
            have e : (t : Int) + 1 = (N : Int) := by have := NE.out; omega
            rw [e]; exact hmk
          have hmk3 : (Instr.makeSlice 28 (.int .i64 0) (.int .i64 ((t + 1 : Nat) : Int))).run Tryz.prog w = .ok (.slice (some ⟨w.heap.size, 0, none⟩) 0 N) wm := by
            have e := NE.out
            have h := hmk
            rw [e] at h ⊢
            exact h
          have G0 : Hid (Grown wm w.heap.size (zs.take 0) (N - 0)) := by have := gm.out; rw [NE.out] at this; exact this
          have hbb := hbw (by omega)
          have FI : Hid (∀ w', Grown w' w.heap.size (zs.take N) (N - N) → Below w.heap.size w w' → ∃ r os, Ending.returned (.slice (some ⟨w.heap.size, 0, none⟩) N N) = .returned (.slice r (List.length os) (List.length os)) ∧ os = Nm.trim zs ∧ Ans w.heap.size w' r os (Nm.val zs) ∧ Below w.heap.size w w') := by
            have := FIN.out; rw [NE.out] at this; exact this
          have e2 : (t : Int) + 1 = (N : Int) := by have := NE.out; omega
          have E2 := hid e2
          clear hmk hmk3 gm hbw FIN e2 hNn
          go_wp2
          go_loopw [4, 5] (fun a i wr => ∃ j : Nat, j ≤ N ∧ i = .int .i64 j ∧ a = .slice (some ⟨w.heap.size, 0, none⟩) j N ∧ Hid (Grown wr w.heap.size (zs.take j) (N - j)) ∧ Below w.heap.size w wr) (fun _ i _ => N - (intOf i).toNat)
          case atStart => exact ⟨0, Nat.zero_le _, rfl, rfl, G0.out, bm.out⟩
          case round =>
            obtain ⟨j, hj, rfl, rfl, G, hB⟩ := hrel
            by_cases hlt : j < N
            · obtain ⟨y, hy, Y⟩ : ∃ y, wr.cell? ⟨b, off + j, none⟩ = some (.int .u64 y) ∧ Hid (y = zs.getD j 0) := ⟨_, (hB.cell (p := ⟨b, off + j, none⟩) hbb).trans (HC.out j (by have := H.out; omega)), rfl⟩
              have G' := G.out
              rw [show N - j = (N - j - 1) + 1 by omega] at G'
              obtain ⟨w2, ap, gr, be, sz⟩ := push64 w.heap.size j (N - j - 1) N (zs.take j) y wr (by rw [List.length_take]; have := H.out; omega) (by omega) G'
              have AP := hid ap
              have GR := hid gr
              have BE := hid (hB.trans be)
              have hlt' : (j : Int) < (t : Int) + 1 := by have := E2.out; omega
              clear ap gr be sz hB G G'
              go_wp2_with (at_builtin; refine wpList_append_row rfl _ _ rfl AP.out (by rfl) (by rfl) ?_; clear AP)
              go_roundw
              case rel =>
                refine ⟨j + 1, by omega, by go_num, rfl, ?_, BE.out⟩
                have := GR.out
                rw [Y.out, ← Nm.take_snoc zs j (by have := H.out; omega)] at this
                exact this
              case measure => simp [intOf]; omega
            · obtain rfl : j = N := by omega
              have hlt' : ¬ (j : Int) < (t : Int) + 1 := by have := E2.out; omega
              have E := hid (FI.out wr G.out hB)
              clear FI G hB
              go_wp2
              go_ret
              exact E.out
      · obtain ⟨j, rfl⟩ : ∃ j, k = j + 1 := by
          refine ⟨k - 1, ?_⟩
          rcases Nat.eq_zero_or_pos k with hk0 | hk0
          · exfalso
            have := Nm.tsize_unique zs 0 (by rw [← hk0]; exact hz.out) (.inl rfl)
            have := HN.out
            omega
          · omega
        obtain ⟨x, hx, X⟩ : ∃ x, w.cell? ⟨b, off + j, none⟩ = some (.int .u64 x) ∧ Hid (x = zs.getD j 0) := ⟨_, HC.out j (by have := H.out; omega), rfl⟩
        have hx0 : x = 0 := by
          by_cases hx0 : x = 0
          · exact hx0
          · exfalso
            have := Nm.tsize_unique zs (j + 1) hz.out (.inr (by rw [Nat.add_sub_cancel, ← X.out]; exact hx0))
            have := HN.out
            omega
        subst hx0
        go_wp2
        go_round
        case rel =>
          refine ⟨j, by omega, rfl, fun i hi => ?_⟩
          by_cases e : i = j
          · subst e; exact X.out.symm
          · exact hz.out i (by omega)
        case measure => simp [intOf]
end Go.Proofs.YtggiioipppbedaaGreatDoor
