/-
  Texts put together: NTrimO, NLow.
-/
import Derived.Test.YtffkopijfelacaaDoorRD
namespace Go.Proofs.YtffkopijfelacaaDoor
open Go.RowKit Go.Deep

set_option maxHeartbeats 1000000 in
/-- Trim: the trimmed list in new memory. -/
theorem refTrim_own (p : Option Addr) (n cap : Nat) (zs : List Int) (w : World) (ha : Arg w p n cap zs) :
    Calls Tryd.prog 11 #[.slice p n cap] w fun e w' => e = .returned (.slice (some ⟨w.heap.size, 0, none⟩) (Nm.tsize zs) (Nm.tsize zs)) ∧ Own w' w.heap.size (Nm.trim zs) ∧ Below w.heap.size w w' := by
  obtain ⟨a1, a2, a3, a4, a5⟩ := ha
  have tl := Nm.tsize_le zs
  obtain ⟨N, HN⟩ : ∃ N, Hid (Nm.tsize zs = N) := ⟨_, rfl⟩
  have hNn : N ≤ n := by have := HN.out; omega
  have FIN : Hid (∀ w', Grown w' w.heap.size (zs.take N) (N - N) → Below w.heap.size w w' → Ending.returned (.slice (some ⟨w.heap.size, 0, none⟩) N N) = .returned (.slice (some ⟨w.heap.size, 0, none⟩) (Nm.tsize zs) (Nm.tsize zs)) ∧ Own w' w.heap.size (Nm.trim zs) ∧ Below w.heap.size w w') := by
    intro w' hg hb
    have e : zs.take N = Nm.trim zs := by rw [← HN.out]; rfl
    rw [e, Grown, Nat.sub_self, List.replicate_zero, List.append_nil] at hg
    exact ⟨by rw [HN.out], hg, hb⟩
  have hmk := make64_room N (by omega) w
  have bm := hid ((Below.refl w.heap.size w).alloc (Nat.le_refl _) (.cells (madeCells #[.int .u64 0] N) 25))
  have gm := hid (Grown.made w N)
  generalize w.alloc (.cells (madeCells #[.int .u64 0] N) 25) = wm at hmk bm gm
  rcases a4 with rfl | ⟨b, off, rfl, hcell⟩
  · have hn0 : n = 0 := by simpa using a1.symm
    subst hn0
    obtain rfl : N = 0 := by omega
    have E := hid (FIN.out wm (by simpa using gm.out) bm.out)
    clear FIN a1 a5 gm
    rw [show ((0 : Nat) : Int) = 0 from rfl] at hmk
    go_enter Tryd.func11, Tryd.ntmps11
    go_wp2
    refine wp_loop_rounds 1 ?_
    rw [rounds_succ]
    go_wp2
    refine wp_loop_rounds 1 ?_
    rw [rounds_succ]
    go_wp2
    go_ret
    exact E.out
  · have H : Hid (zs.length = n) := a1
    have HC : Hid (∀ i, i < zs.length → w.cell? ⟨b, off + i, none⟩ = some (.int .u64 (zs.getD i 0))) := hcell
    have hbw : 0 < N → b < w.heap.size := fun h => cell_lt (hcell 0 (by omega))
    clear a1 hcell a5 tl
    go_enter Tryd.func11, Tryd.ntmps11
    go_wp2
    go_loop [3] (fun t => ∃ k : Nat, k ≤ n ∧ t = .int .i64 k ∧ Hid (∀ j, k ≤ j → zs.getD j 0 = 0)) (fun t => (intOf t).toNat)
    case atStart => exact ⟨n, Nat.le_refl _, rfl, fun j hj => by simp [List.getD, List.getElem?_eq_none (show zs.length ≤ j by have := H.out; omega)]⟩
    case round =>
      obtain ⟨k, hk, rfl, hz⟩ := hrel
      by_cases h0 : k = N
      · subst h0
        by_cases h1 : k = 0
        · subst h1
          rw [show ((0 : Nat) : Int) = 0 from rfl] at hmk
          go_wp2
          refine wp_loop_rounds 1 ?_
          rw [rounds_succ]
          go_wp2
          go_ret
          exact FIN.out wm (by simpa using gm.out) bm.out
        · obtain ⟨t, rfl⟩ : ∃ t, k = t + 1 := ⟨k - 1, by omega⟩
          obtain ⟨x, hx, hx0⟩ : ∃ x, w.cell? ⟨b, off + t, none⟩ = some (.int .u64 x) ∧ x ≠ 0 := by
            refine ⟨_, HC.out t (by have := H.out; omega), ?_⟩
            have := Nm.tsize_top zs (by have := HN.out; omega)
            rw [HN.out] at this
            exact this
          obtain ⟨N, hN, NE⟩ : ∃ N, N ≤ n ∧ Hid (t + 1 = N) := ⟨_, hk, rfl⟩
          have hmk2 : (Instr.makeSlice 24 (.int .i64 0) (.int .i64 ((t : Int) + 1))).run Tryd.prog w = .ok (.slice (some ⟨w.heap.size, 0, none⟩) 0 N) wm := by
            rw [NE.out] at hmk
            have e : (t : Int) + 1 = (N : Int) := by have := NE.out; omega
            rw [e]; exact hmk
          have hmk3 : (Instr.makeSlice 24 (.int .i64 0) (.int .i64 ((t + 1 : Nat) : Int))).run Tryd.prog w = .ok (.slice (some ⟨w.heap.size, 0, none⟩) 0 N) wm := by
            have e := NE.out
            have h := hmk
            rw [e] at h ⊢
            exact h
          have G0 : Hid (Grown wm w.heap.size (zs.take 0) (N - 0)) := by have := gm.out; rw [NE.out] at this; exact this
          have hbb := hbw (by omega)
          have FI : Hid (∀ w', Grown w' w.heap.size (zs.take N) (N - N) → Below w.heap.size w w' → Ending.returned (.slice (some ⟨w.heap.size, 0, none⟩) N N) = .returned (.slice (some ⟨w.heap.size, 0, none⟩) (Nm.tsize zs) (Nm.tsize zs)) ∧ Own w' w.heap.size (Nm.trim zs) ∧ Below w.heap.size w w') := by
            have := FIN.out; rw [NE.out] at this; exact this
          have e2 : (t : Int) + 1 = (N : Int) := by have := NE.out; omega
          have E2 := hid e2
          clear hmk hmk3 gm hbw FIN e2 hNn
          go_wp2
          go_loopw [4, 5] (fun a i wr => ∃ j : Nat, j ≤ N ∧ i = .int .i64 j ∧ a = .slice (some ⟨w.heap.size, 0, none⟩) j N ∧ Hid (Grown wr w.heap.size (zs.take j) (N - j)) ∧ Below w.heap.size w wr) (fun _ i _ => N - (intOf i).toNat)
          case atStart => exact ⟨0, Nat.zero_le _, rfl, rfl, G0.out, bm.out⟩
          case round =>
            obtain ⟨j, hj, rfl, rfl, G, hB⟩ := hrel
            by_cases hlt : j < N
            · obtain ⟨y, hy, Y⟩ : ∃ y, wr.cell? ⟨b, off + j, none⟩ = some (.int .u64 y) ∧ Hid (y = zs.getD j 0) := ⟨_, (hB.cell (p := ⟨b, off + j, none⟩) hbb).trans (HC.out j (by have := H.out; omega)), rfl⟩
              have G' := G.out
              rw [show N - j = (N - j - 1) + 1 by omega] at G'
              obtain ⟨w2, ap, gr, be, sz⟩ := push64 w.heap.size j (N - j - 1) N (zs.take j) y wr (by rw [List.length_take]; have := H.out; omega) (by omega) G'
              have AP := hid ap
              have GR := hid gr
              have BE := hid (hB.trans be)
              have hlt' : (j : Int) < (t : Int) + 1 := by have := E2.out; omega
              clear ap gr be sz hB G G'
              go_wp2_with (at_builtin; refine wpList_append_row rfl _ _ rfl AP.out (by rfl) (by rfl) ?_; clear AP)
              go_roundw
              case rel =>
                refine ⟨j + 1, by omega, by go_num, rfl, ?_, BE.out⟩
                have := GR.out
                rw [Y.out, ← Nm.take_snoc zs j (by have := H.out; omega)] at this
                exact this
              case measure => simp [intOf]; omega
            · obtain rfl : j = N := by omega
              have hlt' : ¬ (j : Int) < (t : Int) + 1 := by have := E2.out; omega
              have E := hid (FI.out wr G.out hB)
              clear FI G hB
              go_wp2
              go_ret
              exact E.out
      · obtain ⟨j, rfl⟩ : ∃ j, k = j + 1 := by
          refine ⟨k - 1, ?_⟩
          rcases Nat.eq_zero_or_pos k with hk0 | hk0
          · exfalso
            have := Nm.tsize_unique zs 0 (by rw [← hk0]; exact hz.out) (.inl rfl)
            have := HN.out
            omega
          · omega
        obtain ⟨x, hx, X⟩ : ∃ x, w.cell? ⟨b, off + j, none⟩ = some (.int .u64 x) ∧ Hid (x = zs.getD j 0) := ⟨_, HC.out j (by have := H.out; omega), rfl⟩
        have hx0 : x = 0 := by
          by_cases hx0 : x = 0
          · exact hx0
          · exfalso
            have := Nm.tsize_unique zs (j + 1) hz.out (.inr (by rw [Nat.add_sub_cancel, ← X.out]; exact hx0))
            have := HN.out
            omega
        subst hx0
        go_wp2
        go_round
        case rel =>
          refine ⟨j, by omega, rfl, fun i hi => ?_⟩
          by_cases e : i = j
          · subst e; exact X.out.symm
          · exact hz.out i (by omega)
        case measure => simp [intOf]
end Go.Proofs.YtffkopijfelacaaDoor

namespace Go.Proofs.YtffkopijfelacaaDoor
open Go.RowKit Go.Deep

theorem low_tell (p : Option Addr) (n cap : Nat) (za : List Int) (kk : Int) (w : World) (ha : Arg w p n cap za) :
    Calls Tryd.prog 41 #[.slice p n cap, .int .i64 kk] w fun e w' => Tells (4096 < Nm.tsize za ∨ kk < 0) (shErr za) (Nm.val za % 2 ^ kk.toNat) w e w' := by
  by_cases h : 4096 < Nm.tsize za ∨ kk < 0
  · refine (low_bad p n cap za kk w ha h _ rfl).mono ?_
    rintro e w' ⟨rfl, rfl⟩
    exact Tells.bad h (Below.refl _ _)
  · refine (low_any p n cap za kk kk.toNat w ha (by omega) (by omega)).mono ?_
    rintro e w' ⟨r, os, rfl, A, hB⟩
    exact Tells.good h A hB

theorem low_half {x : Int} {i : Nat} : x % 2 ^ i + x / 2 ^ i % 2 * 2 ^ i = x % 2 ^ (i + 1) := by
  have e : (2 : Int) ^ (i + 1) = 2 ^ i * 2 := by rw [Nm.two_add]; rfl
  have hp := Nm.two_pos i
  have h1 := Int.emod_add_mul_ediv x (2 ^ i)
  have h2 := Int.emod_add_mul_ediv (x / 2 ^ i) 2
  have h3 := Int.emod_nonneg x (b := 2 ^ i) (by omega)
  have h4 := Int.emod_lt_of_pos x hp
  have h5 : x = (x % 2 ^ i + x / 2 ^ i % 2 * 2 ^ i) + 2 ^ i * 2 * (x / 2 ^ i / 2) := by
    rw [Int.mul_assoc, Int.add_assoc, Int.mul_comm (x / 2 ^ i % 2), ← Int.mul_add, h2, h1]
  rw [e]
  have h6 : 0 ≤ x / 2 ^ i % 2 * 2 ^ i ∧ x / 2 ^ i % 2 * 2 ^ i ≤ 2 ^ i := by
    rcases (show x / 2 ^ i % 2 = 0 ∨ x / 2 ^ i % 2 = 1 by omega) with c | c <;> rw [c] <;> omega
  have ha : 0 ≤ x % 2 ^ i + x / 2 ^ i % 2 * 2 ^ i ∧ x % 2 ^ i + x / 2 ^ i % 2 * 2 ^ i < 2 ^ i * 2 := by omega
  generalize x % 2 ^ i + x / 2 ^ i % 2 * 2 ^ i = a at h5 ha ⊢
  have h7 : 0 ≤ a ∧ a < 2 ^ i * 2 := ha
  generalize x / 2 ^ i / 2 = q at h5
  rw [h5, Int.add_mul_emod_self_left, Int.emod_eq_of_lt h7.1 h7.2]

set_option maxRecDepth 100000 in
set_option maxHeartbeats 2000000 in
theorem refLow_any (p : Option Addr) (n cap : Nat) (za : List Int) (kk : Int) (w : World) (ha : Arg w p n cap za) (hk1 : kk ≤ 9223372036854775807) :
    Calls Tryd.prog 26 #[.slice p n cap, .int .i64 kk] w fun e w' => Tells (4096 < Nm.tsize za ∨ kk < 0) (shErr za) (Nm.val za % 2 ^ kk.toNat) w e w' := by
  by_cases h1 : 4096 < Nm.tsize za
  · have S1 := hid (refBig_is true p n cap za w ha (by simpa using h1))
    have E : Hid (Tells (4096 < Nm.tsize za ∨ kk < 0) (shErr za) (Nm.val za % 2 ^ kk.toNat) w (.returned (.tuple #[.slice none 0 0, .int .i64 2])) w) := by
      have e : shErr za = 2 := if_pos h1
      rw [e]; exact Tells.bad (.inl h1) (Below.refl _ _)
    clear ha h1
    go_enter Tryd.func26, Tryd.ntmps26
    go_wp2_with fail
    refine S1.out.mono ?_
    rintro e w' ⟨rfl, rfl⟩
    go_wp2
    go_ret2
    exact E.out
  have S1 := hid (refBig_is false p n cap za w ha (by simp; omega))
  by_cases h2 : kk < 0
  · have E : Hid (Tells (4096 < Nm.tsize za ∨ kk < 0) (shErr za) (Nm.val za % 2 ^ kk.toNat) w (.returned (.tuple #[.slice none 0 0, .int .i64 1])) w) := by
      have e : shErr za = 1 := if_neg h1
      rw [e]; exact Tells.bad (.inr h2) (Below.refl _ _)
    clear ha h1
    go_enter Tryd.func26, Tryd.ntmps26
    go_wp2_with fail
    refine S1.out.mono ?_
    rintro e w' ⟨rfl, rfl⟩
    go_wp2
    go_ret2
    exact E.out
  have NB : Hid (¬ (4096 < Nm.tsize za ∨ kk < 0)) := by show ¬ _; omega
  obtain ⟨k, HK⟩ : ∃ k : Nat, Hid (kk = (k : Int)) := ⟨kk.toNat, by show _ = _; omega⟩
  have HKN : Hid (kk.toNat = k) := by have := HK.out; show _ = _; omega
  have TO := refTrim_own p n cap za w ha
  obtain ⟨N, HN⟩ : ∃ N, Hid (Nm.tsize za = N) := ⟨_, rfl⟩
  rw [HN.out] at TO
  have HTO := hid TO
  have hN1 : N ≤ 4096 := by have := HN.out; omega
  have L1 := hid ((Nm.trim_length za).trans HN.out)
  have A5 := hid ha.2.2.2.2.trim
  have V := hid (Nm.val_trim za)
  have bd := Nm.val_bd _ ha.2.2.2.2.trim
  rw [V.out, L1.out] at bd
  have BD := hid bd
  clear ha h1 TO bd
  go_enter Tryd.func26, Tryd.ntmps26
  go_wp2_with fail
  refine S1.out.mono ?_
  rintro e w' ⟨rfl, rfl⟩
  go_wp2_with fail
  refine HTO.out.mono ?_
  rintro e w1 ⟨rfl, OW, B1⟩
  clear HTO
  by_cases hL : 64 * (N : Int) ≤ kk
  · have E : Hid (Tells (4096 < Nm.tsize za ∨ kk < 0) (shErr za) (Nm.val za % 2 ^ kk.toNat) w' (.returned (.tuple #[.slice (some ⟨w'.heap.size, 0, none⟩) N N, .int .i64 0])) w1) := by
      have h := Tells.good (P := 4096 < Nm.tsize za ∨ kk < 0) (E := shErr za) (T := Nm.val za % 2 ^ kk.toNat) (w := w') (w' := w1) (r := some ⟨w'.heap.size, 0, none⟩) (os := Nm.trim za) NB.out ⟨OW.lies, A5.out, by rw [Nm.trim_trim, Nm.trim_length], by
        rw [V.out, HKN.out, Int.emod_eq_of_lt BD.out.1 (Int.lt_of_lt_of_le BD.out.2 (by rw [Nm.pw_two]; exact Nm.two_mono (by have := HK.out; omega)))], fun a h => by cases h; exact Nat.le_refl _⟩ B1
      rw [L1.out] at h
      exact h
    clear OW B1
    go_wp2
    go_ret2
    exact E.out
  · obtain ⟨sk, hsk⟩ : ∃ sk, k / 64 = sk := ⟨_, rfl⟩
    obtain ⟨r, hr⟩ : ∃ r, k % 64 = r := ⟨_, rfl⟩
    have KK := HK.out
    have r1 : kk / 64 = (sk : Int) := by omega
    have r2 : kk % 64 = (r : Int) := by omega
    have hr63 : r ≤ 63 := by omega
    have hskN : sk < N := by omega
    have hskN' : (sk : Int) < (N : Int) := by omega
    have hkb : kk ≤ 262144 := by omega
    have hk0 : 0 ≤ kk := by omega
    have KE : Hid (k = 64 * sk + r) := by show _ = _; omega
    clear KK hsk hr h2
    obtain ⟨x, X⟩ : ∃ x, Hid (x = (Nm.trim za).getD sk 0) := ⟨_, rfl⟩
    have hxc := OW.cell sk (by rw [L1.out]; exact hskN)
    rw [← X.out] at hxc
    have hx0 := A5.out.at sk
    rw [← X.out] at hx0
    obtain ⟨hx0, hx1⟩ := hx0
    obtain ⟨g, hg⟩ : ∃ g, w'.heap.size = g := ⟨_, rfl⟩
    rw [hg] at OW hxc
    simp only [hg]
    have HB1 := hid B1
    have HOW := hid OW
    clear OW B1
    go_wp2_with fail
    go_loop [8, 9, 10, 11] (fun a b c d => ∃ (t : Nat) (W K F : Int), t ≤ r ∧ d = .int .i64 (t : Int) ∧ a = .int .u64 W ∧ b = .int .u64 K ∧ c = .int .u64 F ∧ (0 ≤ W ∧ W < 18446744073709551616) ∧ (0 ≤ K ∧ K < F) ∧ (1 ≤ F ∧ F ≤ 9223372036854775808) ∧ Hid (W = x / 2 ^ t ∧ K = x % 2 ^ t ∧ F = 2 ^ t)) (fun _ _ _ d => r - (intOf d).toNat)
    case atStart => exact ⟨0, x, 0, 1, by omega, rfl, rfl, rfl, rfl, ⟨hx0, hx1⟩, by omega, by omega, by show _ ∧ _; simp [Int.emod_one]⟩
    case round =>
      obtain ⟨t, W, K, F, ht, rfl, rfl, rfl, rfl, ⟨w0, w1'⟩, ⟨k0, k1⟩, ⟨f0, f1⟩, HI⟩ := hrel
      by_cases hd : t = r
      · subst hd
        have YE := HI.out.2.1
        have QE : Hid (Nm.val za % 2 ^ k = Nm.val ((Nm.trim za).take sk) + Nm.pw sk * K) := by
          have TL : ((Nm.trim za).take sk).length = sk := by rw [List.length_take, L1.out]; omega
          have h1 := Nm.val_drop (Nm.trim za) sk (by rw [L1.out]; omega)
          have h2 := Nm.val_bd _ (A5.out.take sk)
          rw [TL] at h2
          have h3 : Nm.val ((Nm.trim za).drop sk) = x + 18446744073709551616 * Nm.val ((Nm.trim za).drop (sk + 1)) := by
            rw [X.out, List.drop_eq_getElem_cons (by rw [L1.out]; exact hskN), Nm.val]
            simp [List.getD, L1.out, hskN]
          have hp := Nm.pw_pos sk
          have c1 := Int.emod_add_mul_ediv x (2 ^ t)
          rw [← YE] at c1
          have hPQ := Sh.split64 t hr63
          have e1 : Nm.val za = Nm.val ((Nm.trim za).take sk) + Nm.pw sk * K + 2 ^ k * (x / 2 ^ t + 2 ^ (64 - t) * Nm.val ((Nm.trim za).drop (sk + 1))) := by
            rw [KE.out, Nm.two_add, ← Nm.pw_two, Int.mul_assoc, Int.mul_add (2 ^ t), ← Int.mul_assoc (2 ^ t), hPQ, ← V.out, h1, h3]
            have : x + 18446744073709551616 * Nm.val ((Nm.trim za).drop (sk + 1)) = K + (2 ^ t * (x / 2 ^ t) + 18446744073709551616 * Nm.val ((Nm.trim za).drop (sk + 1))) := by omega
            rw [this, Int.mul_add]
            omega
          have e2 : 0 ≤ Nm.pw sk * K := Int.mul_nonneg (by omega) k0
          have kF : K < 2 ^ t := by rw [← HI.out.2.2]; exact k1
          have e3 : Nm.pw sk * (K + 1) ≤ Nm.pw sk * 2 ^ t := Int.mul_le_mul_of_nonneg_left (by omega) (by omega)
          rw [Int.mul_add, Int.mul_one, Nm.pw_two, ← Nm.two_add, ← KE.out, ← Nm.pw_two] at e3
          show _ = _
          rw [e1, Int.add_mul_emod_self_left, Int.emod_eq_of_lt (by omega) (by omega)]
        have gl := HOW.out.lt
        have bm : Below w1.heap.size w1 (w1.alloc (.cells #[.int .u64 K] 25)) := (Below.refl _ _).alloc (Nat.le_refl _) _
        have hl : Lies (w1.alloc (.cells #[.int .u64 K] 25)) (some ⟨w1.heap.size, 0, none⟩) [K] := (Own.alloc w1 [K]).lies
        obtain ⟨w2, ap, ow, be, sz⟩ := append64 g N sk (Nm.trim za) (some ⟨w1.heap.size, 0, none⟩) 1 1 [K] 24 _ L1.out rfl (by omega) (Own.below HOW.out bm gl) hl
        have TL : ((Nm.trim za).take sk ++ [K]).length = sk + 1 := by rw [List.length_append, List.length_take, L1.out]; simp; omega
        have LI2 : Lies w2 (some ⟨g, 0, none⟩) ((Nm.trim za).take sk ++ [K]) := by
          have := ow.lies.take (sk + 1)
          rwa [List.take_left' TL] at this
        have A2 := hid (show Arg w2 (some ⟨g, 0, none⟩) (sk + 1) N ((Nm.trim za).take sk ++ [K]) from ⟨TL, by omega, by omega, LI2, (A5.out.take sk).append (Nm.Limbs.mk k0 (by omega) Nm.Limbs.nil)⟩)
        have VQ : Hid (Nm.val ((Nm.trim za).take sk ++ [K]) = Nm.val za % 2 ^ k) := by
          have TL0 : ((Nm.trim za).take sk).length = sk := by rw [List.length_take, L1.out]; omega
          show _ = _
          rw [Nm.val_append, TL0, QE.out]
          simp [Nm.val]
        have B2 : Below w'.heap.size w' w2 := HB1.out.trans ((bm.mono (by have := HB1.out.size; omega)).trans (be.mono (by omega)))
        have HB2 := hid B2
        have TR := hid (refTrim_any (some ⟨g, 0, none⟩) (sk + 1) N _ w2 A2.out)
        clear B2 LI2 TL hl bm gl QE YE ow be sz HB1 HOW hg
        have AP := hid ap
        clear ap
        go_wp2_with (at_builtin; refine wpList_append_row rfl _ _ rfl AP.out (by rfl) (by rfl) ?_; clear AP)
        refine TR.out.mono ?_
        rintro e w3 ⟨r3, os, rfl, -, hA, hB3⟩
        have E : Hid (Tells (4096 < Nm.tsize za ∨ kk < 0) (shErr za) (Nm.val za % 2 ^ kk.toNat) w' (.returned (.tuple #[.slice r3 (List.length os) (List.length os), .int .i64 0])) w3) := by
          rw [VQ.out] at hA
          exact Tells.good NB.out (by rw [HKN.out]; exact ⟨hA.1, hA.2.1, hA.2.2.1, hA.2.2.2.1, fun a h => Nat.le_trans HB2.out.size (hA.2.2.2.2 a h)⟩) (HB2.out.trans (hB3.mono HB2.out.size))
        clear hA hB3 TR
        go_wp2
        go_ret2
        exact E.out
      · have htr : (t : Int) < (r : Int) := by omega
        have F62 : F ≤ 4611686018427387904 := by
          rw [HI.out.2.2]
          have := Nm.two_mono (show t ≤ 62 by omega)
          have e : (2 : Int) ^ 62 = 4611686018427387904 := by decide
          omega
        obtain ⟨M, HM⟩ : ∃ M, Hid (W % 2 * F = M) := ⟨_, rfl⟩
        have m2 : M = 0 ∨ M = F := by
          rw [← HM.out]
          rcases (show W % 2 = 0 ∨ W % 2 = 1 by omega) with c | c <;> rw [c] <;> omega
        have hM1 : IntKind.u64.wrap (W % 2 * F) = M := by rw [HM.out, Sh.wrap_mod]; omega
        have hM2 : IntKind.u64.wrap (K + M) = K + M := by rw [Sh.wrap_mod]; omega
        have hM3 : IntKind.u64.wrap (F * 2) = F * 2 := by rw [Sh.wrap_mod]; omega
        have NX : Hid (W / 2 = x / 2 ^ (t + 1) ∧ K + M = x % 2 ^ (t + 1) ∧ F * 2 = 2 ^ (t + 1)) := by
          obtain ⟨i1, i2, i3⟩ := HI.out
          refine ⟨by rw [i1]; exact half_more x t, ?_, by rw [i3, Nm.two_add]; rfl⟩
          rw [← low_half, ← HM.out, i1, i2, i3]
        clear HI HM
        go_wp2
        go_round
        case rel => exact ⟨t + 1, W / 2, K + M, F * 2, by omega, by go_num, rfl, rfl, rfl, by omega, by omega, by omega, NX.out⟩
        case measure => simp [intOf]; omega
end Go.Proofs.YtffkopijfelacaaDoor
