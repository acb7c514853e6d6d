/-
  THE REFERENCE's Lift.
-/
import Derived.Test.YtmglogncpfoldaaDoorRef12
namespace Go.Proofs.YtmglogncpfoldaaDoor
open Go.RowKit Go.Deep

namespace Nm
theorem p32_pow : ∀ z, p32 z = 2 ^ (32 * z)
  | 0 => rfl
  | z + 1 => by
    rw [show 32 * (z + 1) = 32 * z + 32 by omega, two_add, ← p32_pow z]
    simp only [p32]
    rw [Int.mul_comm, show (2 : Int) ^ 32 = 4294967296 by decide]

theorem lift_step {ss xs : List Int} {z j : Nat} {F c c' lo : Int} (hl : ss.length = z + j) (h : v32 ss + p32 (z + j) * c = p32 z * (F * v32 (xs.take j))) (hs : lo + 4294967296 * c' = xs.getD j 0 * F + c) :
    v32 (ss ++ [lo]) + p32 (z + (j + 1)) * c' = p32 z * (F * v32 (xs.take (j + 1))) := by
  rw [v32_snoc, v32_take_next, hl, Int.mul_add F, Int.mul_add (p32 z)]
  have e1 : p32 (z + (j + 1)) * c' = p32 (z + j) * (4294967296 * c') := by
    rw [← Nat.add_assoc]; simp only [p32]; rw [Int.mul_comm 4294967296 (p32 (z + j)), Int.mul_assoc]
  have e2 : p32 z * (F * (p32 j * xs.getD j 0)) = p32 (z + j) * (xs.getD j 0 * F) := by
    rw [p32_add, Int.mul_left_comm F, ← Int.mul_assoc, Int.mul_comm F]
  have e3 : p32 (z + j) * (lo + 4294967296 * c') = p32 (z + j) * (xs.getD j 0 * F + c) := by rw [hs]
  rw [Int.mul_add, Int.mul_add] at e3
  omega
end Nm

set_option maxRecDepth 20000 in
set_option maxHeartbeats 4000000 in
theorem lift_any (p : Option Addr) (n cap : Nat) (za : List Int) (kk : Int) (k : Nat) (w : World) (ha : Arg w p n cap za) (hn : Nm.tsize za ≤ 1099511627776) (hkk : kk = (k : Int)) (hk : k ≤ 262144) :
    Calls Tryd.prog 55 #[.slice p n cap, .int .i64 kk] w fun e w' => ∃ r os, e = .returned (.slice r (List.length os) (List.length os)) ∧ Ans w.heap.size w' r os (Nm.val za * 2 ^ k) ∧ Below w.heap.size w w' := by
  have HA := hid ha
  have hk0 : 0 ≤ kk := by omega
  have hk1 : kk ≤ 262144 := by omega
  obtain ⟨z, HZ⟩ : ∃ z : Nat, Hid (kk / 32 = (z : Int) ∧ z = k / 32) := ⟨k / 32, by show _ ∧ _; omega⟩
  obtain ⟨r, HR⟩ : ∃ r : Nat, Hid (kk % 32 = (r : Int) ∧ r = k % 32) := ⟨k % 32, by show _ ∧ _; omega⟩
  have KZ : Hid (k = 32 * z + r) := by have := HZ.out; have := HR.out; show _ = _; omega
  have hz8 : z ≤ 8192 := by have := HZ.out; omega
  have hr31 : r ≤ 31 := by have := HR.out; omega
  clear ha hkk hk
  go_enter Tryd.func55, Tryd.ntmps55
  go_wp2_with fail
  refine (halves_any p n cap za _ HA.out (by have := HA.out.2.1; have := HA.out.2.2.1; omega)).mono ?_
  rintro e w1 ⟨xs, rfl, lx, hx, vx, kx, bx⟩
  have D1 := hid bx
  obtain ⟨l1, LX⟩ : ∃ l1, Hid (xs.length = l1) := ⟨_, rfl⟩
  have HX := hid hx
  have VX := hid vx
  have kx1 : l1 ≤ 2 * Nm.tsize za := by have := LX.out; omega
  obtain ⟨g1, G1⟩ : ∃ g1, w.heap.size = g1 := ⟨_, rfl⟩
  have lx2 := lx
  rw [G1] at lx2
  have CX : Hid (∀ i, i < l1 → w1.cell? ⟨g1, i, none⟩ = some (.int .u64 (xs.getD i 0))) := fun i hi => by have := lx2.cells i (by have := LX.out; omega); rwa [Nat.zero_add] at this
  obtain ⟨g, Gg⟩ : ∃ g, Hid (w1.heap.size = g) := ⟨_, rfl⟩
  have BX : Hid (∀ {j : Nat}, j < l1 → g1 < g) := fun {j} hj => by rw [← Gg.out]; exact cell_lt (CX.out j hj)
  rw [LX.out, G1]
  clear lx lx2 hx vx kx bx
  by_cases hz : l1 = 0
  · have V0 : Hid (Nm.val za * 2 ^ k = 0) := by
      rw [Hid, ← VX.out, List.eq_nil_of_length_eq_zero (LX.out.trans hz)]; simp [Nm.v32]
    have D3 := hid (chain D1.out ((Below.refl w1.heap.size w1).alloc (Nat.le_refl _) (.cells #[] 28)) (Nat.le_refl _))
    have GS : Hid (w.heap.size ≤ g) := by rw [← Gg.out]; exact D1.out.size
    have FIN : Hid (∀ x : World, Below w.heap.size w x → ∃ r os, Ending.returned (.slice (some ⟨g, 0, none⟩) 0 0) = .returned (.slice r (List.length os) (List.length os)) ∧ Ans w.heap.size x r os (Nm.val za * 2 ^ k) ∧ Below w.heap.size w x) := fun x hx => ⟨some ⟨g, 0, none⟩, [], rfl, ⟨Lies.nil _ _, Nm.Limbs.nil, rfl, V0.out.symm, fun a h => by cases h; exact ⟨GS.out, fun h0 => absurd h0 (by simp)⟩⟩, hx⟩
    subst hz
    go_wp2
    go_ret
    rw [Gg.out]
    exact FIN.out _ D3.out
  · have h1' : ((l1 : Int) == 0) = false := by rw [beq_eq_false_iff_ne]; omega
    obtain ⟨C, HC⟩ : ∃ C, Hid (z + l1 + 1 = C) := ⟨_, rfl⟩
    have hmk := make64_room (z + l1 + 1) (by omega) w1
    rw [show ((z + l1 + 1 : Nat) : Int) = kk / 32 + (l1 : Int) + 1 by have := HZ.out; omega, HC.out, Gg.out] at hmk
    have bm := hid ((Below.refl w1.heap.size w1).alloc (Nat.le_refl _) (.cells (madeCells #[.int .u64 0] C) 28))
    have gm := hid (Grown.made w1 C)
    rw [Gg.out] at bm gm
    generalize w1.alloc (.cells (madeCells #[.int .u64 0] C) 28) = wm at hmk bm gm
    have hCb : C ≤ 35184372088832 := by have := HC.out; omega
    go_wp2
    clear hmk
    go_loopw [6, 7] (fun a i wr => ∃ j : Nat, j ≤ z ∧ i = .int .i64 j ∧ a = .slice (some ⟨g, 0, none⟩) j C ∧ Hid (Grown wr g (List.replicate j 0) (C - j)) ∧ Below g w1 wr) (fun _ i _ => z - (intOf i).toNat)
    case atStart => exact ⟨0, Nat.zero_le _, rfl, rfl, gm.out, bm.out⟩
    case round =>
      obtain ⟨j, hj, rfl, rfl, G, hB⟩ := hrel
      by_cases hlt : j < z
      · have hlt' : (j : Int) < kk / 32 := by have := HZ.out; omega
        have G' := G.out
        rw [show C - j = (C - j - 1) + 1 by have := HC.out; omega] at G'
        obtain ⟨w2, ap, gr, be, sz⟩ := push64 g j (C - j - 1) C (List.replicate j 0) 0 wr (by simp) (by have := HC.out; omega) G'
        have AP := hid ap
        have GR := hid gr
        have BE := hid (hB.trans be)
        clear ap gr be sz hB G G'
        go_wp2_with (at_builtin; refine wpList_append_row rfl _ _ rfl AP.out (by rfl) (by rfl) ?_; clear AP)
        go_roundw
        case rel =>
          refine ⟨j + 1, by omega, by go_num, rfl, ?_, BE.out⟩
          have := GR.out
          rw [← List.replicate_succ'] at this
          exact this
        case measure => simp [intOf]; omega
      · have hlt' : ¬ (j : Int) < kk / 32 := by have := HZ.out; omega
        obtain rfl : j = z := by omega
        have HB := hid hB
        clear hB
        go_wp2
        go_loop [8, 9] (fun f i => ∃ (t : Nat) (F : Int), t ≤ r ∧ i = .int .i64 t ∧ f = .int .u64 F ∧ 1 ≤ F ∧ F ≤ 2147483648 ∧ Hid (F = 2 ^ t)) (fun _ i => r - (intOf i).toNat)
        case atStart => exact ⟨0, 1, Nat.zero_le _, rfl, rfl, by omega, by omega, rfl⟩
        case round =>
          obtain ⟨t, F, ht, rfl, rfl, hF0, hF1, HF⟩ := hrel
          by_cases htl : t < r
          · have htl' : (t : Int) < kk % 32 := by have := HR.out; omega
            obtain ⟨F2, hF2, FF⟩ : ∃ F2, IntKind.u64.wrap (F * 2) = F2 ∧ Hid (F2 = F * 2) := ⟨_, by rw [IntKind.wrap_u64, Int.emod_eq_of_lt (by omega) (by omega)], rfl⟩
            have E2 : Hid (F2 = 2 ^ (t + 1)) := by rw [Hid, FF.out, HF.out, Nm.two_succ, Int.mul_comm]
            have hF20 : 1 ≤ F2 := by have := FF.out; omega
            have hF21 : F2 ≤ 2147483648 := by
              rw [E2.out]
              have := Nm.two_mono (show t + 1 ≤ 31 by omega)
              have e : (2 : Int) ^ 31 = 2147483648 := by decide
              omega
            go_wp2
            go_round
            case rel => exact ⟨t + 1, F2, by omega, by go_num, by first | rfl | rw [hF2], hF20, hF21, E2.out⟩
            case measure => simp [intOf]; omega
          · have htl' : ¬ (t : Int) < kk % 32 := by have := HR.out; omega
            obtain rfl : t = r := by omega
            have FV : Hid (Nm.p32 j * (F * Nm.v32 xs) = Nm.val za * 2 ^ k) := by
              rw [Hid, Nm.p32_pow, HF.out, VX.out, KZ.out, Nm.two_add, ← Int.mul_assoc, Int.mul_comm]
            go_wp2
            go_loopw [6, 10, 11] (fun a c i wr => ∃ (i' : Nat) (cc : Int) (ss : List Int), i' ≤ l1 ∧ i = .int .i64 i' ∧ a = .slice (some ⟨g, 0, none⟩) (j + i') C ∧ c = .int .u64 cc ∧ 0 ≤ cc ∧ cc < 4294967296 ∧ Hid (Grown wr g ss (C - (j + i'))) ∧ Hid (ss.length = j + i') ∧ Hid (Nm.Halves ss) ∧ Hid (Nm.v32 ss + Nm.p32 (j + i') * cc = Nm.p32 j * (F * Nm.v32 (xs.take i'))) ∧ Below g w1 wr) (fun _ _ i _ => l1 - (intOf i).toNat)
            case atStart => exact ⟨0, 0, List.replicate j 0, Nat.zero_le _, rfl, rfl, rfl, by omega, by omega, G.out, by simp [Hid], Nm.Halves.zeros _, by simp [Hid, Nm.v32_zeros, Nm.v32], HB.out⟩
            case round =>
              obtain ⟨i', cc, ss, hi', rfl, rfl, rfl, hc0, hc1, G3, L, HS, V, hB⟩ := hrel
              have G' := G3.out
              rw [show C - (j + i') = (C - (j + i') - 1) + 1 by have := HC.out; omega] at G'
              by_cases hl : i' < l1
              · have hl' : (i' : Int) < (l1 : Int) := by omega
                obtain ⟨x, hx, X⟩ : ∃ x, wr.cell? ⟨g1, i', none⟩ = some (.int .u64 x) ∧ Hid (x = xs.getD i' 0) := ⟨_, (hB.cell (p := ⟨g1, i', none⟩) (BX.out hl)).trans (CX.out i' hl), rfl⟩
                have hx0 : 0 ≤ x := by have := HX.out.at i'; have := X.out; omega
                have hx1 : x < 4294967296 := by have := HX.out.at i'; have := X.out; omega
                have hxf0 : 0 ≤ x * F := Int.mul_nonneg hx0 (by omega)
                have hxf1 : x * F ≤ 4294967295 * 2147483648 := Int.mul_le_mul (by omega) hF1 (by omega) (by omega)
                obtain ⟨m0, hm0, M0⟩ : ∃ m0, IntKind.u64.wrap (x * F) = m0 ∧ Hid (m0 = x * F) := ⟨_, by rw [IntKind.wrap_u64, Int.emod_eq_of_lt (by omega) (by omega)], rfl⟩
                have hm00 : 0 ≤ m0 := by have := M0.out; omega
                have hm01 : m0 ≤ 9223372034707292160 := by have := M0.out; omega
                obtain ⟨tt, htt, TT⟩ : ∃ tt, IntKind.u64.wrap (m0 + cc) = tt ∧ Hid (tt = m0 + cc) := ⟨_, by rw [IntKind.wrap_u64, Int.emod_eq_of_lt (by omega) (by omega)], rfl⟩
                have htt0 : 0 ≤ tt := by have := TT.out; omega
                have htt1 : tt ≤ 9223372039002259455 := by have := TT.out; omega
                obtain ⟨lo, hlo, LO⟩ : ∃ lo, bits .and .u64 tt 4294967295 = lo ∧ Hid (lo = tt % 4294967296) := ⟨_, r_mask32 tt (by omega) (by omega), rfl⟩
                obtain ⟨hi, hhi, HI⟩ : ∃ hi, tt / 4294967296 = hi ∧ Hid (hi = tt / 4294967296) := ⟨_, rfl, rfl⟩
                have BLO : Hid ((0 ≤ lo ∧ lo < 4294967296) ∧ 0 ≤ hi ∧ hi < 4294967296) := by have := LO.out; have := HI.out; show _ ∧ _; omega
                have ST : Hid (lo + 4294967296 * hi = xs.getD i' 0 * F + cc) := by
                  have h1 := LO.out; have h2 := HI.out; have h3 := TT.out; have h5 := M0.out
                  rw [Hid, ← X.out]; omega
                obtain ⟨w2, ap, gr, be, sz⟩ := push64 g (j + i') (C - (j + i') - 1) C ss lo wr L.out (by have := HC.out; omega) G'
                have AP := hid ap
                have GR := hid gr
                have BE := hid (hB.trans be)
                clear ap gr be sz hB G3 G' hxf0 hxf1
                go_wp2_with (at_builtin; refine wpList_append_row rfl _ _ rfl AP.out (by rfl) (by rfl) ?_; clear AP)
                go_roundw
                case rel =>
                  refine ⟨i' + 1, hi, ss ++ [lo], by omega, by go_num, rfl, by first | rfl | rw [hhi], BLO.out.2.1, BLO.out.2.2, GR.out, ?_, HS.out.snoc BLO.out.1.1 BLO.out.1.2, ?_, BE.out⟩
                  · have := L.out; simp only [Hid, List.length_append, List.length_cons, List.length_nil]; omega
                  · exact Nm.lift_step L.out V.out ST.out
                case measure => simp [intOf]; omega
              · have hl' : ¬ (i' : Int) < (l1 : Int) := by omega
                obtain ⟨w3, ap, gr, be, sz⟩ := push64 g (j + i') (C - (j + i') - 1) C ss cc wr L.out (by have := HC.out; omega) G'
                have AP := hid ap
                have D3 := hid (chain D1.out (by rw [Gg.out]; exact hB.trans be) (Nat.le_refl _))
                have VV : Hid (Nm.v32 (ss ++ [cc]) = Nm.val za * 2 ^ k) := by
                  have := V.out
                  rw [List.take_of_length_le (by have := LX.out; omega), FV.out] at this
                  rw [Hid, Nm.v32_snoc, L.out]
                  exact this
                have HS2 := hid (HS.out.snoc hc0 hc1)
                have AG : Hid (Arg w3 (some ⟨g, 0, none⟩) (j + i' + 1) C (ss ++ [cc])) := ⟨by simp [L.out], by have := HC.out; omega, by have := HC.out; omega, gr.lies, HS2.out.limbs⟩
                have hw3 : Hid (w.heap.size ≤ w3.heap.size) := D3.out.size
                clear ap gr be sz hB G3 G'
                go_wp2_with (at_builtin; refine wpList_append_row rfl _ _ rfl AP.out (by rfl) (by rfl) ?_; clear AP)
                refine (limbs_any _ (j + i' + 1) C (ss ++ [cc]) _ AG.out HS2.out).mono ?_
                rintro e w4 ⟨r4, os, rfl, hA, hb⟩
                rw [VV.out] at hA
                have A4 := hid (hA.mono hw3.out)
                have D4 := hid (chain D3.out hb (Nat.le_refl _))
                clear hA hb
                go_wp2
                go_ret
                exact ⟨r4, os, rfl, A4.out, D4.out⟩
end Go.Proofs.YtmglogncpfoldaaDoor
