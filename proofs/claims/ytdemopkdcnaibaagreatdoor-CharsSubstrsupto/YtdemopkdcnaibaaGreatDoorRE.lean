/-
  Texts put together: ZRef9, ZRef13, ZArg, ZRef7, ZRef17, ZRound, ZRef12, ZRound2, ZFromU, UCut.
-/
import Derived.Test.YtdemopkdcnaibaaGreatDoorZRef3
import Derived.Test.YtdemopkdcnaibaaGreatDoorTimesNum
import Derived.Test.YtdemopkdcnaibaaGreatDoorBare
import Derived.Test.YtdemopkdcnaibaaGreatDoorRD
import Derived.Test.YtdemopkdcnaibaaGreatDoorRB
import Derived.Deep.RegionWith
import Derived.Test.YtdemopkdcnaibaaGreatDoorBlenIs
import Derived.Test.YtdemopkdcnaibaaGreatDoorBitW
import Derived.Test.YtdemopkdcnaibaaGreatDoorINum2
import Derived.Test.YtdemopkdcnaibaaGreatDoorShr
import Derived.Test.YtdemopkdcnaibaaGreatDoorTrailW
import Derived.Test.YtdemopkdcnaibaaGreatDoorRC
namespace Go.Proofs.YtdemopkdcnaibaaGreatDoor
open Go.RowKit Go.Deep


set_option maxRecDepth 20000 in
set_option maxRecDepth 100000 in
set_option maxHeartbeats 4000000 in
theorem times_any (p q : Option Addr) (n cap m cap' : Nat) (za zb : List Int) (w : World) (ha : Arg w p n cap za) (hb : Arg w q m cap' zb) (hn : Nm.tsize za ≤ 1099511627776) (hm : Nm.tsize zb ≤ 1099511627776) :
    Calls Tryz.prog 128 #[.slice p n cap, .slice q m cap'] w fun e w' => ∃ r os, e = .returned (.slice r (List.length os) (List.length os)) ∧ Ans w.heap.size w' r os (Nm.val za * Nm.val zb) ∧ Below w.heap.size w w' := by
  have HA := hid ha
  have HB0 := hid hb
  clear ha hb
  go_enter Tryz.func128, Tryz.ntmps128
  go_wp2_with fail
  refine (halves_any p n cap za _ HA.out (by have := HA.out.2.1; have := HA.out.2.2.1; omega)).mono ?_
  rintro e w1 ⟨xs, rfl, lx, hx, vx, kx, bx⟩
  have HB1 := hid (HB0.out.below bx (Nat.le_refl _))
  have D1 := hid bx
  obtain ⟨l1, LX⟩ : ∃ l1, Hid (xs.length = l1) := ⟨_, rfl⟩
  have LX0 := hid lx
  have HX := hid hx
  have VX := hid vx
  have kx1 : l1 ≤ 2 * Nm.tsize za := by have := LX.out; omega
  rw [LX.out]
  clear lx hx vx kx bx HB0
  go_wp2_with fail
  refine (halves_any q m cap' zb _ HB1.out (by have := HB1.out.2.1; have := HB1.out.2.2.1; omega)).mono ?_
  rintro e w2 ⟨ys, rfl, ly, hy, vy, ky, by_⟩
  have D2 := hid (chain D1.out by_ (Nat.le_refl _))
  obtain ⟨l2, LY⟩ : ∃ l2, Hid (ys.length = l2) := ⟨_, rfl⟩
  have HY := hid hy
  have VY := hid vy
  have ky1 : l2 ≤ 2 * Nm.tsize zb := by have := LY.out; omega
  obtain ⟨g1, G1⟩ : ∃ g1, w.heap.size = g1 := ⟨_, rfl⟩
  obtain ⟨g2, G2⟩ : ∃ g2, w1.heap.size = g2 := ⟨_, rfl⟩
  have LX2 := LX0.out.below by_ (Nat.le_refl _)
  rw [G1] at LX2
  have ly2 := ly
  rw [G2] at ly2
  have CX : Hid (∀ i, i < l1 → w2.cell? ⟨g1, i, none⟩ = some (.int .u64 (xs.getD i 0))) := fun i hi => by have := LX2.cells i (by have := LX.out; omega); rwa [Nat.zero_add] at this
  have CY : Hid (∀ i, i < l2 → w2.cell? ⟨g2, i, none⟩ = some (.int .u64 (ys.getD i 0))) := fun i hi => by have := ly2.cells i (by have := LY.out; omega); rwa [Nat.zero_add] at this
  obtain ⟨g, Gg⟩ : ∃ g, Hid (w2.heap.size = g) := ⟨_, rfl⟩
  have BX : Hid (∀ {j : Nat}, j < l1 → g1 < g) := fun {j} hj => by rw [← Gg.out]; exact cell_lt (CX.out j hj)
  have BY : Hid (∀ {j : Nat}, j < l2 → g2 < g) := fun {j} hj => by rw [← Gg.out]; exact cell_lt (CY.out j hj)
  rw [LY.out, G1, G2]
  clear ly hy vy ky by_ LX0 LX2 ly2 HB1 D1 G2
  by_cases hz : l1 = 0 ∨ l2 = 0
  · have V0 : Hid (Nm.val za * Nm.val zb = 0) := by
      rw [Hid, ← VX.out, ← VY.out]
      rcases hz with h | h
      · rw [List.eq_nil_of_length_eq_zero (LX.out.trans h)]; simp [Nm.v32]
      · rw [List.eq_nil_of_length_eq_zero (LY.out.trans h)]; simp [Nm.v32]
    have bm := (Below.refl w2.heap.size w2).alloc (Nat.le_refl _) (.cells #[] 24)
    have D3 := hid (chain D2.out bm (Nat.le_refl _))
    have GS : Hid (w.heap.size ≤ g) := by rw [← Gg.out]; exact D2.out.size
    clear bm
    have fin : ∀ x : World, Below w.heap.size w x → ∃ r os, Ending.returned (.slice (some ⟨g, 0, none⟩) 0 0) = .returned (.slice r (List.length os) (List.length os)) ∧ Ans w.heap.size x r os (Nm.val za * Nm.val zb) ∧ Below w.heap.size w x := fun x hx => ⟨some ⟨g, 0, none⟩, [], rfl, ⟨Lies.nil _ _, Nm.Limbs.nil, rfl, V0.out.symm, fun a h => by cases h; exact GS.out⟩, hx⟩
    have FIN := hid fin
    clear fin
    by_cases h1 : l1 = 0
    · subst h1
      go_wp2
      go_ret
      rw [Gg.out]
      exact FIN.out _ D3.out
    · have h2 : l2 = 0 := by omega
      subst h2
      have h1' : ¬ (l1 : Int) = 0 := by omega
      have h1'' : ((l1 : Int) == 0) = false := by rw [beq_eq_false_iff_ne]; exact h1'
      go_wp2
      go_ret
      rw [Gg.out]
      exact FIN.out _ D3.out
  · have h1 : ¬ (l1 : Int) = 0 := by omega
    have h2 : ¬ (l2 : Int) = 0 := by omega
    have h1' : ((l1 : Int) == 0) = false := by rw [beq_eq_false_iff_ne]; exact h1
    have h2' : ((l2 : Int) == 0) = false := by rw [beq_eq_false_iff_ne]; exact h2
    have hmk := make64 (l1 + l2) (by omega) w2
    rw [show ((l1 + l2 : Nat) : Int) = (l1 : Int) + (l2 : Int) by omega, Gg.out] at hmk
    have bm := hid ((Below.refl w2.heap.size w2).alloc (Nat.le_refl _) (.cells (madeCells #[.int .u64 0] (l1 + l2)) 24))
    have gm : Own (w2.alloc (.cells (madeCells #[.int .u64 0] (l1 + l2)) 24)) w2.heap.size (List.replicate (l1 + l2) 0) := by rw [made_zero]; exact Own.alloc w2 _
    rw [Gg.out] at bm gm
    generalize w2.alloc (.cells (madeCells #[.int .u64 0] (l1 + l2)) 24) = wm at hmk bm gm
    have I0 : Hid (TimesInv g (l1 + l2) w2 (Nm.v32 (xs.take 0) * Nm.v32 ys) 0 0 (0 + l2) (List.replicate (l1 + l2) 0) wm) := ⟨gm, by simp, Nm.Halves.zeros _, by rw [Nm.v32_zeros]; simp [Nm.v32], fun t _ => getD_replicate _ _, bm.out⟩
    clear gm bm hz
    go_wp2
    clear hmk
    obtain ⟨K, HK⟩ : ∃ K, Hid (l1 + l2 = K) := ⟨_, rfl⟩
    have I1 := I0.out
    rw [HK.out] at I1 ⊢
    have J0 := hid I1
    clear I0 I1
    have hKb : K ≤ 35184372088832 := by have := HK.out; omega
    go_loopw [8] (fun i wr => ∃ (k : Nat) (ps : List Int), k ≤ l1 ∧ i = .int .i64 k ∧ Hid (TimesInv g K w2 (Nm.v32 (xs.take k) * Nm.v32 ys) 0 k (k + l2) ps wr)) (fun i _ => l1 - (intOf i).toNat)
    case atStart => exact ⟨0, _, Nat.zero_le _, rfl, J0.out⟩
    case round =>
      obtain ⟨k, ps, hk, rfl, TI⟩ := hrel
      by_cases hlt : k < l1
      · have hlt' : (k : Int) < (l1 : Int) := by omega
        obtain ⟨x, X⟩ : ∃ x, Hid (x = xs.getD k 0) := ⟨_, rfl⟩
        have hx0 : 0 ≤ x := by have := HX.out.at k; have := X.out; omega
        have hx1 : x < 4294967296 := by have := HX.out.at k; have := X.out; omega
        obtain ⟨V, HV⟩ : ∃ V, Hid (V = Nm.v32 (xs.take k) * Nm.v32 ys) := ⟨_, rfl⟩
        have TJ : Hid (TimesInv g K w2 (V + Nm.p32 k * (x * Nm.v32 (ys.take 0))) 0 (k + 0) (k + l2) ps wr) := by
          have h := TI.out
          rw [← HV.out] at h
          simp only [List.take_zero, Nm.v32, Int.mul_zero, Int.add_zero, Nat.add_zero]
          exact h
        clear TI
        go_wp2_with fail
        go_loopw [9, 10] (fun c j wr => ∃ (t : Nat) (cc : Int) (ps : List Int), t ≤ l2 ∧ j = .int .i64 t ∧ c = .int .u64 cc ∧ 0 ≤ cc ∧ cc < 4294967296 ∧ Hid (TimesInv g K w2 (V + Nm.p32 k * (x * Nm.v32 (ys.take t))) cc (k + t) (k + l2) ps wr)) (fun _ j _ => l2 - (intOf j).toNat)
        case atStart => exact ⟨0, 0, ps, Nat.zero_le _, rfl, rfl, by omega, by omega, TJ.out⟩
        case round =>
          clear TJ ps
          obtain ⟨t, cc, ps, ht, rfl, rfl, hc0, hc1, TI⟩ := hrel
          obtain ⟨o1, o2, o3, o4, o5, o6⟩ := TI.out
          by_cases htl : t < l2
          · have htl' : (t : Int) < (l2 : Int) := by omega
            have hx : wr.cell? ⟨g1, k, none⟩ = some (.int .u64 x) := by rw [X.out]; exact (o6.cell (p := ⟨g1, k, none⟩) (BX.out hlt)).trans (CX.out k hlt)
            obtain ⟨y, hy, Y⟩ : ∃ y, wr.cell? ⟨g2, t, none⟩ = some (.int .u64 y) ∧ Hid (y = ys.getD t 0) := ⟨_, (o6.cell (p := ⟨g2, t, none⟩) (BY.out htl)).trans (CY.out t htl), rfl⟩
            have hkt : k + t < K := by have := HK.out; omega
            obtain ⟨pv, hpv, PV⟩ : ∃ pv, wr.cell? ⟨g, k + t, none⟩ = some (.int .u64 pv) ∧ Hid (pv = ps.getD (k + t) 0) := ⟨_, o1.cell (k + t) (by omega), rfl⟩
            have hfr := o1.free (k + t)
            have hy0 : 0 ≤ y := by have := HY.out.at t; have := Y.out; omega
            have hy1 : y < 4294967296 := by have := HY.out.at t; have := Y.out; omega
            have hp0 : 0 ≤ pv := by have := o3.at (k + t); have := PV.out; omega
            have hp1 : pv < 4294967296 := by have := o3.at (k + t); have := PV.out; omega
            have hxy0 : 0 ≤ x * y := Int.mul_nonneg hx0 hy0
            have hxy1 : x * y ≤ 4294967295 * 4294967295 := Int.mul_le_mul (by omega) (by omega) hy0 (by omega)
            obtain ⟨m0, hm0, M0⟩ : ∃ m0, IntKind.u64.wrap (x * y) = m0 ∧ Hid (m0 = x * y) := ⟨_, by rw [IntKind.wrap_u64, Int.emod_eq_of_lt (by omega) (by omega)], rfl⟩
            have hm00 : 0 ≤ m0 := by have := M0.out; omega
            have hm01 : m0 ≤ 18446744065119617025 := by have := M0.out; omega
            obtain ⟨m1, hm1, M1⟩ : ∃ m1, IntKind.u64.wrap (m0 + pv) = m1 ∧ Hid (m1 = m0 + pv) := ⟨_, by rw [IntKind.wrap_u64, Int.emod_eq_of_lt (by omega) (by omega)], rfl⟩
            have hm10 : 0 ≤ m1 := by have := M1.out; omega
            have hm11 : m1 ≤ 18446744069414584320 := by have := M1.out; omega
            obtain ⟨tt, htt, TT⟩ : ∃ tt, IntKind.u64.wrap (m1 + cc) = tt ∧ Hid (tt = m1 + cc) := ⟨_, by rw [IntKind.wrap_u64, Int.emod_eq_of_lt (by omega) (by omega)], rfl⟩
            have htt0 : 0 ≤ tt := by have := TT.out; omega
            have htt1 : tt ≤ 18446744073709551615 := by have := TT.out; omega
            obtain ⟨lo, hlo, LO⟩ : ∃ lo, bits .and .u64 tt 4294967295 = lo ∧ Hid (lo = tt % 4294967296) := ⟨_, r_mask32 tt (by omega) (by omega), rfl⟩
            obtain ⟨hi, hhi, HI⟩ : ∃ hi, tt / 4294967296 = hi ∧ Hid (hi = tt / 4294967296) := ⟨_, rfl, rfl⟩
            have BLO : Hid ((0 ≤ lo ∧ lo < 4294967296) ∧ 0 ≤ hi ∧ hi < 4294967296) := by have := LO.out; have := HI.out; show _ ∧ _; omega
            have ST : Hid (lo + 4294967296 * hi = x * ys.getD t 0 + pv + cc) := by
              have h1 := LO.out; have h2 := HI.out; have h3 := TT.out; have h4 := M1.out; have h5 := M0.out
              rw [Hid, ← Y.out]; omega
            have O1 := hid o1
            have O2 := hid o2
            have O3 := hid o3
            have O4 := hid o4
            have O5 := hid o5
            have O6 := hid o6
            have hkt' : (k : Int) + (t : Int) < (K : Int) := by omega
            clear o1 o2 o3 o4 o5 o6 TI hxy0 hxy1
            go_wp2_with fail
            go_quiet (fail)
            have hpv2 : (wr.drewN nq).cell? ⟨g, k + t, none⟩ = some (.int .u64 pv) := hpv
            have hfr2 : (wr.drewN nq).frozen? ⟨g, k + t, none⟩ = false := hfr
            have P1 : Hid (Own (wr.drewN nq) g ps) := O1.out
            have P6 := hid (below_drewN O6.out nq)
            clear hx hy hpv hfr O1 O6
            generalize wr.drewN nq = wq at *
            go_wp2
            go_roundw
            case rel =>
              refine ⟨t + 1, hi, ps.set (k + t) lo, by omega, by go_num, by first | rfl | rw [hhi], BLO.out.2.1, BLO.out.2.2, P1.out.set _ _, by rw [List.length_set]; exact O2.out, O3.out.set _ BLO.out.1.1 BLO.out.1.2, ?_, ?_, P6.out.setCell (Nat.le_refl _) _⟩
              · exact Nm.times_digit (by have := O2.out; omega) PV.out O4.out ST.out
              · intro s hs
                rw [Nm.getD_set ps (k + t) s lo (by have := O2.out; omega), if_neg (by omega)]
                exact O5.out s hs
            case measure => simp [intOf]; omega
          · have htl' : ¬ (t : Int) < (l2 : Int) := by omega
            obtain rfl : t = l2 := by omega
            rw [List.take_of_length_le (by have := LY.out; omega)] at o4
            have hkt : k + t < K := by have := HK.out; omega
            obtain ⟨pv, hpv⟩ : ∃ pv, wr.cell? ⟨g, k + t, none⟩ = some (.int .u64 pv) := ⟨_, o1.cell (k + t) (by omega)⟩
            have hfr := o1.free (k + t)
            have Z0 := o5 (k + t) (Nat.le_refl _)
            have NX : Hid (TimesInv g K w2 (Nm.v32 (xs.take (k + 1)) * Nm.v32 ys) 0 (k + 1) (k + 1 + t) (ps.set (k + t) cc) (wr.setCell ⟨g, k + t, none⟩ (.int .u64 cc))) := by
              refine ⟨o1.set _ _, by rw [List.length_set]; exact o2, o3.set _ hc0 hc1, ?_, ?_, o6.setCell (Nat.le_refl _) _⟩
              · rw [Nm.v32_set ps (k + t) cc (by omega), Z0, Nm.v32_take_next, ← X.out, Int.add_mul, ← HV.out, Int.mul_zero, Int.add_zero, Int.sub_zero, Int.mul_assoc]
                exact o4
              · intro s hs
                rw [Nm.getD_set ps (k + t) s cc (by omega), if_neg (by omega)]
                exact o5 s (by omega)
            have hkt' : (k : Int) + (t : Int) < (K : Int) := by omega
            clear o1 o2 o3 o4 o5 o6 TI Z0
            go_wp2
            go_roundw
            case rel => exact ⟨k + 1, _, by omega, by go_num, NX.out⟩
            case measure => simp [intOf]; omega
      · have hlt' : ¬ (k : Int) < (l1 : Int) := by omega
        obtain rfl : k = l1 := by omega
        obtain ⟨o1, o2, o3, o4, o5, o6⟩ := TI.out
        rw [List.take_of_length_le (by have := LX.out; omega), VX.out, VY.out, Int.mul_zero, Int.add_zero] at o4
        have D3 := hid (chain D2.out (by rw [Gg.out]; exact o6) (Nat.le_refl _))
        have AG : Hid (Arg wr (some ⟨g, 0, none⟩) K K ps) := ⟨o2, Nat.le_refl _, by have := HK.out; omega, o1.lies, o3.limbs⟩
        have hw3 : Hid (w.heap.size ≤ wr.heap.size) := D3.out.size
        have HV := hid o4
        have HS := hid o3
        clear o1 o2 o3 o4 o5 o6 TI
        go_wp2_with fail
        refine (rlimbs_any _ K K ps _ AG.out HS.out).mono ?_
        rintro e w4 ⟨r, os, rfl, hA, hb⟩
        rw [HV.out] at hA
        have A4 := hid (hA.mono hw3.out)
        have D4 := hid (chain D3.out hb (Nat.le_refl _))
        clear hA hb
        go_wp2
        go_ret
        exact ⟨r, os, rfl, A4.out, D4.out⟩
end Go.Proofs.YtdemopkdcnaibaaGreatDoor

namespace Go.Proofs.YtdemopkdcnaibaaGreatDoor
open Go.RowKit Go.Deep

namespace Nm
theorem p32_pow : ∀ z, p32 z = 2 ^ (32 * z)
  | 0 => rfl
  | z + 1 => by
    rw [show 32 * (z + 1) = 32 * z + 32 by omega, two_add, ← p32_pow z]
    simp only [p32]
    rw [Int.mul_comm, show (2 : Int) ^ 32 = 4294967296 by decide]

theorem lift_step {ss xs : List Int} {z j : Nat} {F c c' lo : Int} (hl : ss.length = z + j) (h : v32 ss + p32 (z + j) * c = p32 z * (F * v32 (xs.take j))) (hs : lo + 4294967296 * c' = xs.getD j 0 * F + c) :
    v32 (ss ++ [lo]) + p32 (z + (j + 1)) * c' = p32 z * (F * v32 (xs.take (j + 1))) := by
  rw [v32_snoc, v32_take_next, hl, Int.mul_add F, Int.mul_add (p32 z)]
  have e1 : p32 (z + (j + 1)) * c' = p32 (z + j) * (4294967296 * c') := by
    rw [← Nat.add_assoc]; simp only [p32]; rw [Int.mul_comm 4294967296 (p32 (z + j)), Int.mul_assoc]
  have e2 : p32 z * (F * (p32 j * xs.getD j 0)) = p32 (z + j) * (xs.getD j 0 * F) := by
    rw [p32_add, Int.mul_left_comm F, ← Int.mul_assoc, Int.mul_comm F]
  have e3 : p32 (z + j) * (lo + 4294967296 * c') = p32 (z + j) * (xs.getD j 0 * F + c) := by rw [hs]
  rw [Int.mul_add, Int.mul_add] at e3
  omega
end Nm

set_option maxRecDepth 20000 in
set_option maxRecDepth 100000 in
set_option maxHeartbeats 4000000 in
theorem lift_any (p : Option Addr) (n cap : Nat) (za : List Int) (kk : Int) (k : Nat) (w : World) (ha : Arg w p n cap za) (hn : Nm.tsize za ≤ 1099511627776) (hkk : kk = (k : Int)) (hk : k ≤ 4194304) :
    Calls Tryz.prog 75 #[.slice p n cap, .int .i64 kk] w fun e w' => ∃ r os, e = .returned (.slice r (List.length os) (List.length os)) ∧ Ans w.heap.size w' r os (Nm.val za * 2 ^ k) ∧ Below w.heap.size w w' := by
  have HA := hid ha
  have hk0 : 0 ≤ kk := by omega
  have hk1 : kk ≤ 4194304 := by omega
  obtain ⟨z, HZ⟩ : ∃ z : Nat, Hid (kk / 32 = (z : Int) ∧ z = k / 32) := ⟨k / 32, by show _ ∧ _; omega⟩
  obtain ⟨r, HR⟩ : ∃ r : Nat, Hid (kk % 32 = (r : Int) ∧ r = k % 32) := ⟨k % 32, by show _ ∧ _; omega⟩
  have KZ : Hid (k = 32 * z + r) := by have := HZ.out; have := HR.out; show _ = _; omega
  have hz8 : z ≤ 131072 := by have := HZ.out; omega
  have hr31 : r ≤ 31 := by have := HR.out; omega
  clear ha hkk hk
  go_enter Tryz.func75, Tryz.ntmps75
  go_wp2_with fail
  refine (halves_any p n cap za _ HA.out (by have := HA.out.2.1; have := HA.out.2.2.1; omega)).mono ?_
  rintro e w1 ⟨xs, rfl, lx, hx, vx, kx, bx⟩
  have D1 := hid bx
  obtain ⟨l1, LX⟩ : ∃ l1, Hid (xs.length = l1) := ⟨_, rfl⟩
  have HX := hid hx
  have VX := hid vx
  have kx1 : l1 ≤ 2 * Nm.tsize za := by have := LX.out; omega
  obtain ⟨g1, G1⟩ : ∃ g1, w.heap.size = g1 := ⟨_, rfl⟩
  have lx2 := lx
  rw [G1] at lx2
  have CX : Hid (∀ i, i < l1 → w1.cell? ⟨g1, i, none⟩ = some (.int .u64 (xs.getD i 0))) := fun i hi => by have := lx2.cells i (by have := LX.out; omega); rwa [Nat.zero_add] at this
  obtain ⟨g, Gg⟩ : ∃ g, Hid (w1.heap.size = g) := ⟨_, rfl⟩
  have BX : Hid (∀ {j : Nat}, j < l1 → g1 < g) := fun {j} hj => by rw [← Gg.out]; exact cell_lt (CX.out j hj)
  rw [LX.out, G1]
  clear lx lx2 hx vx kx bx
  by_cases hz : l1 = 0
  · have V0 : Hid (Nm.val za * 2 ^ k = 0) := by
      rw [Hid, ← VX.out, List.eq_nil_of_length_eq_zero (LX.out.trans hz)]; simp [Nm.v32]
    have D3 := hid (chain D1.out ((Below.refl w1.heap.size w1).alloc (Nat.le_refl _) (.cells #[] 24)) (Nat.le_refl _))
    have GS : Hid (w.heap.size ≤ g) := by rw [← Gg.out]; exact D1.out.size
    have FIN : Hid (∀ x : World, Below w.heap.size w x → ∃ r os, Ending.returned (.slice (some ⟨g, 0, none⟩) 0 0) = .returned (.slice r (List.length os) (List.length os)) ∧ Ans w.heap.size x r os (Nm.val za * 2 ^ k) ∧ Below w.heap.size w x) := fun x hx => ⟨some ⟨g, 0, none⟩, [], rfl, ⟨Lies.nil _ _, Nm.Limbs.nil, rfl, V0.out.symm, fun a h => by cases h; exact GS.out⟩, hx⟩
    subst hz
    go_wp2
    go_ret
    rw [Gg.out]
    exact FIN.out _ D3.out
  · have h1' : ((l1 : Int) == 0) = false := by rw [beq_eq_false_iff_ne]; omega
    obtain ⟨C, HC⟩ : ∃ C, Hid (z + l1 + 1 = C) := ⟨_, rfl⟩
    have hmk := make64_room (z + l1 + 1) (by omega) w1
    rw [show ((z + l1 + 1 : Nat) : Int) = kk / 32 + (l1 : Int) + 1 by have := HZ.out; omega, HC.out, Gg.out] at hmk
    have bm := hid ((Below.refl w1.heap.size w1).alloc (Nat.le_refl _) (.cells (madeCells #[.int .u64 0] C) 24))
    have gm := hid (Grown.made w1 C)
    rw [Gg.out] at bm gm
    generalize w1.alloc (.cells (madeCells #[.int .u64 0] C) 24) = wm at hmk bm gm
    have hCb : C ≤ 35184372088832 := by have := HC.out; omega
    go_wp2
    clear hmk
    go_loopw [6, 7] (fun a i wr => ∃ j : Nat, j ≤ z ∧ i = .int .i64 j ∧ a = .slice (some ⟨g, 0, none⟩) j C ∧ Hid (Grown wr g (List.replicate j 0) (C - j)) ∧ Below g w1 wr) (fun _ i _ => z - (intOf i).toNat)
    case atStart => exact ⟨0, Nat.zero_le _, rfl, rfl, gm.out, bm.out⟩
    case round =>
      obtain ⟨j, hj, rfl, rfl, G, hB⟩ := hrel
      by_cases hlt : j < z
      · have hlt' : (j : Int) < kk / 32 := by have := HZ.out; omega
        have G' := G.out
        rw [show C - j = (C - j - 1) + 1 by have := HC.out; omega] at G'
        obtain ⟨w2, ap, gr, be, sz⟩ := push64 g j (C - j - 1) C (List.replicate j 0) 0 wr (by simp) (by have := HC.out; omega) G'
        have AP := hid ap
        have GR := hid gr
        have BE := hid (hB.trans be)
        clear ap gr be sz hB G G'
        go_wp2_with (at_builtin; refine wpList_append_row rfl _ _ rfl AP.out (by rfl) (by rfl) ?_; clear AP)
        go_roundw
        case rel =>
          refine ⟨j + 1, by omega, by go_num, rfl, ?_, BE.out⟩
          have := GR.out
          rw [← List.replicate_succ'] at this
          exact this
        case measure => simp [intOf]; omega
      · have hlt' : ¬ (j : Int) < kk / 32 := by have := HZ.out; omega
        obtain rfl : j = z := by omega
        have HB := hid hB
        clear hB
        go_wp2
        go_loop [8, 9] (fun f i => ∃ (t : Nat) (F : Int), t ≤ r ∧ i = .int .i64 t ∧ f = .int .u64 F ∧ 1 ≤ F ∧ F ≤ 2147483648 ∧ Hid (F = 2 ^ t)) (fun _ i => r - (intOf i).toNat)
        case atStart => exact ⟨0, 1, Nat.zero_le _, rfl, rfl, by omega, by omega, rfl⟩
        case round =>
          obtain ⟨t, F, ht, rfl, rfl, hF0, hF1, HF⟩ := hrel
          by_cases htl : t < r
          · have htl' : (t : Int) < kk % 32 := by have := HR.out; omega
            obtain ⟨F2, hF2, FF⟩ : ∃ F2, IntKind.u64.wrap (F * 2) = F2 ∧ Hid (F2 = F * 2) := ⟨_, by rw [IntKind.wrap_u64, Int.emod_eq_of_lt (by omega) (by omega)], rfl⟩
            have E2 : Hid (F2 = 2 ^ (t + 1)) := by rw [Hid, FF.out, HF.out, Nm.two_succ, Int.mul_comm]
            have hF20 : 1 ≤ F2 := by have := FF.out; omega
            have hF21 : F2 ≤ 2147483648 := by
              rw [E2.out]
              have := Nm.two_mono (show t + 1 ≤ 31 by omega)
              have e : (2 : Int) ^ 31 = 2147483648 := by decide
              omega
            go_wp2
            go_round
            case rel => exact ⟨t + 1, F2, by omega, by go_num, by first | rfl | rw [hF2], hF20, hF21, E2.out⟩
            case measure => simp [intOf]; omega
          · have htl' : ¬ (t : Int) < kk % 32 := by have := HR.out; omega
            obtain rfl : t = r := by omega
            have FV : Hid (Nm.p32 j * (F * Nm.v32 xs) = Nm.val za * 2 ^ k) := by
              rw [Hid, Nm.p32_pow, HF.out, VX.out, KZ.out, Nm.two_add, ← Int.mul_assoc, Int.mul_comm]
            go_wp2
            go_loopw [6, 10, 11] (fun a c i wr => ∃ (i' : Nat) (cc : Int) (ss : List Int), i' ≤ l1 ∧ i = .int .i64 i' ∧ a = .slice (some ⟨g, 0, none⟩) (j + i') C ∧ c = .int .u64 cc ∧ 0 ≤ cc ∧ cc < 4294967296 ∧ Hid (Grown wr g ss (C - (j + i'))) ∧ Hid (ss.length = j + i') ∧ Hid (Nm.Halves ss) ∧ Hid (Nm.v32 ss + Nm.p32 (j + i') * cc = Nm.p32 j * (F * Nm.v32 (xs.take i'))) ∧ Below g w1 wr) (fun _ _ i _ => l1 - (intOf i).toNat)
            case atStart => exact ⟨0, 0, List.replicate j 0, Nat.zero_le _, rfl, rfl, rfl, by omega, by omega, G.out, by simp [Hid], Nm.Halves.zeros _, by simp [Hid, Nm.v32_zeros, Nm.v32], HB.out⟩
            case round =>
              obtain ⟨i', cc, ss, hi', rfl, rfl, rfl, hc0, hc1, G3, L, HS, V, hB⟩ := hrel
              have G' := G3.out
              rw [show C - (j + i') = (C - (j + i') - 1) + 1 by have := HC.out; omega] at G'
              by_cases hl : i' < l1
              · have hl' : (i' : Int) < (l1 : Int) := by omega
                obtain ⟨x, hx, X⟩ : ∃ x, wr.cell? ⟨g1, i', none⟩ = some (.int .u64 x) ∧ Hid (x = xs.getD i' 0) := ⟨_, (hB.cell (p := ⟨g1, i', none⟩) (BX.out hl)).trans (CX.out i' hl), rfl⟩
                have hx0 : 0 ≤ x := by have := HX.out.at i'; have := X.out; omega
                have hx1 : x < 4294967296 := by have := HX.out.at i'; have := X.out; omega
                have hxf0 : 0 ≤ x * F := Int.mul_nonneg hx0 (by omega)
                have hxf1 : x * F ≤ 4294967295 * 2147483648 := Int.mul_le_mul (by omega) hF1 (by omega) (by omega)
                obtain ⟨m0, hm0, M0⟩ : ∃ m0, IntKind.u64.wrap (x * F) = m0 ∧ Hid (m0 = x * F) := ⟨_, by rw [IntKind.wrap_u64, Int.emod_eq_of_lt (by omega) (by omega)], rfl⟩
                have hm00 : 0 ≤ m0 := by have := M0.out; omega
                have hm01 : m0 ≤ 9223372034707292160 := by have := M0.out; omega
                obtain ⟨tt, htt, TT⟩ : ∃ tt, IntKind.u64.wrap (m0 + cc) = tt ∧ Hid (tt = m0 + cc) := ⟨_, by rw [IntKind.wrap_u64, Int.emod_eq_of_lt (by omega) (by omega)], rfl⟩
                have htt0 : 0 ≤ tt := by have := TT.out; omega
                have htt1 : tt ≤ 9223372039002259455 := by have := TT.out; omega
                obtain ⟨lo, hlo, LO⟩ : ∃ lo, bits .and .u64 tt 4294967295 = lo ∧ Hid (lo = tt % 4294967296) := ⟨_, r_mask32 tt (by omega) (by omega), rfl⟩
                obtain ⟨hi, hhi, HI⟩ : ∃ hi, tt / 4294967296 = hi ∧ Hid (hi = tt / 4294967296) := ⟨_, rfl, rfl⟩
                have BLO : Hid ((0 ≤ lo ∧ lo < 4294967296) ∧ 0 ≤ hi ∧ hi < 4294967296) := by have := LO.out; have := HI.out; show _ ∧ _; omega
                have ST : Hid (lo + 4294967296 * hi = xs.getD i' 0 * F + cc) := by
                  have h1 := LO.out; have h2 := HI.out; have h3 := TT.out; have h5 := M0.out
                  rw [Hid, ← X.out]; omega
                obtain ⟨w2, ap, gr, be, sz⟩ := push64 g (j + i') (C - (j + i') - 1) C ss lo wr L.out (by have := HC.out; omega) G'
                have AP := hid ap
                have GR := hid gr
                have BE := hid (hB.trans be)
                clear ap gr be sz hB G3 G' hxf0 hxf1
                go_wp2_with (at_builtin; refine wpList_append_row rfl _ _ rfl AP.out (by rfl) (by rfl) ?_; clear AP)
                go_roundw
                case rel =>
                  refine ⟨i' + 1, hi, ss ++ [lo], by omega, by go_num, rfl, by first | rfl | rw [hhi], BLO.out.2.1, BLO.out.2.2, GR.out, ?_, HS.out.snoc BLO.out.1.1 BLO.out.1.2, ?_, BE.out⟩
                  · have := L.out; simp only [Hid, List.length_append, List.length_cons, List.length_nil]; omega
                  · exact Nm.lift_step L.out V.out ST.out
                case measure => simp [intOf]; omega
              · have hl' : ¬ (i' : Int) < (l1 : Int) := by omega
                obtain ⟨w3, ap, gr, be, sz⟩ := push64 g (j + i') (C - (j + i') - 1) C ss cc wr L.out (by have := HC.out; omega) G'
                have AP := hid ap
                have D3 := hid (chain D1.out (by rw [Gg.out]; exact hB.trans be) (Nat.le_refl _))
                have VV : Hid (Nm.v32 (ss ++ [cc]) = Nm.val za * 2 ^ k) := by
                  have := V.out
                  rw [List.take_of_length_le (by have := LX.out; omega), FV.out] at this
                  rw [Hid, Nm.v32_snoc, L.out]
                  exact this
                have HS2 := hid (HS.out.snoc hc0 hc1)
                have AG : Hid (Arg w3 (some ⟨g, 0, none⟩) (j + i' + 1) C (ss ++ [cc])) := ⟨by simp [L.out], by have := HC.out; omega, by have := HC.out; omega, gr.lies, HS2.out.limbs⟩
                have hw3 : Hid (w.heap.size ≤ w3.heap.size) := D3.out.size
                clear ap gr be sz hB G3 G'
                go_wp2_with (at_builtin; refine wpList_append_row rfl _ _ rfl AP.out (by rfl) (by rfl) ?_; clear AP)
                refine (rlimbs_any _ (j + i' + 1) C (ss ++ [cc]) _ AG.out HS2.out).mono ?_
                rintro e w4 ⟨r4, os, rfl, hA, hb⟩
                rw [VV.out] at hA
                have A4 := hid (hA.mono hw3.out)
                have D4 := hid (chain D3.out hb (Nat.le_refl _))
                clear hA hb
                go_wp2
                go_ret
                exact ⟨r4, os, rfl, A4.out, D4.out⟩
end Go.Proofs.YtdemopkdcnaibaaGreatDoor

/-
  The document's FromUint.
-/
namespace Go.Proofs.YtdemopkdcnaibaaGreatDoor
open Go Go.RowKit Go.Deep

theorem arg_z {w : World} {g : Nat} {x : Int} (h : w.heap[g]? = some (.cells #[.int .u64 x] 24 (0, 0))) (h0 : 0 ≤ x) (h1 : x < 18446744073709551616) : Arg w (some ⟨g, 0, none⟩) 1 1 [x] := by
  refine ⟨rfl, Nat.le_refl _, by omega, .inr ⟨g, 0, rfl, fun i hi => ?_⟩, Nm.Limbs.mk h0 h1 Nm.Limbs.nil⟩
  obtain rfl : i = 0 := by simpa using hi
  simp [World.cell?, h]
end Go.Proofs.YtdemopkdcnaibaaGreatDoor

namespace Go.Proofs.YtdemopkdcnaibaaGreatDoor
open Go.RowKit Go.Deep

theorem half_more (x0 : Int) (c : Nat) : x0 / 2 ^ c / 2 = x0 / 2 ^ (c + 1) := by
  rw [Nm.two_add, ← Int.ediv_ediv_of_nonneg (by have := Nm.two_pos c; omega)]
  rfl

set_option maxRecDepth 20000 in
set_option maxRecDepth 100000 in
set_option maxHeartbeats 2000000 in
theorem refBitLen_any (p : Option Addr) (n cap : Nat) (zs : List Int) (w : World) (ha : Arg w p n cap zs) :
    Calls Tryz.prog 102 #[.slice p n cap] w fun e w' => (∃ L : Nat, e = .returned (.int .i64 (L : Int)) ∧ Nm.BLen (Nm.val zs) L) ∧ w' = w := by
  obtain ⟨a1, a2, a3, a4, a5⟩ := ha
  have tl := Nm.tsize_le zs
  have S1 := refSize_any p n cap zs w a1 (by omega) a4
  by_cases h0 : Nm.tsize zs = 0
  · rw [h0] at S1
    have HS := hid S1
    have hv := (Nm.tsize_zero_iff a5).1 h0
    have B0 : Hid (Nm.BLen (Nm.val zs) 0) := ⟨by rw [hv]; decide, fun _ => rfl, fun h => by omega⟩
    clear S1 h0 hv
    go_enter Tryz.func102, Tryz.ntmps102
    go_wp2_with fail
    refine HS.out.mono ?_
    rintro e w' ⟨rfl, rfl⟩
    go_wp2
    go_ret
    exact ⟨⟨0, rfl, B0.out⟩, rfl⟩
  · obtain ⟨t, ht⟩ : ∃ t, Nm.tsize zs = t + 1 := ⟨Nm.tsize zs - 1, by omega⟩
    obtain ⟨b, off, rfl, hbw, HC⟩ := a4.at (by omega)
    obtain ⟨x0, hx, X⟩ : ∃ x0, w.cell? ⟨b, off + t, none⟩ = some (.int .u64 x0) ∧ Hid (x0 = zs.getD t 0) := ⟨_, HC.out t (by omega), rfl⟩
    have hx0 : 0 ≤ x0 := by have := a5.at t; have := X.out; omega
    have hx1 : x0 < 18446744073709551616 := by have := a5.at t; have := X.out; omega
    have XP : Hid (0 < x0) := by
      have h := Nm.tsize_top zs (by omega)
      rw [ht, Nat.add_sub_cancel, ← X.out] at h
      show 0 < x0
      omega
    have FIN : Hid (∀ c : Nat, x0 / 2 ^ c = 0 → (c = 0 ∨ 2 ^ (c - 1) ≤ x0) → Nm.BLen (Nm.val zs) (64 * t + c)) := by
      intro c h1 h2
      have hp := Nm.two_pos c
      have hlt : x0 < 2 ^ c := by
        rcases Int.lt_or_le x0 (2 ^ c) with h | h
        · exact h
        · have : 1 ≤ x0 / 2 ^ c := (Int.le_ediv_iff_mul_le hp).2 (by omega)
          omega
      have hc : 1 ≤ c := by
        rcases Nat.eq_zero_or_pos c with h | h
        · subst h
          have := XP.out
          have e : (2 : Int) ^ 0 = 1 := rfl
          omega
        · exact h
      have h3 : (2 : Int) ^ (c - 1) ≤ x0 := by
        rcases h2 with h | h
        · omega
        · exact h
      exact Nm.blen_at zs t c a5 ht hc (by rw [← X.out]; exact h3) (by rw [← X.out]; exact hlt)
    have CB : Hid (∀ c : Nat, 2 ^ (c - 1) ≤ x0 → c ≤ 64) := by
      intro c h
      have h2 : (2 : Int) ^ (c - 1) < 2 ^ 64 := by rw [Nm.two_64]; omega
      rcases Nat.lt_or_ge (c - 1) 64 with h3 | h3
      · omega
      · have := Nm.two_mono h3
        omega
    rw [ht] at S1
    have hS : ((t + 1 : Nat) : Int) = (t : Int) + 1 := by omega
    rw [hS] at S1
    have HS := hid S1
    have htn : (t : Int) < (n : Int) := by omega
    have htb : t ≤ 17592186044416 := by omega
    clear S1 h0 hS ht tl a4
    go_enter Tryz.func102, Tryz.ntmps102
    go_wp2_with fail
    refine HS.out.mono ?_
    rintro e w' ⟨rfl, rfl⟩
    go_wp2_with fail
    go_loop [4, 5] (fun s y => ∃ (c S : Nat) (x : Int), Hid (S = 64 * t + c) ∧ S ≤ 1125899906842688 ∧ s = .int .i64 S ∧ y = .int .u64 x ∧ 0 ≤ x ∧ x ≤ x0 ∧ Hid (x = x0 / 2 ^ c) ∧ Hid (c = 0 ∨ 2 ^ (c - 1) ≤ x0)) (fun _ y => (intOf y).toNat)
    case atStart => exact ⟨0, 64 * t, x0, rfl, by omega, by first | rfl | go_num, rfl, hx0, by omega, by simp [Hid], .inl rfl⟩
    case round =>
      obtain ⟨c, S, x, HSS, hS, rfl, rfl, h1, h2, HX, HCc⟩ := hrel
      by_cases hz : x = 0
      · have hz' : ¬ (0 : Int) < x := by omega
        have E : Hid (Nm.BLen (Nm.val zs) S) := by rw [HSS.out]; exact FIN.out c (by rw [← HX.out]; exact hz) HCc.out
        clear hz
        go_wp2
        go_ret
        exact ⟨⟨S, rfl, E.out⟩, rfl⟩
      · have hz' : (0 : Int) < x := by omega
        have P1 : Hid (2 ^ c ≤ x0) := by
          have h := HX.out
          have hp := Nm.two_pos c
          have : 1 ≤ x0 / 2 ^ c := by omega
          have := (Int.le_ediv_iff_mul_le hp).1 this
          show _ ≤ _
          omega
        have hc64 : c + 1 ≤ 64 := CB.out (c + 1) (by rw [Nat.add_sub_cancel]; exact P1.out)
        have hS2 : S + 1 ≤ 1125899906842688 := by have := HSS.out; omega
        obtain ⟨y, hy, Y⟩ : ∃ y, x / 2 = y ∧ Hid (y = x / 2) := ⟨_, rfl, rfl⟩
        have hy0 : 0 ≤ y := by omega
        have hyx : y < x := by omega
        have YX : Hid (y = x0 / 2 ^ (c + 1)) := by rw [Hid, Y.out, HX.out, half_more]
        clear hz
        go_wp2
        go_round
        case rel => exact ⟨c + 1, S + 1, y, by have := HSS.out; show _ = _; omega, hS2, by go_num, by rw [hy], hy0, by omega, YX.out, .inr (by rw [Nat.add_sub_cancel]; exact P1.out)⟩
        case measure => simp [intOf]; omega
end Go.Proofs.YtdemopkdcnaibaaGreatDoor

namespace Go.Proofs.YtdemopkdcnaibaaGreatDoor
open Go.RowKit Go.Deep


theorem refBit_neg (p : Option Addr) (n cap : Nat) (i : Int) (w : World) (hi : i < 0) :
    Calls Tryz.prog 103 #[.slice p n cap, .int .i64 i] w fun e w' => e = .returned (.int .i64 0) ∧ w' = w := by
  go_enter Tryz.func103, Tryz.ntmps103
  go_wp2
  go_ret
  exact ⟨rfl, rfl⟩

set_option maxRecDepth 20000 in
set_option maxRecDepth 100000 in
set_option maxHeartbeats 2000000 in
theorem refBit_any (p : Option Addr) (n cap : Nat) (zs : List Int) (i : Nat) (ii : Int) (w : World) (ha : Arg w p n cap zs) (hi : ii ≤ 9223372036854775807) (hii : ii = (i : Int)) :
    Calls Tryz.prog 103 #[.slice p n cap, .int .i64 ii] w fun e w' => e = .returned (.int .i64 (Nm.val zs / 2 ^ i % 2)) ∧ w' = w := by
  obtain ⟨a1, a2, a3, a4, a5⟩ := ha
  have hi0 : 0 ≤ ii := by omega
  have hi0' : ¬ ii < 0 := by omega
  obtain ⟨k, HK⟩ : ∃ k : Nat, Hid (ii / 64 = (k : Int) ∧ k = i / 64) := ⟨i / 64, by show _ ∧ _; omega⟩
  obtain ⟨r, HR⟩ : ∃ r : Nat, Hid (ii % 64 = (r : Int) ∧ r = i % 64) := ⟨i % 64, by show _ ∧ _; omega⟩
  have hr : r ≤ 63 := by have := HR.out; omega
  by_cases hk : n ≤ k
  · have hk' : (n : Int) ≤ ii / 64 := by have := HK.out; omega
    have E : Hid (0 = Nm.val zs / 2 ^ i % 2) := by
      have h1 := Nm.val_bd zs a5
      rw [a1, Nm.pw_two] at h1
      have h2 := Nm.two_mono (show 64 * n ≤ i by have := HK.out; omega)
      rw [Hid, Int.ediv_eq_zero_of_lt h1.1 (by omega)]
      rfl
    clear hii
    go_enter Tryz.func103, Tryz.ntmps103
    go_wp2
    go_ret
    exact ⟨ret_i64 E.out, rfl⟩
  · have hk' : ¬ (n : Int) ≤ ii / 64 := by have := HK.out; omega
    obtain ⟨b, off, rfl, hbw, HC⟩ := a4.at (by omega)
    obtain ⟨x0, hx, X⟩ : ∃ x0, w.cell? ⟨b, off + k, none⟩ = some (.int .u64 x0) ∧ Hid (x0 = zs.getD k 0) := ⟨_, HC.out k (by omega), rfl⟩
    have hx0 : 0 ≤ x0 := by have := a5.at k; have := X.out; omega
    have hx1 : x0 < 18446744073709551616 := by have := a5.at k; have := X.out; omega
    have E : Hid (x0 / 2 ^ r % 2 = Nm.val zs / 2 ^ i % 2) := by
      rw [Hid, X.out]
      exact (Nm.bit_at zs i k r (by have := HK.out; have := HR.out; omega) (by omega) a5 (by omega)).symm
    have hq : ii / 64 = (k : Int) := HK.out.1
    have hkn : (k : Int) < (n : Int) := by omega
    have hkn' : ¬ (n : Int) ≤ (k : Int) := by omega
    clear hii a4
    go_enter Tryz.func103, Tryz.ntmps103
    go_wp2
    clear hq
    go_loop [5, 6] (fun y t => ∃ (c : Nat) (x : Int), c ≤ r ∧ t = .int .i64 c ∧ y = .int .u64 x ∧ 0 ≤ x ∧ x ≤ x0 ∧ Hid (x = x0 / 2 ^ c)) (fun _ t => r - (intOf t).toNat)
    case atStart => exact ⟨0, x0, Nat.zero_le _, rfl, rfl, hx0, by omega, by simp [Hid]⟩
    case round =>
      obtain ⟨c, x, hc, rfl, rfl, h1, h2, HX⟩ := hrel
      by_cases hlt : c < r
      · have hlt' : (c : Int) < ii % 64 := by have := HR.out; omega
        obtain ⟨y, hy, Y⟩ : ∃ y, x / 2 = y ∧ Hid (y = x / 2) := ⟨_, rfl, rfl⟩
        have hy0 : 0 ≤ y := by omega
        have hyx : y ≤ x0 := by omega
        have YX : Hid (y = x0 / 2 ^ (c + 1)) := by rw [Hid, Y.out, HX.out, half_more]
        go_wp2
        go_round
        case rel => exact ⟨c + 1, y, by omega, by go_num, by first | rfl | rw [hy], hy0, hyx, YX.out⟩
        case measure => simp [intOf]; omega
      · have hlt' : ¬ (c : Int) < ii % 64 := by have := HR.out; omega
        obtain rfl : c = r := by omega
        obtain ⟨y, hy, Y⟩ : ∃ y, x % 2 = y ∧ Hid (y = x % 2) := ⟨_, rfl, rfl⟩
        have hy0 : 0 ≤ y := by omega
        have hy1 : y ≤ 1 := by omega
        have E2 : Hid (y = Nm.val zs / 2 ^ i % 2) := by rw [Hid, Y.out, HX.out]; exact E.out
        go_wp2
        go_ret
        exact ⟨ret_i64 E2.out, rfl⟩
end Go.Proofs.YtdemopkdcnaibaaGreatDoor

/-
  The document's Round (made by mkzround.py).
-/
namespace Go.Proofs.YtdemopkdcnaibaaGreatDoor
open Go Go.RowKit Go.Deep

/-- What the document's Round tells, once the digits are read. -/
def ZRTold (neg more rs : Bool) (hb : Int) (U : Nat) (g : Int) (r : Ending) : Prop :=
  ∃ up : Bool, r = .returned (.tuple #[.int .u64 (Ie.sg neg ((U : Int) * 4503599627370496 + g + if up = true then 1 else 0)), .int .i64 0]) ∧ (up = true ↔ (hb = 1 ∧ (rs = true ∨ more = true ∨ g % 2 = 1)))


set_option maxRecDepth 100000 in
set_option maxHeartbeats 8000000 in
theorem zround_core (neg : Bool) (p : Option Addr) (n cap : Nat) (w : World) (e u : Int) (L U J T : Nat) (more rs : Bool) (G : Nat → Int) (bv : Nat → Int) (hb : Int)
    (BG : Calls Tryz.prog 101 #[.slice p n cap] w fun r w' => r = .returned (.bool false) ∧ w' = w)
    (BL : Calls Tryz.prog 102 #[.slice p n cap] w fun r w' => r = .returned (.int .i64 (L : Int)) ∧ w' = w)
    (BT : ∀ j, j < J → ∀ ii, ii = u + (j : Int) - e → Calls Tryz.prog 103 #[.slice p n cap, .int .i64 ii] w fun r w' => r = .returned (.int .i64 (bv j)) ∧ w' = w)
    (BH : ∀ ii, ii = u - 1 - e → Calls Tryz.prog 103 #[.slice p n cap, .int .i64 ii] w fun r w' => r = .returned (.int .i64 hb) ∧ w' = w)
    (TR : Calls Tryz.prog 98 #[.slice p n cap] w fun r w' => r = .returned (.int .i64 (T : Int)) ∧ w' = w)
    (hL0 : 0 < L) (hL2 : L ≤ 262144) (he0 : -1048576 ≤ e) (he1 : e ≤ 1048576) (hbig : (L : Int) + e ≤ 1024) (hT : T ≤ 17592186044416)
    (hU : u + 1074 = (U : Int)) (hU2 : U ≤ 2045) (hmax : ((L : Int) + e - 53 < -1074 ∧ u = -1074) ∨ (-1074 ≤ (L : Int) + e - 53 ∧ u = (L : Int) + e - 53))
    (hJ : u + (J : Int) = (L : Int) + e ∨ (J = 0 ∧ (L : Int) + e ≤ u)) (GB : ∀ j, j ≤ J → 0 ≤ G j ∧ G j < 9007199254740992) (GJ : G J = 0) (GS : ∀ j, j < J → G j = 2 * G (j + 1) + bv j ∧ 0 ≤ bv j ∧ bv j ≤ 1)
    (hbb : hb = 0 ∨ hb = 1) (hrs : decide ((T : Int) + e < u - 1) = rs) (hUm : 0 < U → 4503599627370496 ≤ G 0) :
    Calls Tryz.prog 42 #[.bool neg, .slice p n cap, .int .i64 e, .bool more] w fun r w' => ZRTold neg more rs hb U (G 0) r ∧ w' = w := by
  have HBG := hid BG
  have HBL := hid BL
  have HBT := hid BT
  have HBH := hid BH
  have HTR := hid TR
  have HGB := hid GB
  have HGS := hid GS
  have HGJ := hid GJ
  have HRS := hid hrs
  have g0 := GB 0 (Nat.zero_le _)
  obtain ⟨G0, hG0⟩ : ∃ g, G 0 = g := ⟨_, rfl⟩
  rw [hG0] at g0 hUm ⊢
  have HG0 := hid hG0
  clear hG0
  obtain ⟨g00, g01⟩ := g0
  have PZ : Hid (∀ (wx : World) (m : Int), 0 ≤ m → m < 4503599627370496 → U = 0 → Calls Tryz.prog 95 #[.bool neg, .int .i64 0, .int .u64 m] wx fun r w' => r = .returned (.int .u64 (Ie.sg neg ((U : Int) * 4503599627370496 + m))) ∧ w' = wx) := by
    intro wx m m0 m1 hu
    have := zput_any neg 0 m wx (by omega) (by omega) m0 (by omega) (by omega)
    rw [hu]
    exact this
  have PU : Hid (∀ (wx : World) (m ee : Int), 0 ≤ m → m ≤ 9007199254740992 → ee = (U : Int) → Calls Tryz.prog 95 #[.bool neg, .int .i64 ee, .int .u64 m] wx fun r w' => r = .returned (.int .u64 (Ie.sg neg ((U : Int) * 4503599627370496 + m))) ∧ w' = wx) := by
    intro wx m ee m0 m1 hu
    subst hu
    exact zput_any neg U m wx (by omega) (by omega) m0 m1 (by omega)
  have l0 : ((L : Int) == 0) = false := by rw [beq_eq_false_iff_ne]; omega
  have l1 : ¬ 1023 < (L : Int) - 1 + e := by omega
  have l2 : (L : Int) ≤ 262144 := by omega
  have l3 : ¬ e < -1048576 := by omega
  have l4 : ¬ 1048576 < e := by omega
  have t1 : (T : Int) ≤ 17592186044416 := by omega
  have u0 : -1074 ≤ u := by omega
  have u1 : u ≤ 971 := by omega
  have hJ2 : (J : Int) ≤ 1100000 := by omega
  have HUM := hid hUm
  have HU := hid hU
  have HJ := hid hJ
  clear BG BL BT BH TR GB GS GJ hrs hL2 hT hUm hU hJ
  rcases hmax with ⟨hx, hue⟩ | ⟨hx, hue⟩
  · have HUE := hid hue
    clear hue
    go_enter Tryz.func42, Tryz.ntmps42
    go_wp2_with fail
    refine HBG.out.mono ?_
    rintro e' w' ⟨rfl, rfl⟩
    go_wp2_with fail
    refine HBL.out.mono ?_
    rintro e' w' ⟨rfl, rfl⟩
    go_wp2_with fail
    rw [← HUE.out]
    go_loopw [13, 14] (fun a i wr => ∃ (j : Nat) (M z : Int), a = .int .u64 M ∧ i = .int .i64 z ∧ j ≤ J ∧ 0 ≤ M ∧ M < 9007199254740992 ∧ -2000000 ≤ z ∧ z ≤ 1100 ∧ Hid (M = G j ∧ (z = u + (j : Int) - 1 ∨ (j = 0 ∧ z ≤ u - 1))) ∧ wr = w') (fun _ i _ => (intOf i + 2000001).toNat)
    case atStart => exact ⟨J, 0, _, rfl, rfl, Nat.le_refl _, by omega, by omega, by omega, by omega, ⟨HGJ.out.symm, by have := HJ.out; omega⟩, rfl⟩
    case round =>
      obtain ⟨j, M, z, rfl, rfl, hj, M0, M1, z0, z1, I, rfl⟩ := hrel
      cases j with
      | zero =>
        have hM : M = G0 := I.out.1.trans HG0.out
        have hz : z < u := by have := I.out.2; omega
        have hM2 := hM.symm
        clear hM
        subst hM2
        clear I HGS HBT
        go_wp2_with fail
        refine (HBH.out _ (by omega)).mono ?_
        rintro e' w' ⟨rfl, rfl⟩
        rcases hbb with rfl | rfl
        · go_wp2_with fail
          refine HTR.out.mono ?_
          rintro e' w' ⟨rfl, rfl⟩
          by_cases hsm : G0 < 4503599627370496
          · have hu0 : U = 0 := Nat.eq_zero_of_not_pos (fun h => absurd (HUM.out h) (by omega))
            go_wp2_with fail
            refine (PZ.out _ _ (by omega) (by omega) hu0).mono ?_
            rintro e' w' ⟨rfl, rfl⟩
            go_wp2_with fail
            go_ret2
            exact ⟨⟨false, ret_sg (by simp <;> omega), by simp⟩, rfl⟩
          · go_wp2_with fail
            refine (PU.out _ _ _ (by omega) (by omega) (by have := HU.out; omega)).mono ?_
            rintro e' w' ⟨rfl, rfl⟩
            go_wp2_with fail
            go_ret2
            exact ⟨⟨false, ret_sg (by simp <;> omega), by simp⟩, rfl⟩
        · cases rs
          · have HF := of_decide_eq_false HRS.out
            cases more
            · rcases (show G0 % 2 = 0 ∨ G0 % 2 = 1 by omega) with hp | hp
              · go_wp2_with fail
                refine HTR.out.mono ?_
                rintro e' w' ⟨rfl, rfl⟩
                by_cases hsm : G0 < 4503599627370496
                · have hu0 : U = 0 := Nat.eq_zero_of_not_pos (fun h => absurd (HUM.out h) (by omega))
                  go_wp2_with fail
                  refine (PZ.out _ _ (by omega) (by omega) hu0).mono ?_
                  rintro e' w' ⟨rfl, rfl⟩
                  go_wp2_with fail
                  go_ret2
                  exact ⟨⟨false, ret_sg (by simp <;> omega), by simp [hp]⟩, rfl⟩
                · go_wp2_with fail
                  refine (PU.out _ _ _ (by omega) (by omega) (by have := HU.out; omega)).mono ?_
                  rintro e' w' ⟨rfl, rfl⟩
                  go_wp2_with fail
                  go_ret2
                  exact ⟨⟨false, ret_sg (by simp <;> omega), by simp [hp]⟩, rfl⟩
              · go_wp2_with fail
                refine HTR.out.mono ?_
                rintro e' w' ⟨rfl, rfl⟩
                by_cases hsm : G0 + 1 < 4503599627370496
                · have hu0 : U = 0 := Nat.eq_zero_of_not_pos (fun h => absurd (HUM.out h) (by omega))
                  go_wp2_with fail
                  refine (PZ.out _ _ (by omega) (by omega) hu0).mono ?_
                  rintro e' w' ⟨rfl, rfl⟩
                  go_wp2_with fail
                  go_ret2
                  exact ⟨⟨true, ret_sg (by simp <;> omega), by simp [hp]⟩, rfl⟩
                · go_wp2_with fail
                  refine (PU.out _ _ _ (by omega) (by omega) (by have := HU.out; omega)).mono ?_
                  rintro e' w' ⟨rfl, rfl⟩
                  go_wp2_with fail
                  go_ret2
                  exact ⟨⟨true, ret_sg (by simp <;> omega), by simp [hp]⟩, rfl⟩
            · go_wp2_with fail
              refine HTR.out.mono ?_
              rintro e' w' ⟨rfl, rfl⟩
              by_cases hsm : G0 + 1 < 4503599627370496
              · have hu0 : U = 0 := Nat.eq_zero_of_not_pos (fun h => absurd (HUM.out h) (by omega))
                go_wp2_with fail
                refine (PZ.out _ _ (by omega) (by omega) hu0).mono ?_
                rintro e' w' ⟨rfl, rfl⟩
                go_wp2_with fail
                go_ret2
                exact ⟨⟨true, ret_sg (by simp <;> omega), by simp⟩, rfl⟩
              · go_wp2_with fail
                refine (PU.out _ _ _ (by omega) (by omega) (by have := HU.out; omega)).mono ?_
                rintro e' w' ⟨rfl, rfl⟩
                go_wp2_with fail
                go_ret2
                exact ⟨⟨true, ret_sg (by simp <;> omega), by simp⟩, rfl⟩
          · have HF := of_decide_eq_true HRS.out
            go_wp2_with fail
            refine HTR.out.mono ?_
            rintro e' w' ⟨rfl, rfl⟩
            by_cases hsm : G0 + 1 < 4503599627370496
            · have hu0 : U = 0 := Nat.eq_zero_of_not_pos (fun h => absurd (HUM.out h) (by omega))
              go_wp2_with fail
              refine (PZ.out _ _ (by omega) (by omega) hu0).mono ?_
              rintro e' w' ⟨rfl, rfl⟩
              go_wp2_with fail
              go_ret2
              exact ⟨⟨true, ret_sg (by simp <;> omega), by simp⟩, rfl⟩
            · go_wp2_with fail
              refine (PU.out _ _ _ (by omega) (by omega) (by have := HU.out; omega)).mono ?_
              rintro e' w' ⟨rfl, rfl⟩
              go_wp2_with fail
              go_ret2
              exact ⟨⟨true, ret_sg (by simp <;> omega), by simp⟩, rfl⟩
      | succ k =>
        have hz : z = u + (k : Int) := by have := I.out.2; omega
        have hz2 : u ≤ z := by omega
        obtain ⟨s1, s2, s3⟩ := HGS.out k (by omega)
        have B1 := hid (HBT.out k (by omega))
        have gb := HGB.out k (by omega)
        obtain ⟨b, hbk⟩ : ∃ b, bv k = b := ⟨_, rfl⟩
        rw [hbk] at s1 s2 s3 B1
        have HZ := hid hz
        have S1 : Hid (2 * M + b = G k) := by rw [Hid, s1, I.out.1]
        have n1 : 2 * M + b < 9007199254740992 := by rw [S1.out]; exact gb.2
        clear s1 I hz gb hbk
        go_wp2_with fail
        refine (B1.out _ (by have := HZ.out; omega)).mono ?_
        rintro e' wq ⟨rfl, rfl⟩
        go_wp2_with fail
        go_roundw
        case measure => simp only [intOf]; omega
        case rel => exact ⟨k, _, _, rfl, rfl, by omega, by omega, by omega, by omega, by omega, ⟨S1.out, .inl (by have := HZ.out; omega)⟩, by first | rfl | trivial⟩
  · subst hue
    go_enter Tryz.func42, Tryz.ntmps42
    go_wp2_with fail
    refine HBG.out.mono ?_
    rintro e' w' ⟨rfl, rfl⟩
    go_wp2_with fail
    refine HBL.out.mono ?_
    rintro e' w' ⟨rfl, rfl⟩
    go_wp2_with fail
    go_loopw [13, 14] (fun a i wr => ∃ (j : Nat) (M z : Int), a = .int .u64 M ∧ i = .int .i64 z ∧ j ≤ J ∧ 0 ≤ M ∧ M < 9007199254740992 ∧ -2000000 ≤ z ∧ z ≤ 1100 ∧ Hid (M = G j ∧ (z = ((L : Int) + e - 53) + (j : Int) - 1 ∨ (j = 0 ∧ z ≤ ((L : Int) + e - 53) - 1))) ∧ wr = w') (fun _ i _ => (intOf i + 2000001).toNat)
    case atStart => exact ⟨J, 0, _, rfl, rfl, Nat.le_refl _, by omega, by omega, by omega, by omega, ⟨HGJ.out.symm, by have := HJ.out; omega⟩, rfl⟩
    case round =>
      obtain ⟨j, M, z, rfl, rfl, hj, M0, M1, z0, z1, I, rfl⟩ := hrel
      cases j with
      | zero =>
        have hM : M = G0 := I.out.1.trans HG0.out
        have hz : z < ((L : Int) + e - 53) := by have := I.out.2; omega
        have hM2 := hM.symm
        clear hM
        subst hM2
        clear I HGS HBT
        go_wp2_with fail
        refine (HBH.out _ (by omega)).mono ?_
        rintro e' w' ⟨rfl, rfl⟩
        rcases hbb with rfl | rfl
        · go_wp2_with fail
          refine HTR.out.mono ?_
          rintro e' w' ⟨rfl, rfl⟩
          by_cases hsm : G0 < 4503599627370496
          · have hu0 : U = 0 := Nat.eq_zero_of_not_pos (fun h => absurd (HUM.out h) (by omega))
            go_wp2_with fail
            refine (PZ.out _ _ (by omega) (by omega) hu0).mono ?_
            rintro e' w' ⟨rfl, rfl⟩
            go_wp2_with fail
            go_ret2
            exact ⟨⟨false, ret_sg (by simp <;> omega), by simp⟩, rfl⟩
          · go_wp2_with fail
            refine (PU.out _ _ _ (by omega) (by omega) (by have := HU.out; omega)).mono ?_
            rintro e' w' ⟨rfl, rfl⟩
            go_wp2_with fail
            go_ret2
            exact ⟨⟨false, ret_sg (by simp <;> omega), by simp⟩, rfl⟩
        · cases rs
          · have HF := of_decide_eq_false HRS.out
            cases more
            · rcases (show G0 % 2 = 0 ∨ G0 % 2 = 1 by omega) with hp | hp
              · go_wp2_with fail
                refine HTR.out.mono ?_
                rintro e' w' ⟨rfl, rfl⟩
                by_cases hsm : G0 < 4503599627370496
                · have hu0 : U = 0 := Nat.eq_zero_of_not_pos (fun h => absurd (HUM.out h) (by omega))
                  go_wp2_with fail
                  refine (PZ.out _ _ (by omega) (by omega) hu0).mono ?_
                  rintro e' w' ⟨rfl, rfl⟩
                  go_wp2_with fail
                  go_ret2
                  exact ⟨⟨false, ret_sg (by simp <;> omega), by simp [hp]⟩, rfl⟩
                · go_wp2_with fail
                  refine (PU.out _ _ _ (by omega) (by omega) (by have := HU.out; omega)).mono ?_
                  rintro e' w' ⟨rfl, rfl⟩
                  go_wp2_with fail
                  go_ret2
                  exact ⟨⟨false, ret_sg (by simp <;> omega), by simp [hp]⟩, rfl⟩
              · go_wp2_with fail
                refine HTR.out.mono ?_
                rintro e' w' ⟨rfl, rfl⟩
                by_cases hsm : G0 + 1 < 4503599627370496
                · have hu0 : U = 0 := Nat.eq_zero_of_not_pos (fun h => absurd (HUM.out h) (by omega))
                  go_wp2_with fail
                  refine (PZ.out _ _ (by omega) (by omega) hu0).mono ?_
                  rintro e' w' ⟨rfl, rfl⟩
                  go_wp2_with fail
                  go_ret2
                  exact ⟨⟨true, ret_sg (by simp <;> omega), by simp [hp]⟩, rfl⟩
                · go_wp2_with fail
                  refine (PU.out _ _ _ (by omega) (by omega) (by have := HU.out; omega)).mono ?_
                  rintro e' w' ⟨rfl, rfl⟩
                  go_wp2_with fail
                  go_ret2
                  exact ⟨⟨true, ret_sg (by simp <;> omega), by simp [hp]⟩, rfl⟩
            · go_wp2_with fail
              refine HTR.out.mono ?_
              rintro e' w' ⟨rfl, rfl⟩
              by_cases hsm : G0 + 1 < 4503599627370496
              · have hu0 : U = 0 := Nat.eq_zero_of_not_pos (fun h => absurd (HUM.out h) (by omega))
                go_wp2_with fail
                refine (PZ.out _ _ (by omega) (by omega) hu0).mono ?_
                rintro e' w' ⟨rfl, rfl⟩
                go_wp2_with fail
                go_ret2
                exact ⟨⟨true, ret_sg (by simp <;> omega), by simp⟩, rfl⟩
              · go_wp2_with fail
                refine (PU.out _ _ _ (by omega) (by omega) (by have := HU.out; omega)).mono ?_
                rintro e' w' ⟨rfl, rfl⟩
                go_wp2_with fail
                go_ret2
                exact ⟨⟨true, ret_sg (by simp <;> omega), by simp⟩, rfl⟩
          · have HF := of_decide_eq_true HRS.out
            go_wp2_with fail
            refine HTR.out.mono ?_
            rintro e' w' ⟨rfl, rfl⟩
            by_cases hsm : G0 + 1 < 4503599627370496
            · have hu0 : U = 0 := Nat.eq_zero_of_not_pos (fun h => absurd (HUM.out h) (by omega))
              go_wp2_with fail
              refine (PZ.out _ _ (by omega) (by omega) hu0).mono ?_
              rintro e' w' ⟨rfl, rfl⟩
              go_wp2_with fail
              go_ret2
              exact ⟨⟨true, ret_sg (by simp <;> omega), by simp⟩, rfl⟩
            · go_wp2_with fail
              refine (PU.out _ _ _ (by omega) (by omega) (by have := HU.out; omega)).mono ?_
              rintro e' w' ⟨rfl, rfl⟩
              go_wp2_with fail
              go_ret2
              exact ⟨⟨true, ret_sg (by simp <;> omega), by simp⟩, rfl⟩
      | succ k =>
        have hz : z = ((L : Int) + e - 53) + (k : Int) := by have := I.out.2; omega
        have hz2 : ((L : Int) + e - 53) ≤ z := by omega
        obtain ⟨s1, s2, s3⟩ := HGS.out k (by omega)
        have B1 := hid (HBT.out k (by omega))
        have gb := HGB.out k (by omega)
        obtain ⟨b, hbk⟩ : ∃ b, bv k = b := ⟨_, rfl⟩
        rw [hbk] at s1 s2 s3 B1
        have HZ := hid hz
        have S1 : Hid (2 * M + b = G k) := by rw [Hid, s1, I.out.1]
        have n1 : 2 * M + b < 9007199254740992 := by rw [S1.out]; exact gb.2
        clear s1 I hz gb hbk
        go_wp2_with fail
        refine (B1.out _ (by have := HZ.out; omega)).mono ?_
        rintro e' wq ⟨rfl, rfl⟩
        go_wp2_with fail
        go_roundw
        case measure => simp only [intOf]; omega
        case rel => exact ⟨k, _, _, rfl, rfl, by omega, by omega, by omega, by omega, by omega, ⟨S1.out, .inl (by have := HZ.out; omega)⟩, by first | rfl | trivial⟩
end Go.Proofs.YtdemopkdcnaibaaGreatDoor

namespace Go.Proofs.YtdemopkdcnaibaaGreatDoor
open Go.RowKit Go.Deep

theorem val_zero_of {zs : List Int} (h : ∀ j, zs.getD j 0 = 0) : Nm.val zs = 0 := by
  rw [← Nm.val_take_of_zero zs 0 (fun j _ => h j)]
  rfl

set_option maxRecDepth 20000 in
set_option maxRecDepth 100000 in
set_option maxHeartbeats 2000000 in
theorem refTrail_any (p : Option Addr) (n cap : Nat) (zs : List Int) (w : World) (ha : Arg w p n cap zs) :
    Calls Tryz.prog 98 #[.slice p n cap] w fun e w' => (∃ t : Nat, e = .returned (.int .i64 (t : Int)) ∧ Nm.Trl (Nm.val zs) t) ∧ w' = w := by
  obtain ⟨a1, a2, a3, a4, a5⟩ := ha
  rcases a4 with rfl | ⟨b, off, rfl, hcell⟩
  · have hn0 : n = 0 := by simpa using a1.symm
    subst hn0
    clear a1 a5
    go_enter Tryz.func98, Tryz.ntmps98
    go_wp2
    refine wp_loop_rounds 1 ?_
    rw [rounds_succ]
    go_wp2
    go_ret
    exact ⟨⟨0, rfl, .inl ⟨rfl, rfl⟩⟩, rfl⟩
  · have H : Hid (zs.length = n) := a1
    have HC : Hid (∀ i, i < zs.length → w.cell? ⟨b, off + i, none⟩ = some (.int .u64 (zs.getD i 0))) := hcell
    have HL := hid a5
    clear a1 hcell a5
    go_enter Tryz.func98, Tryz.ntmps98
    go_wp2
    go_loop [3] (fun i => ∃ k : Nat, k ≤ n ∧ i = .int .i64 k ∧ Hid (∀ j, j < k → zs.getD j 0 = 0)) (fun i => n - (intOf i).toNat)
    case atStart => exact ⟨0, Nat.zero_le _, rfl, fun j hj => by omega⟩
    case round =>
      obtain ⟨k, hk, rfl, Z⟩ := hrel
      by_cases hlt : k < n
      · have hlt' : (k : Int) < (n : Int) := by omega
        obtain ⟨x, hx, X⟩ : ∃ x, w.cell? ⟨b, off + k, none⟩ = some (.int .u64 x) ∧ Hid (x = zs.getD k 0) := ⟨_, HC.out k (by have := H.out; omega), rfl⟩
        have hx0 : 0 ≤ x := by have := HL.out.at k; have := X.out; omega
        have hx1 : x < 18446744073709551616 := by have := HL.out.at k; have := X.out; omega
        by_cases hz : x = 0
        · have hz' : (x != 0) = false := by simp [hz]
          have Z2 : Hid (∀ j, j < k + 1 → zs.getD j 0 = 0) := by
            intro j hj
            by_cases e : j = k
            · rw [e, ← X.out]; exact hz
            · exact Z.out j (by omega)
          clear hz
          go_wp2
          go_round
          case rel => exact ⟨k + 1, by omega, by go_num, Z2.out⟩
          case measure => simp [intOf]; omega
        · have hz' : (x != 0) = true := by simp [hz]
          have XP : Hid (0 < x) := by show 0 < x; omega
          have FIN : Hid (∀ (c : Nat) (m : Int), x = 2 ^ c * (2 * m + 1) → c ≤ 63 → Nm.Trl (Nm.val zs) (64 * k + c)) := fun c m h hc => Nm.trl_at zs k c m (by have := H.out; omega) Z.out (by rw [← X.out]; exact h) hc
          have CB : Hid (∀ (c : Nat) (y : Int), 1 ≤ y → x = 2 ^ c * y → c ≤ 63) := by
            intro c y hy h
            rcases Nat.lt_or_ge c 64 with h1 | h1
            · omega
            · exfalso
              have h2 := Nm.two_mono h1
              rw [Nm.two_64] at h2
              have h3 : (2 : Int) ^ c * 1 ≤ 2 ^ c * y := Int.mul_le_mul_of_nonneg_left hy (by omega)
              omega
          have hkb : k ≤ 17592186044416 := by omega
          clear hz
          go_wp2_with fail
          go_loop [4, 5] (fun s y => ∃ (c S : Nat) (v : Int), Hid (S = 64 * k + c) ∧ S ≤ 1125899906842688 ∧ s = .int .i64 S ∧ y = .int .u64 v ∧ 1 ≤ v ∧ v ≤ x ∧ Hid (x = 2 ^ c * v)) (fun _ y => (intOf y).toNat)
          case atStart => exact ⟨0, 64 * k, x, rfl, by omega, by first | rfl | go_num, rfl, by have := XP.out; omega, by omega, by simp [Hid]⟩
          case round =>
            obtain ⟨c, S, v, HS, hS, rfl, rfl, hv1, hv2, HX⟩ := hrel
            have hc63 := CB.out c v hv1 HX.out
            by_cases hodd : v % 2 = 0
            · have hodd' : (v % 2 == 0) = true := by simp [hodd]
              obtain ⟨u, hu, U⟩ : ∃ u, v / 2 = u ∧ Hid (u = v / 2) := ⟨_, rfl, rfl⟩
              have hu1 : 1 ≤ u := by omega
              have huv : u < v := by omega
              have HX2 : Hid (x = 2 ^ (c + 1) * u) := by
                rw [Hid, Nm.two_succ, HX.out, Int.mul_assoc, Int.mul_left_comm]
                congr 1
                omega
              have hc2 := CB.out (c + 1) u hu1 HX2.out
              have hS2 : S + 1 ≤ 1125899906842688 := by have := HS.out; omega
              clear hodd
              go_wp2
              go_round
              case rel => exact ⟨c + 1, S + 1, u, by have := HS.out; show _ = _; omega, hS2, by go_num, by rw [hu], hu1, by omega, HX2.out⟩
              case measure => simp [intOf]; omega
            · have hodd' : (v % 2 == 0) = false := by simp; omega
              have E : Hid (Nm.Trl (Nm.val zs) S) := by
                rw [HS.out]
                exact FIN.out c (v / 2) (by rw [HX.out]; congr 1; omega) hc63
              clear hodd
              go_wp2
              go_ret
              exact ⟨⟨S, rfl, E.out⟩, rfl⟩
      · have hlt' : ¬ (k : Int) < (n : Int) := by omega
        have E : Hid (Nm.Trl (Nm.val zs) 0) := by
          refine .inl ⟨val_zero_of (fun j => ?_), rfl⟩
          by_cases hj : j < k
          · exact Z.out j hj
          · simp [List.getD, List.getElem?_eq_none (show zs.length ≤ j by have := H.out; omega)]
        go_wp2
        go_ret
        exact ⟨⟨0, rfl, E.out⟩, rfl⟩
end Go.Proofs.YtdemopkdcnaibaaGreatDoor

/-
  The document's Round, whole.
-/
namespace Go.Proofs.YtdemopkdcnaibaaGreatDoor
open Go Go.RowKit Go.Deep

theorem ztrl_ex : ∀ (n : Nat) (V : Int), 0 < V → V.toNat ≤ n → ∃ t, Nm.Trl V t
  | 0, V, h0, h => by omega
  | n + 1, V, h0, h => by
    rcases (show V % 2 = 1 ∨ V % 2 = 0 by omega) with g | g
    · exact ⟨0, .inr ⟨V / 2, by rw [Int.pow_zero, Int.one_mul]; omega⟩⟩
    · obtain ⟨t, ht⟩ := ztrl_ex n (V / 2) (by omega) (by omega)
      rcases ht with ⟨hz, _⟩ | ⟨m, hm⟩
      · omega
      · exact ⟨t + 1, .inr ⟨m, by rw [Nm.two_succ, Int.mul_assoc, ← hm]; omega⟩⟩

/-- The digits of V from the place z on. -/
def Ie.dgs (V z : Int) : Int := if 0 ≤ z then V / 2 ^ z.toNat else V * 2 ^ (-z).toNat
/-- The digit at the place z. -/
def Ie.dgt (V z : Int) : Int := if 0 ≤ z then V / 2 ^ z.toNat % 2 else 0

theorem Ie.dgs_step (V z : Int) : Ie.dgs V z = 2 * Ie.dgs V (z + 1) + Ie.dgt V z ∧ 0 ≤ Ie.dgt V z ∧ Ie.dgt V z ≤ 1 := by
  by_cases h : 0 ≤ z
  · rw [Ie.dgs, Ie.dgs, Ie.dgt, if_pos h, if_pos (by omega), if_pos h]
    have e : (z + 1).toNat = z.toNat + 1 := by omega
    have : V / 2 ^ (z.toNat + 1) = V / 2 ^ z.toNat / 2 := by
      rw [Int.ediv_ediv_of_nonneg (Int.le_of_lt (Nm.two_pos _)), Int.mul_comm, ← Nm.two_succ]
    rw [e, this]
    omega
  · by_cases h1 : z = -1
    · subst h1
      rw [Ie.dgs, Ie.dgs, Ie.dgt, if_neg (by omega), if_pos (by omega), if_neg (by omega)]
      have e1 : (2 : Int) ^ ((-(-1) : Int)).toNat = 2 := rfl
      have e2 : (2 : Int) ^ ((-1 + 1 : Int)).toNat = 1 := rfl
      rw [e1, e2, Int.ediv_one]
      omega
    · rw [Ie.dgs, Ie.dgs, Ie.dgt, if_neg h, if_neg (by omega), if_neg h]
      have e : (-z).toNat = (-(z + 1)).toNat + 1 := by omega
      rw [e, Nm.two_succ, Int.mul_left_comm]
      omega

theorem Ie.dgs_bd (V z : Int) (L : Nat) (h0 : 0 ≤ V) (h1 : V < 2 ^ L) (hz : (L : Int) ≤ z + 53) : 0 ≤ Ie.dgs V z ∧ Ie.dgs V z < 9007199254740992 := by
  have e53 : (2 : Int) ^ 53 = 9007199254740992 := by decide
  by_cases h : 0 ≤ z
  · rw [Ie.dgs, if_pos h]
    have hp := Nm.two_pos z.toNat
    refine ⟨Int.ediv_nonneg h0 (by omega), ?_⟩
    rw [Int.ediv_lt_iff_lt_mul hp]
    have g := Nm.two_mono (show L ≤ z.toNat + 53 by omega)
    rw [Nm.two_add, e53] at g
    rw [Int.mul_comm]
    omega
  · rw [Ie.dgs, if_neg h]
    have hp := Nm.two_pos (-z).toNat
    refine ⟨Int.mul_nonneg h0 (by omega), ?_⟩
    have g1 : V * 2 ^ (-z).toNat < 2 ^ (L + (-z).toNat) := by rw [Nm.two_add]; exact Int.mul_lt_mul_of_pos_right h1 hp
    have g2 := Nm.two_mono (show L + (-z).toNat ≤ 53 by omega)
    omega

theorem Ie.dgs_top (V z : Int) (L : Nat) (h0 : 0 ≤ V) (h1 : V < 2 ^ L) (hz : (L : Int) ≤ z) : Ie.dgs V z = 0 := by
  rw [Ie.dgs, if_pos (by omega)]
  have := Nm.two_mono (show L ≤ z.toNat by omega)
  exact Int.ediv_eq_zero_of_lt h0 (by omega)

theorem refBit_dgt (p : Option Addr) (n cap : Nat) (zs : List Int) (V z : Int) (w : World) (ha : Arg w p n cap zs) (hV : Nm.val zs = V) (hz : z ≤ 9223372036854775807) :
    Calls Tryz.prog 103 #[.slice p n cap, .int .i64 z] w fun e w' => e = .returned (.int .i64 (Ie.dgt V z)) ∧ w' = w := by
  by_cases h : 0 ≤ z
  · have := refBit_any p n cap zs z.toNat z w ha hz (by omega)
    rw [hV] at this
    rw [Ie.dgt, if_pos h]
    exact this
  · rw [Ie.dgt, if_neg h]
    exact refBit_neg p n cap z w (by omega)

set_option maxRecDepth 100000 in
set_option maxHeartbeats 4000000 in
theorem zround_any (neg : Bool) (p : Option Addr) (n cap : Nat) (zs : List Int) (w : World) (ha : Arg w p n cap zs) (tz : Nm.tsize zs ≤ 4096) (V e : Int) (more : Bool) (hV : Nm.val zs = V) :
    Calls Tryz.prog 42 #[.bool neg, .slice p n cap, .int .i64 e, .bool more] w fun r w' => ∃ x, r = .returned (.tuple #[.int .u64 (Ie.sg neg x), .int .i64 0]) ∧ Ie.Rnd V 1 e more x ∧ w' = w := by
  obtain ⟨L, hL, BL, hl, _⟩ := blen_is zs ha.2.2.2.2
  have v0 : 0 ≤ V := by rw [← hV]; exact (Nm.val_bd zs ha.2.2.2.2).1
  rw [hV] at BL
  have hL2 : L ≤ 262144 := by omega
  have BG := refBig_is false p n cap zs w ha (by simp; omega)
  have B1 : Calls Tryz.prog 102 #[.slice p n cap] w fun r w' => r = .returned (.int .i64 (L : Int)) ∧ w' = w := by
    refine (refBitLen_any p n cap zs w ha).mono ?_
    rintro r w' ⟨⟨L', rfl, h⟩, rfl⟩
    rw [hV] at h
    rw [Nm.BLen.unique v0 h BL]
    exact ⟨rfl, rfl⟩
  rcases (show V = 0 ∨ 0 < V by omega) with hv | hv
  · have hL0 : L = 0 := BL.2.1 hv
    subst hL0
    have R := hid (Ie.rnd_zero 1 e more (by omega))
    subst hv
    have H1 := hid BG
    have H2 := hid B1
    have PP := hid (zput_any neg 0 0 w (by omega) (by omega) (by omega) (by omega) (by omega))
    clear ha tz hV hL BL hl hL2 v0 BG B1
    go_enter Tryz.func42, Tryz.ntmps42
    go_wp2_with fail
    refine H1.out.mono ?_
    rintro e' w' ⟨rfl, rfl⟩
    go_wp2_with fail
    refine H2.out.mono ?_
    rintro e' w' ⟨rfl, rfl⟩
    go_wp2_with fail
    refine PP.out.mono ?_
    rintro e' w' ⟨rfl, rfl⟩
    go_wp2_with fail
    go_ret2
    exact ⟨0, ret_sg (by simp), R.out, rfl⟩
  · obtain ⟨hL1, hp⟩ := BL.2.2 hv
    have l0 : ((L : Int) == 0) = false := by rw [beq_eq_false_iff_ne]; omega
    have l2 : (L : Int) ≤ 262144 := by omega
    by_cases c1 : e < -1048576
    · have R := hid (Ie.rnd_small V 1 e L 0 more BL.1 (by decide) (by omega))
      have H1 := hid BG
      have H2 := hid B1
      have PP := hid (zput_any neg 0 0 w (by omega) (by omega) (by omega) (by omega) (by omega))
      clear ha tz hV hL BL hl hL2 v0 hv hp hL1 BG B1
      go_enter Tryz.func42, Tryz.ntmps42
      go_wp2_with fail
      refine H1.out.mono ?_
      rintro e' w' ⟨rfl, rfl⟩
      go_wp2_with fail
      refine H2.out.mono ?_
      rintro e' w' ⟨rfl, rfl⟩
      go_wp2_with fail
      refine PP.out.mono ?_
      rintro e' w' ⟨rfl, rfl⟩
      go_wp2_with fail
      go_ret2
      exact ⟨0, ret_sg (by simp), R.out, rfl⟩
    · by_cases c2 : 1048576 < e
      · have R := hid (Ie.rnd_inf V 1 e (L - 1) 0 more hp (by decide) (by omega))
        have H1 := hid BG
        have H2 := hid B1
        have PP := hid (zput_any neg 2047 0 w (by omega) (by omega) (by omega) (by omega) (by omega))
        clear ha tz hV hL BL hl hL2 v0 hv hp hL1 BG B1
        go_enter Tryz.func42, Tryz.ntmps42
        go_wp2_with fail
        refine H1.out.mono ?_
        rintro e' w' ⟨rfl, rfl⟩
        go_wp2_with fail
        refine H2.out.mono ?_
        rintro e' w' ⟨rfl, rfl⟩
        go_wp2_with fail
        refine PP.out.mono ?_
        rintro e' w' ⟨rfl, rfl⟩
        go_wp2_with fail
        go_ret2
        exact ⟨_, ret_sg (by simp), R.out, rfl⟩
      · by_cases c3 : 1023 < (L : Int) - 1 + e
        · have R := hid (Ie.rnd_inf V 1 e (L - 1) 0 more hp (by decide) (by omega))
          have H1 := hid BG
          have H2 := hid B1
          have PP := hid (zput_any neg 2047 0 w (by omega) (by omega) (by omega) (by omega) (by omega))
          clear ha tz hV hL BL hl hL2 v0 hv hp hL1 BG B1
          go_enter Tryz.func42, Tryz.ntmps42
          go_wp2_with fail
          refine H1.out.mono ?_
          rintro e' w' ⟨rfl, rfl⟩
          go_wp2_with fail
          refine H2.out.mono ?_
          rintro e' w' ⟨rfl, rfl⟩
          go_wp2_with fail
          refine PP.out.mono ?_
          rintro e' w' ⟨rfl, rfl⟩
          go_wp2_with fail
          go_ret2
          exact ⟨_, ret_sg (by simp), R.out, rfl⟩
        · obtain ⟨u, hu⟩ : ∃ u : Int, ((L : Int) + e - 53 < -1074 ∧ u = -1074) ∨ (-1074 ≤ (L : Int) + e - 53 ∧ u = (L : Int) + e - 53) := by
            rcases (show (L : Int) + e - 53 < -1074 ∨ -1074 ≤ (L : Int) + e - 53 by omega) with h | h
            · exact ⟨_, .inl ⟨h, rfl⟩⟩
            · exact ⟨_, .inr ⟨h, rfl⟩⟩
          obtain ⟨U, hU⟩ : ∃ U : Nat, u + 1074 = (U : Int) := ⟨(u + 1074).toNat, by omega⟩
          obtain ⟨T, hT⟩ := ztrl_ex V.toNat V hv (Nat.le_refl _)
          have hTb : T ≤ 262144 := by
            rcases hT with ⟨h, _⟩ | ⟨m, hm⟩
            · omega
            · rcases Nat.lt_or_ge T (L + 1) with g | g
              · omega
              · exfalso
                have g1 := Nm.two_mono (show L ≤ T by omega)
                have hm1 : 1 ≤ 2 * m + 1 := by
                  rcases (show 1 ≤ 2 * m + 1 ∨ 2 * m + 1 ≤ 0 by omega) with q | q
                  · exact q
                  · have := Int.mul_le_mul_of_nonneg_left q (Int.le_of_lt (Nm.two_pos T)); rw [Int.mul_zero] at this; omega
                have g2 : (2 : Int) ^ T * 1 ≤ 2 ^ T * (2 * m + 1) := Int.mul_le_mul_of_nonneg_left hm1 (Int.le_of_lt (Nm.two_pos T))
                have := BL.1
                omega
          have TR : Calls Tryz.prog 98 #[.slice p n cap] w fun r w' => r = .returned (.int .i64 (T : Int)) ∧ w' = w := by
            refine (refTrail_any p n cap zs w ha).mono ?_
            rintro r w' ⟨⟨t, rfl, h⟩, rfl⟩
            rw [hV] at h
            rw [Nm.Trl.unique h hT]
            exact ⟨rfl, rfl⟩
          obtain ⟨J, hJ⟩ : ∃ J : Nat, u + (J : Int) = (L : Int) + e ∨ (J = 0 ∧ (L : Int) + e ≤ u) := ⟨((L : Int) + e - u).toNat, by omega⟩
          have key := zround_core neg p n cap w e u L U J T more (decide ((T : Int) + e < u - 1)) (fun j => Ie.dgs V (u + (j : Int) - e)) (fun j => Ie.dgt V (u + (j : Int) - e)) (Ie.dgt V (u - 1 - e)) BG B1
            (fun j hj ii hii => by subst hii; exact refBit_dgt p n cap zs V _ w ha hV (by omega)) (fun ii hii => by subst hii; exact refBit_dgt p n cap zs V _ w ha hV (by omega)) TR
            (by omega) hL2 (by omega) (by omega) (by omega) (by omega) hU (by omega) hu hJ (fun j _ => Ie.dgs_bd V _ L v0 BL.1 (by omega))
            (Ie.dgs_top V _ L v0 BL.1 (by omega)) (fun j _ => by
              have := Ie.dgs_step V (u + (j : Int) - e)
              rw [show u + (j : Int) - e + 1 = u + ((j + 1 : Nat) : Int) - e by omega] at this
              exact this)
            (by have := (Ie.dgs_step V (u - 1 - e)).2; omega) rfl ?_
          · refine key.mono ?_
            rintro r w' ⟨⟨up, rfl, hup⟩, rfl⟩
            refine ⟨_, rfl, ?_, rfl⟩
            simp only [Int.natCast_zero, Int.add_zero] at hup ⊢
            by_cases hk : u ≤ e
            · obtain ⟨j, hj⟩ : ∃ j : Nat, e - u = (j : Int) := ⟨(e - u).toNat, by omega⟩
              have hd : Ie.dgt V (u - 1 - e) = 0 := by rw [Ie.dgt, if_neg (by omega)]
              have hup' : up = false := by
                cases up
                · rfl
                · have := (hup.1 rfl).1; omega
              have hg : Ie.dgs V (u - e) = V * 2 ^ j := by
                rw [Ie.dgs]
                rcases Nat.eq_zero_or_pos j with h | h
                · rw [if_pos (by omega), h, show (u - e).toNat = 0 by omega, Int.pow_zero, Int.ediv_one, Int.mul_one]
                · rw [if_neg (by omega), show (-(u - e)).toNat = j by omega]
              rw [hup', hg]
              have := Ie.rnd_exact V e L j U more hv hp hL1 BL.1 (by omega) (by omega) (by omega) (by omega)
              simpa using this
            · obtain ⟨k, hk⟩ : ∃ k : Nat, u - e = (k : Int) + 1 := ⟨(u - e - 1).toNat, by omega⟩
              have hg : Ie.dgs V (u - e) = V / 2 ^ (k + 1) := by rw [Ie.dgs, if_pos (by omega), show (u - e).toNat = k + 1 by omega]
              have hd : Ie.dgt V (u - 1 - e) = V / 2 ^ k % 2 := by rw [Ie.dgt, if_pos (by omega), show (u - 1 - e).toNat = k by omega]
              have hl := Sh.lost_iff (n := k) hT hv
              rw [hg] at hup ⊢
              refine Ie.rnd_cut V e L (k + 1) U more up hv hp hL1 BL.1 (by omega) (by omega) (by omega) (by omega) ?_
              rw [hup, Nat.add_sub_cancel, hd]
              have hr : decide ((T : Int) + e < u - 1) = true ↔ V % 2 ^ k ≠ 0 := by
                rw [decide_eq_true_iff]
                have h2 : (T : Int) < (k : Int) ↔ V % 2 ^ k ≠ 0 := by simpa only [decide_eq_decide] using hl
                rw [← h2]
                omega
              constructor
              · rintro ⟨g1, g | g | g⟩
                · exact ⟨by omega, g1, .inr (.inr (hr.1 g))⟩
                · exact ⟨by omega, g1, .inl g⟩
                · exact ⟨by omega, g1, .inr (.inl g)⟩
              · rintro ⟨_, g1, g | g | g⟩
                · exact ⟨g1, .inr (.inl g)⟩
                · exact ⟨g1, .inr (.inr g)⟩
                · exact ⟨g1, .inl (hr.2 g)⟩
          · intro hU0
            have hue : u = (L : Int) + e - 53 := by omega
            rw [Ie.dgs]
            have e52 : (2 : Int) ^ 52 = 4503599627370496 := by decide
            by_cases hz : 0 ≤ u + ((0 : Nat) : Int) - e
            · rw [if_pos hz, Int.le_ediv_iff_mul_le (Nm.two_pos _)]
              rw [show L - 1 = 52 + (u + ((0 : Nat) : Int) - e).toNat by omega, Nm.two_add, e52] at hp
              exact hp
            · rw [if_neg hz]
              have g1 : (2 : Int) ^ (L - 1 + (-(u + ((0 : Nat) : Int) - e)).toNat) ≤ V * 2 ^ (-(u + ((0 : Nat) : Int) - e)).toNat := by rw [Nm.two_add]; exact Int.mul_le_mul_of_nonneg_right hp (Int.le_of_lt (Nm.two_pos _))
              rw [show L - 1 + (-(u + ((0 : Nat) : Int) - e)).toNat = 52 by omega, e52] at g1
              exact g1

set_option maxRecDepth 100000 in
theorem zround_big (neg : Bool) (p : Option Addr) (n cap : Nat) (zs : List Int) (w : World) (ha : Arg w p n cap zs) (tz : 4096 < Nm.tsize zs) (e : Int) (more : Bool) :
    Calls Tryz.prog 42 #[.bool neg, .slice p n cap, .int .i64 e, .bool more] w fun r w' => r = .returned (.tuple #[.int .u64 0, .int .i64 2]) ∧ w' = w := by
  have H1 := hid (refBig_is true p n cap zs w ha (by simp; omega))
  clear ha tz
  go_enter Tryz.func42, Tryz.ntmps42
  go_wp2_with fail
  refine H1.out.mono ?_
  rintro e' w' ⟨rfl, rfl⟩
  go_wp2_with fail
  go_ret2
  exact ⟨rfl, rfl⟩
end Go.Proofs.YtdemopkdcnaibaaGreatDoor

namespace Go.Proofs.YtdemopkdcnaibaaGreatDoor
open Go Go.RowKit Go.Deep

set_option maxRecDepth 100000 in
set_option maxHeartbeats 2000000 in
theorem zfromU_any (u : Int) (w : World) (h0 : 0 ≤ u) (h1 : u < 18446744073709551616) :
    Calls Tryz.prog 39 #[.int .u64 u] w fun e w' => ∃ x, e = .returned (.int .u64 x) ∧ Ie.Rnd u 1 0 false x ∧ Below w.heap.size w w' := by
  have R : Hid (∀ g : Obj, g = .cells #[.int .u64 u] 24 → Calls Tryz.prog 42 #[.bool false, .slice (some ⟨w.heap.size, 0, none⟩) 1 1, .int .i64 0, .bool false] (w.alloc g) fun r w' => ∃ x, r = .returned (.tuple #[.int .u64 x, .int .i64 0]) ∧ Ie.Rnd u 1 0 false x ∧ Below w.heap.size w w') := by
    intro g hg
    subst hg
    have hB := alloc_below w (.cells #[.int .u64 u] 24)
    have hv : Nm.val [u] = u := by simp [Nm.val]
    refine (zround_any false _ 1 1 [u] _ (arg_z (heap_alloc_new w _) h0 h1) (by have := Nm.tsize_le [u]; simp at this; omega) u 0 false hv).mono ?_
    rintro r w' ⟨x, h2, h3, rfl⟩
    exact ⟨x, h2, h3, hB⟩
  go_enter Tryz.func39, Tryz.ntmps39
  go_wp2_with fail
  refine (R.out _ rfl).mono ?_
  rintro e w1 ⟨x, rfl, rx, hB⟩
  have K := hid (And.intro rx hB)
  clear rx hB R
  go_wp2_with fail
  go_ret
  exact ⟨x, rfl, K.out⟩

end Go.Proofs.YtdemopkdcnaibaaGreatDoor

/-
  The document's layer 6: signed, Cut (made by mkucut.py).
-/
namespace Go.Proofs.YtdemopkdcnaibaaGreatDoor
open Go Go.RowKit Go.Deep

set_option maxRecDepth 100000 in
theorem usigned_any (neg : Bool) (d : Int) (w : World) (h0 : 0 ≤ d) (h1 : d < 9223372036854775808) :
    Calls Tryz.prog 200 #[.bool neg, .int .u64 d] w fun e w' => e = .returned (.int .u64 (Ie.sg neg d)) ∧ w' = w := by
  cases neg
  · go_enter Tryz.func200, Tryz.ntmps200
    go_wp2_with fail
    go_ret
    exact ⟨rfl, rfl⟩
  · go_enter Tryz.func200, Tryz.ntmps200
    go_wp2_with fail
    go_ret
    exact ⟨rfl, rfl⟩

/-- What is left, against a half. -/
def Ie.sd (m : Int) (k : Nat) : Int := if m % 2 ^ k = 0 then 0 else if 2 * (m % 2 ^ k) < 2 ^ k then 1 else if 2 * (m % 2 ^ k) = 2 ^ k then 2 else 3

theorem uret_ui {a b c d : Int} (h : a = b) (k : c = d) : Ending.returned (.tuple #[.int .u64 a, .int .i64 c]) = .returned (.tuple #[.int .u64 b, .int .i64 d]) := by rw [h, k]

set_option maxRecDepth 100000 in
set_option maxHeartbeats 4000000 in
theorem cut_any (neg : Bool) (c m : Int) (k : Nat) (w : World) (m0 : 0 ≤ m) (m1 : m < 9007199254740992) (k1 : 1 ≤ k) (k2 : k ≤ 1074) :
    Calls Tryz.prog 201 #[partsOf neg c m (-(k : Int))] w fun e w' => e = .returned (.tuple #[.int .u64 (m / 2 ^ k), .int .i64 (Ie.sd m k)]) ∧ Below w.heap.size w w' := by
  simp only [partsOf]
  have HB := hid (alloc_b w (.cells #[.bool neg, .int .i64 c, .int .u64 m, .int .i64 (-(k : Int))] 26))
  have P := Row4.new w 26 (.bool neg) (.int .i64 c) (.int .u64 m) (.int .i64 (-(k : Int)))
  obtain ⟨⟨-, -, p2, p3⟩, -⟩ := P.cells
  clear P
  have x0 : -(k : Int) < 0 := by omega
  rcases (show m = 0 ∨ 0 < m by omega) with hz | hz
  · subst hz
    have E : Hid ((0 : Int) / 2 ^ k = 0 ∧ Ie.sd 0 k = 0) := ⟨Int.zero_ediv _, by rw [Ie.sd, Int.zero_emod, if_pos rfl]⟩
    go_enter Tryz.func201, Tryz.ntmps201
    go_wp2_with fail
    go_ret2
    exact ⟨uret_ui E.out.1.symm E.out.2.symm, HB.out⟩
  · have mz : (m == 0) = false := by rw [beq_eq_false_iff_ne]; omega
    rcases Nat.lt_or_ge 60 k with hk | hk
    · have E : Hid (m / 2 ^ k = 0 ∧ Ie.sd m k = 1) := by
        have g := Nm.two_mono (show 54 ≤ k by omega)
        have e54 : (2 : Int) ^ 54 = 18014398509481984 := by decide
        have d1 : m / 2 ^ k = 0 := Int.ediv_eq_zero_of_lt m0 (by omega)
        have d2 : m % 2 ^ k = m := Int.emod_eq_of_lt m0 (by omega)
        exact ⟨d1, by rw [Ie.sd, d2, if_neg (by omega), if_pos (by omega)]⟩
      have x1 : -(k : Int) < -60 := by omega
      go_enter Tryz.func201, Tryz.ntmps201
      go_wp2_with fail
      go_ret2
      exact ⟨uret_ui E.out.1.symm E.out.2.symm, HB.out⟩
    · have x1 : ¬ -(k : Int) < -60 := by omega
      have TP : Hid (∀ j : Nat, j ≤ k → 1 ≤ (2 : Int) ^ j ∧ (2 : Int) ^ j ≤ 1152921504606846976) := by
        intro j hj
        have g := Nm.two_mono (show j ≤ 60 by omega)
        have e60 : (2 : Int) ^ 60 = 1152921504606846976 := by decide
        have := Nm.two_pos j
        omega
      go_enter Tryz.func201, Tryz.ntmps201
      go_wp2_with fail
      go_loop [4, 5] (fun u i => ∃ (j : Nat) (P I : Int), u = .int .u64 P ∧ i = .int .i64 I ∧ -60 ≤ I ∧ I ≤ 0 ∧ 1 ≤ P ∧ P ≤ 1152921504606846976 ∧ Hid (P = 2 ^ j ∧ I = -(j : Int) ∧ j ≤ k)) (fun _ i => k - (-(intOf i)).toNat)
      case atStart => exact ⟨0, 1, 0, rfl, rfl, by omega, by omega, by omega, by omega, rfl, rfl, by omega⟩
      case round =>
        obtain ⟨j, P, I, rfl, rfl, i0, i1, q0, q1, hj⟩ := hrel
        rcases Nat.lt_or_ge j k with lt | ge
        · have g : I > -(k : Int) := by have := hj.out.2.1; omega
          have N2 : Hid (2 * P = 2 ^ (j + 1) ∧ 2 * P ≤ 1152921504606846976) := by
            have e : 2 * P = 2 ^ (j + 1) := by rw [hj.out.1, Nm.two_succ]
            exact ⟨e, by rw [e]; exact (TP.out (j + 1) (by omega)).2⟩
          go_wp2_with fail
          go_round
          case rel => exact ⟨j + 1, 2 * P, I - 1, rfl, rfl, by have := hj.out.2.1; omega, by omega, by omega, N2.out.2, N2.out.1, by have := hj.out.2.1; omega, by omega⟩
          case measure => have := hj.out.2.1; simp [intOf]; omega
        · have g : ¬ I > -(k : Int) := by have := hj.out.2; omega
          obtain ⟨R, hR⟩ : ∃ R, m % P = R := ⟨_, rfl⟩
          obtain ⟨Q, hQ⟩ : ∃ Q, m / P = Q := ⟨_, rfl⟩
          have R0 : 0 ≤ R ∧ R < P := by rw [← hR]; exact ⟨Int.emod_nonneg _ (by omega), Int.emod_lt_of_pos _ (by omega)⟩
          obtain ⟨R0, R1⟩ := R0
          have EP : Hid (P = 2 ^ k) := by
            have h := hj.out
            rw [Hid, h.1, show j = k by omega]
          have EQ : Hid (m / 2 ^ k = Q ∧ m % 2 ^ k = R) := by rw [Hid, ← EP.out]; exact ⟨hQ, hR⟩
          have P0 : 0 < P := by omega
          have Pn : (P == 0) = false := by rw [beq_eq_false_iff_ne]; omega
          rcases (show R = 0 ∨ (0 < R ∧ 2 * R < P) ∨ (0 < R ∧ 2 * R = P) ∨ (0 < R ∧ P < 2 * R) by omega) with s | ⟨s, s'⟩ | ⟨s, s'⟩ | ⟨s, s'⟩
          · have E : Hid (Ie.sd m k = 0) := by rw [Hid, Ie.sd, EQ.out.2, if_pos s]
            subst s
            have n1 : ((0 : Int) == P) = false := by rw [beq_eq_false_iff_ne]; omega
            have n2 : ¬ (0 : Int) > P := by omega
            clear hj TP
            go_wp2_with fail
            go_ret2
            exact ⟨uret_ui EQ.out.1.symm E.out.symm, HB.out⟩
          · have E : Hid (Ie.sd m k = 1) := by rw [Hid, Ie.sd, EQ.out.2, ← EP.out, if_neg (by omega), if_pos s']
            have n1 : (2 * R == P) = false := by rw [beq_eq_false_iff_ne]; omega
            have n2 : ¬ 2 * R > P := by omega
            clear hj TP
            go_wp2_with fail
            go_ret2
            exact ⟨uret_ui EQ.out.1.symm E.out.symm, HB.out⟩
          · have E : Hid (Ie.sd m k = 2) := by rw [Hid, Ie.sd, EQ.out.2, ← EP.out, if_neg (by omega), if_neg (by omega), if_pos s']
            clear hj TP
            go_wp2_with fail
            go_ret2
            exact ⟨uret_ui EQ.out.1.symm E.out.symm, HB.out⟩
          · have E : Hid (Ie.sd m k = 3) := by rw [Hid, Ie.sd, EQ.out.2, ← EP.out, if_neg (by omega), if_neg (by omega), if_neg (by omega)]
            have n1 : (2 * R == P) = false := by rw [beq_eq_false_iff_ne]; omega
            have n2 : 2 * R > P := by omega
            clear hj TP
            go_wp2_with fail
            go_ret2
            exact ⟨uret_ui EQ.out.1.symm E.out.symm, HB.out⟩
end Go.Proofs.YtdemopkdcnaibaaGreatDoor
