/-
  THE REFERENCE's Times.
-/
import Derived.Test.YtmglogncpfoldaaDoorRef8
import Derived.Test.YtmglogncpfoldaaDoorMulAddW
namespace Go.Proofs.YtmglogncpfoldaaDoor
open Go.RowKit Go.Deep

namespace Nm
theorem v32_set : ∀ (zs : List Int) (i : Nat) (s : Int), i < zs.length → v32 (zs.set i s) = v32 zs + p32 i * (s - zs.getD i 0)
  | [], _, _, h => by simp at h
  | z :: zs, 0, s, _ => by simp only [List.set_cons_zero, v32, p32, List.getD_cons_zero]; omega
  | z :: zs, i + 1, s, h => by
    have := v32_set zs i s (by simpa using h)
    simp only [List.set_cons_succ, v32, p32, List.getD_cons_succ, this, Int.mul_add, Int.mul_assoc]
    omega

theorem Halves.set {zs : List Int} (h : Halves zs) (i : Nat) {s : Int} (h0 : 0 ≤ s) (h1 : s < 4294967296) : Halves (zs.set i s) := by
  intro z hz
  rcases List.mem_or_eq_of_mem_set hz with a | rfl
  · exact h z a
  · exact ⟨h0, h1⟩

theorem v32_zeros : ∀ n, v32 (List.replicate n 0) = 0
  | 0 => rfl
  | n + 1 => by simp only [List.replicate, v32, v32_zeros n]; rfl

theorem Halves.zeros (n : Nat) : Halves (List.replicate n 0) := by
  intro z hz
  rw [List.eq_of_mem_replicate hz]
  omega

theorem p32_add (a : Nat) : ∀ b, p32 (a + b) = p32 a * p32 b
  | 0 => by simp [p32]
  | b + 1 => by rw [← Nat.add_assoc]; simp only [p32, p32_add a b]; rw [Int.mul_left_comm]

/-- One digit of a product added in. -/
theorem times_digit {ps ys : List Int} {i j : Nat} {x c c' lo V pv : Int} (hk : i + j < ps.length) (hp : pv = ps.getD (i + j) 0) (h : v32 ps + p32 (i + j) * c = V + p32 i * (x * v32 (ys.take j))) (hs : lo + 4294967296 * c' = x * ys.getD j 0 + pv + c) :
    v32 (ps.set (i + j) lo) + p32 (i + (j + 1)) * c' = V + p32 i * (x * v32 (ys.take (j + 1))) := by
  rw [v32_set ps (i + j) lo hk, v32_take_next, ← hp, Int.mul_add x, Int.mul_add (p32 i)]
  have e1 : p32 (i + (j + 1)) * c' = p32 (i + j) * (4294967296 * c') := by
    rw [← Nat.add_assoc]; simp only [p32]; rw [Int.mul_comm 4294967296 (p32 (i + j)), Int.mul_assoc]
  have e2 : p32 i * (x * (p32 j * ys.getD j 0)) = p32 (i + j) * (x * ys.getD j 0) := by
    rw [p32_add, Int.mul_left_comm x, ← Int.mul_assoc, ← Int.mul_assoc]
  have e3 : p32 (i + j) * (lo + 4294967296 * c') = p32 (i + j) * (x * ys.getD j 0 + pv + c) := by rw [hs]
  rw [Int.mul_add, Int.mul_add, Int.mul_add] at e3
  rw [e1, e2, Int.mul_sub]
  omega
end Nm

/-- Behind j digits of the second factor, for digit i of the first. -/
def TimesInv (g K : Nat) (w : World) (T c : Int) (k top : Nat) (ps : List Int) (wr : World) : Prop :=
  Own wr g ps ∧ ps.length = K ∧ Nm.Halves ps ∧ Nm.v32 ps + Nm.p32 k * c = T ∧ (∀ t, top ≤ t → ps.getD t 0 = 0) ∧ Below g w wr

set_option maxRecDepth 20000 in
set_option maxHeartbeats 4000000 in
theorem times_any (p q : Option Addr) (n cap m cap' : Nat) (za zb : List Int) (w : World) (ha : Arg w p n cap za) (hb : Arg w q m cap' zb) (hn : Nm.tsize za ≤ 1099511627776) (hm : Nm.tsize zb ≤ 1099511627776) :
    Calls Tryd.prog 54 #[.slice p n cap, .slice q m cap'] w fun e w' => ∃ r os, e = .returned (.slice r (List.length os) (List.length os)) ∧ Ans w.heap.size w' r os (Nm.val za * Nm.val zb) ∧ Below w.heap.size w w' := by
  have HA := hid ha
  have HB0 := hid hb
  clear ha hb
  go_enter Tryd.func54, Tryd.ntmps54
  go_wp2_with fail
  refine (halves_any p n cap za _ HA.out (by have := HA.out.2.1; have := HA.out.2.2.1; omega)).mono ?_
  rintro e w1 ⟨xs, rfl, lx, hx, vx, kx, bx⟩
  have HB1 := hid (HB0.out.below bx (Nat.le_refl _))
  have D1 := hid bx
  obtain ⟨l1, LX⟩ : ∃ l1, Hid (xs.length = l1) := ⟨_, rfl⟩
  have LX0 := hid lx
  have HX := hid hx
  have VX := hid vx
  have kx1 : l1 ≤ 2 * Nm.tsize za := by have := LX.out; omega
  rw [LX.out]
  clear lx hx vx kx bx HB0
  go_wp2_with fail
  refine (halves_any q m cap' zb _ HB1.out (by have := HB1.out.2.1; have := HB1.out.2.2.1; omega)).mono ?_
  rintro e w2 ⟨ys, rfl, ly, hy, vy, ky, by_⟩
  have D2 := hid (chain D1.out by_ (Nat.le_refl _))
  obtain ⟨l2, LY⟩ : ∃ l2, Hid (ys.length = l2) := ⟨_, rfl⟩
  have HY := hid hy
  have VY := hid vy
  have ky1 : l2 ≤ 2 * Nm.tsize zb := by have := LY.out; omega
  obtain ⟨g1, G1⟩ : ∃ g1, w.heap.size = g1 := ⟨_, rfl⟩
  obtain ⟨g2, G2⟩ : ∃ g2, w1.heap.size = g2 := ⟨_, rfl⟩
  have LX2 := LX0.out.below by_ (Nat.le_refl _)
  rw [G1] at LX2
  have ly2 := ly
  rw [G2] at ly2
  have CX : Hid (∀ i, i < l1 → w2.cell? ⟨g1, i, none⟩ = some (.int .u64 (xs.getD i 0))) := fun i hi => by have := LX2.cells i (by have := LX.out; omega); rwa [Nat.zero_add] at this
  have CY : Hid (∀ i, i < l2 → w2.cell? ⟨g2, i, none⟩ = some (.int .u64 (ys.getD i 0))) := fun i hi => by have := ly2.cells i (by have := LY.out; omega); rwa [Nat.zero_add] at this
  obtain ⟨g, Gg⟩ : ∃ g, Hid (w2.heap.size = g) := ⟨_, rfl⟩
  have BX : Hid (∀ {j : Nat}, j < l1 → g1 < g) := fun {j} hj => by rw [← Gg.out]; exact cell_lt (CX.out j hj)
  have BY : Hid (∀ {j : Nat}, j < l2 → g2 < g) := fun {j} hj => by rw [← Gg.out]; exact cell_lt (CY.out j hj)
  rw [LY.out, G1, G2]
  clear ly hy vy ky by_ LX0 LX2 ly2 HB1 D1 G2
  by_cases hz : l1 = 0 ∨ l2 = 0
  · have V0 : Hid (Nm.val za * Nm.val zb = 0) := by
      rw [Hid, ← VX.out, ← VY.out]
      rcases hz with h | h
      · rw [List.eq_nil_of_length_eq_zero (LX.out.trans h)]; simp [Nm.v32]
      · rw [List.eq_nil_of_length_eq_zero (LY.out.trans h)]; simp [Nm.v32]
    have bm := (Below.refl w2.heap.size w2).alloc (Nat.le_refl _) (.cells #[] 28)
    have D3 := hid (chain D2.out bm (Nat.le_refl _))
    have GS : Hid (w.heap.size ≤ g) := by rw [← Gg.out]; exact D2.out.size
    clear bm
    have fin : ∀ x : World, Below w.heap.size w x → ∃ r os, Ending.returned (.slice (some ⟨g, 0, none⟩) 0 0) = .returned (.slice r (List.length os) (List.length os)) ∧ Ans w.heap.size x r os (Nm.val za * Nm.val zb) ∧ Below w.heap.size w x := fun x hx => ⟨some ⟨g, 0, none⟩, [], rfl, ⟨Lies.nil _ _, Nm.Limbs.nil, rfl, V0.out.symm, fun a h => by cases h; exact ⟨GS.out, fun h0 => absurd h0 (by simp)⟩⟩, hx⟩
    have FIN := hid fin
    clear fin
    by_cases h1 : l1 = 0
    · subst h1
      go_wp2
      go_ret
      rw [Gg.out]
      exact FIN.out _ D3.out
    · have h2 : l2 = 0 := by omega
      subst h2
      have h1' : ¬ (l1 : Int) = 0 := by omega
      have h1'' : ((l1 : Int) == 0) = false := by rw [beq_eq_false_iff_ne]; exact h1'
      go_wp2
      go_ret
      rw [Gg.out]
      exact FIN.out _ D3.out
  · have h1 : ¬ (l1 : Int) = 0 := by omega
    have h2 : ¬ (l2 : Int) = 0 := by omega
    have h1' : ((l1 : Int) == 0) = false := by rw [beq_eq_false_iff_ne]; exact h1
    have h2' : ((l2 : Int) == 0) = false := by rw [beq_eq_false_iff_ne]; exact h2
    have hmk := make64 (l1 + l2) (by omega) w2
    rw [show ((l1 + l2 : Nat) : Int) = (l1 : Int) + (l2 : Int) by omega, Gg.out] at hmk
    have bm := hid ((Below.refl w2.heap.size w2).alloc (Nat.le_refl _) (.cells (madeCells #[.int .u64 0] (l1 + l2)) 28))
    have gm : Own (w2.alloc (.cells (madeCells #[.int .u64 0] (l1 + l2)) 28)) w2.heap.size (List.replicate (l1 + l2) 0) := by rw [made_zero]; exact Own.alloc w2 _
    rw [Gg.out] at bm gm
    generalize w2.alloc (.cells (madeCells #[.int .u64 0] (l1 + l2)) 28) = wm at hmk bm gm
    have I0 : Hid (TimesInv g (l1 + l2) w2 (Nm.v32 (xs.take 0) * Nm.v32 ys) 0 0 (0 + l2) (List.replicate (l1 + l2) 0) wm) := ⟨gm, by simp, Nm.Halves.zeros _, by rw [Nm.v32_zeros]; simp [Nm.v32], fun t _ => getD_replicate _ _, bm.out⟩
    clear gm bm hz
    go_wp2
    clear hmk
    obtain ⟨K, HK⟩ : ∃ K, Hid (l1 + l2 = K) := ⟨_, rfl⟩
    have I1 := I0.out
    rw [HK.out] at I1 ⊢
    have J0 := hid I1
    clear I0 I1
    have hKb : K ≤ 35184372088832 := by have := HK.out; omega
    go_loopw [8] (fun i wr => ∃ (k : Nat) (ps : List Int), k ≤ l1 ∧ i = .int .i64 k ∧ Hid (TimesInv g K w2 (Nm.v32 (xs.take k) * Nm.v32 ys) 0 k (k + l2) ps wr)) (fun i _ => l1 - (intOf i).toNat)
    case atStart => exact ⟨0, _, Nat.zero_le _, rfl, J0.out⟩
    case round =>
      obtain ⟨k, ps, hk, rfl, TI⟩ := hrel
      by_cases hlt : k < l1
      · have hlt' : (k : Int) < (l1 : Int) := by omega
        obtain ⟨x, X⟩ : ∃ x, Hid (x = xs.getD k 0) := ⟨_, rfl⟩
        have hx0 : 0 ≤ x := by have := HX.out.at k; have := X.out; omega
        have hx1 : x < 4294967296 := by have := HX.out.at k; have := X.out; omega
        obtain ⟨V, HV⟩ : ∃ V, Hid (V = Nm.v32 (xs.take k) * Nm.v32 ys) := ⟨_, rfl⟩
        have TJ : Hid (TimesInv g K w2 (V + Nm.p32 k * (x * Nm.v32 (ys.take 0))) 0 (k + 0) (k + l2) ps wr) := by
          have h := TI.out
          rw [← HV.out] at h
          simp only [List.take_zero, Nm.v32, Int.mul_zero, Int.add_zero, Nat.add_zero]
          exact h
        clear TI
        go_wp2_with fail
        go_loopw [9, 10] (fun c j wr => ∃ (t : Nat) (cc : Int) (ps : List Int), t ≤ l2 ∧ j = .int .i64 t ∧ c = .int .u64 cc ∧ 0 ≤ cc ∧ cc < 4294967296 ∧ Hid (TimesInv g K w2 (V + Nm.p32 k * (x * Nm.v32 (ys.take t))) cc (k + t) (k + l2) ps wr)) (fun _ j _ => l2 - (intOf j).toNat)
        case atStart => exact ⟨0, 0, ps, Nat.zero_le _, rfl, rfl, by omega, by omega, TJ.out⟩
        case round =>
          clear TJ ps
          obtain ⟨t, cc, ps, ht, rfl, rfl, hc0, hc1, TI⟩ := hrel
          obtain ⟨o1, o2, o3, o4, o5, o6⟩ := TI.out
          by_cases htl : t < l2
          · have htl' : (t : Int) < (l2 : Int) := by omega
            have hx : wr.cell? ⟨g1, k, none⟩ = some (.int .u64 x) := by rw [X.out]; exact (o6.cell (p := ⟨g1, k, none⟩) (BX.out hlt)).trans (CX.out k hlt)
            obtain ⟨y, hy, Y⟩ : ∃ y, wr.cell? ⟨g2, t, none⟩ = some (.int .u64 y) ∧ Hid (y = ys.getD t 0) := ⟨_, (o6.cell (p := ⟨g2, t, none⟩) (BY.out htl)).trans (CY.out t htl), rfl⟩
            have hkt : k + t < K := by have := HK.out; omega
            obtain ⟨pv, hpv, PV⟩ : ∃ pv, wr.cell? ⟨g, k + t, none⟩ = some (.int .u64 pv) ∧ Hid (pv = ps.getD (k + t) 0) := ⟨_, o1.cell (k + t) (by omega), rfl⟩
            have hfr := o1.free (k + t)
            have hy0 : 0 ≤ y := by have := HY.out.at t; have := Y.out; omega
            have hy1 : y < 4294967296 := by have := HY.out.at t; have := Y.out; omega
            have hp0 : 0 ≤ pv := by have := o3.at (k + t); have := PV.out; omega
            have hp1 : pv < 4294967296 := by have := o3.at (k + t); have := PV.out; omega
            have hxy0 : 0 ≤ x * y := Int.mul_nonneg hx0 hy0
            have hxy1 : x * y ≤ 4294967295 * 4294967295 := Int.mul_le_mul (by omega) (by omega) hy0 (by omega)
            obtain ⟨m0, hm0, M0⟩ : ∃ m0, IntKind.u64.wrap (x * y) = m0 ∧ Hid (m0 = x * y) := ⟨_, by rw [IntKind.wrap_u64, Int.emod_eq_of_lt (by omega) (by omega)], rfl⟩
            have hm00 : 0 ≤ m0 := by have := M0.out; omega
            have hm01 : m0 ≤ 18446744065119617025 := by have := M0.out; omega
            obtain ⟨m1, hm1, M1⟩ : ∃ m1, IntKind.u64.wrap (m0 + pv) = m1 ∧ Hid (m1 = m0 + pv) := ⟨_, by rw [IntKind.wrap_u64, Int.emod_eq_of_lt (by omega) (by omega)], rfl⟩
            have hm10 : 0 ≤ m1 := by have := M1.out; omega
            have hm11 : m1 ≤ 18446744069414584320 := by have := M1.out; omega
            obtain ⟨tt, htt, TT⟩ : ∃ tt, IntKind.u64.wrap (m1 + cc) = tt ∧ Hid (tt = m1 + cc) := ⟨_, by rw [IntKind.wrap_u64, Int.emod_eq_of_lt (by omega) (by omega)], rfl⟩
            have htt0 : 0 ≤ tt := by have := TT.out; omega
            have htt1 : tt ≤ 18446744073709551615 := by have := TT.out; omega
            obtain ⟨lo, hlo, LO⟩ : ∃ lo, bits .and .u64 tt 4294967295 = lo ∧ Hid (lo = tt % 4294967296) := ⟨_, r_mask32 tt (by omega) (by omega), rfl⟩
            obtain ⟨hi, hhi, HI⟩ : ∃ hi, tt / 4294967296 = hi ∧ Hid (hi = tt / 4294967296) := ⟨_, rfl, rfl⟩
            have BLO : Hid ((0 ≤ lo ∧ lo < 4294967296) ∧ 0 ≤ hi ∧ hi < 4294967296) := by have := LO.out; have := HI.out; show _ ∧ _; omega
            have ST : Hid (lo + 4294967296 * hi = x * ys.getD t 0 + pv + cc) := by
              have h1 := LO.out; have h2 := HI.out; have h3 := TT.out; have h4 := M1.out; have h5 := M0.out
              rw [Hid, ← Y.out]; omega
            have O1 := hid o1
            have O2 := hid o2
            have O3 := hid o3
            have O4 := hid o4
            have O5 := hid o5
            have O6 := hid o6
            have hkt' : (k : Int) + (t : Int) < (K : Int) := by omega
            clear o1 o2 o3 o4 o5 o6 TI hxy0 hxy1
            go_wp2_with fail
            go_quiet (fail)
            have hpv2 : (wr.drewN nq).cell? ⟨g, k + t, none⟩ = some (.int .u64 pv) := hpv
            have hfr2 : (wr.drewN nq).frozen? ⟨g, k + t, none⟩ = false := hfr
            have P1 : Hid (Own (wr.drewN nq) g ps) := O1.out
            have P6 := hid (below_drewN O6.out nq)
            clear hx hy hpv hfr O1 O6
            generalize wr.drewN nq = wq at *
            go_wp2
            go_roundw
            case rel =>
              refine ⟨t + 1, hi, ps.set (k + t) lo, by omega, by go_num, by first | rfl | rw [hhi], BLO.out.2.1, BLO.out.2.2, P1.out.set _ _, by rw [List.length_set]; exact O2.out, O3.out.set _ BLO.out.1.1 BLO.out.1.2, ?_, ?_, P6.out.setCell (Nat.le_refl _) _⟩
              · exact Nm.times_digit (by have := O2.out; omega) PV.out O4.out ST.out
              · intro s hs
                rw [Nm.getD_set ps (k + t) s lo (by have := O2.out; omega), if_neg (by omega)]
                exact O5.out s hs
            case measure => simp [intOf]; omega
          · have htl' : ¬ (t : Int) < (l2 : Int) := by omega
            obtain rfl : t = l2 := by omega
            rw [List.take_of_length_le (by have := LY.out; omega)] at o4
            have hkt : k + t < K := by have := HK.out; omega
            obtain ⟨pv, hpv⟩ : ∃ pv, wr.cell? ⟨g, k + t, none⟩ = some (.int .u64 pv) := ⟨_, o1.cell (k + t) (by omega)⟩
            have hfr := o1.free (k + t)
            have Z0 := o5 (k + t) (Nat.le_refl _)
            have NX : Hid (TimesInv g K w2 (Nm.v32 (xs.take (k + 1)) * Nm.v32 ys) 0 (k + 1) (k + 1 + t) (ps.set (k + t) cc) (wr.setCell ⟨g, k + t, none⟩ (.int .u64 cc))) := by
              refine ⟨o1.set _ _, by rw [List.length_set]; exact o2, o3.set _ hc0 hc1, ?_, ?_, o6.setCell (Nat.le_refl _) _⟩
              · rw [Nm.v32_set ps (k + t) cc (by omega), Z0, Nm.v32_take_next, ← X.out, Int.add_mul, ← HV.out, Int.mul_zero, Int.add_zero, Int.sub_zero, Int.mul_assoc]
                exact o4
              · intro s hs
                rw [Nm.getD_set ps (k + t) s cc (by omega), if_neg (by omega)]
                exact o5 s (by omega)
            have hkt' : (k : Int) + (t : Int) < (K : Int) := by omega
            clear o1 o2 o3 o4 o5 o6 TI Z0
            go_wp2
            go_roundw
            case rel => exact ⟨k + 1, _, by omega, by go_num, NX.out⟩
            case measure => simp [intOf]; omega
      · have hlt' : ¬ (k : Int) < (l1 : Int) := by omega
        obtain rfl : k = l1 := by omega
        obtain ⟨o1, o2, o3, o4, o5, o6⟩ := TI.out
        rw [List.take_of_length_le (by have := LX.out; omega), VX.out, VY.out, Int.mul_zero, Int.add_zero] at o4
        have D3 := hid (chain D2.out (by rw [Gg.out]; exact o6) (Nat.le_refl _))
        have AG : Hid (Arg wr (some ⟨g, 0, none⟩) K K ps) := ⟨o2, Nat.le_refl _, by have := HK.out; omega, o1.lies, o3.limbs⟩
        have hw3 : Hid (w.heap.size ≤ wr.heap.size) := D3.out.size
        have HV := hid o4
        have HS := hid o3
        clear o1 o2 o3 o4 o5 o6 TI
        go_wp2_with fail
        refine (limbs_any _ K K ps _ AG.out HS.out).mono ?_
        rintro e w4 ⟨r, os, rfl, hA, hb⟩
        rw [HV.out] at hA
        have A4 := hid (hA.mono hw3.out)
        have D4 := hid (chain D3.out hb (Nat.le_refl _))
        clear hA hb
        go_wp2
        go_ret
        exact ⟨r, os, rfl, A4.out, D4.out⟩
end Go.Proofs.YtmglogncpfoldaaDoor
