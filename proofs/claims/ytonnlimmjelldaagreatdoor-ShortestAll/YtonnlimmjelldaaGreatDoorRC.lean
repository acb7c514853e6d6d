/-
  Texts put together: QTimes2, Walk4, MulOver, QGives, QPow, QPowG, QRPow, QRPow2, QRPow3, ZRef9, TrailW, ZRef6, ZRef13, PoR3.
-/
import Derived.Test.YtonnlimmjelldaaGreatDoorRB
import Derived.BigRegion
import Derived.Test.YtonnlimmjelldaaGreatDoorRA
import Derived.Test.YtonnlimmjelldaaGreatDoorNums
import Derived.Test.YtonnlimmjelldaaGreatDoorZRef3
import Derived.Test.YtonnlimmjelldaaGreatDoorTimesNum
import Derived.Shelf.Spec.TrailingZeros
import Derived.Laws.Bits64b
import Derived.Lib.ItoaNum
import Derived.Test.YtonnlimmjelldaaGreatDoorWalk5
import Derived.Test.YtonnlimmjelldaaGreatDoorZDecA
import Derived.Test.YtonnlimmjelldaaGreatDoorV0
namespace Go.Proofs.YtonnlimmjelldaaGreatDoor
open Go.RowKit Go.Deep

/-- Behind j limbs of the product put together. -/
def JoinInv (g H : Nat) (w : World) (ps : List Int) (j : Nat) (os : List Int) (wr : World) : Prop :=
  Own wr g os ∧ os.length = H ∧ Nm.Limbs os ∧ Nm.val os = Nm.v32 (ps.take (2 * j)) ∧ (∀ i, j ≤ i → os.getD i 0 = 0) ∧ Below g w wr

theorem JoinInv.step {g H : Nat} {w : World} {ps : List Int} {j : Nat} {os : List Int} {wr wq : World} {x y z : Int} (h : JoinInv g H w ps j os wr) (hb : Below wr.heap.size wr wq) (hj : j < H) (hx : x = ps.getD (2 * j) 0) (hy : y = ps.getD (2 * j + 1) 0) (hz : z = x + 4294967296 * y) (z0 : 0 ≤ z) (z1 : z < 18446744073709551616) :
    JoinInv g H w ps (j + 1) (os.set j z) (wq.setCell ⟨g, j, none⟩ (.int .u64 z)) := by
  obtain ⟨h1, h2, h3, h4, h5, h6⟩ := h
  have hlt := h1.lt
  refine ⟨(h1.below hb hlt).set j z, by simpa using h2, h3.set j z0 z1, ?_, fun i hi => ?_, (h6.trans (hb.mono (Nat.le_of_lt hlt))).setCell (p := ⟨g, j, none⟩) (Nat.le_refl _) _⟩
  · rw [Nm.val_set _ _ _ (by omega), h5 j (Nat.le_refl _), Int.sub_zero, h4, show 2 * (j + 1) = 2 * j + 1 + 1 by omega, Nm.v32_take_next, Nm.v32_take_next, ← hx, ← hy, hz]
    simp only [Nm.p32, Nm.p32_two]
    rw [Int.mul_add, Int.mul_left_comm, Int.mul_assoc]
    omega
  · rw [Nm.getD_set _ _ _ _ (by omega), if_neg (by omega)]
    exact h5 i (by omega)

theorem or32 (x y : Int) (x0 : 0 ≤ x) (x1 : x < 4294967296) (y0 : 0 ≤ y) (y1 : y < 4294967296) : IntKind.u64.wrap (y * 4294967296) = y * 4294967296 ∧ bits .or .u64 x (y * 4294967296) = x + 4294967296 * y := by
  refine ⟨by rw [wrap_mod]; omega, ?_⟩
  have h := or_sum y x 32 y0 x0 (by rw [show (2 : Int) ^ 32 = 4294967296 by decide]; exact x1) (by rw [show (2 : Int) ^ 32 = 4294967296 by decide]; omega) (by omega)
  rw [show (2 : Int) ^ 32 = 4294967296 by decide] at h
  obtain ⟨a, rfl⟩ := Int.eq_ofNat_of_zero_le x0
  obtain ⟨c, rfl⟩ := Int.eq_ofNat_of_zero_le y0
  have e1 := bits_or_u64_nat a (c * 4294967296) (by omega) (by omega)
  have e2 := bits_or_u64_nat (c * 4294967296) a (by omega) (by omega)
  rw [Nat.or_comm] at e2
  have e3 : ((c * 4294967296 : Nat) : Int) = (c : Int) * 4294967296 := by omega
  rw [e3] at e1 e2
  rw [e1, ← e2, h]
  omega

set_option maxRecDepth 100000 in
set_option maxHeartbeats 8000000 in
theorem refTimes_any (p q : Option Addr) (n cap m cap' : Nat) (za zb : List Int) (w : World) (ha : Arg w p n cap za) (hb : Arg w q m cap' zb) (hn : Nm.tsize za ≤ 1000000) (hm : Nm.tsize zb ≤ 1000000) :
    Calls Tryz.prog 165 #[.slice p n cap, .slice q m cap'] w fun e w' => ∃ r os, e = .returned (.slice r (List.length os) (List.length os)) ∧ Ans w.heap.size w' r os (Nm.val za * Nm.val zb) ∧ Below w.heap.size w w' := by
  have HA := hid ha
  have HB0 := hid hb
  have a2 := ha.2.1
  have a3 := ha.2.2.1
  have b2 := hb.2.1
  have b3 := hb.2.2.1
  obtain ⟨N1, hN1⟩ : ∃ N, Nm.tsize za = N := ⟨_, rfl⟩
  obtain ⟨N2, hN2⟩ : ∃ N, Nm.tsize zb = N := ⟨_, rfl⟩
  have HN1 := hid hN1
  have HN2 := hid hN2
  have bN1 : N1 ≤ 1000000 := by omega
  have bN2 : N2 ≤ 1000000 := by omega
  clear ha hb hN1 hN2 hn hm
  go_enter Tryz.func165, Tryz.ntmps165
  go_wp2_with fail
  refine (halfWords_any p n cap za N1 _ HA.out.1 (by omega) HA.out.2.2.2.1 HA.out.2.2.2.2 HN1.out bN1).mono ?_
  rintro e w1 ⟨xs, g1, rfl, KX⟩
  have HB1 := hid (HB0.out.below KX.out.2.2.2.2.2 (Nat.le_refl _))
  have D1 := hid KX.out.2.2.2.2.2
  obtain ⟨l1, hl1⟩ : ∃ l1, 2 * N1 = l1 := ⟨_, rfl⟩
  rw [hl1]
  have LX : Hid (xs.length = l1) := by rw [← hl1]; exact KX.out.2.1
  have HX := hid KX.out.2.2.1
  have VX := hid KX.out.2.2.2.1
  have OX := hid KX.out.1
  have HL1 := hid hl1
  clear KX HB0 hl1
  go_wp2_with fail
  refine (halfWords_any q m cap' zb N2 _ HB1.out.1 (by omega) HB1.out.2.2.2.1 HB1.out.2.2.2.2 HN2.out bN2).mono ?_
  rintro e w2 ⟨ys, g2, rfl, KY⟩
  have D2 := hid (chain D1.out KY.out.2.2.2.2.2 (Nat.le_refl _))
  obtain ⟨l2, hl2⟩ : ∃ l2, 2 * N2 = l2 := ⟨_, rfl⟩
  rw [hl2]
  have LY : Hid (ys.length = l2) := by rw [← hl2]; exact KY.out.2.1
  have HY := hid KY.out.2.2.1
  have VY := hid KY.out.2.2.2.1
  have OX2 := hid (OX.out.below KY.out.2.2.2.2.2 OX.out.lt)
  have OY := hid KY.out.1
  have HL2 := hid hl2
  have bl1 : l1 ≤ 2000000 := by have := HL1.out; omega
  have bl2 : l2 ≤ 2000000 := by have := HL2.out; omega
  clear KY HB1 D1 OX hl2
  have CX : Hid (∀ i, i < l1 → w2.cell? ⟨g1, i, none⟩ = some (.int .u64 (xs.getD i 0))) := fun i hi => OX2.out.cell i (by have := LX.out; omega)
  have CY : Hid (∀ i, i < l2 → w2.cell? ⟨g2, i, none⟩ = some (.int .u64 (ys.getD i 0))) := fun i hi => OY.out.cell i (by have := LY.out; omega)
  obtain ⟨g, Gg⟩ : ∃ g, Hid (w2.heap.size = g) := ⟨_, rfl⟩
  have BX : Hid (∀ {j : Nat}, j < l1 → g1 < g) := fun {j} hj => by rw [← Gg.out]; exact cell_lt (CX.out j hj)
  have BY : Hid (∀ {j : Nat}, j < l2 → g2 < g) := fun {j} hj => by rw [← Gg.out]; exact cell_lt (CY.out j hj)
  have hmk := make64 (l1 + l2) (by omega) w2
  rw [show ((l1 + l2 : Nat) : Int) = (l1 : Int) + (l2 : Int) by omega, Gg.out] at hmk
  have bm := hid ((Below.refl w2.heap.size w2).alloc (Nat.le_refl _) (.cells (madeCells #[.int .u64 0] (l1 + l2)) 26))
  have gm : Own (w2.alloc (.cells (madeCells #[.int .u64 0] (l1 + l2)) 26)) w2.heap.size (List.replicate (l1 + l2) 0) := by rw [made_zero]; exact Own.alloc w2 _
  rw [Gg.out] at bm gm
  generalize w2.alloc (.cells (madeCells #[.int .u64 0] (l1 + l2)) 26) = wm at hmk bm gm
  have I0 : Hid (TimesInv g (l1 + l2) w2 (Nm.v32 (xs.take 0) * Nm.v32 ys) 0 0 (0 + l2) (List.replicate (l1 + l2) 0) wm) := ⟨gm, by simp, Nm.Halves.zeros _, by rw [Nm.v32_zeros]; simp [Nm.v32], fun t _ => getD_replicate _ _, bm.out⟩
  clear gm bm
  go_wp2_with fail
  clear hmk
  obtain ⟨K, HK⟩ : ∃ K, Hid (l1 + l2 = K) := ⟨_, rfl⟩
  have I1 := I0.out
  rw [HK.out] at I1 ⊢
  have J0 := hid I1
  clear I0 I1
  have hKb : K ≤ 4000000 := by have := HK.out; omega
  go_loopw [8] (fun i wr => ∃ (k : Nat) (ps : List Int), k ≤ l1 ∧ i = .int .i64 k ∧ Hid (TimesInv g K w2 (Nm.v32 (xs.take k) * Nm.v32 ys) 0 k (k + l2) ps wr)) (fun i _ => l1 - (intOf i).toNat)
  case atStart => exact ⟨0, _, Nat.zero_le _, rfl, J0.out⟩
  case round =>
    obtain ⟨k, ps, hk, rfl, TI⟩ := hrel
    by_cases hlt : k < l1
    · have hlt' : (k : Int) < (l1 : Int) := by omega
      obtain ⟨x, X⟩ : ∃ x, Hid (x = xs.getD k 0) := ⟨_, rfl⟩
      have hx0 : 0 ≤ x := by have := HX.out.at k; have := X.out; omega
      have hx1 : x < 4294967296 := by have := HX.out.at k; have := X.out; omega
      obtain ⟨V, HV⟩ : ∃ V, Hid (V = Nm.v32 (xs.take k) * Nm.v32 ys) := ⟨_, rfl⟩
      have TJ : Hid (TimesInv g K w2 (V + Nm.p32 k * (x * Nm.v32 (ys.take 0))) 0 (k + 0) (k + l2) ps wr) := by
        have h := TI.out
        rw [← HV.out] at h
        simp only [List.take_zero, Nm.v32, Int.mul_zero, Int.add_zero, Nat.add_zero]
        exact h
      clear TI
      go_wp2_with fail
      go_loopw [9, 10] (fun c j wr => ∃ (t : Nat) (cc : Int) (ps : List Int), t ≤ l2 ∧ j = .int .i64 t ∧ c = .int .u64 cc ∧ 0 ≤ cc ∧ cc < 4294967296 ∧ Hid (TimesInv g K w2 (V + Nm.p32 k * (x * Nm.v32 (ys.take t))) cc (k + t) (k + l2) ps wr)) (fun _ j _ => l2 - (intOf j).toNat)
      case atStart => exact ⟨0, 0, ps, Nat.zero_le _, rfl, rfl, by omega, by omega, TJ.out⟩
      case round =>
        clear TJ ps
        obtain ⟨t, cc, ps, ht, rfl, rfl, hc0, hc1, TI⟩ := hrel
        obtain ⟨o1, o2, o3, o4, o5, o6⟩ := TI.out
        by_cases htl : t < l2
        · have htl' : (t : Int) < (l2 : Int) := by omega
          have hx : wr.cell? ⟨g1, k, none⟩ = some (.int .u64 x) := by rw [X.out]; exact (o6.cell (p := ⟨g1, k, none⟩) (BX.out hlt)).trans (CX.out k hlt)
          obtain ⟨y, hy, Y⟩ : ∃ y, wr.cell? ⟨g2, t, none⟩ = some (.int .u64 y) ∧ Hid (y = ys.getD t 0) := ⟨_, (o6.cell (p := ⟨g2, t, none⟩) (BY.out htl)).trans (CY.out t htl), rfl⟩
          have hkt : k + t < K := by have := HK.out; omega
          obtain ⟨pv, hpv, PV⟩ : ∃ pv, wr.cell? ⟨g, k + t, none⟩ = some (.int .u64 pv) ∧ Hid (pv = ps.getD (k + t) 0) := ⟨_, o1.cell (k + t) (by omega), rfl⟩
          have hfr := o1.free (k + t)
          have hy0 : 0 ≤ y := by have := HY.out.at t; have := Y.out; omega
          have hy1 : y < 4294967296 := by have := HY.out.at t; have := Y.out; omega
          have hp0 : 0 ≤ pv := by have := o3.at (k + t); have := PV.out; omega
          have hp1 : pv < 4294967296 := by have := o3.at (k + t); have := PV.out; omega
          have hxy0 : 0 ≤ x * y := Int.mul_nonneg hx0 hy0
          have hxy1 : x * y ≤ 4294967295 * 4294967295 := Int.mul_le_mul (by omega) (by omega) hy0 (by omega)
          obtain ⟨m0, hm0, M0⟩ : ∃ m0, IntKind.u64.wrap (x * y) = m0 ∧ Hid (m0 = x * y) := ⟨_, by rw [IntKind.wrap_u64, Int.emod_eq_of_lt (by omega) (by omega)], rfl⟩
          have hm00 : 0 ≤ m0 := by have := M0.out; omega
          have hm01 : m0 ≤ 18446744065119617025 := by have := M0.out; omega
          obtain ⟨m1, hm1, M1⟩ : ∃ m1, IntKind.u64.wrap (m0 + pv) = m1 ∧ Hid (m1 = m0 + pv) := ⟨_, by rw [IntKind.wrap_u64, Int.emod_eq_of_lt (by omega) (by omega)], rfl⟩
          have hm10 : 0 ≤ m1 := by have := M1.out; omega
          have hm11 : m1 ≤ 18446744069414584320 := by have := M1.out; omega
          obtain ⟨tt, htt, TT⟩ : ∃ tt, IntKind.u64.wrap (m1 + cc) = tt ∧ Hid (tt = m1 + cc) := ⟨_, by rw [IntKind.wrap_u64, Int.emod_eq_of_lt (by omega) (by omega)], rfl⟩
          have htt0 : 0 ≤ tt := by have := TT.out; omega
          have htt1 : tt ≤ 18446744073709551615 := by have := TT.out; omega
          obtain ⟨lo, hlo, LO⟩ : ∃ lo, bits .and .u64 tt 4294967295 = lo ∧ Hid (lo = tt % 4294967296) := ⟨_, r_mask32 tt (by omega) (by omega), rfl⟩
          obtain ⟨hi, hhi, HI⟩ : ∃ hi, tt / 4294967296 = hi ∧ Hid (hi = tt / 4294967296) := ⟨_, rfl, rfl⟩
          have BLO : Hid ((0 ≤ lo ∧ lo < 4294967296) ∧ 0 ≤ hi ∧ hi < 4294967296) := by have := LO.out; have := HI.out; show _ ∧ _; omega
          have ST : Hid (lo + 4294967296 * hi = x * ys.getD t 0 + pv + cc) := by
            have h1 := LO.out; have h2 := HI.out; have h3 := TT.out; have h4 := M1.out; have h5 := M0.out
            rw [Hid, ← Y.out]; omega
          have O1 := hid o1
          have O2 := hid o2
          have O3 := hid o3
          have O4 := hid o4
          have O5 := hid o5
          have O6 := hid o6
          have hkt' : (k : Int) + (t : Int) < (K : Int) := by omega
          clear o1 o2 o3 o4 o5 o6 TI hxy0 hxy1
          go_wp2_with fail
          go_quiet (fail)
          have hpv2 : (wr.drewN nq).cell? ⟨g, k + t, none⟩ = some (.int .u64 pv) := hpv
          have hfr2 : (wr.drewN nq).frozen? ⟨g, k + t, none⟩ = false := hfr
          have P1 : Hid (Own (wr.drewN nq) g ps) := O1.out
          have P6 := hid (below_drewN O6.out nq)
          clear hx hy hpv hfr O1 O6
          generalize wr.drewN nq = wq at *
          go_wp2
          go_roundw
          case rel =>
            refine ⟨t + 1, hi, ps.set (k + t) lo, by omega, by go_num, by first | rfl | rw [hhi], BLO.out.2.1, BLO.out.2.2, P1.out.set _ _, by rw [List.length_set]; exact O2.out, O3.out.set _ BLO.out.1.1 BLO.out.1.2, ?_, ?_, P6.out.setCell (Nat.le_refl _) _⟩
            · exact Nm.times_digit (by have := O2.out; omega) PV.out O4.out ST.out
            · intro s hs
              rw [Nm.getD_set ps (k + t) s lo (by have := O2.out; omega), if_neg (by omega)]
              exact O5.out s hs
          case measure => simp [intOf]; omega
        · have htl' : ¬ (t : Int) < (l2 : Int) := by omega
          obtain rfl : t = l2 := by omega
          rw [List.take_of_length_le (by have := LY.out; omega)] at o4
          have hkt : k + t < K := by have := HK.out; omega
          obtain ⟨pv, hpv⟩ : ∃ pv, wr.cell? ⟨g, k + t, none⟩ = some (.int .u64 pv) := ⟨_, o1.cell (k + t) (by omega)⟩
          have hfr := o1.free (k + t)
          have Z0 := o5 (k + t) (Nat.le_refl _)
          have NX : Hid (TimesInv g K w2 (Nm.v32 (xs.take (k + 1)) * Nm.v32 ys) 0 (k + 1) (k + 1 + t) (ps.set (k + t) cc) (wr.setCell ⟨g, k + t, none⟩ (.int .u64 cc))) := by
            refine ⟨o1.set _ _, by rw [List.length_set]; exact o2, o3.set _ hc0 hc1, ?_, ?_, o6.setCell (Nat.le_refl _) _⟩
            · rw [Nm.v32_set ps (k + t) cc (by omega), Z0, Nm.v32_take_next, ← X.out, Int.add_mul, ← HV.out, Int.mul_zero, Int.add_zero, Int.sub_zero, Int.mul_assoc]
              exact o4
            · intro s hs
              rw [Nm.getD_set ps (k + t) s cc (by omega), if_neg (by omega)]
              exact o5 s (by omega)
          have hkt' : (k : Int) + (t : Int) < (K : Int) := by omega
          clear o1 o2 o3 o4 o5 o6 TI Z0
          go_wp2
          go_roundw
          case rel => exact ⟨k + 1, _, by omega, by go_num, NX.out⟩
          case measure => simp [intOf]; omega
    · have hlt' : ¬ (k : Int) < (l1 : Int) := by omega
      obtain rfl : k = l1 := by omega
      obtain ⟨o1, o2, o3, o4, o5, o6⟩ := TI.out
      rw [List.take_of_length_le (by have := LX.out; omega), VX.out, VY.out, Int.mul_zero, Int.add_zero] at o4
      have D3 := hid (chain D2.out (by rw [Gg.out]; exact o6) (Nat.le_refl _))
      obtain ⟨H, HH⟩ : ∃ H, Hid (K = 2 * H) := ⟨N1 + N2, by show _ = _; have := HK.out; have := HL1.out; have := HL2.out; omega⟩
      have r1 : (K : Int) / 2 = (H : Int) := by have := HH.out; omega
      have r2 : (K : Int).tdiv 2 = (H : Int) := by rw [Int.tdiv_eq_ediv_of_nonneg (by omega)]; exact r1
      have hH : H ≤ 2000000 := by have := HH.out; omega
      have hmk := make64 H (by omega) wr
      have hb8 : Below wr.heap.size wr (wr.alloc (.cells (madeCells #[.int .u64 0] H) 26)) := (Below.refl _ _).alloc (Nat.le_refl _) _
      have ho8 : Own (wr.alloc (.cells (madeCells #[.int .u64 0] H) 26)) wr.heap.size (List.replicate H 0) := by rw [made_zero]; exact Own.alloc wr _
      obtain ⟨W0, hW0⟩ : ∃ W0, wr.alloc (.cells (madeCells #[.int .u64 0] H) 26) = W0 := ⟨_, rfl⟩
      rw [hW0] at hmk hb8 ho8
      clear hW0
      obtain ⟨gq, hgq⟩ : ∃ gq, wr.heap.size = gq := ⟨_, rfl⟩
      rw [hgq] at hmk hb8 ho8
      have hglt : g < gq := by rw [← hgq]; exact o1.lt
      have JI : Hid (JoinInv gq H wr ps 0 (List.replicate H 0) W0) := ⟨ho8, by simp, Nm.Limbs.replicate _, by rw [Nm.val_replicate]; simp [Nm.v32], fun i _ => getD_replicate _ _, hb8⟩
      have OP := hid o1
      have OL := hid o2
      have OH := hid o3
      have OV := hid o4
      have HGQ := hid hgq
      clear o1 o2 o3 o4 o5 o6 TI hb8 ho8 hgq
      generalize wr = wz at *
      go_wp2_with fail
      go_loopw [13] (fun i wx => ∃ (j : Nat) (os : List Int), j ≤ H ∧ i = .int .i64 j ∧ Hid (JoinInv gq H wz ps j os wx)) (fun i _ => H - (intOf i).toNat)
      case atStart => exact ⟨0, _, Nat.zero_le _, rfl, JI.out⟩
      case round =>
        clear JI hmk r1 r2
        obtain ⟨j, os, hj, rfl, I⟩ := hrel
        by_cases hlt : j < H
        · have hb := I.out.2.2.2.2.2
          obtain ⟨x, hx, X⟩ : ∃ x, wr.cell? ⟨g, 2 * j, none⟩ = some (.int .u64 x) ∧ Hid (x = ps.getD (2 * j) 0) := ⟨_, (hb.cell (p := ⟨g, 2 * j, none⟩) hglt).trans (OP.out.cell (2 * j) (by have := OL.out; have := HH.out; omega)), rfl⟩
          obtain ⟨y, hy, Y⟩ : ∃ y, wr.cell? ⟨g, 2 * j + 1, none⟩ = some (.int .u64 y) ∧ Hid (y = ps.getD (2 * j + 1) 0) := ⟨_, (hb.cell (p := ⟨g, 2 * j + 1, none⟩) hglt).trans (OP.out.cell (2 * j + 1) (by have := OL.out; have := HH.out; omega)), rfl⟩
          have hx0 := OH.out.at (2 * j)
          rw [← X.out] at hx0
          have hy0 := OH.out.at (2 * j + 1)
          rw [← Y.out] at hy0
          obtain ⟨hx0, hx1⟩ := hx0
          obtain ⟨hy0, hy1⟩ := hy0
          obtain ⟨q1, q2⟩ := or32 x y hx0 hx1 hy0 hy1
          obtain ⟨v, hv⟩ : ∃ v, y * 4294967296 = v := ⟨_, rfl⟩
          obtain ⟨z, hz⟩ : ∃ z, x + 4294967296 * y = z := ⟨_, rfl⟩
          rw [hv] at q1 q2
          rw [hz] at q2
          have ST : Hid (∀ wq, Below wr.heap.size wr wq → JoinInv gq H wz ps (j + 1) (os.set j z) (wq.setCell ⟨gq, j, none⟩ (.int .u64 z))) := fun wq hb => I.out.step hb hlt X.out Y.out hz.symm (by omega) (by omega)
          obtain ⟨y0, hyc⟩ : ∃ y, wr.cell? ⟨gq, j, none⟩ = some (.int .u64 y) := ⟨_, I.out.1.cell j (by have := I.out.2.1; omega)⟩
          have hfr := I.out.1.free j
          have hjH : (j : Int) < (H : Int) := by omega
          have hj2 : 2 * (j : Int) < (K : Int) := by have := HH.out; omega
          have hj3 : 2 * (j : Int) + 1 < (K : Int) := by have := HH.out; omega
          have hv0 : 0 ≤ v := by omega
          have hv1 : v < 18446744073709551616 := by omega
          have HV := hid hv
          clear hb hz hv I
          have q0 : IntKind.u64.wrap (y * 4294967296) = v := by rw [HV.out]; exact q1
          go_wp2_with fail
          go_region
          all_goals
            go_wp2
            go_roundw
            case rel => exact ⟨j + 1, _, by omega, by go_num, ST.out _ (below_drewN (Below.refl _ _) _)⟩
            case measure => simp [intOf]; omega
        · have hjH : j = H := by omega
          subst hjH
          obtain ⟨i1, i2, i3, i4, i5, i6⟩ := I.out
          rw [List.take_of_length_le (by have := OL.out; have := HH.out; omega), OV.out] at i4
          have D5 := hid (chain D3.out (by rw [HGQ.out]; exact i6) (Nat.le_refl _))
          have P1 := hid i1
          have P2 := hid i2
          have P3 := hid i3
          have P4 := hid i4
          clear i1 i2 i3 i4 i5 i6 I
          go_wp2_with fail
          refine (short_some (some ⟨gq, 0, none⟩) j j os _ P2.out (by omega) P1.out.lies P3.out).mono ?_
          rintro e w9 ⟨r, us, rfl, -, A9, d9⟩
          rw [P4.out] at A9
          have A10 := hid (A9.up (B' := w.heap.size) D5.out.size)
          have D10 := hid (chain D5.out d9 (Nat.le_refl _))
          clear A9 d9
          go_wp2_with fail
          go_ret
          exact ⟨r, us, rfl, A10.out, D10.out⟩
end Go.Proofs.YtonnlimmjelldaaGreatDoor

namespace Go.Proofs.YtonnlimmjelldaaGreatDoor
open Go.RowKit Go.Deep

/-- Behind j limbs of a: the block holds the product of these and b. -/
def ProdInv (g k : Nat) (w : World) (ls bs : List Int) (j : Nat) (os : List Int) (wr : World) : Prop :=
  Own wr g os ∧ os.length = k ∧ Nm.Limbs os ∧ Nm.val os = Nm.val (ls.take j) * Nm.val bs ∧ Below g w wr

theorem ProdInv.step {g k : Nat} {w : World} {ls bs : List Int} {j : Nat} {os : List Int} {wr w' : World} {n : Nat} (hn : bs.length = n) (ha : Nm.Limbs ls) (hb : Nm.Limbs bs) (h : ProdInv g k w ls bs j os wr) (hj : j < ls.length) (hk : j + n < k) {c x : Int} {us : List Int}
    (hx : x = ls.getD j 0) (hm : MulInv g k (j + n) wr os (Nm.val os + Nm.pw j * (Nm.val bs * x)) (j + n) c us w') :
    ProdInv g k w ls bs (j + 1) (us.set (j + n) c) (w'.setCell ⟨g, j + n, none⟩ (.int .u64 c)) := by
  subst hn
  obtain ⟨h1, h2, h3, h4, h5⟩ := h
  obtain ⟨⟨m1, m2, m3, m4, m5, m6⟩, m7, m8⟩ := hm
  have hv : Nm.val os < Nm.pw (j + bs.length) := by
    rw [h4, Nm.pw_add]
    have e1 := Nm.val_bd _ (ha.take j)
    rw [List.length_take, Nat.min_eq_left (by omega)] at e1
    have e2 := Nm.val_bd _ hb
    have e3 : Nm.val (ls.take j) * Nm.val bs ≤ Nm.pw j * Nm.val bs := Int.mul_le_mul_of_nonneg_right (by omega) e2.1
    have e4 : Nm.pw j * (Nm.val bs + 1) ≤ Nm.pw j * Nm.pw bs.length := Int.mul_le_mul_of_nonneg_left (by omega) (by have := Nm.pw_pos j; omega)
    have e5 := Nm.pw_pos j
    rw [Int.mul_add, Int.mul_one] at e4
    omega
  have h0 : us.getD (j + bs.length) 0 = 0 := by rw [m8 _ (Nat.le_refl _)]; exact Nm.zero_of_lt h3 hv _ (Nat.le_refl _)
  refine ⟨m1.set _ _, by simpa using m2, m3.set _ m7.1 m7.2, ?_, h5.trans (m5.setCell (Nat.le_refl _) _)⟩
  rw [Nm.val_set _ _ _ (by omega), h0, Int.sub_zero, m4, h4, hx, Nm.val_take_succ ls j hj, Int.add_mul, Int.mul_assoc, Int.mul_comm (ls.getD j 0)]

theorem prod_bound {zs ys : List Int} (hz : Nm.Limbs zs) (hy : Nm.Limbs ys) (h : Nm.val zs * Nm.val ys < Nm.pw 4096) (h1 : 0 < Nm.tsize zs) (h2 : 0 < Nm.tsize ys) : Nm.tsize zs + Nm.tsize ys ≤ 4097 := by
  have e1 := Nm.val_ge_top hz h1
  have e2 := Nm.val_ge_top hy h2
  have e3 : Nm.pw (Nm.tsize zs - 1) * Nm.pw (Nm.tsize ys - 1) ≤ Nm.val zs * Nm.val ys := Int.mul_le_mul e1 e2 (Int.le_of_lt (Nm.pw_pos _)) (by have := (Nm.val_bd zs hz).1; omega)
  rw [← Nm.pw_add] at e3
  rcases Nat.lt_or_ge (Nm.tsize zs - 1 + (Nm.tsize ys - 1)) 4096 with e | e
  · omega
  · have := Nm.pw_mono e
    omega

set_option maxRecDepth 100000 in
set_option maxHeartbeats 1000000 in
theorem mul_ok (p q : Option Addr) (n cap m cap' : Nat) (zs ys : List Int) (w : World) (ha : Arg w p n cap zs) (hb : Arg w q m cap' ys) (tz : Nm.tsize zs ≤ 4096) (ty : Nm.tsize ys ≤ 4096) (hs : Nm.val zs * Nm.val ys < Nm.pw 4096) :
    Calls Tryz.prog 76 #[.slice p n cap, .slice q m cap'] w fun e w' => ∃ r os, e = .returned (.tuple #[.slice r (List.length os) (List.length os), .int .i64 0]) ∧ Ans w.heap.size w' r os (Nm.val zs * Nm.val ys) ∧ Below w.heap.size w w' := by
  obtain ⟨a1, a2, a3, a4, a5⟩ := ha
  obtain ⟨b1, b2, b3, b4, b5⟩ := hb
  have HS : Hid (Nm.val zs * Nm.val ys < Nm.pw 4096) := hs
  clear hs
  have nil : Nm.val zs * Nm.val ys = 0 → Ans w.heap.size w none [] (Nm.val zs * Nm.val ys) := fun h => ⟨Lies.nil _ _, Nm.Limbs.nil, rfl, by simp [Nm.val, h], fun a h => by cases h⟩
  by_cases h1 : Nm.tsize zs = 0
  · have h1' : ((Nm.tsize zs : Int) == 0) = true := by simp [h1]
    have NIL := hid (nil (by rw [(Nm.tsize_zero_iff a5).1 h1, Int.zero_mul]))
    clear nil h1
    go_enter Tryz.func76, Tryz.ntmps76
    go_wp2_with fail
    refine (pair_ok p q n cap m cap' zs ys _ a1 a2 (by omega) a4 tz b1 b2 (by omega) b4 ty).mono ?_
    rintro e w' ⟨rfl, rfl⟩
    go_wp2_with fail
    go_ret2
    exact ⟨none, [], rfl, NIL.out, Below.refl _ _⟩
  have h1' : ((Nm.tsize zs : Int) == 0) = false := by simp [h1]
  by_cases h2 : Nm.tsize ys = 0
  · have h2' : ((Nm.tsize ys : Int) == 0) = true := by simp [h2]
    have NIL := hid (nil (by rw [(Nm.tsize_zero_iff b5).1 h2, Int.mul_zero]))
    clear nil h1 h2
    go_enter Tryz.func76, Tryz.ntmps76
    go_wp2_with fail
    refine (pair_ok p q n cap m cap' zs ys _ a1 a2 (by omega) a4 tz b1 b2 (by omega) b4 ty).mono ?_
    rintro e w' ⟨rfl, rfl⟩
    go_wp2_with fail
    go_ret2
    exact ⟨none, [], rfl, NIL.out, Below.refl _ _⟩
  have h2' : ((Nm.tsize ys : Int) == 0) = false := by simp [h2]
  clear nil
  have hsum := prod_bound a5 b5 HS.out (by omega) (by omega)
  have hsum' : (Nm.tsize zs : Int) + (Nm.tsize ys : Int) ≤ 4097 := by omega
  have hmk := make64 (Nm.tsize zs + Nm.tsize ys) (by omega) w
  have em : ((Nm.tsize zs + Nm.tsize ys : Nat) : Int) = (Nm.tsize zs : Int) + (Nm.tsize ys : Int) := by omega
  rw [em] at hmk
  clear em
  have ho : Own (w.alloc (.cells (madeCells #[.int .u64 0] (Nm.tsize zs + Nm.tsize ys)) 26)) w.heap.size (List.replicate (Nm.tsize zs + Nm.tsize ys) 0) := by
    rw [made_zero]; exact Own.alloc w _
  have hb0 : Below w.heap.size w (w.alloc (.cells (madeCells #[.int .u64 0] (Nm.tsize zs + Nm.tsize ys)) 26)) := (Below.refl _ _).alloc (Nat.le_refl _) _
  have I0 : ProdInv w.heap.size (Nm.tsize zs + Nm.tsize ys) w (Nm.trim zs) (Nm.trim ys) 0 (List.replicate (Nm.tsize zs + Nm.tsize ys) 0) (w.alloc (.cells (madeCells #[.int .u64 0] (Nm.tsize zs + Nm.tsize ys)) 26)) :=
    ⟨ho, by simp, Nm.Limbs.replicate _, by simp [Nm.val_replicate, Nm.val], hb0⟩
  clear ho hb0
  have hsum2 : decide (4096 < (Nm.tsize zs : Int) + (Nm.tsize ys : Int) - 1) = false := by simp; omega
  have A4 := hid a4.trim
  have B4 := hid b4.trim
  obtain ⟨b, off, rfl, hcell⟩ : ∃ b off, p = some ⟨b, off, none⟩ ∧ Hid (∀ i, i < Nm.tsize zs → w.cell? ⟨b, off + i, none⟩ = some (.int .u64 ((Nm.trim zs).getD i 0))) := by
    have hlen := Nm.trim_length zs
    rcases A4.out with h | ⟨b, off, hp, h⟩
    · exfalso
      rw [h] at hlen
      simp at hlen
      omega
    · exact ⟨b, off, hp, fun i hi => h i (by rw [hlen]; exact hi)⟩
  have hbg : b < w.heap.size := cell_lt (hcell.out 0 (by omega))
  have A5 := hid a5.trim
  have B5 := hid b5.trim
  go_enter Tryz.func76, Tryz.ntmps76
  go_wp2_with fail
  refine (pair_ok (some ⟨b, off, none⟩) q n cap m cap' zs ys _ a1 a2 (by omega) a4 tz b1 b2 (by omega) b4 ty).mono ?_
  rintro e w' ⟨rfl, rfl⟩
  clear a4 b4
  go_wp2_with fail
  go_loopw [43] (fun i wr => ∃ (j : Nat) (os : List Int), j ≤ Nm.tsize zs ∧ i = .int .i64 j ∧ ProdInv w'.heap.size (Nm.tsize zs + Nm.tsize ys) w' (Nm.trim zs) (Nm.trim ys) j os wr) (fun i _ => Nm.tsize zs - (intOf i).toNat)
  case atStart => exact ⟨0, _, Nat.zero_le _, rfl, I0⟩
  case round =>
    clear I0 hmk
    obtain ⟨j, os, hj, rfl, I⟩ := hrel
    by_cases hlt : j < Nm.tsize zs
    · obtain ⟨x, hx, X⟩ : ∃ x, wr.cell? ⟨b, off + j, none⟩ = some (.int .u64 x) ∧ Hid (x = (Nm.trim zs).getD j 0) := ⟨_, (I.2.2.2.2.cell (p := ⟨b, off + j, none⟩) hbg).trans (hcell.out j hlt), rfl⟩
      have hx0 := A5.out.at j
      rw [show (Nm.trim zs).getD j 0 = x from X.out.symm] at hx0
      obtain ⟨hx0, hx1⟩ := hx0
      go_wp2_with fail
      refine (addTimes_any w'.heap.size (Nm.tsize zs + Nm.tsize ys) j (Nm.tsize ys) _ os q _ (Nm.trim ys) x _ I.2.1 (by omega) I.1 I.2.2.1 (Nm.trim_length ys) (by omega) (B4.out.below I.2.2.2.2 (Nat.le_refl _)) B5.out (fun h0 => B4.out.lt h0) hx0 hx1).mono ?_
      rintro e w2 ⟨c, us, rfl, M⟩
      have I2 := I.step (Nm.trim_length ys) A5.out B5.out (by rw [Nm.trim_length]; exact hlt) (by omega) X.out M
      obtain ⟨y, hy⟩ : ∃ y, w2.cell? ⟨w'.heap.size, j + Nm.tsize ys, none⟩ = some (.int .u64 y) := ⟨_, M.1.1.cell _ (by have := M.1.2.1; omega)⟩
      have hfr := M.1.1.free (j + Nm.tsize ys)
      clear M
      go_wp2
      go_roundw
      case rel => exact ⟨j + 1, _, by omega, by go_num, I2⟩
      case measure => simp [intOf]; omega
    · have hjn : j = Nm.tsize zs := by omega
      subst hjn
      have E := I.2.2.2.1
      rw [List.take_of_length_le (by rw [Nm.trim_length]; omega), Nm.val_trim, Nm.val_trim] at E
      have EE := hid E
      clear E
      go_wp2_with fail
      refine (limited_own w'.heap.size (Nm.tsize zs + Nm.tsize ys) os _ I.2.1 (by omega) I.1 I.2.2.1 w'.heap.size (Nat.le_refl _) (by rw [EE.out]; exact HS.out)).mono ?_
      rintro e w3 ⟨r, xs, rfl, hans, rfl⟩
      rw [EE.out] at hans
      have HA := hid hans
      clear hans
      have HB := hid I.2.2.2.2
      clear I
      go_wp2_with fail
      go_ret2
      exact ⟨r, xs, rfl, HA.out, HB.out⟩
end Go.Proofs.YtonnlimmjelldaaGreatDoor

namespace Go.Proofs.YtonnlimmjelldaaGreatDoor
open Go.RowKit Go.Deep

set_option maxRecDepth 100000 in
set_option maxHeartbeats 1000000 in
theorem mul_over (p q : Option Addr) (n cap m cap' : Nat) (zs ys : List Int) (w : World) (ha : Arg w p n cap zs) (hb : Arg w q m cap' ys) (tz : Nm.tsize zs ≤ 4096) (ty : Nm.tsize ys ≤ 4096) (hs : Nm.pw 4096 ≤ Nm.val zs * Nm.val ys) :
    Calls Tryz.prog 76 #[.slice p n cap, .slice q m cap'] w fun e w' => e = .returned (.tuple #[.slice none 0 0, .int .i64 2]) ∧ Below w.heap.size w w' := by
  obtain ⟨a1, a2, a3, a4, a5⟩ := ha
  obtain ⟨b1, b2, b3, b4, b5⟩ := hb
  have HS := hid hs
  clear hs
  have hp := Nm.pw_pos 4096
  have h1 : Nm.tsize zs ≠ 0 := fun h => by
    have e := (Nm.tsize_zero_iff a5).1 h
    have := HS.out
    rw [e, Int.zero_mul] at this
    omega
  have h2 : Nm.tsize ys ≠ 0 := fun h => by
    have e := (Nm.tsize_zero_iff b5).1 h
    have := HS.out
    rw [e, Int.mul_zero] at this
    omega
  have h1' : ((Nm.tsize zs : Int) == 0) = false := by simp [h1]
  have h2' : ((Nm.tsize ys : Int) == 0) = false := by simp [h2]
  clear hp
  by_cases hearly : 4097 < Nm.tsize zs + Nm.tsize ys
  · have he : (4096 : Int) < (Nm.tsize zs : Int) + (Nm.tsize ys : Int) - 1 := by omega
    go_enter Tryz.func76, Tryz.ntmps76
    go_wp2_with fail
    refine (pair_ok p q n cap m cap' zs ys _ a1 a2 (by omega) a4 tz b1 b2 (by omega) b4 ty).mono ?_
    rintro e w' ⟨rfl, rfl⟩
    go_wp2_with fail
    go_ret2
    exact ⟨rfl, Below.refl _ _⟩
  have hsum' : (Nm.tsize zs : Int) + (Nm.tsize ys : Int) ≤ 4097 := by omega
  have hmk := make64 (Nm.tsize zs + Nm.tsize ys) (by omega) w
  have em : ((Nm.tsize zs + Nm.tsize ys : Nat) : Int) = (Nm.tsize zs : Int) + (Nm.tsize ys : Int) := by omega
  rw [em] at hmk
  clear em
  have ho : Own (w.alloc (.cells (madeCells #[.int .u64 0] (Nm.tsize zs + Nm.tsize ys)) 26)) w.heap.size (List.replicate (Nm.tsize zs + Nm.tsize ys) 0) := by
    rw [made_zero]; exact Own.alloc w _
  have hb0 : Below w.heap.size w (w.alloc (.cells (madeCells #[.int .u64 0] (Nm.tsize zs + Nm.tsize ys)) 26)) := (Below.refl _ _).alloc (Nat.le_refl _) _
  have I0 : ProdInv w.heap.size (Nm.tsize zs + Nm.tsize ys) w (Nm.trim zs) (Nm.trim ys) 0 (List.replicate (Nm.tsize zs + Nm.tsize ys) 0) (w.alloc (.cells (madeCells #[.int .u64 0] (Nm.tsize zs + Nm.tsize ys)) 26)) :=
    ⟨ho, by simp, Nm.Limbs.replicate _, by simp [Nm.val_replicate, Nm.val], hb0⟩
  clear ho hb0
  have hsum2 : decide (4096 < (Nm.tsize zs : Int) + (Nm.tsize ys : Int) - 1) = false := by simp; omega
  have A4 := hid a4.trim
  have B4 := hid b4.trim
  obtain ⟨b, off, rfl, hcell⟩ : ∃ b off, p = some ⟨b, off, none⟩ ∧ Hid (∀ i, i < Nm.tsize zs → w.cell? ⟨b, off + i, none⟩ = some (.int .u64 ((Nm.trim zs).getD i 0))) := by
    have hlen := Nm.trim_length zs
    rcases A4.out with h | ⟨b, off, hp, h⟩
    · exfalso
      rw [h] at hlen
      simp at hlen
      omega
    · exact ⟨b, off, hp, fun i hi => h i (by rw [hlen]; exact hi)⟩
  have hbg : b < w.heap.size := cell_lt (hcell.out 0 (by omega))
  have A5 := hid a5.trim
  have B5 := hid b5.trim
  go_enter Tryz.func76, Tryz.ntmps76
  go_wp2_with fail
  refine (pair_ok (some ⟨b, off, none⟩) q n cap m cap' zs ys _ a1 a2 (by omega) a4 tz b1 b2 (by omega) b4 ty).mono ?_
  rintro e w' ⟨rfl, rfl⟩
  clear a4 b4
  go_wp2_with fail
  go_loopw [43] (fun i wr => ∃ (j : Nat) (os : List Int), j ≤ Nm.tsize zs ∧ i = .int .i64 j ∧ ProdInv w'.heap.size (Nm.tsize zs + Nm.tsize ys) w' (Nm.trim zs) (Nm.trim ys) j os wr) (fun i _ => Nm.tsize zs - (intOf i).toNat)
  case atStart => exact ⟨0, _, Nat.zero_le _, rfl, I0⟩
  case round =>
    clear I0 hmk
    obtain ⟨j, os, hj, rfl, I⟩ := hrel
    by_cases hlt : j < Nm.tsize zs
    · obtain ⟨x, hx, X⟩ : ∃ x, wr.cell? ⟨b, off + j, none⟩ = some (.int .u64 x) ∧ Hid (x = (Nm.trim zs).getD j 0) := ⟨_, (I.2.2.2.2.cell (p := ⟨b, off + j, none⟩) hbg).trans (hcell.out j hlt), rfl⟩
      have hx0 := A5.out.at j
      rw [show (Nm.trim zs).getD j 0 = x from X.out.symm] at hx0
      obtain ⟨hx0, hx1⟩ := hx0
      go_wp2_with fail
      refine (addTimes_any w'.heap.size (Nm.tsize zs + Nm.tsize ys) j (Nm.tsize ys) _ os q _ (Nm.trim ys) x _ I.2.1 (by omega) I.1 I.2.2.1 (Nm.trim_length ys) (by omega) (B4.out.below I.2.2.2.2 (Nat.le_refl _)) B5.out (fun h0 => B4.out.lt h0) hx0 hx1).mono ?_
      rintro e w2 ⟨c, us, rfl, M⟩
      have I2 := I.step (Nm.trim_length ys) A5.out B5.out (by rw [Nm.trim_length]; exact hlt) (by omega) X.out M
      obtain ⟨y, hy⟩ : ∃ y, w2.cell? ⟨w'.heap.size, j + Nm.tsize ys, none⟩ = some (.int .u64 y) := ⟨_, M.1.1.cell _ (by have := M.1.2.1; omega)⟩
      have hfr := M.1.1.free (j + Nm.tsize ys)
      clear M
      go_wp2
      go_roundw
      case rel => exact ⟨j + 1, _, by omega, by go_num, I2⟩
      case measure => simp [intOf]; omega
    · have hjn : j = Nm.tsize zs := by omega
      subst hjn
      have E := I.2.2.2.1
      rw [List.take_of_length_le (by rw [Nm.trim_length]; omega), Nm.val_trim, Nm.val_trim] at E
      have EE := hid E
      clear E
      go_wp2_with fail
      refine (limited_own_big w'.heap.size (Nm.tsize zs + Nm.tsize ys) os _ I.2.1 (by omega) I.1 I.2.2.1 (by rw [EE.out]; exact HS.out)).mono ?_
      rintro e w3 ⟨rfl, rfl⟩
      have HB := hid I.2.2.2.2
      clear I
      go_wp2_with fail
      go_ret2
      exact ⟨rfl, HB.out⟩
end Go.Proofs.YtonnlimmjelldaaGreatDoor

namespace Go.Proofs.YtonnlimmjelldaaGreatDoor
open Go.RowKit Go.Deep

/-- A number, or that it is too big. -/
def Gives (T : Int) (w : World) (e : Ending) (w' : World) : Prop :=
  ((T < Nm.pw 4096 ∧ ∃ r os, e = .returned (.tuple #[.slice r (List.length os) (List.length os), .int .i64 0]) ∧ Ans w.heap.size w' r os T) ∨ (Nm.pw 4096 ≤ T ∧ e = .returned (.tuple #[.slice none 0 0, .int .i64 2]))) ∧ Below w.heap.size w w'

theorem Ans.argT {B : Nat} {w : World} {p : Option Addr} {ys : List Int} {n : Int} (h : Ans B w p ys n) (hn : n < Nm.pw 4096) : Arg w p ys.length ys.length ys :=
  h.arg (by have := h.small hn; omega)

theorem Ans.tsT {B : Nat} {w : World} {p : Option Addr} {ys : List Int} {n : Int} (h : Ans B w p ys n) (hn : n < Nm.pw 4096) : Nm.tsize ys ≤ 4096 := by
  rw [h.2.2.1]
  exact h.small hn

theorem Ans.upT {B B' : Nat} {w : World} {p : Option Addr} {ys : List Int} {n : Int} (h : Ans B w p ys n) (hB : B' ≤ B) : Ans B' w p ys n :=
  ⟨h.1, h.2.1, h.2.2.1, h.2.2.2.1, fun a ha => Nat.le_trans hB (h.2.2.2.2 a ha)⟩

theorem mul_gives (p q : Option Addr) (n cap m cap' : Nat) (zs ys : List Int) (T : Int) (w : World) (ha : Arg w p n cap zs) (hb : Arg w q m cap' ys) (tz : Nm.tsize zs ≤ 4096) (ty : Nm.tsize ys ≤ 4096) (hT : Nm.val zs * Nm.val ys = T) :
    Calls Tryz.prog 76 #[.slice p n cap, .slice q m cap'] w fun e w' => Gives T w e w' := by
  by_cases h : T < Nm.pw 4096
  · refine (mul_ok p q n cap m cap' zs ys w ha hb tz ty (by rw [hT]; exact h)).mono ?_
    rintro e w' ⟨r, os, rfl, A, hb⟩
    rw [hT] at A
    exact ⟨.inl ⟨h, r, os, rfl, A⟩, hb⟩
  · refine (mul_over p q n cap m cap' zs ys w ha hb tz ty (by rw [hT]; exact Int.not_lt.1 h)).mono ?_
    rintro e w' ⟨rfl, hb⟩
    exact ⟨.inr ⟨Int.not_lt.1 h, rfl⟩, hb⟩

theorem limbs_isT (p : Option Addr) (n cap : Nat) (zs : List Int) (N : Nat) (w : World) (ha : Arg w p n cap zs) (hN : Nm.tsize zs = N) :
    Calls Tryz.prog 141 #[.slice p n cap] w fun e w' => e = .returned (.int .i64 (N : Int)) ∧ w' = w := by
  rw [← hN]
  exact limbs_any p n cap zs w ha

theorem bitLen_isT (L : Nat) (p : Option Addr) (n cap : Nat) (zs : List Int) (w : World) (ha : Arg w p n cap zs) (hb : blen zs = (L : Int)) :
    Calls Tryz.prog 101 #[.slice p n cap] w fun e w' => e = .returned (.int .i64 (L : Int)) ∧ w' = w := by
  rw [← hb]
  exact bitLen_any p n cap zs w ha
end Go.Proofs.YtonnlimmjelldaaGreatDoor

namespace Go.Proofs.YtonnlimmjelldaaGreatDoor
open Go.RowKit Go.Deep

theorem len_any (x : Int) (l : Nat) (w : World) (h0 : 0 ≤ x) (h1 : x < 18446744073709551616) (hl : Lib.bitLen x.toNat = l) :
    Calls Tryz.prog 167 #[.int .u64 x] w fun e w' => e = .returned (.int .i64 (l : Int)) ∧ w' = w := by
  have L := len64 x w h0 h1
  rw [hl] at L
  have HL := hid L
  clear L hl
  go_enter Tryz.func167, Tryz.ntmps167
  go_wp2_with fail
  refine HL.out.mono ?_
  rintro e w' ⟨rfl, rfl⟩
  go_wp2_with fail
  go_ret
  exact ⟨rfl, rfl⟩

theorem one_bit_i64 (x : Nat) (h1 : x < 9223372036854775808) : bits .and .i64 (x : Int) 1 = ((x % 2 : Nat) : Int) := by
  have h : x &&& 1 = x % 2 := Nat.and_two_pow_sub_one_eq_mod x 1
  have e1 : (BitVec.ofInt 64 (x : Int)).toNat = x := by
    rw [BitVec.ofInt_natCast, BitVec.toNat_ofNat]; exact Nat.mod_eq_of_lt (by omega)
  have e2 : (BitVec.ofInt 64 (1 : Int)).toNat = 1 := by decide
  show IntKind.i64.wrap ((BitVec.ofInt 64 (x : Int) &&& BitVec.ofInt 64 (1 : Int)).toNat : Int) = _
  rw [BitVec.toNat_and, e1, e2, h]
  have : x % 2 < 2 := Nat.mod_lt _ (by omega)
  rw [IntKind.wrap_i64]
  omega

/-- The length of an exponent. -/
theorem exp_len (n : Nat) (h1 : 1 ≤ n) (h2 : n < 18446744073709551616) : ∃ j, Lib.bitLen n = j + 1 ∧ n / 2 ^ j = 1 ∧ j ≤ 63 := by
  have hb := Lib.bitLenAux_bounds 64 n (by simpa using h2) (by omega)
  rw [show Lib.bitLenAux 64 n = Lib.bitLen n from rfl] at hb
  have hs := bitLen_small n h2
  obtain ⟨j, hj⟩ : ∃ j, Lib.bitLen n = j + 1 := ⟨Lib.bitLen n - 1, by omega⟩
  rw [hj, Nat.add_sub_cancel] at hb
  refine ⟨j, hj, ?_, by omega⟩
  have p1 : 0 < 2 ^ j := Nat.pow_pos (by omega)
  rw [Nat.pow_succ] at hb
  exact Nat.div_eq_of_lt_le (by omega) (by omega)

set_option maxRecDepth 100000 in
set_option maxHeartbeats 2000000 in
theorem power_any (p : Option Addr) (m cap : Nat) (zs : List Int) (A : Int) (n : Nat) (w : World) (ha : Arg w p m cap zs) (tz : Nm.tsize zs ≤ 4096) (hA : Nm.val zs = A) (hA1 : 1 ≤ A) (h1 : 1 ≤ n) (h2 : n < 4611686018427387904) :
    Calls Tryz.prog 143 #[.slice p m cap, .int .i64 (n : Int)] w fun e w' => Gives (A ^ n) w e w' := by
  obtain ⟨j0, hj0, hj1, hj63⟩ := exp_len n h1 (by omega)
  have TR := hid (trim_any p m cap zs w ha)
  have HA := hid ha
  have HAs : Hid (A < Nm.pw 4096) := by show _ < _; rw [← hA]; exact (Nm.tsize_le_iff ha.2.2.2.2 4096).1 tz
  have HVA := hid hA
  have HT := hid tz
  have HA1 := hid hA1
  have HJ1 := hid hj1
  have hn0 : (0 : Int) ≤ (n : Int) := by omega
  have hn1 : (n : Int) < 4611686018427387904 := by omega
  have HL := hid hj0
  obtain ⟨l, hl⟩ : ∃ l, l = j0 + 1 := ⟨_, rfl⟩
  have rl : (l : Int) - 2 = (j0 : Int) - 1 := by omega
  have HLL := hid hl
  have hl64 : (l : Int) ≤ 64 := by omega
  have hl1 : (1 : Int) ≤ (l : Int) := by omega
  clear ha hA tz hA1 hj0 hj1 hl h1 h2
  go_enter Tryz.func143, Tryz.ntmps143
  go_wp2_with fail
  refine TR.out.mono ?_
  rintro e w1 ⟨r, os, rfl, -, A1, hb1⟩
  rw [HVA.out] at A1
  have HB1 := hid A1
  have D1 := hid hb1
  clear A1 hb1 TR
  go_wp2_with fail
  refine (len_any (n : Int) l _ hn0 (by omega) (by rw [Int.toNat_natCast, HL.out, HLL.out])).mono ?_
  rintro e w2 ⟨rfl, rfl⟩
  go_wp2_with fail
  go_loopw [6, 7] (fun o i wr => ∃ (j : Nat) (r : Option Addr) (os : List Int), j ≤ j0 ∧ i = .int .i64 ((j : Int) - 1) ∧ o = .slice r (List.length os) (List.length os) ∧ Hid (Ans w.heap.size wr r os (A ^ (n / 2 ^ j))) ∧ Hid (A ^ (n / 2 ^ j) < Nm.pw 4096) ∧ Hid (Below w.heap.size w wr)) (fun _ i _ => (intOf i + 1).toNat)
  case atStart => exact ⟨j0, r, os, Nat.le_refl _, by first | rfl | rw [rl], rfl, by rw [HJ1.out, Int.pow_succ, Int.pow_zero, Int.one_mul]; exact HB1.out, by rw [HJ1.out, Int.pow_succ, Int.pow_zero, Int.one_mul]; exact HAs.out, D1.out⟩
  case round =>
    clear HB1 D1 rl
    obtain ⟨j, r, os, hj, rfl, rfl, HO, HS, D⟩ := hrel
    by_cases hj0' : j = 0
    · subst hj0'
      have F : Hid (Gives (A ^ n) w (.returned (.tuple #[.slice r (List.length os) (List.length os), .int .i64 0])) wr) := by
        have h1 := HO.out
        have h2 := HS.out
        rw [Nat.pow_zero, Nat.div_one] at h1 h2
        exact ⟨.inl ⟨h2, r, os, rfl, h1⟩, D.out⟩
      go_wp2_with fail
      go_ret2
      exact F.out
    · obtain ⟨t, rfl⟩ : ∃ t, j = t + 1 := ⟨j - 1, by omega⟩
      have MU := hid (mul_gives r r _ _ _ _ os os (A ^ (n / 2 ^ (t + 1)) * A ^ (n / 2 ^ (t + 1))) wr (HO.out.argT HS.out) (HO.out.argT HS.out) (HO.out.tsT HS.out) (HO.out.tsT HS.out) (by rw [HO.out.2.2.2.1]))
      go_wp2_with fail
      refine MU.out.mono ?_
      rintro e w3 ⟨h | h, hb3⟩
      · obtain ⟨hs3, s, ss, rfl, A3⟩ := h
        have HB3 := hid (A3.upT (B' := w.heap.size) D.out.size)
        have HS3 := hid hs3
        have D3 := hid (chain D.out hb3 (Nat.le_refl _))
        obtain ⟨x, hx⟩ : ∃ x, n / 2 ^ t = x := ⟨_, rfl⟩
        have hx63 : x < 9223372036854775808 := by have : n / 2 ^ t ≤ n := Nat.div_le_self _ _; omega
        have r1 : (n : Int) / 2 ^ t = (x : Int) := by rw [← hx]; simp
        have r2 := one_bit_i64 x hx63
        have HX := hid hx
        clear hs3 A3 hb3 hx
        rcases (show x % 2 = 0 ∨ x % 2 = 1 by omega) with hb | hb
        · rw [hb] at r2
          have HE := hid (Pn.square A n t (by rw [HX.out]; exact hb))
          rw [HE.out] at HB3 HS3
          clear hb
          go_wp2_with fail
          go_roundw
          case rel => exact ⟨t, s, ss, by omega, by go_num, rfl, HB3, HS3, D3⟩
          case measure => simp [intOf]
        · rw [hb] at r2
          have HE := hid (Pn.square_odd A n t (by rw [HX.out]; exact hb))
          have HA3 := hid (HA.out.below D3.out (Nat.le_refl _))
          have MU2 := hid (mul_gives s p _ _ m cap ss zs (A ^ (n / 2 ^ t)) w3 (HB3.out.argT HS3.out) HA3.out (HB3.out.tsT HS3.out) HT.out (by rw [HB3.out.2.2.2.1, HVA.out]; exact HE.out))
          clear hb
          go_wp2_with fail
          refine MU2.out.mono ?_
          rintro e w4 ⟨h | h, hb4⟩
          · obtain ⟨hs4, s4, ss4, rfl, A4⟩ := h
            have HB4 := hid (A4.upT (B' := w.heap.size) D3.out.size)
            have HS4 := hid hs4
            have D4 := hid (chain D3.out hb4 (Nat.le_refl _))
            clear hs4 A4 hb4
            go_wp2_with fail
            go_roundw
            case rel => exact ⟨t, s4, ss4, by omega, by go_num, rfl, HB4, HS4, D4⟩
            case measure => simp [intOf]
          · obtain ⟨hs4, rfl⟩ := h
            have F : Hid (Gives (A ^ n) w (.returned (.tuple #[.slice none 0 0, .int .i64 2])) w4) :=
              ⟨.inr ⟨Int.le_trans hs4 (Pn.part_le HA1.out n t), rfl⟩, chain D3.out hb4 (Nat.le_refl _)⟩
            clear hs4 hb4
            go_wp2_with fail
            go_ret2
            exact F.out
      · obtain ⟨hs3, rfl⟩ := h
        have F : Hid (Gives (A ^ n) w (.returned (.tuple #[.slice none 0 0, .int .i64 2])) w3) :=
          ⟨.inr ⟨Int.le_trans hs3 (Pn.square_le HA1.out n t), rfl⟩, chain D.out hb3 (Nat.le_refl _)⟩
        clear hs3 hb3
        go_wp2_with fail
        go_ret2
        exact F.out
end Go.Proofs.YtonnlimmjelldaaGreatDoor

namespace Go.Proofs.YtonnlimmjelldaaGreatDoor
open Go.RowKit Go.Deep

theorem pow_big (p : Option Addr) (m cap : Nat) (zs : List Int) (k : Int) (w : World) (ha : Arg w p m cap zs) (tz : 4096 < Nm.tsize zs) :
    Calls Tryz.prog 103 #[.slice p m cap, .int .i64 k] w fun e w' => e = .returned (.tuple #[.slice none 0 0, .int .i64 2]) ∧ w' = w := by
  obtain ⟨L, l1, _, _, _⟩ := blen_is zs ha.2.2.2.2
  obtain ⟨N, HN⟩ : ∃ N, Hid (Nm.tsize zs = N) := ⟨_, rfl⟩
  have hN : (4096 : Int) < (N : Int) := by have := HN.out; omega
  have HB := hid (bitLen_isT L p m cap zs w ha l1)
  have HL := hid (limbs_isT p m cap zs N w ha HN.out)
  clear ha tz l1
  go_enter Tryz.func103, Tryz.ntmps103
  go_wp2_with fail
  refine HB.out.mono ?_
  rintro e w' ⟨rfl, rfl⟩
  go_wp2_with fail
  refine HL.out.mono ?_
  rintro e w' ⟨rfl, rfl⟩
  go_wp2_with fail
  go_ret2
  exact ⟨rfl, rfl⟩

theorem pow_neg (p : Option Addr) (m cap : Nat) (zs : List Int) (k : Int) (w : World) (ha : Arg w p m cap zs) (tz : Nm.tsize zs ≤ 4096) (hk : k < 0) :
    Calls Tryz.prog 103 #[.slice p m cap, .int .i64 k] w fun e w' => e = .returned (.tuple #[.slice none 0 0, .int .i64 1]) ∧ w' = w := by
  obtain ⟨L, l1, _, _, _⟩ := blen_is zs ha.2.2.2.2
  obtain ⟨N, HN⟩ : ∃ N, Hid (Nm.tsize zs = N) := ⟨_, rfl⟩
  have hN : (N : Int) ≤ 4096 := by have := HN.out; omega
  have HB := hid (bitLen_isT L p m cap zs w ha l1)
  have HL := hid (limbs_isT p m cap zs N w ha HN.out)
  clear ha tz l1
  go_enter Tryz.func103, Tryz.ntmps103
  go_wp2_with fail
  refine HB.out.mono ?_
  rintro e w' ⟨rfl, rfl⟩
  go_wp2_with fail
  refine HL.out.mono ?_
  rintro e w' ⟨rfl, rfl⟩
  go_wp2_with fail
  go_ret2
  exact ⟨rfl, rfl⟩

theorem one_lt_pw : (1 : Int) < Nm.pw 4096 := by
  have h := Nm.pw_mono (show 1 ≤ 4096 by omega)
  have e : Nm.pw 1 = 18446744073709551616 := by simp [Nm.pw]
  rw [e] at h
  generalize Nm.pw 4096 = x at *
  omega

set_option maxRecDepth 100000 in
set_option maxHeartbeats 1000000 in
theorem pow_gives (p : Option Addr) (m cap : Nat) (zs : List Int) (A k : Int) (n : Nat) (w : World) (ha : Arg w p m cap zs) (tz : Nm.tsize zs ≤ 4096) (hA : Nm.val zs = A) (hk : k = (n : Int)) (hk1 : k ≤ 9223372036854775807) :
    Calls Tryz.prog 103 #[.slice p m cap, .int .i64 k] w fun e w' => Gives (A ^ n) w e w' := by
  obtain ⟨L, l1, l2, l3, _⟩ := blen_is zs ha.2.2.2.2
  obtain ⟨N, HN⟩ : ∃ N, Hid (Nm.tsize zs = N) := ⟨_, rfl⟩
  have hN : (N : Int) ≤ 4096 := by have := HN.out; omega
  have HB := hid (bitLen_isT L p m cap zs w ha l1)
  have HL := hid (limbs_isT p m cap zs N w ha HN.out)
  have hL : (L : Int) ≤ 262144 := by omega
  have A0 := (Nm.val_bd zs ha.2.2.2.2).1
  rw [hA] at A0 l2
  have HAs : Hid (A < Nm.pw 4096) := by show _ < _; rw [← hA]; exact (Nm.tsize_le_iff ha.2.2.2.2 4096).1 tz
  have HA := hid ha
  have HT := hid tz
  have HVA := hid hA
  have HL2 := hid l2
  clear ha tz l1 l2 l3 hA
  subst hk
  by_cases h0 : n = 0
  · subst h0
    have F := hid (fromUint_any 1 w (by omega) (by omega))
    go_enter Tryz.func103, Tryz.ntmps103
    go_wp2_with fail
    refine HB.out.mono ?_
    rintro e w' ⟨rfl, rfl⟩
    go_wp2_with fail
    refine HL.out.mono ?_
    rintro e w' ⟨rfl, rfl⟩
    go_wp2_with fail
    refine F.out.mono ?_
    rintro e w1 ⟨r, os, rfl, A1, hb1⟩
    have G : Hid (Gives (A ^ 0) w' (.returned (.tuple #[.slice r (List.length os) (List.length os), .int .i64 0])) w1) :=
      ⟨.inl ⟨by rw [Int.pow_zero]; exact one_lt_pw, r, os, rfl, by rw [Int.pow_zero]; exact A1⟩, hb1⟩
    clear A1 hb1
    go_wp2_with fail
    go_ret2
    exact G.out
  have hn0 : ((n : Int) == 0) = false := by rw [beq_eq_false_iff_ne]; omega
  by_cases hL2 : L < 2
  · have hL2' : (L : Int) < 2 := by omega
    have E : Hid (A ^ n = A) := by
      have h := HL2.out.1
      have hA2 : A < 2 := by
        have := Nm.two_mono (show L ≤ 1 by omega)
        omega
      show _ = _
      obtain ⟨n', rfl⟩ : ∃ n', n = n' + 1 := ⟨n - 1, by omega⟩
      rcases (show A = 0 ∨ A = 1 by omega) with rfl | rfl
      · rw [Int.pow_succ, Int.mul_zero]
      · rw [Int.one_pow]
    have TR := hid (trim_any p m cap zs w HA.out)
    go_enter Tryz.func103, Tryz.ntmps103
    go_wp2_with fail
    refine HB.out.mono ?_
    rintro e w' ⟨rfl, rfl⟩
    go_wp2_with fail
    refine HL.out.mono ?_
    rintro e w' ⟨rfl, rfl⟩
    go_wp2_with fail
    refine TR.out.mono ?_
    rintro e w1 ⟨r, os, rfl, -, A1, hb1⟩
    rw [HVA.out] at A1
    have G : Hid (Gives (A ^ n) w' (.returned (.tuple #[.slice r (List.length os) (List.length os), .int .i64 0])) w1) := by
      rw [E.out]
      exact ⟨.inl ⟨HAs.out, r, os, rfl, A1⟩, hb1⟩
    clear A1 hb1
    go_wp2_with fail
    go_ret2
    exact G.out
  have hL2' : (2 : Int) ≤ (L : Int) := by omega
  have hA2 : Hid (2 ^ (L - 1) ≤ A) := by
    have h1 := HL2.out.2.2
    have h2 : 0 < A := by
      rcases (show A = 0 ∨ 0 < A by omega) with h | h
      · have := HL2.out.2.1 h; omega
      · exact h
    exact (h1 h2).2
  have hA1 : Hid (1 ≤ A) := by
    have := Nm.two_pos (L - 1)
    have := hA2.out
    show _ ≤ _
    omega
  obtain ⟨c, hc⟩ : ∃ c, 262143 / ((L : Int) - 1) = c := ⟨_, rfl⟩
  have d1 := Int.emod_add_mul_ediv 262143 ((L : Int) - 1)
  have d2 := Int.emod_nonneg 262143 (show (L : Int) - 1 ≠ 0 by omega)
  have d3 := Int.emod_lt_of_pos 262143 (show 0 < (L : Int) - 1 by omega)
  have d4 : 0 ≤ c := by rw [← hc]; exact Int.ediv_nonneg (by omega) (by omega)
  rw [hc] at d1
  have hc2 : (262143 : Int).tdiv ((L : Int) - 1) = c := by rw [Int.tdiv_eq_ediv_of_nonneg (by omega)]; exact hc
  have hz : (((L : Int) - 1) == 0) = false := by rw [beq_eq_false_iff_ne]; omega
  have hc3 : c ≤ 262143 := by
    have e1 : 1 * c ≤ ((L : Int) - 1) * c := Int.mul_le_mul_of_nonneg_right (by omega) d4
    omega
  by_cases hb : c < (n : Int)
  · have G : Hid (Gives (A ^ n) w (.returned (.tuple #[.slice none 0 0, .int .i64 2])) w) := by
      refine ⟨.inr ⟨Pn.early hA2.out ?_, rfl⟩, Below.refl _ _⟩
      have e1 : ((L : Int) - 1) * (c + 1) ≤ ((L : Int) - 1) * (n : Int) := Int.mul_le_mul_of_nonneg_left (by omega) (by omega)
      rw [Int.mul_add, Int.mul_one] at e1
      have e2 : (((L - 1) * n : Nat) : Int) = ((L : Int) - 1) * (n : Int) := by rw [Int.natCast_mul, show ((L - 1 : Nat) : Int) = (L : Int) - 1 by omega]
      omega
    clear d1 d2 d3
    go_enter Tryz.func103, Tryz.ntmps103
    go_wp2_with fail
    refine HB.out.mono ?_
    rintro e w' ⟨rfl, rfl⟩
    go_wp2_with fail
    refine HL.out.mono ?_
    rintro e w' ⟨rfl, rfl⟩
    go_wp2_with fail
    go_ret2
    exact G.out
  · have hb' : (n : Int) ≤ c := by omega
    have P := hid (power_any p m cap zs A n w HA.out HT.out HVA.out hA1.out (by omega) (by omega))
    clear d1 d2 d3 hb
    go_enter Tryz.func103, Tryz.ntmps103
    go_wp2_with fail
    refine HB.out.mono ?_
    rintro e w' ⟨rfl, rfl⟩
    go_wp2_with fail
    refine HL.out.mono ?_
    rintro e w' ⟨rfl, rfl⟩
    go_wp2_with fail
    refine P.out.mono ?_
    rintro e w1 ⟨h | h, hb1⟩
    · obtain ⟨h1, r, os, rfl, A1⟩ := h
      have G : Hid (Gives (A ^ n) w' (.returned (.tuple #[.slice r (List.length os) (List.length os), .int .i64 0])) w1) := ⟨.inl ⟨h1, r, os, rfl, A1⟩, hb1⟩
      clear h1 A1 hb1
      go_wp2_with fail
      go_ret2
      exact G.out
    · obtain ⟨h1, rfl⟩ := h
      have G : Hid (Gives (A ^ n) w' (.returned (.tuple #[.slice none 0 0, .int .i64 2])) w1) := ⟨.inr ⟨h1, rfl⟩, hb1⟩
      clear h1 hb1
      go_wp2_with fail
      go_ret2
      exact G.out
end Go.Proofs.YtonnlimmjelldaaGreatDoor

namespace Go.Proofs.YtonnlimmjelldaaGreatDoor
open Go.RowKit Go.Deep

/-- A number and true, or false: it is too big. -/
def GivesB (T : Int) (w : World) (e : Ending) (w' : World) : Prop :=
  ((T < Nm.pw 4096 ∧ ∃ r os, e = .returned (.tuple #[.slice r (List.length os) (List.length os), .bool true]) ∧ Ans w.heap.size w' r os T) ∨ (Nm.pw 4096 ≤ T ∧ e = .returned (.tuple #[.slice none 0 0, .bool false]))) ∧ Below w.heap.size w w'

/-- A fact that no step looks into. -/
structure ShutQ (p : Prop) : Prop where
  out : p

/-- A product that has too many limbs by its factors' lengths. -/
theorem long_mul {xs ys : List Int} (hx : Nm.Limbs xs) (hy : Nm.Limbs ys) (h1 : 0 < Nm.tsize xs) (h2 : 0 < Nm.tsize ys) {k : Nat} (h : k + 2 ≤ Nm.tsize xs + Nm.tsize ys) : Nm.pw k ≤ Nm.val xs * Nm.val ys := by
  have a1 := Nm.val_ge_top hx h1
  have a2 := Nm.val_ge_top hy h2
  have p1 := Nm.pw_pos (Nm.tsize xs - 1)
  have p2 := Nm.pw_pos (Nm.tsize ys - 1)
  have h3 : Nm.pw (Nm.tsize xs - 1) * Nm.pw (Nm.tsize ys - 1) ≤ Nm.val xs * Nm.val ys := Int.mul_le_mul a1 a2 (by omega) (by omega)
  rw [← Nm.pw_add] at h3
  exact Int.le_trans (Nm.pw_mono (by omega)) h3

theorem Ans.tpos {B : Nat} {w : World} {p : Option Addr} {ys : List Int} {n : Int} (h : Ans B w p ys n) (hn : 1 ≤ n) : 0 < Nm.tsize ys := by
  have h1 := Nm.tsize_zero_iff h.2.1
  have h2 := h.2.2.2.1
  omega

/-- The length of an answer tells whether it is too big. -/
theorem Ans.over {B : Nat} {w : World} {p : Option Addr} {ys : List Int} {n : Int} (h : Ans B w p ys n) : 4096 < ys.length ↔ Nm.pw 4096 ≤ n := by
  have h1 := Nm.tsize_le_iff h.2.1 4096
  rw [h.2.2.1, h.2.2.2.1] at h1
  constructor
  · intro h2
    rcases Int.lt_or_le n (Nm.pw 4096) with c | c
    · have := h1.2 c; omega
    · exact c
  · intro h2
    rcases Nat.lt_or_ge 4096 ys.length with c | c
    · exact c
    · have := h1.1 c
      exact absurd (Int.lt_of_lt_of_le this h2) (Int.lt_irrefl _)

theorem half_pow (A : Int) (n : Nat) (b : Nat) (hb : n % 2 = b) : A ^ (n / 2) * A ^ (n / 2) * A ^ b = A ^ n := by
  rw [← Int.pow_add, ← Int.pow_add]
  congr 1
  omega

set_option maxRecDepth 100000 in
set_option maxHeartbeats 8000000 in
theorem rpower_any (p : Option Addr) (m cap : Nat) (zs : List Int) (A : Int) (hA : Nm.val zs = A) (hA1 : 1 ≤ A) (tz : Nm.tsize zs ≤ 4096) (n : Nat) : ∀ (w : World), Arg w p m cap zs → n < 9223372036854775808 →
    Calls Tryz.prog 138 #[.slice p m cap, .int .i64 (n : Int)] w fun e w' => GivesB (A ^ n) w e w' := by
  induction n using Nat.strongRecOn with
  | _ n ih =>
  intro w ha hn
  by_cases h0 : n = 0
  · subst h0
    have D : Below w.heap.size w (w.alloc (.cells #[.int .u64 1] 26)) := (Below.refl _ _).alloc (Nat.le_refl _) _
    have F : Hid (GivesB (A ^ 0) w (.returned (.tuple #[.slice (some ⟨w.heap.size, 0, none⟩) 1 1, .bool true])) (w.alloc (.cells #[.int .u64 1] 26))) := by
      rw [Int.pow_zero]
      exact ⟨.inl ⟨one_lt_pw, some ⟨w.heap.size, 0, none⟩, [1], rfl, ⟨(Own.alloc w [1]).lies, limb_one (by omega), by simp [Nm.tsize], by simp [Nm.val], fun a h => by cases h; exact Nat.le_refl _⟩⟩, D⟩
    clear ih D ha hA hA1 tz
    go_enter Tryz.func138, Tryz.ntmps138
    go_wp2_with fail
    go_ret2
    exact F.out
  · have IH := hid (ih (n / 2) (by omega) w ha (by omega))
    have hn0 : ((n : Int) == 0) = false := by rw [beq_eq_false_iff_ne]; omega
    obtain ⟨k, hk⟩ : ∃ k, n / 2 = k := ⟨_, rfl⟩
    obtain ⟨b, hb⟩ : ∃ b, n % 2 = b := ⟨_, rfl⟩
    have HP := half_pow A n b hb
    rw [hk] at IH HP
    have q1 : (n : Int) / 2 = (k : Int) := by omega
    have q1t : (n : Int).tdiv 2 = (k : Int) := by rw [Int.tdiv_eq_ediv_of_nonneg (by omega)]; exact q1
    have q2 : (n : Int) % 2 = (b : Int) := by omega
    have q2t : (n : Int).tmod 2 = (b : Int) := by rw [Int.tmod_eq_emod_of_nonneg (by omega)]; exact q2
    have hb1 : b = 0 ∨ b = 1 := by omega
    have a2 := ha.2.1
    have a3 := ha.2.2.1
    have hn63 : (n : Int) < 9223372036854775808 := by omega
    have HA := hid ha
    have HV := hid hA
    have H1 := hid hA1
    have HZ := hid tz
    have HHP := hid HP
    have HKL := Pn.pow_mono hA1 (show k ≤ n by omega)
    have HK := hid HKL
    obtain ⟨TA, hTA⟩ : ∃ T, Hid (Nm.tsize zs = T) := ⟨_, rfl⟩
    have hTA0 : Hid (0 < Nm.tsize zs) := by
      have h1 := Nm.tsize_zero_iff ha.2.2.2.2
      show _ < _
      omega
    have TAb : (TA : Int) ≤ 4096 := by have := hTA.out; omega
    have PK := hid (Pn.pow_pos' hA1 k)
    clear ih ha hA hA1 tz hk hb HP h0 HKL hn
    go_enter Tryz.func138, Tryz.ntmps138
    go_wp2_with fail
    refine IH.out.mono ?_
    rintro e w1 ⟨h | h, d1⟩
    · obtain ⟨hs, r, os, rfl, A1⟩ := h
      have HB1 := hid A1
      have HS : ShutQ (A ^ k < Nm.pw 4096) := ⟨hs⟩
      have D1 := hid d1
      have hw1 : Hid (w.heap.size ≤ w1.heap.size) := d1.size
      obtain ⟨l, hl⟩ : ∃ l, os.length = l := ⟨_, rfl⟩
      have los : (l : Int) ≤ 4096 := by have := A1.small hs; omega
      have AL : Hid (Arg w1 r l l os) := ⟨hl, Nat.le_refl _, by omega, A1.1, A1.2.1⟩
      have TL : Hid (Nm.tsize os = l) := A1.2.2.1.trans hl
      rw [hl]
      have HA1 := hid (HA.out.below d1 (Nat.le_refl _))
      clear hs A1 d1 IH hl
      by_cases h2 : 4096 < 2 * (l : Int) - 1
      · have F : Hid (GivesB (A ^ n) w (.returned (.tuple #[.slice none 0 0, .bool false])) w1) := by
          refine ⟨.inr ⟨?_, rfl⟩, D1.out⟩
          have h3 := long_mul (k := 4096) HB1.out.2.1 HB1.out.2.1 (HB1.out.tpos PK.out) (HB1.out.tpos PK.out) (by rw [TL.out]; omega)
          rw [HB1.out.2.2.2.1, ← Int.pow_add] at h3
          refine Int.le_trans h3 (Pn.pow_mono H1.out ?_)
          omega
        go_wp2_with fail
        go_ret2
        exact F.out
      · have h2' : Hid (2 * (l : Int) - 1 ≤ 4096) := by show _ ≤ _; omega
        have h2d : decide (4096 < 2 * (l : Int) - 1) = false := by simp; omega
        have TI := hid (refTimes_any r r l l l l os os w1 AL.out AL.out (by rw [TL.out]; omega) (by rw [TL.out]; omega))
        rw [HB1.out.2.2.2.1] at TI
        clear h2
        go_wp2_with fail
        refine TI.out.mono ?_
        rintro e w2 ⟨r2, us, rfl, A2, d2⟩
        have HB2 := hid A2
        have D2 := hid (chain D1.out d2 (Nat.le_refl _))
        have HA2 := hid (HA1.out.below d2 (Nat.le_refl _))
        have lus : Hid (us.length ≤ 8192) := by
          show _ ≤ _
          rw [← A2.2.2.1]
          refine (Nm.tsize_le_iff A2.2.1 8192).2 ?_
          rw [A2.2.2.2.1]
          have h1 := HS.out
          have h2 : A ^ k * A ^ k < Nm.pw 4096 * Nm.pw 4096 := by
            have p0 := PK.out
            have : A ^ k * A ^ k ≤ A ^ k * Nm.pw 4096 := Int.mul_le_mul_of_nonneg_left (by omega) (by omega)
            have h3 : A ^ k * Nm.pw 4096 < Nm.pw 4096 * Nm.pw 4096 := Int.mul_lt_mul_of_pos_right h1 (Nm.pw_pos 4096)
            omega
          rw [← Nm.pw_add] at h2
          exact h2
        have P2 : Hid (1 ≤ A ^ k * A ^ k) := by
          show _ ≤ _
          rw [← Int.pow_add]
          exact Pn.pow_pos' H1.out _
        clear A2 d2 TI HA1 HB1 D1 h2d
        rcases hb1 with rfl | rfl
        · have E : Hid (A ^ k * A ^ k = A ^ n) := by have := HHP.out; rw [Int.pow_zero, Int.mul_one] at this; exact this
          rw [E.out] at HB2
          by_cases h3 : 4096 < us.length
          · have h3' : (4096 : Int) < (us.length : Int) := by omega
            have F : Hid (GivesB (A ^ n) w (.returned (.tuple #[.slice none 0 0, .bool false])) w2) := ⟨.inr ⟨HB2.out.over.1 h3, rfl⟩, D2.out⟩
            clear h3
            go_wp2_with fail
            go_ret2
            exact F.out
          · have h3d : decide (4096 < (us.length : Int)) = false := by simp; omega
            have h3b : (us.length : Int) < 10000 := by omega
            have H3 : Hid ((us.length : Int) ≤ 4096) := by show _ ≤ _; omega
            have F : Hid (GivesB (A ^ n) w (.returned (.tuple #[.slice r2 (List.length us) (List.length us), .bool true])) w2) := by
              have hlt : A ^ n < Nm.pw 4096 := by
                rcases Int.lt_or_le (A ^ n) (Nm.pw 4096) with c | c
                · exact c
                · exact absurd (HB2.out.over.2 c) h3
              exact ⟨.inl ⟨hlt, r2, us, rfl, HB2.out.upT hw1.out⟩, D2.out⟩
            clear h3
            go_wp2_with fail
            go_ret2
            exact F.out
        · have E : Hid (A ^ k * A ^ k * A = A ^ n) := by have := HHP.out; rw [Int.pow_succ, Int.pow_zero, Int.one_mul] at this; exact this
          by_cases h3 : 4096 < us.length
          · have h3' : (4096 : Int) < (us.length : Int) := by omega
            have F : Hid (GivesB (A ^ n) w (.returned (.tuple #[.slice none 0 0, .bool false])) w2) := by
              refine ⟨.inr ⟨?_, rfl⟩, D2.out⟩
              have h4 := HB2.out.over.1 h3
              rw [← E.out]
              have h5 : A ^ k * A ^ k * 1 ≤ A ^ k * A ^ k * A := Int.mul_le_mul_of_nonneg_left H1.out (by have := P2.out; omega)
              rw [Int.mul_one] at h5
              exact Int.le_trans h4 h5
            clear h3
            go_wp2_with fail
            go_ret2
            exact F.out
          · have h3d : decide (4096 < (us.length : Int)) = false := by simp; omega
            have h3b : (us.length : Int) < 10000 := by omega
            have H3 : Hid ((us.length : Int) ≤ 4096) := by show _ ≤ _; omega
            have T2 := top_any p m cap zs w2 HA2.out.1 (by omega) HA2.out.2.2.2.1
            rw [hTA.out] at T2
            have HT2 := hid T2
            clear T2
            go_wp2_with fail
            refine HT2.out.mono ?_
            rintro e w3 ⟨rfl, rfl⟩
            have H3' := H3.out
            by_cases h4 : 4096 < (us.length : Int) + (TA : Int) - 1
            · have F : Hid (GivesB (A ^ n) w (.returned (.tuple #[.slice none 0 0, .bool false])) w3) := by
                refine ⟨.inr ⟨?_, rfl⟩, D2.out⟩
                have h5 := long_mul (k := 4096) HB2.out.2.1 HA2.out.2.2.2.2 (HB2.out.tpos P2.out) hTA0.out (by rw [HB2.out.2.2.1, hTA.out]; omega)
                rw [HB2.out.2.2.2.1, HV.out, E.out] at h5
                exact h5
              clear h3 H3'
              go_wp2_with fail
              go_ret2
              exact F.out
            · have h4d : decide (4096 < (us.length : Int) + (TA : Int) - 1) = false := by simp; omega
              have TI := hid (refTimes_any r2 p _ _ m cap us zs w3 (HB2.out.arg (by have := lus.out; omega)) HA2.out (by rw [HB2.out.2.2.1]; have := lus.out; omega) (by have := HZ.out; omega))
              rw [HB2.out.2.2.2.1, HV.out, E.out] at TI
              clear h3 h4 H3'
              go_wp2_with fail
              refine TI.out.mono ?_
              rintro e w4 ⟨r4, vs, rfl, A4, d4⟩
              have HB4 := hid A4
              have hw3 : Hid (w.heap.size ≤ w3.heap.size) := D2.out.size
              have D4 := hid (chain D2.out d4 (Nat.le_refl _))
              clear A4 d4 TI
              by_cases h5 : 4096 < vs.length
              · have h5' : (4096 : Int) < (vs.length : Int) := by omega
                have F : Hid (GivesB (A ^ n) w (.returned (.tuple #[.slice none 0 0, .bool false])) w4) := ⟨.inr ⟨HB4.out.over.1 h5, rfl⟩, D4.out⟩
                clear h5
                go_wp2_with fail
                go_ret2
                exact F.out
              · have h5d : decide (4096 < (vs.length : Int)) = false := by simp; omega
                have F : Hid (GivesB (A ^ n) w (.returned (.tuple #[.slice r4 (List.length vs) (List.length vs), .bool true])) w4) := by
                  have hlt : A ^ n < Nm.pw 4096 := by
                    rcases Int.lt_or_le (A ^ n) (Nm.pw 4096) with c | c
                    · exact c
                    · exact absurd (HB4.out.over.2 c) h5
                  exact ⟨.inl ⟨hlt, r4, vs, rfl, HB4.out.upT hw3.out⟩, D4.out⟩
                clear h5
                go_wp2_with fail
                go_ret2
                exact F.out
    · obtain ⟨hs, rfl⟩ := h
      have F : Hid (GivesB (A ^ n) w (.returned (.tuple #[.slice none 0 0, .bool false])) w1) := ⟨.inr ⟨Int.le_trans hs HK.out, rfl⟩, d1⟩
      clear hs d1 IH
      go_wp2_with fail
      go_ret2
      exact F.out
end Go.Proofs.YtonnlimmjelldaaGreatDoor

namespace Go.Proofs.YtonnlimmjelldaaGreatDoor
open Go.RowKit Go.Deep

theorem pval_one (x : Int) : Nm.val [x] = x := by simp [Nm.val]


theorem rsame_is (s : Bool) (p q : Option Addr) (n cap m cap' : Nat) (zs ys : List Int) (w : World) (ha : Arg w p n cap zs) (hb : Arg w q m cap' ys) (hs : decide (Nm.val zs = Nm.val ys) = s) :
    Calls Tryz.prog 137 #[.slice p n cap, .slice q m cap'] w fun e w' => e = .returned (.bool s) ∧ Below w.heap.size w w' := by
  obtain ⟨c, hc⟩ : ∃ c, cmpI (Nm.val zs) (Nm.val ys) = c := ⟨_, rfl⟩
  have E : Hid ((c == 0) = s) := by
    rw [Hid, ← hs, ← hc, cmpI]
    by_cases h1 : Nm.val zs < Nm.val ys
    · rw [if_pos h1]; simp; omega
    · rw [if_neg h1]
      by_cases h2 : Nm.val zs = Nm.val ys
      · rw [if_pos h2]; simp [h2]
      · rw [if_neg h2]; simp [h2]
  have O := hid (order_is c p q n cap m cap' zs ys w ha hb hc)
  clear hc hs ha hb
  go_enter Tryz.func137, Tryz.ntmps137
  go_wp2_with fail
  refine O.out.mono ?_
  rintro e w1 ⟨rfl, d1⟩
  have D1 := hid d1
  clear d1 O
  go_wp2_with fail
  go_ret
  exact ⟨ret_bool E.out, D1.out⟩

theorem rpow_big (p : Option Addr) (m cap : Nat) (zs : List Int) (k : Int) (w : World) (ha : Arg w p m cap zs) (tz : 4096 < Nm.tsize zs) :
    Calls Tryz.prog 97 #[.slice p m cap, .int .i64 k] w fun e w' => e = .returned (.tuple #[.slice none 0 0, .int .i64 2]) ∧ w' = w := by
  have a2 := ha.2.1
  have a3 := ha.2.2.1
  have h1' : (4096 : Int) < (Nm.tsize zs : Int) := by omega
  have L1 := hid (top_any p m cap zs w ha.1 (by omega) ha.2.2.2.1)
  clear ha tz
  go_enter Tryz.func97, Tryz.ntmps97
  go_wp2_with fail
  refine L1.out.mono ?_
  rintro e w' ⟨rfl, rfl⟩
  go_wp2_with fail
  go_ret2
  exact ⟨rfl, rfl⟩

theorem rpow_neg (p : Option Addr) (m cap : Nat) (zs : List Int) (k : Int) (w : World) (ha : Arg w p m cap zs) (tz : Nm.tsize zs ≤ 4096) (hk : k < 0) :
    Calls Tryz.prog 97 #[.slice p m cap, .int .i64 k] w fun e w' => e = .returned (.tuple #[.slice none 0 0, .int .i64 1]) ∧ w' = w := by
  have a2 := ha.2.1
  have a3 := ha.2.2.1
  have h1' : (Nm.tsize zs : Int) ≤ 4096 := by omega
  have L1 := hid (top_any p m cap zs w ha.1 (by omega) ha.2.2.2.1)
  clear ha tz
  go_enter Tryz.func97, Tryz.ntmps97
  go_wp2_with fail
  refine L1.out.mono ?_
  rintro e w' ⟨rfl, rfl⟩
  go_wp2_with fail
  go_ret2
  exact ⟨rfl, rfl⟩

set_option maxRecDepth 100000 in
set_option maxHeartbeats 2000000 in
theorem rpow_gives (p : Option Addr) (m cap : Nat) (zs : List Int) (A k : Int) (n : Nat) (w : World) (ha : Arg w p m cap zs) (tz : Nm.tsize zs ≤ 4096) (hA : Nm.val zs = A) (hk : k = (n : Int)) (hk1 : k < 9223372036854775808) :
    Calls Tryz.prog 97 #[.slice p m cap, .int .i64 k] w fun e w' => Gives (A ^ n) w e w' := by
  have a2 := ha.2.1
  have a3 := ha.2.2.1
  obtain ⟨N, HN⟩ : ∃ N, Hid (Nm.tsize zs = N) := ⟨_, rfl⟩
  have hN : decide (4096 < (N : Int)) = false := by have := HN.out; simp; omega
  have T := top_any p m cap zs w ha.1 (by omega) ha.2.2.2.1
  rw [HN.out] at T
  have L1 := hid T
  have hb : Below w.heap.size w (w.alloc (.cells #[.int .u64 1] 26)) := (Below.refl _ _).alloc (Nat.le_refl _) _
  have A1 : Arg (w.alloc (.cells #[.int .u64 1] 26)) (some ⟨w.heap.size, 0, none⟩) 1 1 [1] := ⟨rfl, Nat.le_refl _, by omega, (Own.alloc w [1]).lies, limb_one (by omega)⟩
  have N1 : Ans w.heap.size (w.alloc (.cells #[.int .u64 1] 26)) (some ⟨w.heap.size, 0, none⟩) [1] 1 := ⟨(Own.alloc w [1]).lies, limb_one (by omega), by simp [Nm.tsize], by simp [Nm.val], fun a h => by cases h; exact Nat.le_refl _⟩
  have HA1 := hid A1
  have HN1 := hid N1
  have HB := hid hb
  have HA := hid (ha.below hb (Nat.le_refl _))
  have A0 := (Nm.val_bd zs ha.2.2.2.2).1
  have hzz := Nm.tsize_zero_iff ha.2.2.2.2
  rw [hA] at A0 hzz
  have HV := hid hA
  have HT := hid tz
  subst hk
  clear T hb A1 N1 ha tz hA
  by_cases h0 : n = 0
  · subst h0
    have F : Hid (Gives (A ^ 0) w (.returned (.tuple #[.slice (some ⟨w.heap.size, 0, none⟩) 1 1, .int .i64 0])) (w.alloc (.cells #[.int .u64 1] 26))) := by
      rw [Int.pow_zero]
      exact ⟨.inl ⟨one_lt_pw, _, [1], rfl, HN1.out⟩, HB.out⟩
    clear hzz
    go_enter Tryz.func97, Tryz.ntmps97
    go_wp2_with fail
    refine L1.out.mono ?_
    rintro e w' ⟨rfl, rfl⟩
    go_wp2_with fail
    go_ret2
    exact F.out
  have hn0 : ((n : Int) == 0) = false := by rw [beq_eq_false_iff_ne]; omega
  have HK1 := hid hk1
  have hnn : decide ((n : Int) < 0) = false := by simp
  clear hk1
  by_cases h1 : A = 1
  · have SA := hid (rsame_is true p _ m cap 1 1 zs [1] _ HA.out HA1.out (by rw [HV.out, pval_one, h1]; simp))
    have E : Hid (A ^ n = 1) := by rw [Hid, h1, Int.one_pow]
    clear h1 hzz h0
    go_enter Tryz.func97, Tryz.ntmps97
    go_wp2_with fail
    refine L1.out.mono ?_
    rintro e w' ⟨rfl, rfl⟩
    go_wp2_with fail
    refine SA.out.mono ?_
    rintro e w2 ⟨rfl, d2⟩
    have F : Hid (Gives (A ^ n) w' (.returned (.tuple #[.slice (some ⟨w'.heap.size, 0, none⟩) 1 1, .int .i64 0])) w2) := by
      rw [E.out]
      exact ⟨.inl ⟨one_lt_pw, _, [1], rfl, HN1.out.below d2 (Nat.le_refl _)⟩, chain HB.out d2 (Nat.le_refl _)⟩
    clear d2
    go_wp2_with fail
    go_ret2
    exact F.out
  have SA := hid (rsame_is false p _ m cap 1 1 zs [1] _ HA.out HA1.out (by rw [HV.out, pval_one]; simp [h1]))
  by_cases h2 : N = 0
  · have hA0 : A = 0 := hzz.1 (by rw [HN.out]; exact h2)
    have E : Hid (A ^ n = 0) := by
      obtain ⟨n', rfl⟩ : ∃ n', n = n' + 1 := ⟨n - 1, by omega⟩
      rw [Hid, hA0, Int.pow_succ, Int.mul_zero]
    subst h2
    clear h1 hzz hA0 h0
    go_enter Tryz.func97, Tryz.ntmps97
    go_wp2_with fail
    refine L1.out.mono ?_
    rintro e w' ⟨rfl, rfl⟩
    go_wp2_with fail
    refine SA.out.mono ?_
    rintro e w2 ⟨rfl, d2⟩
    have T2 := top_any p m cap zs w2 HA.out.1 (by omega) (HA.out.below d2 (Nat.le_refl _)).2.2.2.1
    rw [HN.out] at T2
    have HT2 := hid T2
    have F : Hid (Gives (A ^ n) w' (.returned (.tuple #[.slice none 0 0, .int .i64 0])) w2) := by
      rw [E.out]
      exact ⟨.inl ⟨by have := one_lt_pw; exact Int.lt_trans (by omega) this, none, [], rfl, ans_none _ _ _ (fun a h => by cases h)⟩, chain HB.out d2 (Nat.le_refl _)⟩
    clear d2 T2
    go_wp2_with fail
    refine HT2.out.mono ?_
    rintro e w3 ⟨rfl, rfl⟩
    go_wp2_with fail
    go_ret2
    exact F.out
  · have hN0 : ((N : Int) == 0) = false := by rw [beq_eq_false_iff_ne]; omega
    have HA1' : Hid (1 ≤ A) := by
      show _ ≤ _
      rcases (show A = 0 ∨ 1 ≤ A by omega) with h | h
      · exact absurd (HN.out.symm.trans (hzz.2 h)) h2
      · exact h
    clear h1 hzz h0 h2
    go_enter Tryz.func97, Tryz.ntmps97
    go_wp2_with fail
    refine L1.out.mono ?_
    rintro e w' ⟨rfl, rfl⟩
    go_wp2_with fail
    refine SA.out.mono ?_
    rintro e w2 ⟨rfl, d2⟩
    have HA2 := hid (HA.out.below d2 (Nat.le_refl _))
    have D2 := hid (chain HB.out d2 (Nat.le_refl _))
    have T2 := top_any p m cap zs w2 HA2.out.1 (by omega) HA2.out.2.2.2.1
    rw [HN.out] at T2
    have HT2 := hid T2
    have PW := hid (rpower_any p m cap zs A HV.out HA1'.out HT.out n w2 HA2.out (by have := HK1.out; omega))
    clear d2 T2
    go_wp2_with fail
    refine HT2.out.mono ?_
    rintro e w3 ⟨rfl, rfl⟩
    go_wp2_with fail
    refine PW.out.mono ?_
    rintro e w4 ⟨h | h, d4⟩
    · obtain ⟨h1, r, os, rfl, A4⟩ := h
      have F : Hid (Gives (A ^ n) w' (.returned (.tuple #[.slice r (List.length os) (List.length os), .int .i64 0])) w4) := ⟨.inl ⟨h1, r, os, rfl, A4.upT D2.out.size⟩, chain D2.out d4 (Nat.le_refl _)⟩
      clear h1 A4 d4
      go_wp2_with fail
      go_ret2
      exact F.out
    · obtain ⟨h1, rfl⟩ := h
      have F : Hid (Gives (A ^ n) w' (.returned (.tuple #[.slice none 0 0, .int .i64 2])) w4) := ⟨.inr ⟨h1, rfl⟩, chain D2.out d4 (Nat.le_refl _)⟩
      clear h1 d4
      go_wp2_with fail
      go_ret2
      exact F.out
end Go.Proofs.YtonnlimmjelldaaGreatDoor

namespace Go.Proofs.YtonnlimmjelldaaGreatDoor
open Go.RowKit Go.Deep

theorem rpow10_gives (k : Int) (n : Nat) (w : World) (hk : k = (n : Int)) (hk1 : k < 9223372036854775808) :
    Calls Tryz.prog 130 #[.int .i64 k] w fun e w' => Gives (10 ^ n) w e w' := by
  have hb : Below w.heap.size w (w.alloc (.cells #[.int .u64 10] 26)) := (Below.refl _ _).alloc (Nat.le_refl _) _
  have A : Arg (w.alloc (.cells #[.int .u64 10] 26)) (some ⟨w.heap.size, 0, none⟩) 1 1 [10] := ⟨rfl, Nat.le_refl _, by omega, (Own.alloc w [10]).lies, limb_one (by omega)⟩
  have P := hid (rpow_gives _ 1 1 [10] 10 k n _ A (by simp [Nm.tsize]) (by simp [Nm.val]) hk hk1)
  have HB := hid hb
  clear hb A hk hk1
  go_enter Tryz.func130, Tryz.ntmps130
  go_wp2_with fail
  refine P.out.mono ?_
  rintro e w1 ⟨h | h, hb1⟩
  · obtain ⟨h1, r, os, rfl, A1⟩ := h
    have G : Hid (Gives (10 ^ n) w (.returned (.tuple #[.slice r (List.length os) (List.length os), .int .i64 0])) w1) := ⟨.inl ⟨h1, r, os, rfl, A1.upT HB.out.size⟩, chain HB.out hb1 (Nat.le_refl _)⟩
    clear h1 A1 hb1
    go_wp2_with fail
    go_ret2
    exact G.out
  · obtain ⟨h1, rfl⟩ := h
    have G : Hid (Gives (10 ^ n) w (.returned (.tuple #[.slice none 0 0, .int .i64 2])) w1) := ⟨.inr ⟨h1, rfl⟩, chain HB.out hb1 (Nat.le_refl _)⟩
    clear h1 hb1
    go_wp2_with fail
    go_ret2
    exact G.out

end Go.Proofs.YtonnlimmjelldaaGreatDoor

namespace Go.Proofs.YtonnlimmjelldaaGreatDoor
open Go.RowKit Go.Deep


set_option maxRecDepth 20000 in
set_option maxRecDepth 100000 in
set_option maxHeartbeats 4000000 in
theorem times_any (p q : Option Addr) (n cap m cap' : Nat) (za zb : List Int) (w : World) (ha : Arg w p n cap za) (hb : Arg w q m cap' zb) (hn : Nm.tsize za ≤ 1099511627776) (hm : Nm.tsize zb ≤ 1099511627776) :
    Calls Tryz.prog 67 #[.slice p n cap, .slice q m cap'] w fun e w' => ∃ r os, e = .returned (.slice r (List.length os) (List.length os)) ∧ Ans w.heap.size w' r os (Nm.val za * Nm.val zb) ∧ Below w.heap.size w w' := by
  have HA := hid ha
  have HB0 := hid hb
  clear ha hb
  go_enter Tryz.func67, Tryz.ntmps67
  go_wp2_with fail
  refine (halves_any p n cap za _ HA.out (by have := HA.out.2.1; have := HA.out.2.2.1; omega)).mono ?_
  rintro e w1 ⟨xs, rfl, lx, hx, vx, kx, bx⟩
  have HB1 := hid (HB0.out.below bx (Nat.le_refl _))
  have D1 := hid bx
  obtain ⟨l1, LX⟩ : ∃ l1, Hid (xs.length = l1) := ⟨_, rfl⟩
  have LX0 := hid lx
  have HX := hid hx
  have VX := hid vx
  have kx1 : l1 ≤ 2 * Nm.tsize za := by have := LX.out; omega
  rw [LX.out]
  clear lx hx vx kx bx HB0
  go_wp2_with fail
  refine (halves_any q m cap' zb _ HB1.out (by have := HB1.out.2.1; have := HB1.out.2.2.1; omega)).mono ?_
  rintro e w2 ⟨ys, rfl, ly, hy, vy, ky, by_⟩
  have D2 := hid (chain D1.out by_ (Nat.le_refl _))
  obtain ⟨l2, LY⟩ : ∃ l2, Hid (ys.length = l2) := ⟨_, rfl⟩
  have HY := hid hy
  have VY := hid vy
  have ky1 : l2 ≤ 2 * Nm.tsize zb := by have := LY.out; omega
  obtain ⟨g1, G1⟩ : ∃ g1, w.heap.size = g1 := ⟨_, rfl⟩
  obtain ⟨g2, G2⟩ : ∃ g2, w1.heap.size = g2 := ⟨_, rfl⟩
  have LX2 := LX0.out.below by_ (Nat.le_refl _)
  rw [G1] at LX2
  have ly2 := ly
  rw [G2] at ly2
  have CX : Hid (∀ i, i < l1 → w2.cell? ⟨g1, i, none⟩ = some (.int .u64 (xs.getD i 0))) := fun i hi => by have := LX2.cells i (by have := LX.out; omega); rwa [Nat.zero_add] at this
  have CY : Hid (∀ i, i < l2 → w2.cell? ⟨g2, i, none⟩ = some (.int .u64 (ys.getD i 0))) := fun i hi => by have := ly2.cells i (by have := LY.out; omega); rwa [Nat.zero_add] at this
  obtain ⟨g, Gg⟩ : ∃ g, Hid (w2.heap.size = g) := ⟨_, rfl⟩
  have BX : Hid (∀ {j : Nat}, j < l1 → g1 < g) := fun {j} hj => by rw [← Gg.out]; exact cell_lt (CX.out j hj)
  have BY : Hid (∀ {j : Nat}, j < l2 → g2 < g) := fun {j} hj => by rw [← Gg.out]; exact cell_lt (CY.out j hj)
  rw [LY.out, G1, G2]
  clear ly hy vy ky by_ LX0 LX2 ly2 HB1 D1 G2
  by_cases hz : l1 = 0 ∨ l2 = 0
  · have V0 : Hid (Nm.val za * Nm.val zb = 0) := by
      rw [Hid, ← VX.out, ← VY.out]
      rcases hz with h | h
      · rw [List.eq_nil_of_length_eq_zero (LX.out.trans h)]; simp [Nm.v32]
      · rw [List.eq_nil_of_length_eq_zero (LY.out.trans h)]; simp [Nm.v32]
    have bm := (Below.refl w2.heap.size w2).alloc (Nat.le_refl _) (.cells #[] 26)
    have D3 := hid (chain D2.out bm (Nat.le_refl _))
    have GS : Hid (w.heap.size ≤ g) := by rw [← Gg.out]; exact D2.out.size
    clear bm
    have fin : ∀ x : World, Below w.heap.size w x → ∃ r os, Ending.returned (.slice (some ⟨g, 0, none⟩) 0 0) = .returned (.slice r (List.length os) (List.length os)) ∧ Ans w.heap.size x r os (Nm.val za * Nm.val zb) ∧ Below w.heap.size w x := fun x hx => ⟨some ⟨g, 0, none⟩, [], rfl, ⟨Lies.nil _ _, Nm.Limbs.nil, rfl, V0.out.symm, fun a h => by cases h; exact GS.out⟩, hx⟩
    have FIN := hid fin
    clear fin
    by_cases h1 : l1 = 0
    · subst h1
      go_wp2
      go_ret
      rw [Gg.out]
      exact FIN.out _ D3.out
    · have h2 : l2 = 0 := by omega
      subst h2
      have h1' : ¬ (l1 : Int) = 0 := by omega
      have h1'' : ((l1 : Int) == 0) = false := by rw [beq_eq_false_iff_ne]; exact h1'
      go_wp2
      go_ret
      rw [Gg.out]
      exact FIN.out _ D3.out
  · have h1 : ¬ (l1 : Int) = 0 := by omega
    have h2 : ¬ (l2 : Int) = 0 := by omega
    have h1' : ((l1 : Int) == 0) = false := by rw [beq_eq_false_iff_ne]; exact h1
    have h2' : ((l2 : Int) == 0) = false := by rw [beq_eq_false_iff_ne]; exact h2
    have hmk := make64 (l1 + l2) (by omega) w2
    rw [show ((l1 + l2 : Nat) : Int) = (l1 : Int) + (l2 : Int) by omega, Gg.out] at hmk
    have bm := hid ((Below.refl w2.heap.size w2).alloc (Nat.le_refl _) (.cells (madeCells #[.int .u64 0] (l1 + l2)) 26))
    have gm : Own (w2.alloc (.cells (madeCells #[.int .u64 0] (l1 + l2)) 26)) w2.heap.size (List.replicate (l1 + l2) 0) := by rw [made_zero]; exact Own.alloc w2 _
    rw [Gg.out] at bm gm
    generalize w2.alloc (.cells (madeCells #[.int .u64 0] (l1 + l2)) 26) = wm at hmk bm gm
    have I0 : Hid (TimesInv g (l1 + l2) w2 (Nm.v32 (xs.take 0) * Nm.v32 ys) 0 0 (0 + l2) (List.replicate (l1 + l2) 0) wm) := ⟨gm, by simp, Nm.Halves.zeros _, by rw [Nm.v32_zeros]; simp [Nm.v32], fun t _ => getD_replicate _ _, bm.out⟩
    clear gm bm hz
    go_wp2
    clear hmk
    obtain ⟨K, HK⟩ : ∃ K, Hid (l1 + l2 = K) := ⟨_, rfl⟩
    have I1 := I0.out
    rw [HK.out] at I1 ⊢
    have J0 := hid I1
    clear I0 I1
    have hKb : K ≤ 35184372088832 := by have := HK.out; omega
    go_loopw [8] (fun i wr => ∃ (k : Nat) (ps : List Int), k ≤ l1 ∧ i = .int .i64 k ∧ Hid (TimesInv g K w2 (Nm.v32 (xs.take k) * Nm.v32 ys) 0 k (k + l2) ps wr)) (fun i _ => l1 - (intOf i).toNat)
    case atStart => exact ⟨0, _, Nat.zero_le _, rfl, J0.out⟩
    case round =>
      obtain ⟨k, ps, hk, rfl, TI⟩ := hrel
      by_cases hlt : k < l1
      · have hlt' : (k : Int) < (l1 : Int) := by omega
        obtain ⟨x, X⟩ : ∃ x, Hid (x = xs.getD k 0) := ⟨_, rfl⟩
        have hx0 : 0 ≤ x := by have := HX.out.at k; have := X.out; omega
        have hx1 : x < 4294967296 := by have := HX.out.at k; have := X.out; omega
        obtain ⟨V, HV⟩ : ∃ V, Hid (V = Nm.v32 (xs.take k) * Nm.v32 ys) := ⟨_, rfl⟩
        have TJ : Hid (TimesInv g K w2 (V + Nm.p32 k * (x * Nm.v32 (ys.take 0))) 0 (k + 0) (k + l2) ps wr) := by
          have h := TI.out
          rw [← HV.out] at h
          simp only [List.take_zero, Nm.v32, Int.mul_zero, Int.add_zero, Nat.add_zero]
          exact h
        clear TI
        go_wp2_with fail
        go_loopw [9, 10] (fun c j wr => ∃ (t : Nat) (cc : Int) (ps : List Int), t ≤ l2 ∧ j = .int .i64 t ∧ c = .int .u64 cc ∧ 0 ≤ cc ∧ cc < 4294967296 ∧ Hid (TimesInv g K w2 (V + Nm.p32 k * (x * Nm.v32 (ys.take t))) cc (k + t) (k + l2) ps wr)) (fun _ j _ => l2 - (intOf j).toNat)
        case atStart => exact ⟨0, 0, ps, Nat.zero_le _, rfl, rfl, by omega, by omega, TJ.out⟩
        case round =>
          clear TJ ps
          obtain ⟨t, cc, ps, ht, rfl, rfl, hc0, hc1, TI⟩ := hrel
          obtain ⟨o1, o2, o3, o4, o5, o6⟩ := TI.out
          by_cases htl : t < l2
          · have htl' : (t : Int) < (l2 : Int) := by omega
            have hx : wr.cell? ⟨g1, k, none⟩ = some (.int .u64 x) := by rw [X.out]; exact (o6.cell (p := ⟨g1, k, none⟩) (BX.out hlt)).trans (CX.out k hlt)
            obtain ⟨y, hy, Y⟩ : ∃ y, wr.cell? ⟨g2, t, none⟩ = some (.int .u64 y) ∧ Hid (y = ys.getD t 0) := ⟨_, (o6.cell (p := ⟨g2, t, none⟩) (BY.out htl)).trans (CY.out t htl), rfl⟩
            have hkt : k + t < K := by have := HK.out; omega
            obtain ⟨pv, hpv, PV⟩ : ∃ pv, wr.cell? ⟨g, k + t, none⟩ = some (.int .u64 pv) ∧ Hid (pv = ps.getD (k + t) 0) := ⟨_, o1.cell (k + t) (by omega), rfl⟩
            have hfr := o1.free (k + t)
            have hy0 : 0 ≤ y := by have := HY.out.at t; have := Y.out; omega
            have hy1 : y < 4294967296 := by have := HY.out.at t; have := Y.out; omega
            have hp0 : 0 ≤ pv := by have := o3.at (k + t); have := PV.out; omega
            have hp1 : pv < 4294967296 := by have := o3.at (k + t); have := PV.out; omega
            have hxy0 : 0 ≤ x * y := Int.mul_nonneg hx0 hy0
            have hxy1 : x * y ≤ 4294967295 * 4294967295 := Int.mul_le_mul (by omega) (by omega) hy0 (by omega)
            obtain ⟨m0, hm0, M0⟩ : ∃ m0, IntKind.u64.wrap (x * y) = m0 ∧ Hid (m0 = x * y) := ⟨_, by rw [IntKind.wrap_u64, Int.emod_eq_of_lt (by omega) (by omega)], rfl⟩
            have hm00 : 0 ≤ m0 := by have := M0.out; omega
            have hm01 : m0 ≤ 18446744065119617025 := by have := M0.out; omega
            obtain ⟨m1, hm1, M1⟩ : ∃ m1, IntKind.u64.wrap (m0 + pv) = m1 ∧ Hid (m1 = m0 + pv) := ⟨_, by rw [IntKind.wrap_u64, Int.emod_eq_of_lt (by omega) (by omega)], rfl⟩
            have hm10 : 0 ≤ m1 := by have := M1.out; omega
            have hm11 : m1 ≤ 18446744069414584320 := by have := M1.out; omega
            obtain ⟨tt, htt, TT⟩ : ∃ tt, IntKind.u64.wrap (m1 + cc) = tt ∧ Hid (tt = m1 + cc) := ⟨_, by rw [IntKind.wrap_u64, Int.emod_eq_of_lt (by omega) (by omega)], rfl⟩
            have htt0 : 0 ≤ tt := by have := TT.out; omega
            have htt1 : tt ≤ 18446744073709551615 := by have := TT.out; omega
            obtain ⟨lo, hlo, LO⟩ : ∃ lo, bits .and .u64 tt 4294967295 = lo ∧ Hid (lo = tt % 4294967296) := ⟨_, r_mask32 tt (by omega) (by omega), rfl⟩
            obtain ⟨hi, hhi, HI⟩ : ∃ hi, tt / 4294967296 = hi ∧ Hid (hi = tt / 4294967296) := ⟨_, rfl, rfl⟩
            have BLO : Hid ((0 ≤ lo ∧ lo < 4294967296) ∧ 0 ≤ hi ∧ hi < 4294967296) := by have := LO.out; have := HI.out; show _ ∧ _; omega
            have ST : Hid (lo + 4294967296 * hi = x * ys.getD t 0 + pv + cc) := by
              have h1 := LO.out; have h2 := HI.out; have h3 := TT.out; have h4 := M1.out; have h5 := M0.out
              rw [Hid, ← Y.out]; omega
            have O1 := hid o1
            have O2 := hid o2
            have O3 := hid o3
            have O4 := hid o4
            have O5 := hid o5
            have O6 := hid o6
            have hkt' : (k : Int) + (t : Int) < (K : Int) := by omega
            clear o1 o2 o3 o4 o5 o6 TI hxy0 hxy1
            go_wp2_with fail
            go_quiet (fail)
            have hpv2 : (wr.drewN nq).cell? ⟨g, k + t, none⟩ = some (.int .u64 pv) := hpv
            have hfr2 : (wr.drewN nq).frozen? ⟨g, k + t, none⟩ = false := hfr
            have P1 : Hid (Own (wr.drewN nq) g ps) := O1.out
            have P6 := hid (below_drewN O6.out nq)
            clear hx hy hpv hfr O1 O6
            generalize wr.drewN nq = wq at *
            go_wp2
            go_roundw
            case rel =>
              refine ⟨t + 1, hi, ps.set (k + t) lo, by omega, by go_num, by first | rfl | rw [hhi], BLO.out.2.1, BLO.out.2.2, P1.out.set _ _, by rw [List.length_set]; exact O2.out, O3.out.set _ BLO.out.1.1 BLO.out.1.2, ?_, ?_, P6.out.setCell (Nat.le_refl _) _⟩
              · exact Nm.times_digit (by have := O2.out; omega) PV.out O4.out ST.out
              · intro s hs
                rw [Nm.getD_set ps (k + t) s lo (by have := O2.out; omega), if_neg (by omega)]
                exact O5.out s hs
            case measure => simp [intOf]; omega
          · have htl' : ¬ (t : Int) < (l2 : Int) := by omega
            obtain rfl : t = l2 := by omega
            rw [List.take_of_length_le (by have := LY.out; omega)] at o4
            have hkt : k + t < K := by have := HK.out; omega
            obtain ⟨pv, hpv⟩ : ∃ pv, wr.cell? ⟨g, k + t, none⟩ = some (.int .u64 pv) := ⟨_, o1.cell (k + t) (by omega)⟩
            have hfr := o1.free (k + t)
            have Z0 := o5 (k + t) (Nat.le_refl _)
            have NX : Hid (TimesInv g K w2 (Nm.v32 (xs.take (k + 1)) * Nm.v32 ys) 0 (k + 1) (k + 1 + t) (ps.set (k + t) cc) (wr.setCell ⟨g, k + t, none⟩ (.int .u64 cc))) := by
              refine ⟨o1.set _ _, by rw [List.length_set]; exact o2, o3.set _ hc0 hc1, ?_, ?_, o6.setCell (Nat.le_refl _) _⟩
              · rw [Nm.v32_set ps (k + t) cc (by omega), Z0, Nm.v32_take_next, ← X.out, Int.add_mul, ← HV.out, Int.mul_zero, Int.add_zero, Int.sub_zero, Int.mul_assoc]
                exact o4
              · intro s hs
                rw [Nm.getD_set ps (k + t) s cc (by omega), if_neg (by omega)]
                exact o5 s (by omega)
            have hkt' : (k : Int) + (t : Int) < (K : Int) := by omega
            clear o1 o2 o3 o4 o5 o6 TI Z0
            go_wp2
            go_roundw
            case rel => exact ⟨k + 1, _, by omega, by go_num, NX.out⟩
            case measure => simp [intOf]; omega
      · have hlt' : ¬ (k : Int) < (l1 : Int) := by omega
        obtain rfl : k = l1 := by omega
        obtain ⟨o1, o2, o3, o4, o5, o6⟩ := TI.out
        rw [List.take_of_length_le (by have := LX.out; omega), VX.out, VY.out, Int.mul_zero, Int.add_zero] at o4
        have D3 := hid (chain D2.out (by rw [Gg.out]; exact o6) (Nat.le_refl _))
        have AG : Hid (Arg wr (some ⟨g, 0, none⟩) K K ps) := ⟨o2, Nat.le_refl _, by have := HK.out; omega, o1.lies, o3.limbs⟩
        have hw3 : Hid (w.heap.size ≤ wr.heap.size) := D3.out.size
        have HV := hid o4
        have HS := hid o3
        clear o1 o2 o3 o4 o5 o6 TI
        go_wp2_with fail
        refine (rlimbs_any _ K K ps _ AG.out HS.out).mono ?_
        rintro e w4 ⟨r, os, rfl, hA, hb⟩
        rw [HV.out] at hA
        have A4 := hid (hA.mono hw3.out)
        have D4 := hid (chain D3.out hb (Nat.le_refl _))
        clear hA hb
        go_wp2
        go_ret
        exact ⟨r, os, rfl, A4.out, D4.out⟩
end Go.Proofs.YtonnlimmjelldaaGreatDoor

namespace Go.Proofs.YtonnlimmjelldaaGreatDoor
open Go.RowKit Go.Deep

/-- The kit's contract for TrailingZeros64, laid at this program. -/
def tzRen : Go.Shelf.Ren := ⟨fun _ => 173, fun t => if t = 22 then 26 else if t = 25 then 70 else if t = 54 then 195 else if t = 5 then 5 else if t = 4 then 4 else if t = 0 then 0 else 3, fun _ => 5⟩
theorem tzLays : Lays7.n29 Tryz.prog tzRen where
  mixed := by kernel_rfl
  f29 := by kernel_rfl
  t0 := by kernel_rfl
  a0 := fun _ => by kernel_rfl
  z0 := fun _ => by kernel_rfl
  v0 := fun _ => by kernel_rfl
  i0 := by kernel_rfl
  t3 := by kernel_rfl
  a3 := fun _ => by kernel_rfl
  z3 := fun _ => by kernel_rfl
  v3 := fun _ => by kernel_rfl
  i3 := by kernel_rfl
  t4 := by kernel_rfl
  a4 := fun _ => by kernel_rfl
  z4 := fun _ => by kernel_rfl
  v4 := fun _ => by kernel_rfl
  i4 := by kernel_rfl
  t5 := by kernel_rfl
  a5 := fun _ => by kernel_rfl
  z5 := fun _ => by kernel_rfl
  v5 := fun _ => by kernel_rfl
  i5 := by kernel_rfl
  t22 := by kernel_rfl
  a22 := fun _ => by kernel_rfl
  z22 := fun _ => by kernel_rfl
  v22 := fun _ => by kernel_rfl
  i22 := by kernel_rfl
  t25 := by kernel_rfl
  a25 := fun _ => by kernel_rfl
  z25 := fun _ => by kernel_rfl
  v25 := fun _ => by kernel_rfl
  i25 := by kernel_rfl
  t54 := by kernel_rfl
  a54 := fun _ => by kernel_rfl
  z54 := fun _ => by kernel_rfl
  g1 := by kernel_rfl

/-- The table that TrailingZeros64 reads. -/
def Tab (w : World) : Prop := TabAt 5 Lib.deBruijn64tab w

theorem Tab.below {w w' : World} (h : Tab w) (hb : Below w.heap.size w w') : Tab w' := by
  intro j hj
  have hc := h j hj
  rw [hb.cell (p := ⟨5, j, none⟩) (cell_lt hc)]
  exact hc

theorem tz64 (x : Int) (w : World) (h0 : 0 < x) (h1 : x < 18446744073709551616) (hT : Tab w) :
    Calls Tryz.prog 173 #[.int .u64 x] w fun e w' => ∃ (t : Nat) (m : Int), e = .returned (.int .i64 t) ∧ t ≤ 63 ∧ Hid (x = 2 ^ t * (2 * m + 1)) ∧ w' = w := by
  obtain ⟨n, rfl⟩ := Int.eq_ofNat_of_zero_le (show 0 ≤ x by omega)
  refine (Any7.bits_TrailingZeros64 tzLays n (by omega) w (fun _ => hT)).mono ?_
  rintro e w' ⟨rfl, rfl⟩
  obtain ⟨m, hm, hlt⟩ := Lib.ctzFrom_spec 64 n (by omega) (by simpa using (show n < 18446744073709551616 by omega))
  refine ⟨Lib.ctzFrom 64 n, m, by rw [Lib.ctz, if_neg (by omega)], by omega, ?_, rfl⟩
  show (n : Int) = _
  have e : ((2 ^ Lib.ctzFrom 64 n * (2 * m + 1) : Nat) : Int) = 2 ^ Lib.ctzFrom 64 n * (2 * (m : Int) + 1) := by simp
  rw [← e, ← hm]

end Go.Proofs.YtonnlimmjelldaaGreatDoor

namespace Go.Proofs.YtonnlimmjelldaaGreatDoor
open Go.RowKit Go.Deep

theorem cmp_at3 {zs ys : List Int} (hz : Nm.Limbs zs) (hy : Nm.Limbs ys) (hl : (Nm.trim zs).length = (Nm.trim ys).length) (t : Nat) (ht : t < (Nm.trim zs).length) (he : ∀ i, t + 1 ≤ i → (Nm.trim zs).getD i 0 = (Nm.trim ys).getD i 0) {x y : Int}
    (hx : x = (Nm.trim zs).getD t 0) (hy' : y = (Nm.trim ys).getD t 0) : (x < y → cmpI (Nm.val zs) (Nm.val ys) = -1) ∧ (y < x → cmpI (Nm.val zs) (Nm.val ys) = 1) := by
  refine ⟨fun h => ?_, fun h => ?_⟩
  · rw [← cmp_at hz hy hl t ht he hx hy' (by omega)]
    simp [sgn]; omega
  · rw [← cmp_at hz hy hl t ht he hx hy' (by omega)]
    simp [sgn, h]

set_option maxRecDepth 100000 in
set_option maxHeartbeats 2000000 in
theorem refCmp_any (p q : Option Addr) (n cap m cap' : Nat) (zs ys : List Int) (w : World) (ha : Arg w p n cap zs) (hb : Arg w q m cap' ys) :
    Calls Tryz.prog 61 #[.slice p n cap, .slice q m cap'] w fun e w' => e = .returned (.int .i64 (cmpI (Nm.val zs) (Nm.val ys))) ∧ Below w.heap.size w w' := by
  obtain ⟨a1, a2, a3, a4, a5⟩ := ha
  obtain ⟨b1, b2, b3, b4, b5⟩ := hb
  have tl := Nm.tsize_le zs
  have tl' := Nm.tsize_le ys
  have S1 := hid (refSize_any p n cap zs w a1 (by omega) a4)
  have S2 := hid (refSize_any q m cap' ys w b1 (by omega) b4)
  by_cases h1 : Nm.tsize zs < Nm.tsize ys
  · have E := hid (cmpI_lt (val_lt_of_tsize a5 b5 h1))
    have h1' : (Nm.tsize zs : Int) < (Nm.tsize ys : Int) := by omega
    clear h1
    go_enter Tryz.func61, Tryz.ntmps61
    go_wp2_with fail
    refine S1.out.mono ?_
    rintro e w' ⟨rfl, rfl⟩
    go_wp2_with fail
    refine S2.out.mono ?_
    rintro e w' ⟨rfl, rfl⟩
    go_wp2
    go_ret
    exact ⟨ret_i64 E.out.symm, Below.refl _ _⟩
  by_cases h2 : Nm.tsize ys < Nm.tsize zs
  · have E := hid (cmpI_gt (val_lt_of_tsize b5 a5 h2))
    have h1' : ¬ (Nm.tsize zs : Int) < (Nm.tsize ys : Int) := by omega
    have h2' : (Nm.tsize ys : Int) < (Nm.tsize zs : Int) := by omega
    clear h1 h2
    go_enter Tryz.func61, Tryz.ntmps61
    go_wp2_with fail
    refine S1.out.mono ?_
    rintro e w' ⟨rfl, rfl⟩
    go_wp2_with fail
    refine S2.out.mono ?_
    rintro e w' ⟨rfl, rfl⟩
    go_wp2
    go_ret
    exact ⟨ret_i64 E.out.symm, Below.refl _ _⟩
  obtain ⟨N, HN⟩ : ∃ N, Hid (Nm.tsize zs = N) := ⟨_, rfl⟩
  have HN' : Hid (Nm.tsize ys = N) := by have := HN.out; exact (show Nm.tsize ys = N by omega)
  have T1 := S1.out
  have T2 := S2.out
  rw [HN.out] at T1
  rw [HN'.out] at T2
  have HT1 := hid T1
  have HT2 := hid T2
  have hN : N ≤ 17592186044416 := by have := HN.out; omega
  have L1 := hid (Nm.trim_length zs)
  have L2 := hid (Nm.trim_length ys)
  clear h1 h2 tl tl' T1 T2 S1 S2
  have FIN : Hid (Nm.trim zs = Nm.trim ys → cmpI (Nm.val zs) (Nm.val ys) = 0) := fun h => cmpI_eq (by rw [← Nm.val_trim zs, ← Nm.val_trim ys, h])
  by_cases h0 : N = 0
  · subst h0
    go_enter Tryz.func61, Tryz.ntmps61
    go_wp2_with fail
    refine HT1.out.mono ?_
    rintro e w' ⟨rfl, rfl⟩
    go_wp2_with fail
    refine HT2.out.mono ?_
    rintro e w' ⟨rfl, rfl⟩
    go_wp2_with fail
    refine wp_loop_rounds 1 ?_
    rw [rounds_succ]
    go_wp2
    go_ret
    exact ⟨ret_i64 (FIN.out (by rw [List.eq_nil_of_length_eq_zero (L1.out.trans HN.out), List.eq_nil_of_length_eq_zero (L2.out.trans HN'.out)])).symm, Below.refl _ _⟩
  · obtain ⟨b, off, rfl, hbw, HC⟩ := a4.trim.at (by have := L1.out; have := HN.out; omega)
    obtain ⟨b', off', rfl, hbw', HC'⟩ := b4.trim.at (by have := L2.out; have := HN'.out; omega)
    have hNn : N ≤ n := by have := HN.out; have := Nm.tsize_le zs; omega
    have hNm : N ≤ m := by have := HN'.out; have := Nm.tsize_le ys; omega
    go_enter Tryz.func61, Tryz.ntmps61
    go_wp2_with fail
    refine HT1.out.mono ?_
    rintro e w' ⟨rfl, rfl⟩
    go_wp2_with fail
    refine HT2.out.mono ?_
    rintro e w' ⟨rfl, rfl⟩
    go_wp2_with fail
    go_loopw [7] (fun i wr => ∃ j : Nat, j ≤ N ∧ i = .int .i64 ((j : Int) - 1) ∧ Hid (∀ t, j ≤ t → (Nm.trim zs).getD t 0 = (Nm.trim ys).getD t 0) ∧ Below w'.heap.size w' wr) (fun i _ => (intOf i + 1).toNat)
    case atStart => exact ⟨N, Nat.le_refl _, rfl, fun t ht => by rw [List.getD, List.getElem?_eq_none (by have := L1.out; have := HN.out; omega), List.getD, List.getElem?_eq_none (by have := L2.out; have := HN'.out; omega)], Below.refl _ _⟩
    case round =>
      obtain ⟨j, hj, rfl, hE, hB⟩ := hrel
      by_cases hj0 : j = 0
      · subst hj0
        have HB := hid hB
        clear hB
        go_wp2
        go_ret
        refine ⟨ret_i64 (FIN.out ?_).symm, HB.out⟩
        have e := Nm.drop_eq_of_getD (by rw [L1.out, L2.out, HN.out, HN'.out]) 0 hE.out
        simpa using e
      · obtain ⟨t, rfl⟩ : ∃ t, j = t + 1 := ⟨j - 1, by omega⟩
        obtain ⟨x, hx, X⟩ : ∃ x, wr.cell? ⟨b, off + t, none⟩ = some (.int .u64 x) ∧ Hid (x = (Nm.trim zs).getD t 0) := ⟨_, (hB.cell (p := ⟨b, off + t, none⟩) hbw).trans (HC.out t (by have := L1.out; have := HN.out; omega)), rfl⟩
        obtain ⟨y, hy, Y⟩ : ∃ y, wr.cell? ⟨b', off' + t, none⟩ = some (.int .u64 y) ∧ Hid (y = (Nm.trim ys).getD t 0) := ⟨_, (hB.cell (p := ⟨b', off' + t, none⟩) hbw').trans (HC'.out t (by have := L2.out; have := HN'.out; omega)), rfl⟩
        have HB := hid hB
        have CM := hid (cmp_at3 a5 b5 (by rw [L1.out, L2.out, HN.out, HN'.out]) t (by rw [L1.out, HN.out]; omega) hE.out X.out Y.out)
        clear hB
        have htn : (t : Int) < (n : Int) := by omega
        have htm : (t : Int) < (m : Int) := by omega
        by_cases hxy : x < y
        · go_wp2_with fail
          go_quiet (fail)
          go_wp2
          go_ret
          exact ⟨ret_i64 (CM.out.1 hxy).symm, below_drewN HB.out _⟩
        · go_wp2_with fail
          go_quiet (fail)
          have hx2 : (wr.drewN nq).cell? ⟨b, off + t, none⟩ = some (.int .u64 x) := hx
          have hy2 : (wr.drewN nq).cell? ⟨b', off' + t, none⟩ = some (.int .u64 y) := hy
          have HB2 := hid (below_drewN HB.out nq)
          clear hx hy HB
          generalize wr.drewN nq = wq at *
          by_cases hyx : y < x
          · go_wp2_with fail
            go_quiet (fail)
            go_wp2
            go_ret
            exact ⟨ret_i64 (CM.out.2 hyx).symm, below_drewN HB2.out _⟩
          · have EQ : Hid (x = y) := by show _ = _; omega
            go_wp2_with fail
            go_quiet (fail)
            go_wp2
            go_roundw
            case rel =>
              refine ⟨t, by omega, by go_num, fun i hi => ?_, below_drewN HB2.out _⟩
              by_cases e : i = t
              · subst e; rw [← X.out, ← Y.out]; exact EQ.out
              · exact hE.out i (by omega)
            case measure => simp [intOf]
end Go.Proofs.YtonnlimmjelldaaGreatDoor

namespace Go.Proofs.YtonnlimmjelldaaGreatDoor
open Go.RowKit Go.Deep

namespace Nm
theorem p32_pow : ∀ z, p32 z = 2 ^ (32 * z)
  | 0 => rfl
  | z + 1 => by
    rw [show 32 * (z + 1) = 32 * z + 32 by omega, two_add, ← p32_pow z]
    simp only [p32]
    rw [Int.mul_comm, show (2 : Int) ^ 32 = 4294967296 by decide]

theorem lift_step {ss xs : List Int} {z j : Nat} {F c c' lo : Int} (hl : ss.length = z + j) (h : v32 ss + p32 (z + j) * c = p32 z * (F * v32 (xs.take j))) (hs : lo + 4294967296 * c' = xs.getD j 0 * F + c) :
    v32 (ss ++ [lo]) + p32 (z + (j + 1)) * c' = p32 z * (F * v32 (xs.take (j + 1))) := by
  rw [v32_snoc, v32_take_next, hl, Int.mul_add F, Int.mul_add (p32 z)]
  have e1 : p32 (z + (j + 1)) * c' = p32 (z + j) * (4294967296 * c') := by
    rw [← Nat.add_assoc]; simp only [p32]; rw [Int.mul_comm 4294967296 (p32 (z + j)), Int.mul_assoc]
  have e2 : p32 z * (F * (p32 j * xs.getD j 0)) = p32 (z + j) * (xs.getD j 0 * F) := by
    rw [p32_add, Int.mul_left_comm F, ← Int.mul_assoc, Int.mul_comm F]
  have e3 : p32 (z + j) * (lo + 4294967296 * c') = p32 (z + j) * (xs.getD j 0 * F + c) := by rw [hs]
  rw [Int.mul_add, Int.mul_add] at e3
  omega
end Nm

set_option maxRecDepth 20000 in
set_option maxRecDepth 100000 in
set_option maxHeartbeats 4000000 in
theorem lift_any (p : Option Addr) (n cap : Nat) (za : List Int) (kk : Int) (k : Nat) (w : World) (ha : Arg w p n cap za) (hn : Nm.tsize za ≤ 1099511627776) (hkk : kk = (k : Int)) (hk : k ≤ 4194304) :
    Calls Tryz.prog 65 #[.slice p n cap, .int .i64 kk] w fun e w' => ∃ r os, e = .returned (.slice r (List.length os) (List.length os)) ∧ Ans w.heap.size w' r os (Nm.val za * 2 ^ k) ∧ Below w.heap.size w w' := by
  have HA := hid ha
  have hk0 : 0 ≤ kk := by omega
  have hk1 : kk ≤ 4194304 := by omega
  obtain ⟨z, HZ⟩ : ∃ z : Nat, Hid (kk / 32 = (z : Int) ∧ z = k / 32) := ⟨k / 32, by show _ ∧ _; omega⟩
  obtain ⟨r, HR⟩ : ∃ r : Nat, Hid (kk % 32 = (r : Int) ∧ r = k % 32) := ⟨k % 32, by show _ ∧ _; omega⟩
  have KZ : Hid (k = 32 * z + r) := by have := HZ.out; have := HR.out; show _ = _; omega
  have hz8 : z ≤ 131072 := by have := HZ.out; omega
  have hr31 : r ≤ 31 := by have := HR.out; omega
  clear ha hkk hk
  go_enter Tryz.func65, Tryz.ntmps65
  go_wp2_with fail
  refine (halves_any p n cap za _ HA.out (by have := HA.out.2.1; have := HA.out.2.2.1; omega)).mono ?_
  rintro e w1 ⟨xs, rfl, lx, hx, vx, kx, bx⟩
  have D1 := hid bx
  obtain ⟨l1, LX⟩ : ∃ l1, Hid (xs.length = l1) := ⟨_, rfl⟩
  have HX := hid hx
  have VX := hid vx
  have kx1 : l1 ≤ 2 * Nm.tsize za := by have := LX.out; omega
  obtain ⟨g1, G1⟩ : ∃ g1, w.heap.size = g1 := ⟨_, rfl⟩
  have lx2 := lx
  rw [G1] at lx2
  have CX : Hid (∀ i, i < l1 → w1.cell? ⟨g1, i, none⟩ = some (.int .u64 (xs.getD i 0))) := fun i hi => by have := lx2.cells i (by have := LX.out; omega); rwa [Nat.zero_add] at this
  obtain ⟨g, Gg⟩ : ∃ g, Hid (w1.heap.size = g) := ⟨_, rfl⟩
  have BX : Hid (∀ {j : Nat}, j < l1 → g1 < g) := fun {j} hj => by rw [← Gg.out]; exact cell_lt (CX.out j hj)
  rw [LX.out, G1]
  clear lx lx2 hx vx kx bx
  by_cases hz : l1 = 0
  · have V0 : Hid (Nm.val za * 2 ^ k = 0) := by
      rw [Hid, ← VX.out, List.eq_nil_of_length_eq_zero (LX.out.trans hz)]; simp [Nm.v32]
    have D3 := hid (chain D1.out ((Below.refl w1.heap.size w1).alloc (Nat.le_refl _) (.cells #[] 26)) (Nat.le_refl _))
    have GS : Hid (w.heap.size ≤ g) := by rw [← Gg.out]; exact D1.out.size
    have FIN : Hid (∀ x : World, Below w.heap.size w x → ∃ r os, Ending.returned (.slice (some ⟨g, 0, none⟩) 0 0) = .returned (.slice r (List.length os) (List.length os)) ∧ Ans w.heap.size x r os (Nm.val za * 2 ^ k) ∧ Below w.heap.size w x) := fun x hx => ⟨some ⟨g, 0, none⟩, [], rfl, ⟨Lies.nil _ _, Nm.Limbs.nil, rfl, V0.out.symm, fun a h => by cases h; exact GS.out⟩, hx⟩
    subst hz
    go_wp2
    go_ret
    rw [Gg.out]
    exact FIN.out _ D3.out
  · have h1' : ((l1 : Int) == 0) = false := by rw [beq_eq_false_iff_ne]; omega
    obtain ⟨C, HC⟩ : ∃ C, Hid (z + l1 + 1 = C) := ⟨_, rfl⟩
    have hmk := make64_room (z + l1 + 1) (by omega) w1
    rw [show ((z + l1 + 1 : Nat) : Int) = kk / 32 + (l1 : Int) + 1 by have := HZ.out; omega, HC.out, Gg.out] at hmk
    have bm := hid ((Below.refl w1.heap.size w1).alloc (Nat.le_refl _) (.cells (madeCells #[.int .u64 0] C) 26))
    have gm := hid (Grown.made w1 C)
    rw [Gg.out] at bm gm
    generalize w1.alloc (.cells (madeCells #[.int .u64 0] C) 26) = wm at hmk bm gm
    have hCb : C ≤ 35184372088832 := by have := HC.out; omega
    go_wp2
    clear hmk
    go_loopw [6, 7] (fun a i wr => ∃ j : Nat, j ≤ z ∧ i = .int .i64 j ∧ a = .slice (some ⟨g, 0, none⟩) j C ∧ Hid (Grown wr g (List.replicate j 0) (C - j)) ∧ Below g w1 wr) (fun _ i _ => z - (intOf i).toNat)
    case atStart => exact ⟨0, Nat.zero_le _, rfl, rfl, gm.out, bm.out⟩
    case round =>
      obtain ⟨j, hj, rfl, rfl, G, hB⟩ := hrel
      by_cases hlt : j < z
      · have hlt' : (j : Int) < kk / 32 := by have := HZ.out; omega
        have G' := G.out
        rw [show C - j = (C - j - 1) + 1 by have := HC.out; omega] at G'
        obtain ⟨w2, ap, gr, be, sz⟩ := push64 g j (C - j - 1) C (List.replicate j 0) 0 wr (by simp) (by have := HC.out; omega) G'
        have AP := hid ap
        have GR := hid gr
        have BE := hid (hB.trans be)
        clear ap gr be sz hB G G'
        go_wp2_with (at_builtin; refine wpList_append_row rfl _ _ rfl AP.out (by rfl) (by rfl) ?_; clear AP)
        go_roundw
        case rel =>
          refine ⟨j + 1, by omega, by go_num, rfl, ?_, BE.out⟩
          have := GR.out
          rw [← List.replicate_succ'] at this
          exact this
        case measure => simp [intOf]; omega
      · have hlt' : ¬ (j : Int) < kk / 32 := by have := HZ.out; omega
        obtain rfl : j = z := by omega
        have HB := hid hB
        clear hB
        go_wp2
        go_loop [8, 9] (fun f i => ∃ (t : Nat) (F : Int), t ≤ r ∧ i = .int .i64 t ∧ f = .int .u64 F ∧ 1 ≤ F ∧ F ≤ 2147483648 ∧ Hid (F = 2 ^ t)) (fun _ i => r - (intOf i).toNat)
        case atStart => exact ⟨0, 1, Nat.zero_le _, rfl, rfl, by omega, by omega, rfl⟩
        case round =>
          obtain ⟨t, F, ht, rfl, rfl, hF0, hF1, HF⟩ := hrel
          by_cases htl : t < r
          · have htl' : (t : Int) < kk % 32 := by have := HR.out; omega
            obtain ⟨F2, hF2, FF⟩ : ∃ F2, IntKind.u64.wrap (F * 2) = F2 ∧ Hid (F2 = F * 2) := ⟨_, by rw [IntKind.wrap_u64, Int.emod_eq_of_lt (by omega) (by omega)], rfl⟩
            have E2 : Hid (F2 = 2 ^ (t + 1)) := by rw [Hid, FF.out, HF.out, Nm.two_succ, Int.mul_comm]
            have hF20 : 1 ≤ F2 := by have := FF.out; omega
            have hF21 : F2 ≤ 2147483648 := by
              rw [E2.out]
              have := Nm.two_mono (show t + 1 ≤ 31 by omega)
              have e : (2 : Int) ^ 31 = 2147483648 := by decide
              omega
            go_wp2
            go_round
            case rel => exact ⟨t + 1, F2, by omega, by go_num, by first | rfl | rw [hF2], hF20, hF21, E2.out⟩
            case measure => simp [intOf]; omega
          · have htl' : ¬ (t : Int) < kk % 32 := by have := HR.out; omega
            obtain rfl : t = r := by omega
            have FV : Hid (Nm.p32 j * (F * Nm.v32 xs) = Nm.val za * 2 ^ k) := by
              rw [Hid, Nm.p32_pow, HF.out, VX.out, KZ.out, Nm.two_add, ← Int.mul_assoc, Int.mul_comm]
            go_wp2
            go_loopw [6, 10, 11] (fun a c i wr => ∃ (i' : Nat) (cc : Int) (ss : List Int), i' ≤ l1 ∧ i = .int .i64 i' ∧ a = .slice (some ⟨g, 0, none⟩) (j + i') C ∧ c = .int .u64 cc ∧ 0 ≤ cc ∧ cc < 4294967296 ∧ Hid (Grown wr g ss (C - (j + i'))) ∧ Hid (ss.length = j + i') ∧ Hid (Nm.Halves ss) ∧ Hid (Nm.v32 ss + Nm.p32 (j + i') * cc = Nm.p32 j * (F * Nm.v32 (xs.take i'))) ∧ Below g w1 wr) (fun _ _ i _ => l1 - (intOf i).toNat)
            case atStart => exact ⟨0, 0, List.replicate j 0, Nat.zero_le _, rfl, rfl, rfl, by omega, by omega, G.out, by simp [Hid], Nm.Halves.zeros _, by simp [Hid, Nm.v32_zeros, Nm.v32], HB.out⟩
            case round =>
              obtain ⟨i', cc, ss, hi', rfl, rfl, rfl, hc0, hc1, G3, L, HS, V, hB⟩ := hrel
              have G' := G3.out
              rw [show C - (j + i') = (C - (j + i') - 1) + 1 by have := HC.out; omega] at G'
              by_cases hl : i' < l1
              · have hl' : (i' : Int) < (l1 : Int) := by omega
                obtain ⟨x, hx, X⟩ : ∃ x, wr.cell? ⟨g1, i', none⟩ = some (.int .u64 x) ∧ Hid (x = xs.getD i' 0) := ⟨_, (hB.cell (p := ⟨g1, i', none⟩) (BX.out hl)).trans (CX.out i' hl), rfl⟩
                have hx0 : 0 ≤ x := by have := HX.out.at i'; have := X.out; omega
                have hx1 : x < 4294967296 := by have := HX.out.at i'; have := X.out; omega
                have hxf0 : 0 ≤ x * F := Int.mul_nonneg hx0 (by omega)
                have hxf1 : x * F ≤ 4294967295 * 2147483648 := Int.mul_le_mul (by omega) hF1 (by omega) (by omega)
                obtain ⟨m0, hm0, M0⟩ : ∃ m0, IntKind.u64.wrap (x * F) = m0 ∧ Hid (m0 = x * F) := ⟨_, by rw [IntKind.wrap_u64, Int.emod_eq_of_lt (by omega) (by omega)], rfl⟩
                have hm00 : 0 ≤ m0 := by have := M0.out; omega
                have hm01 : m0 ≤ 9223372034707292160 := by have := M0.out; omega
                obtain ⟨tt, htt, TT⟩ : ∃ tt, IntKind.u64.wrap (m0 + cc) = tt ∧ Hid (tt = m0 + cc) := ⟨_, by rw [IntKind.wrap_u64, Int.emod_eq_of_lt (by omega) (by omega)], rfl⟩
                have htt0 : 0 ≤ tt := by have := TT.out; omega
                have htt1 : tt ≤ 9223372039002259455 := by have := TT.out; omega
                obtain ⟨lo, hlo, LO⟩ : ∃ lo, bits .and .u64 tt 4294967295 = lo ∧ Hid (lo = tt % 4294967296) := ⟨_, r_mask32 tt (by omega) (by omega), rfl⟩
                obtain ⟨hi, hhi, HI⟩ : ∃ hi, tt / 4294967296 = hi ∧ Hid (hi = tt / 4294967296) := ⟨_, rfl, rfl⟩
                have BLO : Hid ((0 ≤ lo ∧ lo < 4294967296) ∧ 0 ≤ hi ∧ hi < 4294967296) := by have := LO.out; have := HI.out; show _ ∧ _; omega
                have ST : Hid (lo + 4294967296 * hi = xs.getD i' 0 * F + cc) := by
                  have h1 := LO.out; have h2 := HI.out; have h3 := TT.out; have h5 := M0.out
                  rw [Hid, ← X.out]; omega
                obtain ⟨w2, ap, gr, be, sz⟩ := push64 g (j + i') (C - (j + i') - 1) C ss lo wr L.out (by have := HC.out; omega) G'
                have AP := hid ap
                have GR := hid gr
                have BE := hid (hB.trans be)
                clear ap gr be sz hB G3 G' hxf0 hxf1
                go_wp2_with (at_builtin; refine wpList_append_row rfl _ _ rfl AP.out (by rfl) (by rfl) ?_; clear AP)
                go_roundw
                case rel =>
                  refine ⟨i' + 1, hi, ss ++ [lo], by omega, by go_num, rfl, by first | rfl | rw [hhi], BLO.out.2.1, BLO.out.2.2, GR.out, ?_, HS.out.snoc BLO.out.1.1 BLO.out.1.2, ?_, BE.out⟩
                  · have := L.out; simp only [Hid, List.length_append, List.length_cons, List.length_nil]; omega
                  · exact Nm.lift_step L.out V.out ST.out
                case measure => simp [intOf]; omega
              · have hl' : ¬ (i' : Int) < (l1 : Int) := by omega
                obtain ⟨w3, ap, gr, be, sz⟩ := push64 g (j + i') (C - (j + i') - 1) C ss cc wr L.out (by have := HC.out; omega) G'
                have AP := hid ap
                have D3 := hid (chain D1.out (by rw [Gg.out]; exact hB.trans be) (Nat.le_refl _))
                have VV : Hid (Nm.v32 (ss ++ [cc]) = Nm.val za * 2 ^ k) := by
                  have := V.out
                  rw [List.take_of_length_le (by have := LX.out; omega), FV.out] at this
                  rw [Hid, Nm.v32_snoc, L.out]
                  exact this
                have HS2 := hid (HS.out.snoc hc0 hc1)
                have AG : Hid (Arg w3 (some ⟨g, 0, none⟩) (j + i' + 1) C (ss ++ [cc])) := ⟨by simp [L.out], by have := HC.out; omega, by have := HC.out; omega, gr.lies, HS2.out.limbs⟩
                have hw3 : Hid (w.heap.size ≤ w3.heap.size) := D3.out.size
                clear ap gr be sz hB G3 G'
                go_wp2_with (at_builtin; refine wpList_append_row rfl _ _ rfl AP.out (by rfl) (by rfl) ?_; clear AP)
                refine (rlimbs_any _ (j + i' + 1) C (ss ++ [cc]) _ AG.out HS2.out).mono ?_
                rintro e w4 ⟨r4, os, rfl, hA, hb⟩
                rw [VV.out] at hA
                have A4 := hid (hA.mono hw3.out)
                have D4 := hid (chain D3.out hb (Nat.le_refl _))
                clear hA hb
                go_wp2
                go_ret
                exact ⟨r4, os, rfl, A4.out, D4.out⟩
end Go.Proofs.YtonnlimmjelldaaGreatDoor

namespace Go.Proofs.YtonnlimmjelldaaGreatDoor
open Go Go.RowKit Go.Deep Go.Shelf

theorem pw_bd {a b : Nat} (h : 4 * a + b < 262144) : (10 : Int) ^ a * 2 ^ b < Nm.pw 4096 := by
  rw [Nm.pw_two]
  obtain ⟨K, hK⟩ : ∃ K : Nat, 64 * 4096 = K := ⟨_, rfl⟩
  rw [hK]
  have hK2 : 4 * a + b < K := by omega
  clear hK h
  have h1 : (10 : Int) ^ a ≤ 2 ^ (4 * a) := by
    have : (10 ^ a : Nat) ≤ 16 ^ a := Nat.pow_le_pow_left (by omega) a
    rw [show (16 : Nat) = 2 ^ 4 from rfl, ← Nat.pow_mul] at this
    exact_mod_cast this
  have h2 : (10 : Int) ^ a * 2 ^ b ≤ 2 ^ (4 * a) * 2 ^ b := Int.mul_le_mul_of_nonneg_right h1 (Int.le_of_lt (Int.pow_pos (by omega)))
  rw [← Int.pow_add] at h2
  have h3 : (2 : Int) ^ (4 * a + b) < 2 ^ K := by
    have : (2 ^ (4 * a + b) : Nat) < 2 ^ K := Nat.pow_lt_pow_right (by omega) hK2
    exact_mod_cast this
  omega
theorem pw_bdm {m : Int} {a b : Nat} (m0 : 0 ≤ m) (m1 : m < 18446744073709551616) (h : 4 * a + b < 262000) : m * 10 ^ a * 2 ^ b < Nm.pw 4096 := by
  have h1 := pw_bd (a := a) (b := b + 64) (by omega)
  have p1 : (0 : Int) < 10 ^ a * 2 ^ b := Int.mul_pos (Int.pow_pos (by omega)) (Int.pow_pos (by omega))
  have h2 : m * (10 ^ a * 2 ^ b) ≤ 18446744073709551616 * (10 ^ a * 2 ^ b) := Int.mul_le_mul_of_nonneg_right (by omega) (Int.le_of_lt p1)
  rw [Int.pow_add, show (2 : Int) ^ 64 = 18446744073709551616 from rfl, ← Int.mul_assoc, Int.mul_comm] at h1
  rw [Int.mul_assoc]
  omega

def TenTold (k : Nat) (w : World) (e : Ending) (w' : World) : Prop := ∃ r os, e = .returned (.slice r (List.length os) (List.length os)) ∧ Ans w.heap.size w' r os (10 ^ k) ∧ Below w.heap.size w w'
set_option maxRecDepth 100000 in
theorem xten_any (k : Int) (w : World) (hk : k ≤ 10000) (hk0 : -9223372036854775808 ≤ k) : Calls Tryz.prog 88 #[.int .i64 k] w fun e w' => TenTold k.toNat w e w' := by
  have G : ∀ (n : Nat), n ≤ 10000 → ∀ e w', Gives (10 ^ n) w e w' → ∃ r os, e = .returned (.tuple #[.slice r (List.length os) (List.length os), .int .i64 0]) ∧ Ans w.heap.size w' r os (10 ^ n) ∧ Below w.heap.size w w' := by
    rintro n hn e w' ⟨h | h, hb⟩
    · obtain ⟨-, r, os, he, ha⟩ := h
      exact ⟨r, os, he, ha, hb⟩
    · have := pw_bd (a := n) (b := 0) (by omega)
      rw [Int.pow_zero, Int.mul_one] at this
      omega
  by_cases h : k < 0
  · have P := hid ((rpow10_gives 0 0 w rfl (by omega)).mono (G 0 (by omega)))
    rw [show k.toNat = 0 by omega]
    clear G hk
    go_enter Tryz.func88, Tryz.ntmps88
    go_wp2_with fail
    with_reducible refine P.out.mono ?_
    rintro e w1 ⟨r, os, rfl, a, b⟩
    have F : Hid (TenTold 0 w (.returned (.slice r (List.length os) (List.length os))) w1) := ⟨r, os, rfl, a, b⟩
    clear a b P
    go_wp2_with fail
    go_ret
    exact F.out
  · have P := hid ((rpow10_gives k k.toNat w (by omega) (by omega)).mono (G k.toNat (by omega)))
    clear G hk
    generalize k.toNat = n at *
    go_enter Tryz.func88, Tryz.ntmps88
    go_wp2_with fail
    with_reducible refine P.out.mono ?_
    rintro e w1 ⟨r, os, rfl, a, b⟩
    have F : Hid (TenTold n w (.returned (.slice r (List.length os) (List.length os))) w1) := ⟨r, os, rfl, a, b⟩
    clear a b P
    go_wp2_with fail
    go_ret
    exact F.out

def ScTold (m x e : Int) (w : World) (en : Ending) (w' : World) : Prop := ∃ r os s us, en = .returned (.tuple #[.slice r (List.length os) (List.length os), .slice s (List.length us) (List.length us)]) ∧ Ans w.heap.size w' r os (m * 10 ^ (-e).toNat * 2 ^ x.toNat) ∧ Ans w.heap.size w' s us (10 ^ e.toNat * 2 ^ (-x).toNat) ∧ Below w.heap.size w w'
set_option maxRecDepth 100000 in
set_option maxHeartbeats 2000000 in
theorem xscaled_any (m x e : Int) (w : World) (m0 : 0 ≤ m) (m1 : m < 18446744073709551616) (x0 : -2000 ≤ x) (x1 : x ≤ 2000) (e0 : -10000 ≤ e) (e1 : e ≤ 10000) :
    Calls Tryz.prog 56 #[.int .u64 m, .int .i64 x, .int .i64 e] w fun en w' => ScTold m x e w en w' := by
  have bA := hid (alloc_b w (.cells #[.int .u64 m] 26))
  have A0 : Hid (Arg (w.alloc (.cells #[.int .u64 m] 26)) (some ⟨w.heap.size, 0, none⟩) 1 1 [m]) := ⟨rfl, Nat.le_refl _, by omega, (Own.alloc w [m]).lies, limb_one ⟨m0, m1⟩⟩
  have T1 := hid (fun W' => xten_any (-e) W' (by omega) (by omega))
  have T2 := hid (fun W' => xten_any e W' (by omega) (by omega))
  have p1 : Hid ((10 : Int) ^ (-e).toNat < Nm.pw 4096) := by have := pw_bd (a := (-e).toNat) (b := 0) (by omega); rw [Int.pow_zero, Int.mul_one] at this; exact this
  have p2 : Hid ((10 : Int) ^ e.toNat < Nm.pw 4096) := by have := pw_bd (a := e.toNat) (b := 0) (by omega); rw [Int.pow_zero, Int.mul_one] at this; exact this
  have p3 : Hid (m * (10 : Int) ^ (-e).toNat < Nm.pw 4096) := by have := pw_bdm (a := (-e).toNat) (b := 0) m0 m1 (by omega); rw [Int.pow_zero, Int.mul_one] at this; exact this
  have LX : Hid (0 ≤ x → x.toNat ≤ 2000 ∧ x = (x.toNat : Int) ∧ (-x).toNat = 0) := fun h => ⟨by omega, by omega, by omega⟩
  have LY : Hid (¬ 0 ≤ x → (-x).toNat ≤ 2000 ∧ -x = ((-x).toNat : Int) ∧ x.toNat = 0) := fun h => ⟨by omega, by omega, by omega⟩
  obtain ⟨ee, hee⟩ : ∃ ee, -e = ee := ⟨_, rfl⟩
  rw [hee] at T1
  replace hee := hid hee
  clear m0 m1
  go_enter Tryz.func56, Tryz.ntmps56
  go_wp2_with fail
  (try rw [hee.out])
  with_reducible refine (T1.out _).mono ?_
  rintro en w1 ⟨r1, o1, rfl, a1, b1⟩
  rw [← hee.out] at a1
  have TM := hid (times_any _ r1 1 1 _ _ [m] o1 w1 (A0.out.below b1 (Nat.le_refl _)) (a1.argT p1.out) (Nat.le_trans (Nm.tsize_le _) (by simp)) (Nat.le_trans (a1.tsT p1.out) (by omega)))
  have B1 := hid (below_on bA.out b1)
  have V1 := hid a1.2.2.2.1
  clear a1 b1 T1 A0 bA
  go_wp2_with fail
  with_reducible refine TM.out.mono ?_
  rintro en w2 ⟨r2, o2, rfl, a2, b2⟩
  rw [V1.out, show Nm.val [m] = m by simp [Nm.val]] at a2
  have B2 := hid (below_on B1.out b2)
  have A2 := hid (a2.upT B1.out.size)
  clear a2 b2 TM V1
  go_wp2_with fail
  with_reducible refine (T2.out _).mono ?_
  rintro en w3 ⟨r3, o3, rfl, a3, b3⟩
  have B3 := hid (below_on B2.out b3)
  have A3 := hid (a3.upT B2.out.size)
  have A4 := hid (A2.out.below b3 (Nat.le_refl _))
  clear a3 b3 T2 A2 B1 B2
  by_cases hx : 0 ≤ x
  · obtain ⟨l1, l2, l3⟩ := LX.out hx
    have LF := hid (lift_any r2 _ _ o2 x x.toNat w3 (A4.out.argT p3.out) (Nat.le_trans (A4.out.tsT p3.out) (by omega)) l2 (by omega))
    have F : Hid (∀ r4 o4 w4, Ans w3.heap.size w4 r4 o4 (Nm.val o2 * 2 ^ x.toNat) → Below w3.heap.size w3 w4 → ScTold m x e w (.returned (.tuple #[.slice r4 (List.length o4) (List.length o4), .slice r3 (List.length o3) (List.length o3)])) w4) := by
      intro r4 o4 w4 a4 b4
      rw [A4.out.2.2.2.1] at a4
      refine ⟨r4, o4, r3, o3, rfl, a4.upT B3.out.size, ?_, below_on B3.out b4⟩
      rw [l3, Int.pow_zero, Int.mul_one]
      exact A3.out.below b4 (Nat.le_refl _)
    clear LX LY l1 l2 l3 A3 A4 B3 p1 p2 p3
    go_wp2_with fail
    with_reducible refine LF.out.mono ?_
    rintro en w4 ⟨r4, o4, rfl, a4, b4⟩
    have G := hid (F.out _ _ _ a4 b4)
    clear a4 b4 LF F
    go_wp2_with fail
    go_ret2
    exact G.out
  · obtain ⟨l1, l2, l3⟩ := LY.out (by omega)
    have LF := hid (lift_any r3 _ _ o3 (-x) (-x).toNat w3 (A3.out.argT p2.out) (Nat.le_trans (A3.out.tsT p2.out) (by omega)) l2 (by omega))
    have F : Hid (∀ r4 o4 w4, Ans w3.heap.size w4 r4 o4 (Nm.val o3 * 2 ^ (-x).toNat) → Below w3.heap.size w3 w4 → ScTold m x e w (.returned (.tuple #[.slice r2 (List.length o2) (List.length o2), .slice r4 (List.length o4) (List.length o4)])) w4) := by
      intro r4 o4 w4 a4 b4
      rw [A3.out.2.2.2.1] at a4
      refine ⟨r2, o2, r4, o4, rfl, ?_, a4.upT B3.out.size, below_on B3.out b4⟩
      rw [l3, Int.pow_zero, Int.mul_one]
      exact A4.out.below b4 (Nat.le_refl _)
    clear LX LY l1 l2 l3 A3 A4 B3 p1 p2 p3
    go_wp2_with fail
    with_reducible refine LF.out.mono ?_
    rintro en w4 ⟨r4, o4, rfl, a4, b4⟩
    have G := hid (F.out _ _ _ a4 b4)
    clear a4 b4 LF F
    go_wp2_with fail
    go_ret2
    exact G.out

/-- Is m * 2^x at least 10^e? -/
def Po.atl (m x e : Int) : Bool := decide (10 ^ e.toNat * 2 ^ (-x).toNat ≤ m * 10 ^ (-e).toNat * 2 ^ x.toNat)
set_option maxRecDepth 100000 in
theorem xatLeast_any (m x e : Int) (w : World) (m0 : 0 ≤ m) (m1 : m < 18446744073709551616) (x0 : -2000 ≤ x) (x1 : x ≤ 2000) (e0 : -10000 ≤ e) (e1 : e ≤ 10000) :
    Calls Tryz.prog 55 #[.int .u64 m, .int .i64 x, .int .i64 e] w fun en w' => en = .returned (.bool (Po.atl m x e)) ∧ Below w.heap.size w w' := by
  have SC := hid (xscaled_any m x e w m0 m1 x0 x1 e0 e1)
  have q1 : Hid (m * 10 ^ (-e).toNat * 2 ^ x.toNat < Nm.pw 4096) := pw_bdm m0 m1 (by omega)
  have q2 : Hid ((10 : Int) ^ e.toNat * 2 ^ (-x).toNat < Nm.pw 4096) := pw_bd (by omega)
  have E : Hid (Po.atl m x e = decide (0 ≤ cmpI (m * 10 ^ (-e).toNat * 2 ^ x.toNat) (10 ^ e.toNat * 2 ^ (-x).toNat))) := by
    show Po.atl m x e = _
    unfold Po.atl cmpI
    congr 1
    apply propext
    split
    · omega
    · split <;> omega
  clear m0 m1 x0 x1 e0 e1
  unfold ScTold at SC
  generalize m * 10 ^ (-e).toNat * 2 ^ x.toNat = N at *
  generalize (10 : Int) ^ e.toNat * 2 ^ (-x).toNat = D at *
  generalize Po.atl m x e = bb at *
  go_enter Tryz.func55, Tryz.ntmps55
  go_wp2_with fail
  with_reducible refine SC.out.mono ?_
  rintro en w1 ⟨r, os, s, us, rfl, a1, a2, b1⟩
  have CM := hid (refCmp_any r s _ _ _ _ os us w1 (a1.argT q1.out) (a2.argT q2.out))
  rw [a1.2.2.2.1, a2.2.2.2.1] at CM
  have B1 := hid b1
  clear a1 a2 b1 SC q1 q2
  generalize cmpI N D = cc at *
  go_wp2_with fail
  with_reducible refine CM.out.mono ?_
  rintro en w2 ⟨rfl, b2⟩
  have B2 := hid (below_on B1.out b2)
  clear b2 B1 CM
  go_wp2_with fail
  go_ret
  exact ⟨by rw [E.out]; rfl, B2.out⟩
end Go.Proofs.YtonnlimmjelldaaGreatDoor
