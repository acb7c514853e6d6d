/-
  Texts put together: QTimes2, Walk4, MulOver, QGives, QPow, QPowG, QRPow, QRPow2, QRPow3, VStr, NStr, NDigit, NDv, FNum, FShl, NToU.
-/
import Derived.Test.YtaoaniigbooihaaGreatDoorRB
import Derived.BigRegion
import Derived.Test.YtaoaniigbooihaaGreatDoorWalk2a
import Derived.Test.YtaoaniigbooihaaGreatDoorNums
import Derived.Test.YtaoaniigbooihaaGreatDoorBlenIs
import Derived.Test.YtaoaniigbooihaaGreatDoorV0
import Derived.Test.YtaoaniigbooihaaGreatDoorVNum
import Derived.Laws.BytesArg
import Derived.Laws.IdiomStrings
import Derived.Laws.Strings3
import Derived.Laws.DeepStrings4
import Derived.Test.YtaoaniigbooihaaGreatDoorNMem
import Derived.Test.YtaoaniigbooihaaGreatDoorRA
import Derived.Test.YtaoaniigbooihaaGreatDoorWalk5a
namespace Go.Proofs.YtaoaniigbooihaaGreatDoor
open Go.RowKit Go.Deep

/-- Behind j limbs of the product put together. -/
def JoinInv (g H : Nat) (w : World) (ps : List Int) (j : Nat) (os : List Int) (wr : World) : Prop :=
  Own wr g os ∧ os.length = H ∧ Nm.Limbs os ∧ Nm.val os = Nm.v32 (ps.take (2 * j)) ∧ (∀ i, j ≤ i → os.getD i 0 = 0) ∧ Below g w wr

theorem JoinInv.step {g H : Nat} {w : World} {ps : List Int} {j : Nat} {os : List Int} {wr wq : World} {x y z : Int} (h : JoinInv g H w ps j os wr) (hb : Below wr.heap.size wr wq) (hj : j < H) (hx : x = ps.getD (2 * j) 0) (hy : y = ps.getD (2 * j + 1) 0) (hz : z = x + 4294967296 * y) (z0 : 0 ≤ z) (z1 : z < 18446744073709551616) :
    JoinInv g H w ps (j + 1) (os.set j z) (wq.setCell ⟨g, j, none⟩ (.int .u64 z)) := by
  obtain ⟨h1, h2, h3, h4, h5, h6⟩ := h
  have hlt := h1.lt
  refine ⟨(h1.below hb hlt).set j z, by simpa using h2, h3.set j z0 z1, ?_, fun i hi => ?_, (h6.trans (hb.mono (Nat.le_of_lt hlt))).setCell (p := ⟨g, j, none⟩) (Nat.le_refl _) _⟩
  · rw [Nm.val_set _ _ _ (by omega), h5 j (Nat.le_refl _), Int.sub_zero, h4, show 2 * (j + 1) = 2 * j + 1 + 1 by omega, Nm.v32_take_next, Nm.v32_take_next, ← hx, ← hy, hz]
    simp only [Nm.p32, Nm.p32_two]
    rw [Int.mul_add, Int.mul_left_comm, Int.mul_assoc]
    omega
  · rw [Nm.getD_set _ _ _ _ (by omega), if_neg (by omega)]
    exact h5 i (by omega)

theorem or32 (x y : Int) (x0 : 0 ≤ x) (x1 : x < 4294967296) (y0 : 0 ≤ y) (y1 : y < 4294967296) : IntKind.u64.wrap (y * 4294967296) = y * 4294967296 ∧ bits .or .u64 x (y * 4294967296) = x + 4294967296 * y := by
  refine ⟨by rw [wrap_mod]; omega, ?_⟩
  have h := or_sum y x 32 y0 x0 (by rw [show (2 : Int) ^ 32 = 4294967296 by decide]; exact x1) (by rw [show (2 : Int) ^ 32 = 4294967296 by decide]; omega) (by omega)
  rw [show (2 : Int) ^ 32 = 4294967296 by decide] at h
  obtain ⟨a, rfl⟩ := Int.eq_ofNat_of_zero_le x0
  obtain ⟨c, rfl⟩ := Int.eq_ofNat_of_zero_le y0
  have e1 := bits_or_u64_nat a (c * 4294967296) (by omega) (by omega)
  have e2 := bits_or_u64_nat (c * 4294967296) a (by omega) (by omega)
  rw [Nat.or_comm] at e2
  have e3 : ((c * 4294967296 : Nat) : Int) = (c : Int) * 4294967296 := by omega
  rw [e3] at e1 e2
  rw [e1, ← e2, h]
  omega

set_option maxRecDepth 100000 in
set_option maxHeartbeats 8000000 in
theorem refTimes_any (p q : Option Addr) (n cap m cap' : Nat) (za zb : List Int) (w : World) (ha : Arg w p n cap za) (hb : Arg w q m cap' zb) (hn : Nm.tsize za ≤ 1000000) (hm : Nm.tsize zb ≤ 1000000) :
    Calls Tryz.prog 234 #[.slice p n cap, .slice q m cap'] w fun e w' => ∃ r os, e = .returned (.slice r (List.length os) (List.length os)) ∧ Ans w.heap.size w' r os (Nm.val za * Nm.val zb) ∧ Below w.heap.size w w' := by
  have HA := hid ha
  have HB0 := hid hb
  have a2 := ha.2.1
  have a3 := ha.2.2.1
  have b2 := hb.2.1
  have b3 := hb.2.2.1
  obtain ⟨N1, hN1⟩ : ∃ N, Nm.tsize za = N := ⟨_, rfl⟩
  obtain ⟨N2, hN2⟩ : ∃ N, Nm.tsize zb = N := ⟨_, rfl⟩
  have HN1 := hid hN1
  have HN2 := hid hN2
  have bN1 : N1 ≤ 1000000 := by omega
  have bN2 : N2 ≤ 1000000 := by omega
  clear ha hb hN1 hN2 hn hm
  go_enter Tryz.func234, Tryz.ntmps234
  go_wp2_with fail
  refine (halfWords_any p n cap za N1 _ HA.out.1 (by omega) HA.out.2.2.2.1 HA.out.2.2.2.2 HN1.out bN1).mono ?_
  rintro e w1 ⟨xs, g1, rfl, KX⟩
  have HB1 := hid (HB0.out.below KX.out.2.2.2.2.2 (Nat.le_refl _))
  have D1 := hid KX.out.2.2.2.2.2
  obtain ⟨l1, hl1⟩ : ∃ l1, 2 * N1 = l1 := ⟨_, rfl⟩
  rw [hl1]
  have LX : Hid (xs.length = l1) := by rw [← hl1]; exact KX.out.2.1
  have HX := hid KX.out.2.2.1
  have VX := hid KX.out.2.2.2.1
  have OX := hid KX.out.1
  have HL1 := hid hl1
  clear KX HB0 hl1
  go_wp2_with fail
  refine (halfWords_any q m cap' zb N2 _ HB1.out.1 (by omega) HB1.out.2.2.2.1 HB1.out.2.2.2.2 HN2.out bN2).mono ?_
  rintro e w2 ⟨ys, g2, rfl, KY⟩
  have D2 := hid (chain D1.out KY.out.2.2.2.2.2 (Nat.le_refl _))
  obtain ⟨l2, hl2⟩ : ∃ l2, 2 * N2 = l2 := ⟨_, rfl⟩
  rw [hl2]
  have LY : Hid (ys.length = l2) := by rw [← hl2]; exact KY.out.2.1
  have HY := hid KY.out.2.2.1
  have VY := hid KY.out.2.2.2.1
  have OX2 := hid (OX.out.below KY.out.2.2.2.2.2 OX.out.lt)
  have OY := hid KY.out.1
  have HL2 := hid hl2
  have bl1 : l1 ≤ 2000000 := by have := HL1.out; omega
  have bl2 : l2 ≤ 2000000 := by have := HL2.out; omega
  clear KY HB1 D1 OX hl2
  have CX : Hid (∀ i, i < l1 → w2.cell? ⟨g1, i, none⟩ = some (.int .u64 (xs.getD i 0))) := fun i hi => OX2.out.cell i (by have := LX.out; omega)
  have CY : Hid (∀ i, i < l2 → w2.cell? ⟨g2, i, none⟩ = some (.int .u64 (ys.getD i 0))) := fun i hi => OY.out.cell i (by have := LY.out; omega)
  obtain ⟨g, Gg⟩ : ∃ g, Hid (w2.heap.size = g) := ⟨_, rfl⟩
  have BX : Hid (∀ {j : Nat}, j < l1 → g1 < g) := fun {j} hj => by rw [← Gg.out]; exact cell_lt (CX.out j hj)
  have BY : Hid (∀ {j : Nat}, j < l2 → g2 < g) := fun {j} hj => by rw [← Gg.out]; exact cell_lt (CY.out j hj)
  have hmk := make64 (l1 + l2) (by omega) w2
  rw [show ((l1 + l2 : Nat) : Int) = (l1 : Int) + (l2 : Int) by omega, Gg.out] at hmk
  have bm := hid ((Below.refl w2.heap.size w2).alloc (Nat.le_refl _) (.cells (madeCells #[.int .u64 0] (l1 + l2)) 26))
  have gm : Own (w2.alloc (.cells (madeCells #[.int .u64 0] (l1 + l2)) 26)) w2.heap.size (List.replicate (l1 + l2) 0) := by rw [made_zero]; exact Own.alloc w2 _
  rw [Gg.out] at bm gm
  generalize w2.alloc (.cells (madeCells #[.int .u64 0] (l1 + l2)) 26) = wm at hmk bm gm
  have I0 : Hid (TimesInv g (l1 + l2) w2 (Nm.v32 (xs.take 0) * Nm.v32 ys) 0 0 (0 + l2) (List.replicate (l1 + l2) 0) wm) := ⟨gm, by simp, Nm.Halves.zeros _, by rw [Nm.v32_zeros]; simp [Nm.v32], fun t _ => getD_replicate _ _, bm.out⟩
  clear gm bm
  go_wp2_with fail
  clear hmk
  obtain ⟨K, HK⟩ : ∃ K, Hid (l1 + l2 = K) := ⟨_, rfl⟩
  have I1 := I0.out
  rw [HK.out] at I1 ⊢
  have J0 := hid I1
  clear I0 I1
  have hKb : K ≤ 4000000 := by have := HK.out; omega
  go_loopw [8] (fun i wr => ∃ (k : Nat) (ps : List Int), k ≤ l1 ∧ i = .int .i64 k ∧ Hid (TimesInv g K w2 (Nm.v32 (xs.take k) * Nm.v32 ys) 0 k (k + l2) ps wr)) (fun i _ => l1 - (intOf i).toNat)
  case atStart => exact ⟨0, _, Nat.zero_le _, rfl, J0.out⟩
  case round =>
    obtain ⟨k, ps, hk, rfl, TI⟩ := hrel
    by_cases hlt : k < l1
    · have hlt' : (k : Int) < (l1 : Int) := by omega
      obtain ⟨x, X⟩ : ∃ x, Hid (x = xs.getD k 0) := ⟨_, rfl⟩
      have hx0 : 0 ≤ x := by have := HX.out.at k; have := X.out; omega
      have hx1 : x < 4294967296 := by have := HX.out.at k; have := X.out; omega
      obtain ⟨V, HV⟩ : ∃ V, Hid (V = Nm.v32 (xs.take k) * Nm.v32 ys) := ⟨_, rfl⟩
      have TJ : Hid (TimesInv g K w2 (V + Nm.p32 k * (x * Nm.v32 (ys.take 0))) 0 (k + 0) (k + l2) ps wr) := by
        have h := TI.out
        rw [← HV.out] at h
        simp only [List.take_zero, Nm.v32, Int.mul_zero, Int.add_zero, Nat.add_zero]
        exact h
      clear TI
      go_wp2_with fail
      go_loopw [9, 10] (fun c j wr => ∃ (t : Nat) (cc : Int) (ps : List Int), t ≤ l2 ∧ j = .int .i64 t ∧ c = .int .u64 cc ∧ 0 ≤ cc ∧ cc < 4294967296 ∧ Hid (TimesInv g K w2 (V + Nm.p32 k * (x * Nm.v32 (ys.take t))) cc (k + t) (k + l2) ps wr)) (fun _ j _ => l2 - (intOf j).toNat)
      case atStart => exact ⟨0, 0, ps, Nat.zero_le _, rfl, rfl, by omega, by omega, TJ.out⟩
      case round =>
        clear TJ ps
        obtain ⟨t, cc, ps, ht, rfl, rfl, hc0, hc1, TI⟩ := hrel
        obtain ⟨o1, o2, o3, o4, o5, o6⟩ := TI.out
        by_cases htl : t < l2
        · have htl' : (t : Int) < (l2 : Int) := by omega
          have hx : wr.cell? ⟨g1, k, none⟩ = some (.int .u64 x) := by rw [X.out]; exact (o6.cell (p := ⟨g1, k, none⟩) (BX.out hlt)).trans (CX.out k hlt)
          obtain ⟨y, hy, Y⟩ : ∃ y, wr.cell? ⟨g2, t, none⟩ = some (.int .u64 y) ∧ Hid (y = ys.getD t 0) := ⟨_, (o6.cell (p := ⟨g2, t, none⟩) (BY.out htl)).trans (CY.out t htl), rfl⟩
          have hkt : k + t < K := by have := HK.out; omega
          obtain ⟨pv, hpv, PV⟩ : ∃ pv, wr.cell? ⟨g, k + t, none⟩ = some (.int .u64 pv) ∧ Hid (pv = ps.getD (k + t) 0) := ⟨_, o1.cell (k + t) (by omega), rfl⟩
          have hfr := o1.free (k + t)
          have hy0 : 0 ≤ y := by have := HY.out.at t; have := Y.out; omega
          have hy1 : y < 4294967296 := by have := HY.out.at t; have := Y.out; omega
          have hp0 : 0 ≤ pv := by have := o3.at (k + t); have := PV.out; omega
          have hp1 : pv < 4294967296 := by have := o3.at (k + t); have := PV.out; omega
          have hxy0 : 0 ≤ x * y := Int.mul_nonneg hx0 hy0
          have hxy1 : x * y ≤ 4294967295 * 4294967295 := Int.mul_le_mul (by omega) (by omega) hy0 (by omega)
          obtain ⟨m0, hm0, M0⟩ : ∃ m0, IntKind.u64.wrap (x * y) = m0 ∧ Hid (m0 = x * y) := ⟨_, by rw [IntKind.wrap_u64, Int.emod_eq_of_lt (by omega) (by omega)], rfl⟩
          have hm00 : 0 ≤ m0 := by have := M0.out; omega
          have hm01 : m0 ≤ 18446744065119617025 := by have := M0.out; omega
          obtain ⟨m1, hm1, M1⟩ : ∃ m1, IntKind.u64.wrap (m0 + pv) = m1 ∧ Hid (m1 = m0 + pv) := ⟨_, by rw [IntKind.wrap_u64, Int.emod_eq_of_lt (by omega) (by omega)], rfl⟩
          have hm10 : 0 ≤ m1 := by have := M1.out; omega
          have hm11 : m1 ≤ 18446744069414584320 := by have := M1.out; omega
          obtain ⟨tt, htt, TT⟩ : ∃ tt, IntKind.u64.wrap (m1 + cc) = tt ∧ Hid (tt = m1 + cc) := ⟨_, by rw [IntKind.wrap_u64, Int.emod_eq_of_lt (by omega) (by omega)], rfl⟩
          have htt0 : 0 ≤ tt := by have := TT.out; omega
          have htt1 : tt ≤ 18446744073709551615 := by have := TT.out; omega
          obtain ⟨lo, hlo, LO⟩ : ∃ lo, bits .and .u64 tt 4294967295 = lo ∧ Hid (lo = tt % 4294967296) := ⟨_, r_mask32 tt (by omega) (by omega), rfl⟩
          obtain ⟨hi, hhi, HI⟩ : ∃ hi, tt / 4294967296 = hi ∧ Hid (hi = tt / 4294967296) := ⟨_, rfl, rfl⟩
          have BLO : Hid ((0 ≤ lo ∧ lo < 4294967296) ∧ 0 ≤ hi ∧ hi < 4294967296) := by have := LO.out; have := HI.out; show _ ∧ _; omega
          have ST : Hid (lo + 4294967296 * hi = x * ys.getD t 0 + pv + cc) := by
            have h1 := LO.out; have h2 := HI.out; have h3 := TT.out; have h4 := M1.out; have h5 := M0.out
            rw [Hid, ← Y.out]; omega
          have O1 := hid o1
          have O2 := hid o2
          have O3 := hid o3
          have O4 := hid o4
          have O5 := hid o5
          have O6 := hid o6
          have hkt' : (k : Int) + (t : Int) < (K : Int) := by omega
          clear o1 o2 o3 o4 o5 o6 TI hxy0 hxy1
          go_wp2_with fail
          go_quiet (fail)
          have hpv2 : (wr.drewN nq).cell? ⟨g, k + t, none⟩ = some (.int .u64 pv) := hpv
          have hfr2 : (wr.drewN nq).frozen? ⟨g, k + t, none⟩ = false := hfr
          have P1 : Hid (Own (wr.drewN nq) g ps) := O1.out
          have P6 := hid (below_drewN O6.out nq)
          clear hx hy hpv hfr O1 O6
          generalize wr.drewN nq = wq at *
          go_wp2
          go_roundw
          case rel =>
            refine ⟨t + 1, hi, ps.set (k + t) lo, by omega, by go_num, by first | rfl | rw [hhi], BLO.out.2.1, BLO.out.2.2, P1.out.set _ _, by rw [List.length_set]; exact O2.out, O3.out.set _ BLO.out.1.1 BLO.out.1.2, ?_, ?_, P6.out.setCell (Nat.le_refl _) _⟩
            · exact Nm.times_digit (by have := O2.out; omega) PV.out O4.out ST.out
            · intro s hs
              rw [Nm.getD_set ps (k + t) s lo (by have := O2.out; omega), if_neg (by omega)]
              exact O5.out s hs
          case measure => simp [intOf]; omega
        · have htl' : ¬ (t : Int) < (l2 : Int) := by omega
          obtain rfl : t = l2 := by omega
          rw [List.take_of_length_le (by have := LY.out; omega)] at o4
          have hkt : k + t < K := by have := HK.out; omega
          obtain ⟨pv, hpv⟩ : ∃ pv, wr.cell? ⟨g, k + t, none⟩ = some (.int .u64 pv) := ⟨_, o1.cell (k + t) (by omega)⟩
          have hfr := o1.free (k + t)
          have Z0 := o5 (k + t) (Nat.le_refl _)
          have NX : Hid (TimesInv g K w2 (Nm.v32 (xs.take (k + 1)) * Nm.v32 ys) 0 (k + 1) (k + 1 + t) (ps.set (k + t) cc) (wr.setCell ⟨g, k + t, none⟩ (.int .u64 cc))) := by
            refine ⟨o1.set _ _, by rw [List.length_set]; exact o2, o3.set _ hc0 hc1, ?_, ?_, o6.setCell (Nat.le_refl _) _⟩
            · rw [Nm.v32_set ps (k + t) cc (by omega), Z0, Nm.v32_take_next, ← X.out, Int.add_mul, ← HV.out, Int.mul_zero, Int.add_zero, Int.sub_zero, Int.mul_assoc]
              exact o4
            · intro s hs
              rw [Nm.getD_set ps (k + t) s cc (by omega), if_neg (by omega)]
              exact o5 s (by omega)
          have hkt' : (k : Int) + (t : Int) < (K : Int) := by omega
          clear o1 o2 o3 o4 o5 o6 TI Z0
          go_wp2
          go_roundw
          case rel => exact ⟨k + 1, _, by omega, by go_num, NX.out⟩
          case measure => simp [intOf]; omega
    · have hlt' : ¬ (k : Int) < (l1 : Int) := by omega
      obtain rfl : k = l1 := by omega
      obtain ⟨o1, o2, o3, o4, o5, o6⟩ := TI.out
      rw [List.take_of_length_le (by have := LX.out; omega), VX.out, VY.out, Int.mul_zero, Int.add_zero] at o4
      have D3 := hid (chain D2.out (by rw [Gg.out]; exact o6) (Nat.le_refl _))
      obtain ⟨H, HH⟩ : ∃ H, Hid (K = 2 * H) := ⟨N1 + N2, by show _ = _; have := HK.out; have := HL1.out; have := HL2.out; omega⟩
      have r1 : (K : Int) / 2 = (H : Int) := by have := HH.out; omega
      have r2 : (K : Int).tdiv 2 = (H : Int) := by rw [Int.tdiv_eq_ediv_of_nonneg (by omega)]; exact r1
      have hH : H ≤ 2000000 := by have := HH.out; omega
      have hmk := make64 H (by omega) wr
      have hb8 : Below wr.heap.size wr (wr.alloc (.cells (madeCells #[.int .u64 0] H) 26)) := (Below.refl _ _).alloc (Nat.le_refl _) _
      have ho8 : Own (wr.alloc (.cells (madeCells #[.int .u64 0] H) 26)) wr.heap.size (List.replicate H 0) := by rw [made_zero]; exact Own.alloc wr _
      obtain ⟨W0, hW0⟩ : ∃ W0, wr.alloc (.cells (madeCells #[.int .u64 0] H) 26) = W0 := ⟨_, rfl⟩
      rw [hW0] at hmk hb8 ho8
      clear hW0
      obtain ⟨gq, hgq⟩ : ∃ gq, wr.heap.size = gq := ⟨_, rfl⟩
      rw [hgq] at hmk hb8 ho8
      have hglt : g < gq := by rw [← hgq]; exact o1.lt
      have JI : Hid (JoinInv gq H wr ps 0 (List.replicate H 0) W0) := ⟨ho8, by simp, Nm.Limbs.replicate _, by rw [Nm.val_replicate]; simp [Nm.v32], fun i _ => getD_replicate _ _, hb8⟩
      have OP := hid o1
      have OL := hid o2
      have OH := hid o3
      have OV := hid o4
      have HGQ := hid hgq
      clear o1 o2 o3 o4 o5 o6 TI hb8 ho8 hgq
      generalize wr = wz at *
      go_wp2_with fail
      go_loopw [13] (fun i wx => ∃ (j : Nat) (os : List Int), j ≤ H ∧ i = .int .i64 j ∧ Hid (JoinInv gq H wz ps j os wx)) (fun i _ => H - (intOf i).toNat)
      case atStart => exact ⟨0, _, Nat.zero_le _, rfl, JI.out⟩
      case round =>
        clear JI hmk r1 r2
        obtain ⟨j, os, hj, rfl, I⟩ := hrel
        by_cases hlt : j < H
        · have hb := I.out.2.2.2.2.2
          obtain ⟨x, hx, X⟩ : ∃ x, wr.cell? ⟨g, 2 * j, none⟩ = some (.int .u64 x) ∧ Hid (x = ps.getD (2 * j) 0) := ⟨_, (hb.cell (p := ⟨g, 2 * j, none⟩) hglt).trans (OP.out.cell (2 * j) (by have := OL.out; have := HH.out; omega)), rfl⟩
          obtain ⟨y, hy, Y⟩ : ∃ y, wr.cell? ⟨g, 2 * j + 1, none⟩ = some (.int .u64 y) ∧ Hid (y = ps.getD (2 * j + 1) 0) := ⟨_, (hb.cell (p := ⟨g, 2 * j + 1, none⟩) hglt).trans (OP.out.cell (2 * j + 1) (by have := OL.out; have := HH.out; omega)), rfl⟩
          have hx0 := OH.out.at (2 * j)
          rw [← X.out] at hx0
          have hy0 := OH.out.at (2 * j + 1)
          rw [← Y.out] at hy0
          obtain ⟨hx0, hx1⟩ := hx0
          obtain ⟨hy0, hy1⟩ := hy0
          obtain ⟨q1, q2⟩ := or32 x y hx0 hx1 hy0 hy1
          obtain ⟨v, hv⟩ : ∃ v, y * 4294967296 = v := ⟨_, rfl⟩
          obtain ⟨z, hz⟩ : ∃ z, x + 4294967296 * y = z := ⟨_, rfl⟩
          rw [hv] at q1 q2
          rw [hz] at q2
          have ST : Hid (∀ wq, Below wr.heap.size wr wq → JoinInv gq H wz ps (j + 1) (os.set j z) (wq.setCell ⟨gq, j, none⟩ (.int .u64 z))) := fun wq hb => I.out.step hb hlt X.out Y.out hz.symm (by omega) (by omega)
          obtain ⟨y0, hyc⟩ : ∃ y, wr.cell? ⟨gq, j, none⟩ = some (.int .u64 y) := ⟨_, I.out.1.cell j (by have := I.out.2.1; omega)⟩
          have hfr := I.out.1.free j
          have hjH : (j : Int) < (H : Int) := by omega
          have hj2 : 2 * (j : Int) < (K : Int) := by have := HH.out; omega
          have hj3 : 2 * (j : Int) + 1 < (K : Int) := by have := HH.out; omega
          have hv0 : 0 ≤ v := by omega
          have hv1 : v < 18446744073709551616 := by omega
          have HV := hid hv
          clear hb hz hv I
          have q0 : IntKind.u64.wrap (y * 4294967296) = v := by rw [HV.out]; exact q1
          go_wp2_with fail
          go_region
          all_goals
            go_wp2
            go_roundw
            case rel => exact ⟨j + 1, _, by omega, by go_num, ST.out _ (below_drewN (Below.refl _ _) _)⟩
            case measure => simp [intOf]; omega
        · have hjH : j = H := by omega
          subst hjH
          obtain ⟨i1, i2, i3, i4, i5, i6⟩ := I.out
          rw [List.take_of_length_le (by have := OL.out; have := HH.out; omega), OV.out] at i4
          have D5 := hid (chain D3.out (by rw [HGQ.out]; exact i6) (Nat.le_refl _))
          have P1 := hid i1
          have P2 := hid i2
          have P3 := hid i3
          have P4 := hid i4
          clear i1 i2 i3 i4 i5 i6 I
          go_wp2_with fail
          refine (short_some (some ⟨gq, 0, none⟩) j j os _ P2.out (by omega) P1.out.lies P3.out).mono ?_
          rintro e w9 ⟨r, us, rfl, -, A9, d9⟩
          rw [P4.out] at A9
          have A10 := hid (A9.up (B' := w.heap.size) D5.out.size)
          have D10 := hid (chain D5.out d9 (Nat.le_refl _))
          clear A9 d9
          go_wp2_with fail
          go_ret
          exact ⟨r, us, rfl, A10.out, D10.out⟩
end Go.Proofs.YtaoaniigbooihaaGreatDoor

namespace Go.Proofs.YtaoaniigbooihaaGreatDoor
open Go.RowKit Go.Deep

/-- Behind j limbs of a: the block holds the product of these and b. -/
def ProdInv (g k : Nat) (w : World) (ls bs : List Int) (j : Nat) (os : List Int) (wr : World) : Prop :=
  Own wr g os ∧ os.length = k ∧ Nm.Limbs os ∧ Nm.val os = Nm.val (ls.take j) * Nm.val bs ∧ Below g w wr

theorem ProdInv.step {g k : Nat} {w : World} {ls bs : List Int} {j : Nat} {os : List Int} {wr w' : World} {n : Nat} (hn : bs.length = n) (ha : Nm.Limbs ls) (hb : Nm.Limbs bs) (h : ProdInv g k w ls bs j os wr) (hj : j < ls.length) (hk : j + n < k) {c x : Int} {us : List Int}
    (hx : x = ls.getD j 0) (hm : MulInv g k (j + n) wr os (Nm.val os + Nm.pw j * (Nm.val bs * x)) (j + n) c us w') :
    ProdInv g k w ls bs (j + 1) (us.set (j + n) c) (w'.setCell ⟨g, j + n, none⟩ (.int .u64 c)) := by
  subst hn
  obtain ⟨h1, h2, h3, h4, h5⟩ := h
  obtain ⟨⟨m1, m2, m3, m4, m5, m6⟩, m7, m8⟩ := hm
  have hv : Nm.val os < Nm.pw (j + bs.length) := by
    rw [h4, Nm.pw_add]
    have e1 := Nm.val_bd _ (ha.take j)
    rw [List.length_take, Nat.min_eq_left (by omega)] at e1
    have e2 := Nm.val_bd _ hb
    have e3 : Nm.val (ls.take j) * Nm.val bs ≤ Nm.pw j * Nm.val bs := Int.mul_le_mul_of_nonneg_right (by omega) e2.1
    have e4 : Nm.pw j * (Nm.val bs + 1) ≤ Nm.pw j * Nm.pw bs.length := Int.mul_le_mul_of_nonneg_left (by omega) (by have := Nm.pw_pos j; omega)
    have e5 := Nm.pw_pos j
    rw [Int.mul_add, Int.mul_one] at e4
    omega
  have h0 : us.getD (j + bs.length) 0 = 0 := by rw [m8 _ (Nat.le_refl _)]; exact Nm.zero_of_lt h3 hv _ (Nat.le_refl _)
  refine ⟨m1.set _ _, by simpa using m2, m3.set _ m7.1 m7.2, ?_, h5.trans (m5.setCell (Nat.le_refl _) _)⟩
  rw [Nm.val_set _ _ _ (by omega), h0, Int.sub_zero, m4, h4, hx, Nm.val_take_succ ls j hj, Int.add_mul, Int.mul_assoc, Int.mul_comm (ls.getD j 0)]

theorem prod_bound {zs ys : List Int} (hz : Nm.Limbs zs) (hy : Nm.Limbs ys) (h : Nm.val zs * Nm.val ys < Nm.pw 4096) (h1 : 0 < Nm.tsize zs) (h2 : 0 < Nm.tsize ys) : Nm.tsize zs + Nm.tsize ys ≤ 4097 := by
  have e1 := Nm.val_ge_top hz h1
  have e2 := Nm.val_ge_top hy h2
  have e3 : Nm.pw (Nm.tsize zs - 1) * Nm.pw (Nm.tsize ys - 1) ≤ Nm.val zs * Nm.val ys := Int.mul_le_mul e1 e2 (Int.le_of_lt (Nm.pw_pos _)) (by have := (Nm.val_bd zs hz).1; omega)
  rw [← Nm.pw_add] at e3
  rcases Nat.lt_or_ge (Nm.tsize zs - 1 + (Nm.tsize ys - 1)) 4096 with e | e
  · omega
  · have := Nm.pw_mono e
    omega

set_option maxRecDepth 100000 in
set_option maxHeartbeats 1000000 in
theorem mul_ok (p q : Option Addr) (n cap m cap' : Nat) (zs ys : List Int) (w : World) (ha : Arg w p n cap zs) (hb : Arg w q m cap' ys) (tz : Nm.tsize zs ≤ 4096) (ty : Nm.tsize ys ≤ 4096) (hs : Nm.val zs * Nm.val ys < Nm.pw 4096) :
    Calls Tryz.prog 104 #[.slice p n cap, .slice q m cap'] w fun e w' => ∃ r os, e = .returned (.tuple #[.slice r (List.length os) (List.length os), .int .i64 0]) ∧ Ans w.heap.size w' r os (Nm.val zs * Nm.val ys) ∧ Below w.heap.size w w' := by
  obtain ⟨a1, a2, a3, a4, a5⟩ := ha
  obtain ⟨b1, b2, b3, b4, b5⟩ := hb
  have HS : Hid (Nm.val zs * Nm.val ys < Nm.pw 4096) := hs
  clear hs
  have nil : Nm.val zs * Nm.val ys = 0 → Ans w.heap.size w none [] (Nm.val zs * Nm.val ys) := fun h => ⟨Lies.nil _ _, Nm.Limbs.nil, rfl, by simp [Nm.val, h], fun a h => by cases h⟩
  by_cases h1 : Nm.tsize zs = 0
  · have h1' : ((Nm.tsize zs : Int) == 0) = true := by simp [h1]
    have NIL := hid (nil (by rw [(Nm.tsize_zero_iff a5).1 h1, Int.zero_mul]))
    clear nil h1
    go_enter Tryz.func104, Tryz.ntmps104
    go_wp2_with fail
    refine (pair_ok p q n cap m cap' zs ys _ a1 a2 (by omega) a4 tz b1 b2 (by omega) b4 ty).mono ?_
    rintro e w' ⟨rfl, rfl⟩
    go_wp2_with fail
    go_ret2
    exact ⟨none, [], rfl, NIL.out, Below.refl _ _⟩
  have h1' : ((Nm.tsize zs : Int) == 0) = false := by simp [h1]
  by_cases h2 : Nm.tsize ys = 0
  · have h2' : ((Nm.tsize ys : Int) == 0) = true := by simp [h2]
    have NIL := hid (nil (by rw [(Nm.tsize_zero_iff b5).1 h2, Int.mul_zero]))
    clear nil h1 h2
    go_enter Tryz.func104, Tryz.ntmps104
    go_wp2_with fail
    refine (pair_ok p q n cap m cap' zs ys _ a1 a2 (by omega) a4 tz b1 b2 (by omega) b4 ty).mono ?_
    rintro e w' ⟨rfl, rfl⟩
    go_wp2_with fail
    go_ret2
    exact ⟨none, [], rfl, NIL.out, Below.refl _ _⟩
  have h2' : ((Nm.tsize ys : Int) == 0) = false := by simp [h2]
  clear nil
  have hsum := prod_bound a5 b5 HS.out (by omega) (by omega)
  have hsum' : (Nm.tsize zs : Int) + (Nm.tsize ys : Int) ≤ 4097 := by omega
  have hmk := make64 (Nm.tsize zs + Nm.tsize ys) (by omega) w
  have em : ((Nm.tsize zs + Nm.tsize ys : Nat) : Int) = (Nm.tsize zs : Int) + (Nm.tsize ys : Int) := by omega
  rw [em] at hmk
  clear em
  have ho : Own (w.alloc (.cells (madeCells #[.int .u64 0] (Nm.tsize zs + Nm.tsize ys)) 26)) w.heap.size (List.replicate (Nm.tsize zs + Nm.tsize ys) 0) := by
    rw [made_zero]; exact Own.alloc w _
  have hb0 : Below w.heap.size w (w.alloc (.cells (madeCells #[.int .u64 0] (Nm.tsize zs + Nm.tsize ys)) 26)) := (Below.refl _ _).alloc (Nat.le_refl _) _
  have I0 : ProdInv w.heap.size (Nm.tsize zs + Nm.tsize ys) w (Nm.trim zs) (Nm.trim ys) 0 (List.replicate (Nm.tsize zs + Nm.tsize ys) 0) (w.alloc (.cells (madeCells #[.int .u64 0] (Nm.tsize zs + Nm.tsize ys)) 26)) :=
    ⟨ho, by simp, Nm.Limbs.replicate _, by simp [Nm.val_replicate, Nm.val], hb0⟩
  clear ho hb0
  have hsum2 : decide (4096 < (Nm.tsize zs : Int) + (Nm.tsize ys : Int) - 1) = false := by simp; omega
  have A4 := hid a4.trim
  have B4 := hid b4.trim
  obtain ⟨b, off, rfl, hcell⟩ : ∃ b off, p = some ⟨b, off, none⟩ ∧ Hid (∀ i, i < Nm.tsize zs → w.cell? ⟨b, off + i, none⟩ = some (.int .u64 ((Nm.trim zs).getD i 0))) := by
    have hlen := Nm.trim_length zs
    rcases A4.out with h | ⟨b, off, hp, h⟩
    · exfalso
      rw [h] at hlen
      simp at hlen
      omega
    · exact ⟨b, off, hp, fun i hi => h i (by rw [hlen]; exact hi)⟩
  have hbg : b < w.heap.size := cell_lt (hcell.out 0 (by omega))
  have A5 := hid a5.trim
  have B5 := hid b5.trim
  go_enter Tryz.func104, Tryz.ntmps104
  go_wp2_with fail
  refine (pair_ok (some ⟨b, off, none⟩) q n cap m cap' zs ys _ a1 a2 (by omega) a4 tz b1 b2 (by omega) b4 ty).mono ?_
  rintro e w' ⟨rfl, rfl⟩
  clear a4 b4
  go_wp2_with fail
  go_loopw [43] (fun i wr => ∃ (j : Nat) (os : List Int), j ≤ Nm.tsize zs ∧ i = .int .i64 j ∧ ProdInv w'.heap.size (Nm.tsize zs + Nm.tsize ys) w' (Nm.trim zs) (Nm.trim ys) j os wr) (fun i _ => Nm.tsize zs - (intOf i).toNat)
  case atStart => exact ⟨0, _, Nat.zero_le _, rfl, I0⟩
  case round =>
    clear I0 hmk
    obtain ⟨j, os, hj, rfl, I⟩ := hrel
    by_cases hlt : j < Nm.tsize zs
    · obtain ⟨x, hx, X⟩ : ∃ x, wr.cell? ⟨b, off + j, none⟩ = some (.int .u64 x) ∧ Hid (x = (Nm.trim zs).getD j 0) := ⟨_, (I.2.2.2.2.cell (p := ⟨b, off + j, none⟩) hbg).trans (hcell.out j hlt), rfl⟩
      have hx0 := A5.out.at j
      rw [show (Nm.trim zs).getD j 0 = x from X.out.symm] at hx0
      obtain ⟨hx0, hx1⟩ := hx0
      go_wp2_with fail
      refine (addTimes_any w'.heap.size (Nm.tsize zs + Nm.tsize ys) j (Nm.tsize ys) _ os q _ (Nm.trim ys) x _ I.2.1 (by omega) I.1 I.2.2.1 (Nm.trim_length ys) (by omega) (B4.out.below I.2.2.2.2 (Nat.le_refl _)) B5.out (fun h0 => B4.out.lt h0) hx0 hx1).mono ?_
      rintro e w2 ⟨c, us, rfl, M⟩
      have I2 := I.step (Nm.trim_length ys) A5.out B5.out (by rw [Nm.trim_length]; exact hlt) (by omega) X.out M
      obtain ⟨y, hy⟩ : ∃ y, w2.cell? ⟨w'.heap.size, j + Nm.tsize ys, none⟩ = some (.int .u64 y) := ⟨_, M.1.1.cell _ (by have := M.1.2.1; omega)⟩
      have hfr := M.1.1.free (j + Nm.tsize ys)
      clear M
      go_wp2
      go_roundw
      case rel => exact ⟨j + 1, _, by omega, by go_num, I2⟩
      case measure => simp [intOf]; omega
    · have hjn : j = Nm.tsize zs := by omega
      subst hjn
      have E := I.2.2.2.1
      rw [List.take_of_length_le (by rw [Nm.trim_length]; omega), Nm.val_trim, Nm.val_trim] at E
      have EE := hid E
      clear E
      go_wp2_with fail
      refine (limited_own w'.heap.size (Nm.tsize zs + Nm.tsize ys) os _ I.2.1 (by omega) I.1 I.2.2.1 w'.heap.size (Nat.le_refl _) (by rw [EE.out]; exact HS.out)).mono ?_
      rintro e w3 ⟨r, xs, rfl, hans, rfl⟩
      rw [EE.out] at hans
      have HA := hid hans
      clear hans
      have HB := hid I.2.2.2.2
      clear I
      go_wp2_with fail
      go_ret2
      exact ⟨r, xs, rfl, HA.out, HB.out⟩
end Go.Proofs.YtaoaniigbooihaaGreatDoor

namespace Go.Proofs.YtaoaniigbooihaaGreatDoor
open Go.RowKit Go.Deep

set_option maxRecDepth 100000 in
set_option maxHeartbeats 1000000 in
theorem mul_over (p q : Option Addr) (n cap m cap' : Nat) (zs ys : List Int) (w : World) (ha : Arg w p n cap zs) (hb : Arg w q m cap' ys) (tz : Nm.tsize zs ≤ 4096) (ty : Nm.tsize ys ≤ 4096) (hs : Nm.pw 4096 ≤ Nm.val zs * Nm.val ys) :
    Calls Tryz.prog 104 #[.slice p n cap, .slice q m cap'] w fun e w' => e = .returned (.tuple #[.slice none 0 0, .int .i64 2]) ∧ Below w.heap.size w w' := by
  obtain ⟨a1, a2, a3, a4, a5⟩ := ha
  obtain ⟨b1, b2, b3, b4, b5⟩ := hb
  have HS := hid hs
  clear hs
  have hp := Nm.pw_pos 4096
  have h1 : Nm.tsize zs ≠ 0 := fun h => by
    have e := (Nm.tsize_zero_iff a5).1 h
    have := HS.out
    rw [e, Int.zero_mul] at this
    omega
  have h2 : Nm.tsize ys ≠ 0 := fun h => by
    have e := (Nm.tsize_zero_iff b5).1 h
    have := HS.out
    rw [e, Int.mul_zero] at this
    omega
  have h1' : ((Nm.tsize zs : Int) == 0) = false := by simp [h1]
  have h2' : ((Nm.tsize ys : Int) == 0) = false := by simp [h2]
  clear hp
  by_cases hearly : 4097 < Nm.tsize zs + Nm.tsize ys
  · have he : (4096 : Int) < (Nm.tsize zs : Int) + (Nm.tsize ys : Int) - 1 := by omega
    go_enter Tryz.func104, Tryz.ntmps104
    go_wp2_with fail
    refine (pair_ok p q n cap m cap' zs ys _ a1 a2 (by omega) a4 tz b1 b2 (by omega) b4 ty).mono ?_
    rintro e w' ⟨rfl, rfl⟩
    go_wp2_with fail
    go_ret2
    exact ⟨rfl, Below.refl _ _⟩
  have hsum' : (Nm.tsize zs : Int) + (Nm.tsize ys : Int) ≤ 4097 := by omega
  have hmk := make64 (Nm.tsize zs + Nm.tsize ys) (by omega) w
  have em : ((Nm.tsize zs + Nm.tsize ys : Nat) : Int) = (Nm.tsize zs : Int) + (Nm.tsize ys : Int) := by omega
  rw [em] at hmk
  clear em
  have ho : Own (w.alloc (.cells (madeCells #[.int .u64 0] (Nm.tsize zs + Nm.tsize ys)) 26)) w.heap.size (List.replicate (Nm.tsize zs + Nm.tsize ys) 0) := by
    rw [made_zero]; exact Own.alloc w _
  have hb0 : Below w.heap.size w (w.alloc (.cells (madeCells #[.int .u64 0] (Nm.tsize zs + Nm.tsize ys)) 26)) := (Below.refl _ _).alloc (Nat.le_refl _) _
  have I0 : ProdInv w.heap.size (Nm.tsize zs + Nm.tsize ys) w (Nm.trim zs) (Nm.trim ys) 0 (List.replicate (Nm.tsize zs + Nm.tsize ys) 0) (w.alloc (.cells (madeCells #[.int .u64 0] (Nm.tsize zs + Nm.tsize ys)) 26)) :=
    ⟨ho, by simp, Nm.Limbs.replicate _, by simp [Nm.val_replicate, Nm.val], hb0⟩
  clear ho hb0
  have hsum2 : decide (4096 < (Nm.tsize zs : Int) + (Nm.tsize ys : Int) - 1) = false := by simp; omega
  have A4 := hid a4.trim
  have B4 := hid b4.trim
  obtain ⟨b, off, rfl, hcell⟩ : ∃ b off, p = some ⟨b, off, none⟩ ∧ Hid (∀ i, i < Nm.tsize zs → w.cell? ⟨b, off + i, none⟩ = some (.int .u64 ((Nm.trim zs).getD i 0))) := by
    have hlen := Nm.trim_length zs
    rcases A4.out with h | ⟨b, off, hp, h⟩
    · exfalso
      rw [h] at hlen
      simp at hlen
      omega
    · exact ⟨b, off, hp, fun i hi => h i (by rw [hlen]; exact hi)⟩
  have hbg : b < w.heap.size := cell_lt (hcell.out 0 (by omega))
  have A5 := hid a5.trim
  have B5 := hid b5.trim
  go_enter Tryz.func104, Tryz.ntmps104
  go_wp2_with fail
  refine (pair_ok (some ⟨b, off, none⟩) q n cap m cap' zs ys _ a1 a2 (by omega) a4 tz b1 b2 (by omega) b4 ty).mono ?_
  rintro e w' ⟨rfl, rfl⟩
  clear a4 b4
  go_wp2_with fail
  go_loopw [43] (fun i wr => ∃ (j : Nat) (os : List Int), j ≤ Nm.tsize zs ∧ i = .int .i64 j ∧ ProdInv w'.heap.size (Nm.tsize zs + Nm.tsize ys) w' (Nm.trim zs) (Nm.trim ys) j os wr) (fun i _ => Nm.tsize zs - (intOf i).toNat)
  case atStart => exact ⟨0, _, Nat.zero_le _, rfl, I0⟩
  case round =>
    clear I0 hmk
    obtain ⟨j, os, hj, rfl, I⟩ := hrel
    by_cases hlt : j < Nm.tsize zs
    · obtain ⟨x, hx, X⟩ : ∃ x, wr.cell? ⟨b, off + j, none⟩ = some (.int .u64 x) ∧ Hid (x = (Nm.trim zs).getD j 0) := ⟨_, (I.2.2.2.2.cell (p := ⟨b, off + j, none⟩) hbg).trans (hcell.out j hlt), rfl⟩
      have hx0 := A5.out.at j
      rw [show (Nm.trim zs).getD j 0 = x from X.out.symm] at hx0
      obtain ⟨hx0, hx1⟩ := hx0
      go_wp2_with fail
      refine (addTimes_any w'.heap.size (Nm.tsize zs + Nm.tsize ys) j (Nm.tsize ys) _ os q _ (Nm.trim ys) x _ I.2.1 (by omega) I.1 I.2.2.1 (Nm.trim_length ys) (by omega) (B4.out.below I.2.2.2.2 (Nat.le_refl _)) B5.out (fun h0 => B4.out.lt h0) hx0 hx1).mono ?_
      rintro e w2 ⟨c, us, rfl, M⟩
      have I2 := I.step (Nm.trim_length ys) A5.out B5.out (by rw [Nm.trim_length]; exact hlt) (by omega) X.out M
      obtain ⟨y, hy⟩ : ∃ y, w2.cell? ⟨w'.heap.size, j + Nm.tsize ys, none⟩ = some (.int .u64 y) := ⟨_, M.1.1.cell _ (by have := M.1.2.1; omega)⟩
      have hfr := M.1.1.free (j + Nm.tsize ys)
      clear M
      go_wp2
      go_roundw
      case rel => exact ⟨j + 1, _, by omega, by go_num, I2⟩
      case measure => simp [intOf]; omega
    · have hjn : j = Nm.tsize zs := by omega
      subst hjn
      have E := I.2.2.2.1
      rw [List.take_of_length_le (by rw [Nm.trim_length]; omega), Nm.val_trim, Nm.val_trim] at E
      have EE := hid E
      clear E
      go_wp2_with fail
      refine (limited_own_big w'.heap.size (Nm.tsize zs + Nm.tsize ys) os _ I.2.1 (by omega) I.1 I.2.2.1 (by rw [EE.out]; exact HS.out)).mono ?_
      rintro e w3 ⟨rfl, rfl⟩
      have HB := hid I.2.2.2.2
      clear I
      go_wp2_with fail
      go_ret2
      exact ⟨rfl, HB.out⟩
end Go.Proofs.YtaoaniigbooihaaGreatDoor

namespace Go.Proofs.YtaoaniigbooihaaGreatDoor
open Go.RowKit Go.Deep

/-- A number, or that it is too big. -/
def Gives (T : Int) (w : World) (e : Ending) (w' : World) : Prop :=
  ((T < Nm.pw 4096 ∧ ∃ r os, e = .returned (.tuple #[.slice r (List.length os) (List.length os), .int .i64 0]) ∧ Ans w.heap.size w' r os T) ∨ (Nm.pw 4096 ≤ T ∧ e = .returned (.tuple #[.slice none 0 0, .int .i64 2]))) ∧ Below w.heap.size w w'

theorem Ans.argT {B : Nat} {w : World} {p : Option Addr} {ys : List Int} {n : Int} (h : Ans B w p ys n) (hn : n < Nm.pw 4096) : Arg w p ys.length ys.length ys :=
  h.arg (by have := h.small hn; omega)

theorem Ans.tsT {B : Nat} {w : World} {p : Option Addr} {ys : List Int} {n : Int} (h : Ans B w p ys n) (hn : n < Nm.pw 4096) : Nm.tsize ys ≤ 4096 := by
  rw [h.2.2.1]
  exact h.small hn

theorem Ans.upT {B B' : Nat} {w : World} {p : Option Addr} {ys : List Int} {n : Int} (h : Ans B w p ys n) (hB : B' ≤ B) : Ans B' w p ys n :=
  ⟨h.1, h.2.1, h.2.2.1, h.2.2.2.1, fun a ha => Nat.le_trans hB (h.2.2.2.2 a ha)⟩

theorem mul_gives (p q : Option Addr) (n cap m cap' : Nat) (zs ys : List Int) (T : Int) (w : World) (ha : Arg w p n cap zs) (hb : Arg w q m cap' ys) (tz : Nm.tsize zs ≤ 4096) (ty : Nm.tsize ys ≤ 4096) (hT : Nm.val zs * Nm.val ys = T) :
    Calls Tryz.prog 104 #[.slice p n cap, .slice q m cap'] w fun e w' => Gives T w e w' := by
  by_cases h : T < Nm.pw 4096
  · refine (mul_ok p q n cap m cap' zs ys w ha hb tz ty (by rw [hT]; exact h)).mono ?_
    rintro e w' ⟨r, os, rfl, A, hb⟩
    rw [hT] at A
    exact ⟨.inl ⟨h, r, os, rfl, A⟩, hb⟩
  · refine (mul_over p q n cap m cap' zs ys w ha hb tz ty (by rw [hT]; exact Int.not_lt.1 h)).mono ?_
    rintro e w' ⟨rfl, hb⟩
    exact ⟨.inr ⟨Int.not_lt.1 h, rfl⟩, hb⟩

theorem limbs_isT (p : Option Addr) (n cap : Nat) (zs : List Int) (N : Nat) (w : World) (ha : Arg w p n cap zs) (hN : Nm.tsize zs = N) :
    Calls Tryz.prog 156 #[.slice p n cap] w fun e w' => e = .returned (.int .i64 (N : Int)) ∧ w' = w := by
  rw [← hN]
  exact limbs_any p n cap zs w ha

theorem bitLen_isT (L : Nat) (p : Option Addr) (n cap : Nat) (zs : List Int) (w : World) (ha : Arg w p n cap zs) (hb : blen zs = (L : Int)) :
    Calls Tryz.prog 106 #[.slice p n cap] w fun e w' => e = .returned (.int .i64 (L : Int)) ∧ w' = w := by
  rw [← hb]
  exact bitLen_any p n cap zs w ha
end Go.Proofs.YtaoaniigbooihaaGreatDoor

namespace Go.Proofs.YtaoaniigbooihaaGreatDoor
open Go.RowKit Go.Deep

theorem len_any (x : Int) (l : Nat) (w : World) (h0 : 0 ≤ x) (h1 : x < 18446744073709551616) (hl : Lib.bitLen x.toNat = l) :
    Calls Tryz.prog 182 #[.int .u64 x] w fun e w' => e = .returned (.int .i64 (l : Int)) ∧ w' = w := by
  have L := len64 x w h0 h1
  rw [hl] at L
  have HL := hid L
  clear L hl
  go_enter Tryz.func182, Tryz.ntmps182
  go_wp2_with fail
  refine HL.out.mono ?_
  rintro e w' ⟨rfl, rfl⟩
  go_wp2_with fail
  go_ret
  exact ⟨rfl, rfl⟩

theorem one_bit_i64 (x : Nat) (h1 : x < 9223372036854775808) : bits .and .i64 (x : Int) 1 = ((x % 2 : Nat) : Int) := by
  have h : x &&& 1 = x % 2 := Nat.and_two_pow_sub_one_eq_mod x 1
  have e1 : (BitVec.ofInt 64 (x : Int)).toNat = x := by
    rw [BitVec.ofInt_natCast, BitVec.toNat_ofNat]; exact Nat.mod_eq_of_lt (by omega)
  have e2 : (BitVec.ofInt 64 (1 : Int)).toNat = 1 := by decide
  show IntKind.i64.wrap ((BitVec.ofInt 64 (x : Int) &&& BitVec.ofInt 64 (1 : Int)).toNat : Int) = _
  rw [BitVec.toNat_and, e1, e2, h]
  have : x % 2 < 2 := Nat.mod_lt _ (by omega)
  rw [IntKind.wrap_i64]
  omega

/-- The length of an exponent. -/
theorem exp_len (n : Nat) (h1 : 1 ≤ n) (h2 : n < 18446744073709551616) : ∃ j, Lib.bitLen n = j + 1 ∧ n / 2 ^ j = 1 ∧ j ≤ 63 := by
  have hb := Lib.bitLenAux_bounds 64 n (by simpa using h2) (by omega)
  rw [show Lib.bitLenAux 64 n = Lib.bitLen n from rfl] at hb
  have hs := bitLen_small n h2
  obtain ⟨j, hj⟩ : ∃ j, Lib.bitLen n = j + 1 := ⟨Lib.bitLen n - 1, by omega⟩
  rw [hj, Nat.add_sub_cancel] at hb
  refine ⟨j, hj, ?_, by omega⟩
  have p1 : 0 < 2 ^ j := Nat.pow_pos (by omega)
  rw [Nat.pow_succ] at hb
  exact Nat.div_eq_of_lt_le (by omega) (by omega)

set_option maxRecDepth 100000 in
set_option maxHeartbeats 2000000 in
theorem power_any (p : Option Addr) (m cap : Nat) (zs : List Int) (A : Int) (n : Nat) (w : World) (ha : Arg w p m cap zs) (tz : Nm.tsize zs ≤ 4096) (hA : Nm.val zs = A) (hA1 : 1 ≤ A) (h1 : 1 ≤ n) (h2 : n < 4611686018427387904) :
    Calls Tryz.prog 158 #[.slice p m cap, .int .i64 (n : Int)] w fun e w' => Gives (A ^ n) w e w' := by
  obtain ⟨j0, hj0, hj1, hj63⟩ := exp_len n h1 (by omega)
  have TR := hid (trim_any p m cap zs w ha)
  have HA := hid ha
  have HAs : Hid (A < Nm.pw 4096) := by show _ < _; rw [← hA]; exact (Nm.tsize_le_iff ha.2.2.2.2 4096).1 tz
  have HVA := hid hA
  have HT := hid tz
  have HA1 := hid hA1
  have HJ1 := hid hj1
  have hn0 : (0 : Int) ≤ (n : Int) := by omega
  have hn1 : (n : Int) < 4611686018427387904 := by omega
  have HL := hid hj0
  obtain ⟨l, hl⟩ : ∃ l, l = j0 + 1 := ⟨_, rfl⟩
  have rl : (l : Int) - 2 = (j0 : Int) - 1 := by omega
  have HLL := hid hl
  have hl64 : (l : Int) ≤ 64 := by omega
  have hl1 : (1 : Int) ≤ (l : Int) := by omega
  clear ha hA tz hA1 hj0 hj1 hl h1 h2
  go_enter Tryz.func158, Tryz.ntmps158
  go_wp2_with fail
  refine TR.out.mono ?_
  rintro e w1 ⟨r, os, rfl, -, A1, hb1⟩
  rw [HVA.out] at A1
  have HB1 := hid A1
  have D1 := hid hb1
  clear A1 hb1 TR
  go_wp2_with fail
  refine (len_any (n : Int) l _ hn0 (by omega) (by rw [Int.toNat_natCast, HL.out, HLL.out])).mono ?_
  rintro e w2 ⟨rfl, rfl⟩
  go_wp2_with fail
  go_loopw [6, 7] (fun o i wr => ∃ (j : Nat) (r : Option Addr) (os : List Int), j ≤ j0 ∧ i = .int .i64 ((j : Int) - 1) ∧ o = .slice r (List.length os) (List.length os) ∧ Hid (Ans w.heap.size wr r os (A ^ (n / 2 ^ j))) ∧ Hid (A ^ (n / 2 ^ j) < Nm.pw 4096) ∧ Hid (Below w.heap.size w wr)) (fun _ i _ => (intOf i + 1).toNat)
  case atStart => exact ⟨j0, r, os, Nat.le_refl _, by first | rfl | rw [rl], rfl, by rw [HJ1.out, Int.pow_succ, Int.pow_zero, Int.one_mul]; exact HB1.out, by rw [HJ1.out, Int.pow_succ, Int.pow_zero, Int.one_mul]; exact HAs.out, D1.out⟩
  case round =>
    clear HB1 D1 rl
    obtain ⟨j, r, os, hj, rfl, rfl, HO, HS, D⟩ := hrel
    by_cases hj0' : j = 0
    · subst hj0'
      have F : Hid (Gives (A ^ n) w (.returned (.tuple #[.slice r (List.length os) (List.length os), .int .i64 0])) wr) := by
        have h1 := HO.out
        have h2 := HS.out
        rw [Nat.pow_zero, Nat.div_one] at h1 h2
        exact ⟨.inl ⟨h2, r, os, rfl, h1⟩, D.out⟩
      go_wp2_with fail
      go_ret2
      exact F.out
    · obtain ⟨t, rfl⟩ : ∃ t, j = t + 1 := ⟨j - 1, by omega⟩
      have MU := hid (mul_gives r r _ _ _ _ os os (A ^ (n / 2 ^ (t + 1)) * A ^ (n / 2 ^ (t + 1))) wr (HO.out.argT HS.out) (HO.out.argT HS.out) (HO.out.tsT HS.out) (HO.out.tsT HS.out) (by rw [HO.out.2.2.2.1]))
      go_wp2_with fail
      refine MU.out.mono ?_
      rintro e w3 ⟨h | h, hb3⟩
      · obtain ⟨hs3, s, ss, rfl, A3⟩ := h
        have HB3 := hid (A3.upT (B' := w.heap.size) D.out.size)
        have HS3 := hid hs3
        have D3 := hid (chain D.out hb3 (Nat.le_refl _))
        obtain ⟨x, hx⟩ : ∃ x, n / 2 ^ t = x := ⟨_, rfl⟩
        have hx63 : x < 9223372036854775808 := by have : n / 2 ^ t ≤ n := Nat.div_le_self _ _; omega
        have r1 : (n : Int) / 2 ^ t = (x : Int) := by rw [← hx]; simp
        have r2 := one_bit_i64 x hx63
        have HX := hid hx
        clear hs3 A3 hb3 hx
        rcases (show x % 2 = 0 ∨ x % 2 = 1 by omega) with hb | hb
        · rw [hb] at r2
          have HE := hid (Pn.square A n t (by rw [HX.out]; exact hb))
          rw [HE.out] at HB3 HS3
          clear hb
          go_wp2_with fail
          go_roundw
          case rel => exact ⟨t, s, ss, by omega, by go_num, rfl, HB3, HS3, D3⟩
          case measure => simp [intOf]
        · rw [hb] at r2
          have HE := hid (Pn.square_odd A n t (by rw [HX.out]; exact hb))
          have HA3 := hid (HA.out.below D3.out (Nat.le_refl _))
          have MU2 := hid (mul_gives s p _ _ m cap ss zs (A ^ (n / 2 ^ t)) w3 (HB3.out.argT HS3.out) HA3.out (HB3.out.tsT HS3.out) HT.out (by rw [HB3.out.2.2.2.1, HVA.out]; exact HE.out))
          clear hb
          go_wp2_with fail
          refine MU2.out.mono ?_
          rintro e w4 ⟨h | h, hb4⟩
          · obtain ⟨hs4, s4, ss4, rfl, A4⟩ := h
            have HB4 := hid (A4.upT (B' := w.heap.size) D3.out.size)
            have HS4 := hid hs4
            have D4 := hid (chain D3.out hb4 (Nat.le_refl _))
            clear hs4 A4 hb4
            go_wp2_with fail
            go_roundw
            case rel => exact ⟨t, s4, ss4, by omega, by go_num, rfl, HB4, HS4, D4⟩
            case measure => simp [intOf]
          · obtain ⟨hs4, rfl⟩ := h
            have F : Hid (Gives (A ^ n) w (.returned (.tuple #[.slice none 0 0, .int .i64 2])) w4) :=
              ⟨.inr ⟨Int.le_trans hs4 (Pn.part_le HA1.out n t), rfl⟩, chain D3.out hb4 (Nat.le_refl _)⟩
            clear hs4 hb4
            go_wp2_with fail
            go_ret2
            exact F.out
      · obtain ⟨hs3, rfl⟩ := h
        have F : Hid (Gives (A ^ n) w (.returned (.tuple #[.slice none 0 0, .int .i64 2])) w3) :=
          ⟨.inr ⟨Int.le_trans hs3 (Pn.square_le HA1.out n t), rfl⟩, chain D.out hb3 (Nat.le_refl _)⟩
        clear hs3 hb3
        go_wp2_with fail
        go_ret2
        exact F.out
end Go.Proofs.YtaoaniigbooihaaGreatDoor

namespace Go.Proofs.YtaoaniigbooihaaGreatDoor
open Go.RowKit Go.Deep

theorem pow_big (p : Option Addr) (m cap : Nat) (zs : List Int) (k : Int) (w : World) (ha : Arg w p m cap zs) (tz : 4096 < Nm.tsize zs) :
    Calls Tryz.prog 131 #[.slice p m cap, .int .i64 k] w fun e w' => e = .returned (.tuple #[.slice none 0 0, .int .i64 2]) ∧ w' = w := by
  obtain ⟨L, l1, _, _, _⟩ := blen_is zs ha.2.2.2.2
  obtain ⟨N, HN⟩ : ∃ N, Hid (Nm.tsize zs = N) := ⟨_, rfl⟩
  have hN : (4096 : Int) < (N : Int) := by have := HN.out; omega
  have HB := hid (bitLen_isT L p m cap zs w ha l1)
  have HL := hid (limbs_isT p m cap zs N w ha HN.out)
  clear ha tz l1
  go_enter Tryz.func131, Tryz.ntmps131
  go_wp2_with fail
  refine HB.out.mono ?_
  rintro e w' ⟨rfl, rfl⟩
  go_wp2_with fail
  refine HL.out.mono ?_
  rintro e w' ⟨rfl, rfl⟩
  go_wp2_with fail
  go_ret2
  exact ⟨rfl, rfl⟩

theorem pow_neg (p : Option Addr) (m cap : Nat) (zs : List Int) (k : Int) (w : World) (ha : Arg w p m cap zs) (tz : Nm.tsize zs ≤ 4096) (hk : k < 0) :
    Calls Tryz.prog 131 #[.slice p m cap, .int .i64 k] w fun e w' => e = .returned (.tuple #[.slice none 0 0, .int .i64 1]) ∧ w' = w := by
  obtain ⟨L, l1, _, _, _⟩ := blen_is zs ha.2.2.2.2
  obtain ⟨N, HN⟩ : ∃ N, Hid (Nm.tsize zs = N) := ⟨_, rfl⟩
  have hN : (N : Int) ≤ 4096 := by have := HN.out; omega
  have HB := hid (bitLen_isT L p m cap zs w ha l1)
  have HL := hid (limbs_isT p m cap zs N w ha HN.out)
  clear ha tz l1
  go_enter Tryz.func131, Tryz.ntmps131
  go_wp2_with fail
  refine HB.out.mono ?_
  rintro e w' ⟨rfl, rfl⟩
  go_wp2_with fail
  refine HL.out.mono ?_
  rintro e w' ⟨rfl, rfl⟩
  go_wp2_with fail
  go_ret2
  exact ⟨rfl, rfl⟩

theorem one_lt_pw : (1 : Int) < Nm.pw 4096 := by
  have h := Nm.pw_mono (show 1 ≤ 4096 by omega)
  have e : Nm.pw 1 = 18446744073709551616 := by simp [Nm.pw]
  rw [e] at h
  generalize Nm.pw 4096 = x at *
  omega

set_option maxRecDepth 100000 in
set_option maxHeartbeats 1000000 in
theorem pow_gives (p : Option Addr) (m cap : Nat) (zs : List Int) (A k : Int) (n : Nat) (w : World) (ha : Arg w p m cap zs) (tz : Nm.tsize zs ≤ 4096) (hA : Nm.val zs = A) (hk : k = (n : Int)) (hk1 : k ≤ 9223372036854775807) :
    Calls Tryz.prog 131 #[.slice p m cap, .int .i64 k] w fun e w' => Gives (A ^ n) w e w' := by
  obtain ⟨L, l1, l2, l3, _⟩ := blen_is zs ha.2.2.2.2
  obtain ⟨N, HN⟩ : ∃ N, Hid (Nm.tsize zs = N) := ⟨_, rfl⟩
  have hN : (N : Int) ≤ 4096 := by have := HN.out; omega
  have HB := hid (bitLen_isT L p m cap zs w ha l1)
  have HL := hid (limbs_isT p m cap zs N w ha HN.out)
  have hL : (L : Int) ≤ 262144 := by omega
  have A0 := (Nm.val_bd zs ha.2.2.2.2).1
  rw [hA] at A0 l2
  have HAs : Hid (A < Nm.pw 4096) := by show _ < _; rw [← hA]; exact (Nm.tsize_le_iff ha.2.2.2.2 4096).1 tz
  have HA := hid ha
  have HT := hid tz
  have HVA := hid hA
  have HL2 := hid l2
  clear ha tz l1 l2 l3 hA
  subst hk
  by_cases h0 : n = 0
  · subst h0
    have F := hid (fromUint_any 1 w (by omega) (by omega))
    go_enter Tryz.func131, Tryz.ntmps131
    go_wp2_with fail
    refine HB.out.mono ?_
    rintro e w' ⟨rfl, rfl⟩
    go_wp2_with fail
    refine HL.out.mono ?_
    rintro e w' ⟨rfl, rfl⟩
    go_wp2_with fail
    refine F.out.mono ?_
    rintro e w1 ⟨r, os, rfl, A1, hb1⟩
    have G : Hid (Gives (A ^ 0) w' (.returned (.tuple #[.slice r (List.length os) (List.length os), .int .i64 0])) w1) :=
      ⟨.inl ⟨by rw [Int.pow_zero]; exact one_lt_pw, r, os, rfl, by rw [Int.pow_zero]; exact A1⟩, hb1⟩
    clear A1 hb1
    go_wp2_with fail
    go_ret2
    exact G.out
  have hn0 : ((n : Int) == 0) = false := by rw [beq_eq_false_iff_ne]; omega
  by_cases hL2 : L < 2
  · have hL2' : (L : Int) < 2 := by omega
    have E : Hid (A ^ n = A) := by
      have h := HL2.out.1
      have hA2 : A < 2 := by
        have := Nm.two_mono (show L ≤ 1 by omega)
        omega
      show _ = _
      obtain ⟨n', rfl⟩ : ∃ n', n = n' + 1 := ⟨n - 1, by omega⟩
      rcases (show A = 0 ∨ A = 1 by omega) with rfl | rfl
      · rw [Int.pow_succ, Int.mul_zero]
      · rw [Int.one_pow]
    have TR := hid (trim_any p m cap zs w HA.out)
    go_enter Tryz.func131, Tryz.ntmps131
    go_wp2_with fail
    refine HB.out.mono ?_
    rintro e w' ⟨rfl, rfl⟩
    go_wp2_with fail
    refine HL.out.mono ?_
    rintro e w' ⟨rfl, rfl⟩
    go_wp2_with fail
    refine TR.out.mono ?_
    rintro e w1 ⟨r, os, rfl, -, A1, hb1⟩
    rw [HVA.out] at A1
    have G : Hid (Gives (A ^ n) w' (.returned (.tuple #[.slice r (List.length os) (List.length os), .int .i64 0])) w1) := by
      rw [E.out]
      exact ⟨.inl ⟨HAs.out, r, os, rfl, A1⟩, hb1⟩
    clear A1 hb1
    go_wp2_with fail
    go_ret2
    exact G.out
  have hL2' : (2 : Int) ≤ (L : Int) := by omega
  have hA2 : Hid (2 ^ (L - 1) ≤ A) := by
    have h1 := HL2.out.2.2
    have h2 : 0 < A := by
      rcases (show A = 0 ∨ 0 < A by omega) with h | h
      · have := HL2.out.2.1 h; omega
      · exact h
    exact (h1 h2).2
  have hA1 : Hid (1 ≤ A) := by
    have := Nm.two_pos (L - 1)
    have := hA2.out
    show _ ≤ _
    omega
  obtain ⟨c, hc⟩ : ∃ c, 262143 / ((L : Int) - 1) = c := ⟨_, rfl⟩
  have d1 := Int.emod_add_mul_ediv 262143 ((L : Int) - 1)
  have d2 := Int.emod_nonneg 262143 (show (L : Int) - 1 ≠ 0 by omega)
  have d3 := Int.emod_lt_of_pos 262143 (show 0 < (L : Int) - 1 by omega)
  have d4 : 0 ≤ c := by rw [← hc]; exact Int.ediv_nonneg (by omega) (by omega)
  rw [hc] at d1
  have hc2 : (262143 : Int).tdiv ((L : Int) - 1) = c := by rw [Int.tdiv_eq_ediv_of_nonneg (by omega)]; exact hc
  have hz : (((L : Int) - 1) == 0) = false := by rw [beq_eq_false_iff_ne]; omega
  have hc3 : c ≤ 262143 := by
    have e1 : 1 * c ≤ ((L : Int) - 1) * c := Int.mul_le_mul_of_nonneg_right (by omega) d4
    omega
  by_cases hb : c < (n : Int)
  · have G : Hid (Gives (A ^ n) w (.returned (.tuple #[.slice none 0 0, .int .i64 2])) w) := by
      refine ⟨.inr ⟨Pn.early hA2.out ?_, rfl⟩, Below.refl _ _⟩
      have e1 : ((L : Int) - 1) * (c + 1) ≤ ((L : Int) - 1) * (n : Int) := Int.mul_le_mul_of_nonneg_left (by omega) (by omega)
      rw [Int.mul_add, Int.mul_one] at e1
      have e2 : (((L - 1) * n : Nat) : Int) = ((L : Int) - 1) * (n : Int) := by rw [Int.natCast_mul, show ((L - 1 : Nat) : Int) = (L : Int) - 1 by omega]
      omega
    clear d1 d2 d3
    go_enter Tryz.func131, Tryz.ntmps131
    go_wp2_with fail
    refine HB.out.mono ?_
    rintro e w' ⟨rfl, rfl⟩
    go_wp2_with fail
    refine HL.out.mono ?_
    rintro e w' ⟨rfl, rfl⟩
    go_wp2_with fail
    go_ret2
    exact G.out
  · have hb' : (n : Int) ≤ c := by omega
    have P := hid (power_any p m cap zs A n w HA.out HT.out HVA.out hA1.out (by omega) (by omega))
    clear d1 d2 d3 hb
    go_enter Tryz.func131, Tryz.ntmps131
    go_wp2_with fail
    refine HB.out.mono ?_
    rintro e w' ⟨rfl, rfl⟩
    go_wp2_with fail
    refine HL.out.mono ?_
    rintro e w' ⟨rfl, rfl⟩
    go_wp2_with fail
    refine P.out.mono ?_
    rintro e w1 ⟨h | h, hb1⟩
    · obtain ⟨h1, r, os, rfl, A1⟩ := h
      have G : Hid (Gives (A ^ n) w' (.returned (.tuple #[.slice r (List.length os) (List.length os), .int .i64 0])) w1) := ⟨.inl ⟨h1, r, os, rfl, A1⟩, hb1⟩
      clear h1 A1 hb1
      go_wp2_with fail
      go_ret2
      exact G.out
    · obtain ⟨h1, rfl⟩ := h
      have G : Hid (Gives (A ^ n) w' (.returned (.tuple #[.slice none 0 0, .int .i64 2])) w1) := ⟨.inr ⟨h1, rfl⟩, hb1⟩
      clear h1 hb1
      go_wp2_with fail
      go_ret2
      exact G.out
end Go.Proofs.YtaoaniigbooihaaGreatDoor

namespace Go.Proofs.YtaoaniigbooihaaGreatDoor
open Go.RowKit Go.Deep

/-- A number and true, or false: it is too big. -/
def GivesB (T : Int) (w : World) (e : Ending) (w' : World) : Prop :=
  ((T < Nm.pw 4096 ∧ ∃ r os, e = .returned (.tuple #[.slice r (List.length os) (List.length os), .bool true]) ∧ Ans w.heap.size w' r os T) ∨ (Nm.pw 4096 ≤ T ∧ e = .returned (.tuple #[.slice none 0 0, .bool false]))) ∧ Below w.heap.size w w'

/-- A fact that no step looks into. -/
structure ShutQ (p : Prop) : Prop where
  out : p

/-- A product that has too many limbs by its factors' lengths. -/
theorem long_mul {xs ys : List Int} (hx : Nm.Limbs xs) (hy : Nm.Limbs ys) (h1 : 0 < Nm.tsize xs) (h2 : 0 < Nm.tsize ys) {k : Nat} (h : k + 2 ≤ Nm.tsize xs + Nm.tsize ys) : Nm.pw k ≤ Nm.val xs * Nm.val ys := by
  have a1 := Nm.val_ge_top hx h1
  have a2 := Nm.val_ge_top hy h2
  have p1 := Nm.pw_pos (Nm.tsize xs - 1)
  have p2 := Nm.pw_pos (Nm.tsize ys - 1)
  have h3 : Nm.pw (Nm.tsize xs - 1) * Nm.pw (Nm.tsize ys - 1) ≤ Nm.val xs * Nm.val ys := Int.mul_le_mul a1 a2 (by omega) (by omega)
  rw [← Nm.pw_add] at h3
  exact Int.le_trans (Nm.pw_mono (by omega)) h3

theorem Ans.tpos {B : Nat} {w : World} {p : Option Addr} {ys : List Int} {n : Int} (h : Ans B w p ys n) (hn : 1 ≤ n) : 0 < Nm.tsize ys := by
  have h1 := Nm.tsize_zero_iff h.2.1
  have h2 := h.2.2.2.1
  omega

/-- The length of an answer tells whether it is too big. -/
theorem Ans.over {B : Nat} {w : World} {p : Option Addr} {ys : List Int} {n : Int} (h : Ans B w p ys n) : 4096 < ys.length ↔ Nm.pw 4096 ≤ n := by
  have h1 := Nm.tsize_le_iff h.2.1 4096
  rw [h.2.2.1, h.2.2.2.1] at h1
  constructor
  · intro h2
    rcases Int.lt_or_le n (Nm.pw 4096) with c | c
    · have := h1.2 c; omega
    · exact c
  · intro h2
    rcases Nat.lt_or_ge 4096 ys.length with c | c
    · exact c
    · have := h1.1 c
      exact absurd (Int.lt_of_lt_of_le this h2) (Int.lt_irrefl _)

theorem half_pow (A : Int) (n : Nat) (b : Nat) (hb : n % 2 = b) : A ^ (n / 2) * A ^ (n / 2) * A ^ b = A ^ n := by
  rw [← Int.pow_add, ← Int.pow_add]
  congr 1
  omega

set_option maxRecDepth 100000 in
set_option maxHeartbeats 8000000 in
theorem rpower_any (p : Option Addr) (m cap : Nat) (zs : List Int) (A : Int) (hA : Nm.val zs = A) (hA1 : 1 ≤ A) (tz : Nm.tsize zs ≤ 4096) (n : Nat) : ∀ (w : World), Arg w p m cap zs → n < 9223372036854775808 →
    Calls Tryz.prog 228 #[.slice p m cap, .int .i64 (n : Int)] w fun e w' => GivesB (A ^ n) w e w' := by
  induction n using Nat.strongRecOn with
  | _ n ih =>
  intro w ha hn
  by_cases h0 : n = 0
  · subst h0
    have D : Below w.heap.size w (w.alloc (.cells #[.int .u64 1] 26)) := (Below.refl _ _).alloc (Nat.le_refl _) _
    have F : Hid (GivesB (A ^ 0) w (.returned (.tuple #[.slice (some ⟨w.heap.size, 0, none⟩) 1 1, .bool true])) (w.alloc (.cells #[.int .u64 1] 26))) := by
      rw [Int.pow_zero]
      exact ⟨.inl ⟨one_lt_pw, some ⟨w.heap.size, 0, none⟩, [1], rfl, ⟨(Own.alloc w [1]).lies, limb_one (by omega), by simp [Nm.tsize], by simp [Nm.val], fun a h => by cases h; exact Nat.le_refl _⟩⟩, D⟩
    clear ih D ha hA hA1 tz
    go_enter Tryz.func228, Tryz.ntmps228
    go_wp2_with fail
    go_ret2
    exact F.out
  · have IH := hid (ih (n / 2) (by omega) w ha (by omega))
    have hn0 : ((n : Int) == 0) = false := by rw [beq_eq_false_iff_ne]; omega
    obtain ⟨k, hk⟩ : ∃ k, n / 2 = k := ⟨_, rfl⟩
    obtain ⟨b, hb⟩ : ∃ b, n % 2 = b := ⟨_, rfl⟩
    have HP := half_pow A n b hb
    rw [hk] at IH HP
    have q1 : (n : Int) / 2 = (k : Int) := by omega
    have q1t : (n : Int).tdiv 2 = (k : Int) := by rw [Int.tdiv_eq_ediv_of_nonneg (by omega)]; exact q1
    have q2 : (n : Int) % 2 = (b : Int) := by omega
    have q2t : (n : Int).tmod 2 = (b : Int) := by rw [Int.tmod_eq_emod_of_nonneg (by omega)]; exact q2
    have hb1 : b = 0 ∨ b = 1 := by omega
    have a2 := ha.2.1
    have a3 := ha.2.2.1
    have hn63 : (n : Int) < 9223372036854775808 := by omega
    have HA := hid ha
    have HV := hid hA
    have H1 := hid hA1
    have HZ := hid tz
    have HHP := hid HP
    have HKL := Pn.pow_mono hA1 (show k ≤ n by omega)
    have HK := hid HKL
    obtain ⟨TA, hTA⟩ : ∃ T, Hid (Nm.tsize zs = T) := ⟨_, rfl⟩
    have hTA0 : Hid (0 < Nm.tsize zs) := by
      have h1 := Nm.tsize_zero_iff ha.2.2.2.2
      show _ < _
      omega
    have TAb : (TA : Int) ≤ 4096 := by have := hTA.out; omega
    have PK := hid (Pn.pow_pos' hA1 k)
    clear ih ha hA hA1 tz hk hb HP h0 HKL hn
    go_enter Tryz.func228, Tryz.ntmps228
    go_wp2_with fail
    refine IH.out.mono ?_
    rintro e w1 ⟨h | h, d1⟩
    · obtain ⟨hs, r, os, rfl, A1⟩ := h
      have HB1 := hid A1
      have HS : ShutQ (A ^ k < Nm.pw 4096) := ⟨hs⟩
      have D1 := hid d1
      have hw1 : Hid (w.heap.size ≤ w1.heap.size) := d1.size
      obtain ⟨l, hl⟩ : ∃ l, os.length = l := ⟨_, rfl⟩
      have los : (l : Int) ≤ 4096 := by have := A1.small hs; omega
      have AL : Hid (Arg w1 r l l os) := ⟨hl, Nat.le_refl _, by omega, A1.1, A1.2.1⟩
      have TL : Hid (Nm.tsize os = l) := A1.2.2.1.trans hl
      rw [hl]
      have HA1 := hid (HA.out.below d1 (Nat.le_refl _))
      clear hs A1 d1 IH hl
      by_cases h2 : 4096 < 2 * (l : Int) - 1
      · have F : Hid (GivesB (A ^ n) w (.returned (.tuple #[.slice none 0 0, .bool false])) w1) := by
          refine ⟨.inr ⟨?_, rfl⟩, D1.out⟩
          have h3 := long_mul (k := 4096) HB1.out.2.1 HB1.out.2.1 (HB1.out.tpos PK.out) (HB1.out.tpos PK.out) (by rw [TL.out]; omega)
          rw [HB1.out.2.2.2.1, ← Int.pow_add] at h3
          refine Int.le_trans h3 (Pn.pow_mono H1.out ?_)
          omega
        go_wp2_with fail
        go_ret2
        exact F.out
      · have h2' : Hid (2 * (l : Int) - 1 ≤ 4096) := by show _ ≤ _; omega
        have h2d : decide (4096 < 2 * (l : Int) - 1) = false := by simp; omega
        have TI := hid (refTimes_any r r l l l l os os w1 AL.out AL.out (by rw [TL.out]; omega) (by rw [TL.out]; omega))
        rw [HB1.out.2.2.2.1] at TI
        clear h2
        go_wp2_with fail
        refine TI.out.mono ?_
        rintro e w2 ⟨r2, us, rfl, A2, d2⟩
        have HB2 := hid A2
        have D2 := hid (chain D1.out d2 (Nat.le_refl _))
        have HA2 := hid (HA1.out.below d2 (Nat.le_refl _))
        have lus : Hid (us.length ≤ 8192) := by
          show _ ≤ _
          rw [← A2.2.2.1]
          refine (Nm.tsize_le_iff A2.2.1 8192).2 ?_
          rw [A2.2.2.2.1]
          have h1 := HS.out
          have h2 : A ^ k * A ^ k < Nm.pw 4096 * Nm.pw 4096 := by
            have p0 := PK.out
            have : A ^ k * A ^ k ≤ A ^ k * Nm.pw 4096 := Int.mul_le_mul_of_nonneg_left (by omega) (by omega)
            have h3 : A ^ k * Nm.pw 4096 < Nm.pw 4096 * Nm.pw 4096 := Int.mul_lt_mul_of_pos_right h1 (Nm.pw_pos 4096)
            omega
          rw [← Nm.pw_add] at h2
          exact h2
        have P2 : Hid (1 ≤ A ^ k * A ^ k) := by
          show _ ≤ _
          rw [← Int.pow_add]
          exact Pn.pow_pos' H1.out _
        clear A2 d2 TI HA1 HB1 D1 h2d
        rcases hb1 with rfl | rfl
        · have E : Hid (A ^ k * A ^ k = A ^ n) := by have := HHP.out; rw [Int.pow_zero, Int.mul_one] at this; exact this
          rw [E.out] at HB2
          by_cases h3 : 4096 < us.length
          · have h3' : (4096 : Int) < (us.length : Int) := by omega
            have F : Hid (GivesB (A ^ n) w (.returned (.tuple #[.slice none 0 0, .bool false])) w2) := ⟨.inr ⟨HB2.out.over.1 h3, rfl⟩, D2.out⟩
            clear h3
            go_wp2_with fail
            go_ret2
            exact F.out
          · have h3d : decide (4096 < (us.length : Int)) = false := by simp; omega
            have h3b : (us.length : Int) < 10000 := by omega
            have H3 : Hid ((us.length : Int) ≤ 4096) := by show _ ≤ _; omega
            have F : Hid (GivesB (A ^ n) w (.returned (.tuple #[.slice r2 (List.length us) (List.length us), .bool true])) w2) := by
              have hlt : A ^ n < Nm.pw 4096 := by
                rcases Int.lt_or_le (A ^ n) (Nm.pw 4096) with c | c
                · exact c
                · exact absurd (HB2.out.over.2 c) h3
              exact ⟨.inl ⟨hlt, r2, us, rfl, HB2.out.upT hw1.out⟩, D2.out⟩
            clear h3
            go_wp2_with fail
            go_ret2
            exact F.out
        · have E : Hid (A ^ k * A ^ k * A = A ^ n) := by have := HHP.out; rw [Int.pow_succ, Int.pow_zero, Int.one_mul] at this; exact this
          by_cases h3 : 4096 < us.length
          · have h3' : (4096 : Int) < (us.length : Int) := by omega
            have F : Hid (GivesB (A ^ n) w (.returned (.tuple #[.slice none 0 0, .bool false])) w2) := by
              refine ⟨.inr ⟨?_, rfl⟩, D2.out⟩
              have h4 := HB2.out.over.1 h3
              rw [← E.out]
              have h5 : A ^ k * A ^ k * 1 ≤ A ^ k * A ^ k * A := Int.mul_le_mul_of_nonneg_left H1.out (by have := P2.out; omega)
              rw [Int.mul_one] at h5
              exact Int.le_trans h4 h5
            clear h3
            go_wp2_with fail
            go_ret2
            exact F.out
          · have h3d : decide (4096 < (us.length : Int)) = false := by simp; omega
            have h3b : (us.length : Int) < 10000 := by omega
            have H3 : Hid ((us.length : Int) ≤ 4096) := by show _ ≤ _; omega
            have T2 := top_any p m cap zs w2 HA2.out.1 (by omega) HA2.out.2.2.2.1
            rw [hTA.out] at T2
            have HT2 := hid T2
            clear T2
            go_wp2_with fail
            refine HT2.out.mono ?_
            rintro e w3 ⟨rfl, rfl⟩
            have H3' := H3.out
            by_cases h4 : 4096 < (us.length : Int) + (TA : Int) - 1
            · have F : Hid (GivesB (A ^ n) w (.returned (.tuple #[.slice none 0 0, .bool false])) w3) := by
                refine ⟨.inr ⟨?_, rfl⟩, D2.out⟩
                have h5 := long_mul (k := 4096) HB2.out.2.1 HA2.out.2.2.2.2 (HB2.out.tpos P2.out) hTA0.out (by rw [HB2.out.2.2.1, hTA.out]; omega)
                rw [HB2.out.2.2.2.1, HV.out, E.out] at h5
                exact h5
              clear h3 H3'
              go_wp2_with fail
              go_ret2
              exact F.out
            · have h4d : decide (4096 < (us.length : Int) + (TA : Int) - 1) = false := by simp; omega
              have TI := hid (refTimes_any r2 p _ _ m cap us zs w3 (HB2.out.arg (by have := lus.out; omega)) HA2.out (by rw [HB2.out.2.2.1]; have := lus.out; omega) (by have := HZ.out; omega))
              rw [HB2.out.2.2.2.1, HV.out, E.out] at TI
              clear h3 h4 H3'
              go_wp2_with fail
              refine TI.out.mono ?_
              rintro e w4 ⟨r4, vs, rfl, A4, d4⟩
              have HB4 := hid A4
              have hw3 : Hid (w.heap.size ≤ w3.heap.size) := D2.out.size
              have D4 := hid (chain D2.out d4 (Nat.le_refl _))
              clear A4 d4 TI
              by_cases h5 : 4096 < vs.length
              · have h5' : (4096 : Int) < (vs.length : Int) := by omega
                have F : Hid (GivesB (A ^ n) w (.returned (.tuple #[.slice none 0 0, .bool false])) w4) := ⟨.inr ⟨HB4.out.over.1 h5, rfl⟩, D4.out⟩
                clear h5
                go_wp2_with fail
                go_ret2
                exact F.out
              · have h5d : decide (4096 < (vs.length : Int)) = false := by simp; omega
                have F : Hid (GivesB (A ^ n) w (.returned (.tuple #[.slice r4 (List.length vs) (List.length vs), .bool true])) w4) := by
                  have hlt : A ^ n < Nm.pw 4096 := by
                    rcases Int.lt_or_le (A ^ n) (Nm.pw 4096) with c | c
                    · exact c
                    · exact absurd (HB4.out.over.2 c) h5
                  exact ⟨.inl ⟨hlt, r4, vs, rfl, HB4.out.upT hw3.out⟩, D4.out⟩
                clear h5
                go_wp2_with fail
                go_ret2
                exact F.out
    · obtain ⟨hs, rfl⟩ := h
      have F : Hid (GivesB (A ^ n) w (.returned (.tuple #[.slice none 0 0, .bool false])) w1) := ⟨.inr ⟨Int.le_trans hs HK.out, rfl⟩, d1⟩
      clear hs d1 IH
      go_wp2_with fail
      go_ret2
      exact F.out
end Go.Proofs.YtaoaniigbooihaaGreatDoor

namespace Go.Proofs.YtaoaniigbooihaaGreatDoor
open Go.RowKit Go.Deep

theorem pval_one (x : Int) : Nm.val [x] = x := by simp [Nm.val]


theorem rsame_is (s : Bool) (p q : Option Addr) (n cap m cap' : Nat) (zs ys : List Int) (w : World) (ha : Arg w p n cap zs) (hb : Arg w q m cap' ys) (hs : decide (Nm.val zs = Nm.val ys) = s) :
    Calls Tryz.prog 227 #[.slice p n cap, .slice q m cap'] w fun e w' => e = .returned (.bool s) ∧ Below w.heap.size w w' := by
  obtain ⟨c, hc⟩ : ∃ c, cmpI (Nm.val zs) (Nm.val ys) = c := ⟨_, rfl⟩
  have E : Hid ((c == 0) = s) := by
    rw [Hid, ← hs, ← hc, cmpI]
    by_cases h1 : Nm.val zs < Nm.val ys
    · rw [if_pos h1]; simp; omega
    · rw [if_neg h1]
      by_cases h2 : Nm.val zs = Nm.val ys
      · rw [if_pos h2]; simp [h2]
      · rw [if_neg h2]; simp [h2]
  have O := hid (order_is c p q n cap m cap' zs ys w ha hb hc)
  clear hc hs ha hb
  go_enter Tryz.func227, Tryz.ntmps227
  go_wp2_with fail
  refine O.out.mono ?_
  rintro e w1 ⟨rfl, d1⟩
  have D1 := hid d1
  clear d1 O
  go_wp2_with fail
  go_ret
  exact ⟨ret_bool E.out, D1.out⟩

theorem rpow_big (p : Option Addr) (m cap : Nat) (zs : List Int) (k : Int) (w : World) (ha : Arg w p m cap zs) (tz : 4096 < Nm.tsize zs) :
    Calls Tryz.prog 215 #[.slice p m cap, .int .i64 k] w fun e w' => e = .returned (.tuple #[.slice none 0 0, .int .i64 2]) ∧ w' = w := by
  have a2 := ha.2.1
  have a3 := ha.2.2.1
  have h1' : (4096 : Int) < (Nm.tsize zs : Int) := by omega
  have L1 := hid (top_any p m cap zs w ha.1 (by omega) ha.2.2.2.1)
  clear ha tz
  go_enter Tryz.func215, Tryz.ntmps215
  go_wp2_with fail
  refine L1.out.mono ?_
  rintro e w' ⟨rfl, rfl⟩
  go_wp2_with fail
  go_ret2
  exact ⟨rfl, rfl⟩

theorem rpow_neg (p : Option Addr) (m cap : Nat) (zs : List Int) (k : Int) (w : World) (ha : Arg w p m cap zs) (tz : Nm.tsize zs ≤ 4096) (hk : k < 0) :
    Calls Tryz.prog 215 #[.slice p m cap, .int .i64 k] w fun e w' => e = .returned (.tuple #[.slice none 0 0, .int .i64 1]) ∧ w' = w := by
  have a2 := ha.2.1
  have a3 := ha.2.2.1
  have h1' : (Nm.tsize zs : Int) ≤ 4096 := by omega
  have L1 := hid (top_any p m cap zs w ha.1 (by omega) ha.2.2.2.1)
  clear ha tz
  go_enter Tryz.func215, Tryz.ntmps215
  go_wp2_with fail
  refine L1.out.mono ?_
  rintro e w' ⟨rfl, rfl⟩
  go_wp2_with fail
  go_ret2
  exact ⟨rfl, rfl⟩

set_option maxRecDepth 100000 in
set_option maxHeartbeats 2000000 in
theorem rpow_gives (p : Option Addr) (m cap : Nat) (zs : List Int) (A k : Int) (n : Nat) (w : World) (ha : Arg w p m cap zs) (tz : Nm.tsize zs ≤ 4096) (hA : Nm.val zs = A) (hk : k = (n : Int)) (hk1 : k < 9223372036854775808) :
    Calls Tryz.prog 215 #[.slice p m cap, .int .i64 k] w fun e w' => Gives (A ^ n) w e w' := by
  have a2 := ha.2.1
  have a3 := ha.2.2.1
  obtain ⟨N, HN⟩ : ∃ N, Hid (Nm.tsize zs = N) := ⟨_, rfl⟩
  have hN : decide (4096 < (N : Int)) = false := by have := HN.out; simp; omega
  have T := top_any p m cap zs w ha.1 (by omega) ha.2.2.2.1
  rw [HN.out] at T
  have L1 := hid T
  have hb : Below w.heap.size w (w.alloc (.cells #[.int .u64 1] 26)) := (Below.refl _ _).alloc (Nat.le_refl _) _
  have A1 : Arg (w.alloc (.cells #[.int .u64 1] 26)) (some ⟨w.heap.size, 0, none⟩) 1 1 [1] := ⟨rfl, Nat.le_refl _, by omega, (Own.alloc w [1]).lies, limb_one (by omega)⟩
  have N1 : Ans w.heap.size (w.alloc (.cells #[.int .u64 1] 26)) (some ⟨w.heap.size, 0, none⟩) [1] 1 := ⟨(Own.alloc w [1]).lies, limb_one (by omega), by simp [Nm.tsize], by simp [Nm.val], fun a h => by cases h; exact Nat.le_refl _⟩
  have HA1 := hid A1
  have HN1 := hid N1
  have HB := hid hb
  have HA := hid (ha.below hb (Nat.le_refl _))
  have A0 := (Nm.val_bd zs ha.2.2.2.2).1
  have hzz := Nm.tsize_zero_iff ha.2.2.2.2
  rw [hA] at A0 hzz
  have HV := hid hA
  have HT := hid tz
  subst hk
  clear T hb A1 N1 ha tz hA
  by_cases h0 : n = 0
  · subst h0
    have F : Hid (Gives (A ^ 0) w (.returned (.tuple #[.slice (some ⟨w.heap.size, 0, none⟩) 1 1, .int .i64 0])) (w.alloc (.cells #[.int .u64 1] 26))) := by
      rw [Int.pow_zero]
      exact ⟨.inl ⟨one_lt_pw, _, [1], rfl, HN1.out⟩, HB.out⟩
    clear hzz
    go_enter Tryz.func215, Tryz.ntmps215
    go_wp2_with fail
    refine L1.out.mono ?_
    rintro e w' ⟨rfl, rfl⟩
    go_wp2_with fail
    go_ret2
    exact F.out
  have hn0 : ((n : Int) == 0) = false := by rw [beq_eq_false_iff_ne]; omega
  have HK1 := hid hk1
  have hnn : decide ((n : Int) < 0) = false := by simp
  clear hk1
  by_cases h1 : A = 1
  · have SA := hid (rsame_is true p _ m cap 1 1 zs [1] _ HA.out HA1.out (by rw [HV.out, pval_one, h1]; simp))
    have E : Hid (A ^ n = 1) := by rw [Hid, h1, Int.one_pow]
    clear h1 hzz h0
    go_enter Tryz.func215, Tryz.ntmps215
    go_wp2_with fail
    refine L1.out.mono ?_
    rintro e w' ⟨rfl, rfl⟩
    go_wp2_with fail
    refine SA.out.mono ?_
    rintro e w2 ⟨rfl, d2⟩
    have F : Hid (Gives (A ^ n) w' (.returned (.tuple #[.slice (some ⟨w'.heap.size, 0, none⟩) 1 1, .int .i64 0])) w2) := by
      rw [E.out]
      exact ⟨.inl ⟨one_lt_pw, _, [1], rfl, HN1.out.below d2 (Nat.le_refl _)⟩, chain HB.out d2 (Nat.le_refl _)⟩
    clear d2
    go_wp2_with fail
    go_ret2
    exact F.out
  have SA := hid (rsame_is false p _ m cap 1 1 zs [1] _ HA.out HA1.out (by rw [HV.out, pval_one]; simp [h1]))
  by_cases h2 : N = 0
  · have hA0 : A = 0 := hzz.1 (by rw [HN.out]; exact h2)
    have E : Hid (A ^ n = 0) := by
      obtain ⟨n', rfl⟩ : ∃ n', n = n' + 1 := ⟨n - 1, by omega⟩
      rw [Hid, hA0, Int.pow_succ, Int.mul_zero]
    subst h2
    clear h1 hzz hA0 h0
    go_enter Tryz.func215, Tryz.ntmps215
    go_wp2_with fail
    refine L1.out.mono ?_
    rintro e w' ⟨rfl, rfl⟩
    go_wp2_with fail
    refine SA.out.mono ?_
    rintro e w2 ⟨rfl, d2⟩
    have T2 := top_any p m cap zs w2 HA.out.1 (by omega) (HA.out.below d2 (Nat.le_refl _)).2.2.2.1
    rw [HN.out] at T2
    have HT2 := hid T2
    have F : Hid (Gives (A ^ n) w' (.returned (.tuple #[.slice none 0 0, .int .i64 0])) w2) := by
      rw [E.out]
      exact ⟨.inl ⟨by have := one_lt_pw; exact Int.lt_trans (by omega) this, none, [], rfl, ans_none _ _ _ (fun a h => by cases h)⟩, chain HB.out d2 (Nat.le_refl _)⟩
    clear d2 T2
    go_wp2_with fail
    refine HT2.out.mono ?_
    rintro e w3 ⟨rfl, rfl⟩
    go_wp2_with fail
    go_ret2
    exact F.out
  · have hN0 : ((N : Int) == 0) = false := by rw [beq_eq_false_iff_ne]; omega
    have HA1' : Hid (1 ≤ A) := by
      show _ ≤ _
      rcases (show A = 0 ∨ 1 ≤ A by omega) with h | h
      · exact absurd (HN.out.symm.trans (hzz.2 h)) h2
      · exact h
    clear h1 hzz h0 h2
    go_enter Tryz.func215, Tryz.ntmps215
    go_wp2_with fail
    refine L1.out.mono ?_
    rintro e w' ⟨rfl, rfl⟩
    go_wp2_with fail
    refine SA.out.mono ?_
    rintro e w2 ⟨rfl, d2⟩
    have HA2 := hid (HA.out.below d2 (Nat.le_refl _))
    have D2 := hid (chain HB.out d2 (Nat.le_refl _))
    have T2 := top_any p m cap zs w2 HA2.out.1 (by omega) HA2.out.2.2.2.1
    rw [HN.out] at T2
    have HT2 := hid T2
    have PW := hid (rpower_any p m cap zs A HV.out HA1'.out HT.out n w2 HA2.out (by have := HK1.out; omega))
    clear d2 T2
    go_wp2_with fail
    refine HT2.out.mono ?_
    rintro e w3 ⟨rfl, rfl⟩
    go_wp2_with fail
    refine PW.out.mono ?_
    rintro e w4 ⟨h | h, d4⟩
    · obtain ⟨h1, r, os, rfl, A4⟩ := h
      have F : Hid (Gives (A ^ n) w' (.returned (.tuple #[.slice r (List.length os) (List.length os), .int .i64 0])) w4) := ⟨.inl ⟨h1, r, os, rfl, A4.upT D2.out.size⟩, chain D2.out d4 (Nat.le_refl _)⟩
      clear h1 A4 d4
      go_wp2_with fail
      go_ret2
      exact F.out
    · obtain ⟨h1, rfl⟩ := h
      have F : Hid (Gives (A ^ n) w' (.returned (.tuple #[.slice none 0 0, .int .i64 2])) w4) := ⟨.inr ⟨h1, rfl⟩, chain D2.out d4 (Nat.le_refl _)⟩
      clear h1 d4
      go_wp2_with fail
      go_ret2
      exact F.out
end Go.Proofs.YtaoaniigbooihaaGreatDoor

namespace Go.Proofs.YtaoaniigbooihaaGreatDoor
open Go.RowKit Go.Deep

theorem rpow10_gives (k : Int) (n : Nat) (w : World) (hk : k = (n : Int)) (hk1 : k < 9223372036854775808) :
    Calls Tryz.prog 195 #[.int .i64 k] w fun e w' => Gives (10 ^ n) w e w' := by
  have hb : Below w.heap.size w (w.alloc (.cells #[.int .u64 10] 26)) := (Below.refl _ _).alloc (Nat.le_refl _) _
  have A : Arg (w.alloc (.cells #[.int .u64 10] 26)) (some ⟨w.heap.size, 0, none⟩) 1 1 [10] := ⟨rfl, Nat.le_refl _, by omega, (Own.alloc w [10]).lies, limb_one (by omega)⟩
  have P := hid (rpow_gives _ 1 1 [10] 10 k n _ A (by simp [Nm.tsize]) (by simp [Nm.val]) hk hk1)
  have HB := hid hb
  clear hb A hk hk1
  go_enter Tryz.func195, Tryz.ntmps195
  go_wp2_with fail
  refine P.out.mono ?_
  rintro e w1 ⟨h | h, hb1⟩
  · obtain ⟨h1, r, os, rfl, A1⟩ := h
    have G : Hid (Gives (10 ^ n) w (.returned (.tuple #[.slice r (List.length os) (List.length os), .int .i64 0])) w1) := ⟨.inl ⟨h1, r, os, rfl, A1.upT HB.out.size⟩, chain HB.out hb1 (Nat.le_refl _)⟩
    clear h1 A1 hb1
    go_wp2_with fail
    go_ret2
    exact G.out
  · obtain ⟨h1, rfl⟩ := h
    have G : Hid (Gives (10 ^ n) w (.returned (.tuple #[.slice none 0 0, .int .i64 2])) w1) := ⟨.inr ⟨h1, rfl⟩, chain HB.out hb1 (Nat.le_refl _)⟩
    clear h1 hb1
    go_wp2_with fail
    go_ret2
    exact G.out

end Go.Proofs.YtaoaniigbooihaaGreatDoor

namespace Go.Proofs.YtaoaniigbooihaaGreatDoor
open Go.RowKit Go.Deep

/-- s has just these bytes. -/
def Str (s : ByteArray) (xs : List Int) : Prop := s.data.toList.map (fun b => (b.toNat : Int)) = xs

theorem Str.self (s : ByteArray) : Str s (s.data.toList.map (fun b => (b.toNat : Int))) := rfl

theorem Str.size {s : ByteArray} {xs : List Int} (h : Str s xs) : s.size = xs.length := by
  rw [← h, List.length_map, Array.length_toList]
  rfl

theorem Str.at {s : ByteArray} {xs : List Int} (h : Str s xs) (t : Nat) (ht : t < s.size) : ((s[t]'ht).toNat : Int) = xs.getD t 0 := by
  rw [← h]
  have : t < s.data.toList.length := by rw [Array.length_toList]; exact ht
  simp only [List.getD_eq_getElem?_getD, List.getElem?_map, List.getElem?_eq_getElem this, Option.map_some, Option.getD_some]
  rfl

theorem Str.mem {s : ByteArray} {xs : List Int} (h : Str s xs) {x : Int} (hx : x ∈ xs) : 0 ≤ x ∧ x < 256 := by
  rw [← h] at hx
  obtain ⟨b, _, rfl⟩ := List.mem_map.1 hx
  have := b.toNat_lt
  omega

theorem Str.atb {s : ByteArray} {xs : List Int} (h : Str s xs) (t : Nat) : 0 ≤ xs.getD t 0 ∧ xs.getD t 0 < 256 := by
  by_cases ht : t < xs.length
  · have : xs.getD t 0 = xs[t] := by simp [List.getD, ht]
    rw [this]
    exact h.mem (List.getElem_mem ht)
  · rw [show xs.getD t 0 = 0 by simp [List.getD, List.getElem?_eq_none (show xs.length ≤ t by omega)]]
    omega

theorem Str.extract {s : ByteArray} {xs : List Int} (h : Str s xs) (a b : Nat) : Str (s.extract a b) ((xs.drop a).take (b - a)) := by
  unfold Str at *
  rw [← h, ByteArray.data_extract]
  simp [List.map_drop, List.map_take]

theorem Str.of_nums {xs : List Int} (h : ∀ x ∈ xs, 0 ≤ x ∧ x < 256) : Str (strOfNums xs) xs := by
  unfold Str
  rw [strOfNums_data, List.map_map]
  conv => rhs; rw [← List.map_id xs]
  apply List.map_congr_left
  intro x hx
  have := h x hx
  simp only [Function.comp, id]
  rw [UInt8.toNat_ofNat_of_lt' (by show x.toNat < 256; omega)]
  omega

theorem Str.inj {s t : ByteArray} {xs : List Int} (h : Str s xs) (k : Str t xs) : s = t := by
  unfold Str at h k
  have e : s.data.toList = t.data.toList := by
    rw [← k] at h
    exact List.map_inj_right (fun a b hab => by
      have : a.toNat = b.toNat := by omega
      exact UInt8.toNat_inj.1 this) |>.1 h
  cases s
  cases t
  simp only at e
  rw [Array.toList_inj.1 e]

/-- s == t, asked by the bytes. -/
theorem Str.eq {s t : ByteArray} {xs ys : List Int} (h : Str s xs) (k : Str t ys) : (s.toList == t.toList) = decide (xs = ys) := by
  by_cases e : xs = ys
  · subst e
    rw [h.inj k]
    simp
  · rw [decide_eq_false e, beq_eq_false_iff_ne]
    intro c
    apply e
    rw [ByteArray.toList_eq, ByteArray.toList_eq] at c
    rw [← h, ← k, c]
theorem str_nil0 : Str ⟨#[]⟩ [] := rfl
end Go.Proofs.YtaoaniigbooihaaGreatDoor



namespace Go.Proofs.YtaoaniigbooihaaGreatDoor
open Go.RowKit Go.Deep

/-- What a byte counts as a digit; 36 if it is none. -/
def wv (x : Int) : Int := if 48 ≤ x ∧ x ≤ 57 then x - 48 else if 97 ≤ x ∧ x ≤ 122 then x - 97 + 10 else if 65 ≤ x ∧ x ≤ 90 then x - 65 + 10 else 36

theorem wv_bd (x : Int) : 0 ≤ wv x ∧ wv x ≤ 36 := by
  unfold wv
  split
  · omega
  · split
    · omega
    · split <;> omega

theorem dret_u64 {a b : Int} (h : a = b) : Ending.returned (.int .u64 a) = .returned (.int .u64 b) := by rw [h]

set_option maxRecDepth 100000 in
theorem worth_any (x : Int) (w : World) (h0 : 0 ≤ x) (h1 : x < 256) :
    Calls Tryz.prog 137 #[.int .u8 x] w fun e w' => e = .returned (.int .u64 (wv x)) ∧ w' = w := by
  by_cases a1 : 48 ≤ x ∧ x ≤ 57
  · have E : Hid (x - 48 = wv x) := by show _ = _; rw [wv, if_pos a1]
    obtain ⟨a1, a2⟩ := a1
    go_enter Tryz.func137, Tryz.ntmps137
    go_wp2
    go_ret
    exact ⟨dret_u64 E.out, rfl⟩
  by_cases a2 : 97 ≤ x ∧ x ≤ 122
  · have E : Hid (x - 97 + 10 = wv x) := by show _ = _; rw [wv, if_neg a1, if_pos a2]
    obtain ⟨a3, a4⟩ := a2
    clear a1
    go_enter Tryz.func137, Tryz.ntmps137
    go_wp2
    go_ret
    exact ⟨dret_u64 E.out, rfl⟩
  by_cases a3 : 65 ≤ x ∧ x ≤ 90
  · have E : Hid (x - 65 + 10 = wv x) := by show _ = _; rw [wv, if_neg a1, if_neg a2, if_pos a3]
    obtain ⟨a5, a6⟩ := a3
    clear a1 a2
    go_enter Tryz.func137, Tryz.ntmps137
    go_wp2
    go_ret
    exact ⟨dret_u64 E.out, rfl⟩
  · have E : Hid (36 = wv x) := by show _ = _; rw [wv, if_neg a1, if_neg a2, if_neg a3]
    rcases (show x < 48 ∨ (57 < x ∧ x < 65) ∨ (90 < x ∧ x < 97) ∨ 122 < x by omega) with h | ⟨h, k⟩ | ⟨h, k⟩ | h <;> clear a1 a2 a3
    · go_enter Tryz.func137, Tryz.ntmps137
      go_wp2
      go_ret
      exact ⟨dret_u64 E.out, rfl⟩
    · go_enter Tryz.func137, Tryz.ntmps137
      go_wp2
      go_ret
      exact ⟨dret_u64 E.out, rfl⟩
    · go_enter Tryz.func137, Tryz.ntmps137
      go_wp2
      go_ret
      exact ⟨dret_u64 E.out, rfl⟩
    · go_enter Tryz.func137, Tryz.ntmps137
      go_wp2
      go_ret
      exact ⟨dret_u64 E.out, rfl⟩

/-- What wrong tells. -/
inductive WrongIs (xs : List Int) (B : Int) : Int → Prop
  | none : (∀ i, i < xs.length → wv (xs.getD i 0) < B) → WrongIs xs B (-1)
  | here (t : Nat) : t < xs.length → (∀ i, i < t → wv (xs.getD i 0) < B) → B ≤ wv (xs.getD t 0) → WrongIs xs B (t : Int)

set_option maxRecDepth 100000 in
set_option maxHeartbeats 1000000 in
theorem wrong_any (s : ByteArray) (xs : List Int) (n : Nat) (B : Int) (w : World) (hs : Str s xs) (hn : xs.length = n) (hn1 : n ≤ 140737488355328) :
    Calls Tryz.prog 109 #[.string s, .int .u64 B] w fun e w' => (∃ r, e = .returned (.int .i64 r) ∧ WrongIs xs B r) ∧ w' = w := by
  have hsz : s.size = n := by rw [hs.size, hn]
  have HS := hid hs
  have HN := hid hn
  clear hs hn
  go_enter Tryz.func109, Tryz.ntmps109
  go_wp2_with fail
  go_loop [5, 8] (fun _ c => ∃ j : Nat, c = .int .i64 (j : Int) ∧ j ≤ n ∧ Hid (∀ i, i < j → wv (xs.getD i 0) < B)) (fun _ c => n - (intOf c).toNat)
  case atStart => exact ⟨0, rfl, Nat.zero_le _, fun i hi => by omega⟩
  case round =>
    obtain ⟨j, rfl, hj, I⟩ := hrel
    by_cases hlt : j < n
    · have hji : (j : Int) < (n : Int) := by omega
      obtain ⟨x, X⟩ : ∃ x, Hid (xs.getD j 0 = x) := ⟨_, rfl⟩
      have hx : ∀ h : j < s.size, ((s[j]'h).toNat : Int) = x := fun h => by rw [HS.out.at j h, X.out]
      have hxb := HS.out.atb j
      rw [X.out] at hxb
      obtain ⟨hx0, hx1⟩ := hxb
      obtain ⟨v, V⟩ : ∃ v, Hid (wv x = v) := ⟨_, rfl⟩
      have WO := hid (worth_any x w hx0 hx1)
      rw [V.out] at WO
      have hv0 : 0 ≤ v := by have := (wv_bd x).1; have := V.out; omega
      have hv1 : v ≤ 36 := by have := (wv_bd x).2; have := V.out; omega
      by_cases hd : v < B
      · go_wp2_with fail
        refine WO.out.mono ?_
        rintro e w' ⟨rfl, rfl⟩
        have I2 : Hid (∀ i, i < j + 1 → wv (xs.getD i 0) < B) := fun i hi => by
          by_cases e : i = j
          · subst e; rw [X.out, V.out]; exact hd
          · exact I.out i (by omega)
        clear I WO
        go_wp2_with fail
        go_round
        case rel => exact ⟨j + 1, by go_num, by omega, I2.out⟩
        case measure => simp [intOf]; omega
      · have F : Hid (WrongIs xs B (j : Int)) := .here j (by have := HN.out; omega) I.out (by rw [X.out, V.out]; omega)
        clear I
        go_wp2_with fail
        refine WO.out.mono ?_
        rintro e w' ⟨rfl, rfl⟩
        clear WO
        go_wp2_with fail
        go_ret
        exact ⟨⟨_, rfl, F.out⟩, rfl⟩
    · obtain rfl : j = n := by omega
      have F : Hid (WrongIs xs B (-1)) := .none (fun i hi => I.out i (by have := HN.out; omega))
      clear I
      go_wp2_with fail
      go_ret
      exact ⟨⟨_, rfl, F.out⟩, rfl⟩
end Go.Proofs.YtaoaniigbooihaaGreatDoor

namespace Go.Proofs.YtaoaniigbooihaaGreatDoor
open Go.RowKit Go.Deep

/-- The number of a row of decimal digits. -/
def dv (ds : List Int) : Int := Dn.tv 10 0 (ds.map (fun d => d - 48))
def Digs (ds : List Int) : Prop := ∀ d ∈ ds, 48 ≤ d ∧ d ≤ 57

theorem dv_append (xs ys : List Int) : dv (xs ++ ys) = dv xs * 10 ^ ys.length + dv ys := by
  unfold dv
  rw [List.map_append, Dn.tv_append, Dn.tv_acc, List.length_map]

theorem dv_cons (x : Int) (ys : List Int) : dv (x :: ys) = (x - 48) * 10 ^ ys.length + dv ys := by
  have := dv_append [x] ys
  simpa [dv, Dn.tv] using this

theorem dv_zeros : ∀ k, dv (List.replicate k 48) = 0
  | 0 => rfl
  | k + 1 => by
    rw [List.replicate_succ, dv_cons, dv_zeros k]
    simp

theorem dv_nines : ∀ k, dv (List.replicate k 57) = 10 ^ k - 1
  | 0 => rfl
  | k + 1 => by
    rw [List.replicate_succ, dv_cons, dv_nines k, List.length_replicate, Int.pow_succ]
    omega

theorem dv_bd {ds : List Int} (h : Digs ds) : 0 ≤ dv ds ∧ dv ds < 10 ^ ds.length := by
  have hm : ∀ d ∈ ds.map (fun d => d - 48), 0 ≤ d ∧ d < 10 := fun d hd => by
    obtain ⟨e, he, rfl⟩ := List.mem_map.1 hd
    have := h e he
    omega
  have h2 := Dn.tv_lt (show (0 : Int) < 10 by omega) _ hm
  rw [List.length_map] at h2
  exact ⟨Dn.tv_nonneg (by omega) 0 _ (Int.le_refl _) (fun d hd => (hm d hd).1), h2⟩

theorem wv_dig {x : Int} (h : 48 ≤ x ∧ x ≤ 57) : wv x = x - 48 := by rw [wv, if_pos h]

theorem digs_at {xs : List Int} (h : Digs xs) (i : Nat) (hi : i < xs.length) : 48 ≤ xs.getD i 0 ∧ xs.getD i 0 ≤ 57 := by
  have e : xs.getD i 0 = xs[i] := by simp [List.getD, hi]
  rw [e]
  exact h _ (List.getElem_mem hi)
end Go.Proofs.YtaoaniigbooihaaGreatDoor

namespace Go.Proofs.YtaoaniigbooihaaGreatDoor
open Go.RowKit Go.Deep
namespace Fx

/-- n digits of v. -/
def tx (n : Nat) (v : Int) : List Int := (Dn.dg 10 n v).map (fun d => d + 48)

theorem tx_len (n : Nat) (v : Int) : (tx n v).length = n := by simp [tx, Dn.dg_length]
theorem tx_digs (n : Nat) (v : Int) : Digs (tx n v) := by
  intro d hd
  obtain ⟨e, he, rfl⟩ := List.mem_map.1 hd
  have := Dn.dg_mem (B := 10) (by omega) n v e he
  omega
theorem tx_dv {n : Nat} {v : Int} (h0 : 0 ≤ v) (h1 : v < 10 ^ n) : dv (tx n v) = v := by
  unfold dv tx
  rw [List.map_map, show ((fun d : Int => d - 48) ∘ fun d => d + 48) = id from funext fun d => by simp, List.map_id]
  exact Dn.tv_dg (by omega) n v h0 h1
theorem eq_tx {ds : List Int} (h : Digs ds) : ds = tx ds.length (dv ds) := by
  have := Dn.dg_tv (B := 10) (by omega) ds.length (ds.map (fun d => d - 48)) (by simp) (fun d hd => by
    obtain ⟨e, he, rfl⟩ := List.mem_map.1 hd
    have := h e he
    omega)
  unfold tx dv
  rw [this, List.map_map, show ((fun d : Int => d + 48) ∘ fun d => d - 48) = id from funext fun d => by simp, List.map_id]
theorem digs_inj {a b : List Int} (ha : Digs a) (hb : Digs b) (hl : a.length = b.length) (hv : dv a = dv b) : a = b := by
  rw [eq_tx ha, eq_tx hb, hl, hv]

theorem p_pos (k : Nat) : (0 : Int) < 10 ^ k := Int.pow_pos (by omega)
theorem p_le {a b : Nat} (h : a ≤ b) : (10 : Int) ^ a ≤ 10 ^ b := by
  obtain ⟨c, rfl⟩ := Nat.exists_eq_add_of_le h
  rw [Int.pow_add]
  have h1 := p_pos a
  have h2 : (1 : Int) ≤ 10 ^ c := p_pos c
  have := Int.mul_le_mul_of_nonneg_left h2 (Int.le_of_lt h1)
  omega
theorem p_lt {a b : Nat} (h : (10 : Int) ^ a < 10 ^ b) : a < b := by
  rcases Nat.lt_or_ge a b with c | c
  · exact c
  · have := p_le c
    omega

theorem take_last {xs : List Int} {n : Nat} (hn : xs.length = n + 1) : xs = xs.take n ++ [xs.getD n 0] := by
  have h := List.take_append_drop n xs
  rw [List.drop_eq_getElem_cons (by omega), List.drop_of_length_le (by omega)] at h
  simpa [List.getD, show n < xs.length by omega] using h.symm
theorem dv_snoc (xs : List Int) (x : Int) : dv (xs ++ [x]) = dv xs * 10 + (x - 48) := by
  rw [dv_append, dv_cons]
  simp [dv, Dn.tv]
theorem digs_getD {xs : List Int} (h : Digs xs) {i : Nat} (hi : i < xs.length) : 48 ≤ xs.getD i 0 ∧ xs.getD i 0 ≤ 57 := digs_at h i hi
theorem dv_mod {xs : List Int} {n : Nat} (h : Digs xs) (hn : xs.length = n + 1) : dv xs % 10 = xs.getD n 0 - 48 := by
  have b := digs_getD h (show n < xs.length by omega)
  generalize hx : xs.getD n 0 = x at *
  have e := take_last hn
  rw [hx] at e
  rw [e, dv_snoc]
  omega
theorem head_low {xs : List Int} {n : Nat} (h : Digs xs) (hn : xs.length = n + 1) (hh : xs.getD 0 0 ≠ 48) : 10 ^ n ≤ dv xs := by
  match xs, hn with
  | x :: ys, hn =>
    have hl : ys.length = n := by simpa using hn
    have b := dv_bd (ds := ys) (fun d hd => h d (by simp [hd]))
    have hx := h x (by simp)
    have hx1 : 49 ≤ x := by simp at hh; omega
    rw [dv_cons, hl]
    have := Int.mul_le_mul_of_nonneg_right (show (1 : Int) ≤ x - 48 by omega) (Int.le_of_lt (p_pos n))
    omega

theorem len_eq {xs ys : List Int} (hx : Digs xs) (hy : Digs ys) (nx : xs ≠ []) (ny : ys ≠ []) (h1 : xs.getD 0 0 ≠ 48) (h2 : ys.getD 0 0 ≠ 48) (hv : dv xs = dv ys) : xs.length = ys.length := by
  obtain ⟨a, ha⟩ : ∃ a, xs.length = a + 1 := ⟨xs.length - 1, by have := List.length_pos_iff.2 nx; omega⟩
  obtain ⟨b, hb⟩ : ∃ b, ys.length = b + 1 := ⟨ys.length - 1, by have := List.length_pos_iff.2 ny; omega⟩
  have l1 := head_low hx ha h1
  have l2 := head_low hy hb h2
  have u1 := (dv_bd hx).2
  have u2 := (dv_bd hy).2
  have := p_lt (a := a) (b := ys.length) (by omega)
  have := p_lt (a := b) (b := xs.length) (by omega)
  omega

/-- A row of digits with none but needed ones. -/
structure Nml (xs : List Int) : Prop where
  digs : Digs xs
  ne : xs ≠ []
  head : xs.getD 0 0 ≠ 48
  last : xs.getD (xs.length - 1) 0 ≠ 48

theorem Nml.len {xs : List Int} (h : Nml xs) : ∃ n, xs.length = n + 1 := ⟨xs.length - 1, by have := List.length_pos_iff.2 h.ne; omega⟩
theorem Nml.mod {xs : List Int} (h : Nml xs) : dv xs % 10 ≠ 0 := by
  obtain ⟨n, hn⟩ := h.len
  have e := dv_mod h.digs hn
  have l := h.last
  rw [hn, Nat.add_sub_cancel] at l
  omega

theorem nml_le {xs ys : List Int} {a b : Nat} (hx : Nml xs) (_hy : Nml ys) (h : dv xs * 10 ^ a = dv ys * 10 ^ b) : b ≤ a := by
  rcases Nat.lt_or_ge a b with c | c
  · exfalso
    obtain ⟨d, rfl⟩ := Nat.exists_eq_add_of_lt c
    rw [show a + d + 1 = (d + 1) + a by omega, Int.pow_add, ← Int.mul_assoc] at h
    have e := Int.eq_of_mul_eq_mul_right (by have := p_pos a; omega) h
    rw [Int.pow_succ, ← Int.mul_assoc] at e
    have := hx.mod
    omega
  · exact c
theorem nml_one {xs ys : List Int} {a b : Nat} (hx : Nml xs) (hy : Nml ys) (h : dv xs * 10 ^ a = dv ys * 10 ^ b) : xs = ys ∧ a = b := by
  have e : a = b := Nat.le_antisymm (nml_le hy hx h.symm) (nml_le hx hy h)
  subst e
  have v := Int.eq_of_mul_eq_mul_right (by have := p_pos a; omega) h
  exact ⟨digs_inj hx.digs hy.digs (len_eq hx.digs hy.digs hx.ne hy.ne hx.head hy.head v) v, rfl⟩

/-- The zeros at the end taken off. -/
theorem nml_take {ys : List Int} {k : Nat} (hd : Digs ys) (hh : ys.getD 0 0 ≠ 48) (hk : k ≤ ys.length) (h0 : ∀ i, k ≤ i → i < ys.length → ys.getD i 0 = 48) (hl : 0 < k → ys.getD (k - 1) 0 ≠ 48) (hv : 0 < dv ys) : 0 < k ∧ Nml (ys.take k) ∧ dv (ys.take k) * 10 ^ (ys.length - k) = dv ys := by
  have e : ys.drop k = List.replicate (ys.length - k) 48 := by
    apply List.ext_getElem
    · simp
    · intro i h1 h2
      have h3 := h0 (k + i) (by omega) (by simp at h1; omega)
      simp at h1
      simpa [List.getD, show k + i < ys.length by omega] using h3
  have v : dv (ys.take k) * 10 ^ (ys.length - k) = dv ys := by
    conv => rhs; rw [← List.take_append_drop k ys, dv_append, e, dv_zeros]
    simp
  have kp : 0 < k := by
    rcases Nat.eq_zero_or_pos k with c | c
    · subst c
      rw [List.take_zero, show dv [] = 0 from rfl, Int.zero_mul] at v
      omega
    · exact c
  refine ⟨kp, ⟨fun d h => hd d (List.mem_of_mem_take h), ?_, ?_, ?_⟩, v⟩
  · intro c
    have e1 : (ys.take k).length = k := by rw [List.length_take]; omega
    rw [c, List.length_nil] at e1
    omega
  · simpa [List.getD, kp] using hh
  · have := hl kp
    have hm : min k ys.length = k := by omega
    rw [List.length_take, hm]
    simpa [List.getD, show k - 1 < k by omega] using this

theorem log_ex : ∀ (n : Nat), 0 < n → ∃ L : Nat, 10 ^ L ≤ n ∧ n < 10 ^ (L + 1) := by
  intro n
  induction n using Nat.strongRecOn with
  | _ n ih =>
    intro h
    rcases Nat.lt_or_ge n 10 with c | c
    · exact ⟨0, by simp; omega, by simp; omega⟩
    · obtain ⟨L, l1, l2⟩ := ih (n / 10) (by omega) (by omega)
      refine ⟨L + 1, ?_, ?_⟩
      · rw [Nat.pow_succ]; omega
      · rw [Nat.pow_succ]; omega

theorem nml_ex : ∀ (n : Nat), 0 < n → ∃ xs a, Nml xs ∧ dv xs * 10 ^ a = (n : Int) := by
  intro n
  induction n using Nat.strongRecOn with
  | _ n ih =>
    intro h
    rcases Nat.eq_zero_or_pos (n % 10) with c | c
    · obtain ⟨xs, a, h1, h2⟩ := ih (n / 10) (by omega) (by omega)
      refine ⟨xs, a + 1, h1, ?_⟩
      rw [Int.pow_succ, ← Int.mul_assoc, h2]
      omega
    · obtain ⟨L, l1, l2⟩ := log_ex n h
      have l1' : (10 : Int) ^ L ≤ (n : Int) := by have := Int.ofNat_le.2 l1; simpa using this
      have l2' : (n : Int) < (10 : Int) ^ (L + 1) := by have := Int.ofNat_lt.2 l2; simpa using this
      have hd := tx_digs (L + 1) (n : Int)
      have hl := tx_len (L + 1) (n : Int)
      have hv := tx_dv (n := L + 1) (v := (n : Int)) (by omega) l2'
      refine ⟨tx (L + 1) n, 0, ⟨hd, fun e => by rw [e] at hl; simp at hl, ?_, ?_⟩, by rw [hv]; simp⟩
      · match htx : tx (L + 1) (n : Int), hl with
        | x :: ys, hl =>
          rw [htx] at hv hd
          intro e
          simp at e
          have b := (dv_bd (ds := ys) (fun d h => hd d (by simp [h]))).2
          rw [dv_cons, e] at hv
          have : ys.length = L := by simpa using hl
          rw [this] at b
          omega
      · have := dv_mod hd hl
        rw [hl, Nat.add_sub_cancel]
        omega

def F5 : Int := 5 ^ 1074
theorem F5_pos : 0 < F5 := by unfold F5; exact Int.pow_pos (by omega)
theorem five_low : (10 : Nat) ^ 750 ≤ 5 ^ 1074 := by decide +kernel
theorem five_high : (2 : Nat) ^ 2098 * 5 ^ 1074 < 2 * 10 ^ 1382 := by decide +kernel
theorem F5_low : (10 : Int) ^ 750 ≤ F5 := by
  have := Int.ofNat_le.2 five_low
  unfold F5
  generalize 750 = a, 1074 = b at this ⊢
  rw [Int.natCast_pow, Int.natCast_pow] at this
  exact this
theorem F5_high : (2 : Int) ^ 2098 * F5 < 2 * 10 ^ 1382 := by
  have := Int.ofNat_lt.2 five_high
  unfold F5
  generalize 2098 = a, 1074 = b, 1382 = c at this ⊢
  rw [Int.natCast_mul, Int.natCast_mul, Int.natCast_pow, Int.natCast_pow, Int.natCast_pow] at this
  exact this

/-- xs and E: the exact digits of m * 2^e. -/
structure Ex (m e : Int) (xs : List Int) (E : Int) : Prop where
  lo : -1074 ≤ E
  zero : m = 0 → xs = [48] ∧ E = 0
  nml : 0 < m → Nml xs
  eq : 0 < m → dv xs * 10 ^ (E + 1074).toNat = m * 2 ^ (e + 1074).toNat * F5

theorem Ex.digs {m e : Int} {xs : List Int} {E : Int} (hm : 0 ≤ m) (h : Ex m e xs E) : Digs xs ∧ xs ≠ [] := by
  rcases (show m = 0 ∨ 0 < m by omega) with c | c
  · rw [(h.zero c).1]
    exact ⟨fun d hd => by simp at hd; omega, by simp⟩
  · exact ⟨(h.nml c).digs, (h.nml c).ne⟩

theorem Ex.one {m e : Int} {xs ys : List Int} {E F : Int} (hm : 0 ≤ m) (h : Ex m e xs E) (k : Ex m e ys F) : xs = ys ∧ E = F := by
  rcases (show m = 0 ∨ 0 < m by omega) with c | c
  · exact ⟨by rw [(h.zero c).1, (k.zero c).1], by rw [(h.zero c).2, (k.zero c).2]⟩
  · obtain ⟨e1, e2⟩ := nml_one (h.nml c) (k.nml c) (by rw [h.eq c, k.eq c])
    exact ⟨e1, by have := h.lo; have := k.lo; omega⟩

theorem ex_ex (m e : Int) (hm : 0 ≤ m) : ∃ xs E, Ex m e xs E := by
  rcases (show m = 0 ∨ 0 < m by omega) with c | c
  · exact ⟨[48], 0, by omega, fun _ => ⟨rfl, rfl⟩, fun h => by omega, fun h => by omega⟩
  · have hN : 0 < m * 2 ^ (e + 1074).toNat * F5 := Int.mul_pos (Int.mul_pos c (Int.pow_pos (by omega))) F5_pos
    obtain ⟨xs, a, h1, h2⟩ := nml_ex (m * 2 ^ (e + 1074).toNat * F5).toNat (by omega)
    refine ⟨xs, (a : Int) - 1074, by omega, fun h => by omega, fun _ => h1, fun _ => ?_⟩
    rw [show ((a : Int) - 1074 + 1074).toNat = a by omega, h2]
    omega

/-- Where the digits lie. -/
theorem Ex.room {m e : Int} {xs : List Int} {E : Int} (hm : 0 < m) (hm1 : m < 9007199254740992) (he : e ≤ 971) (h : Ex m e xs E) :
    -323 ≤ xs.length + E ∧ xs.length + E ≤ 309 ∧ ((xs.length : Int) + E = 309 → dv xs < 2 * 10 ^ (xs.length - 1)) := by
  obtain ⟨a, ha⟩ : ∃ a : Nat, (E + 1074).toNat = a := ⟨_, rfl⟩
  obtain ⟨k, hk⟩ : ∃ k : Nat, (e + 1074).toNat = k := ⟨_, rfl⟩
  have hk1 : k ≤ 2045 := by omega
  have q := h.eq hm
  rw [ha, hk] at q
  have p2 : (0 : Int) < 2 ^ k := Int.pow_pos (by omega)
  have f0 := F5_pos
  have low : (10 : Int) ^ 750 ≤ m * 2 ^ k * F5 := by
    have h1 : (1 : Int) ≤ m * 2 ^ k := Int.mul_pos hm p2
    have := Int.mul_le_mul_of_nonneg_right h1 (Int.le_of_lt f0)
    have := F5_low
    omega
  have high : m * 2 ^ k * F5 < 2 * 10 ^ 1382 := by
    have h1 : m * 2 ^ k ≤ 2 ^ 2098 := by
      have e1 : (2 : Int) ^ 2098 = 2 ^ 53 * (2 ^ (2045 - k) * 2 ^ k) := by rw [← Int.pow_add, ← Int.pow_add]; congr 1; omega
      rw [e1, ← Int.mul_assoc]
      refine Int.mul_le_mul_of_nonneg_right ?_ (Int.le_of_lt p2)
      have h3 : (1 : Int) ≤ 2 ^ (2045 - k) := Int.pow_pos (by omega)
      have h4 : (2 : Int) ^ 53 = 9007199254740992 := by decide
      rw [h4]
      generalize (2 : Int) ^ (2045 - k) = z at h3
      omega
    have := Int.mul_le_mul_of_nonneg_right h1 (Int.le_of_lt f0)
    have := F5_high
    omega
  obtain ⟨n, hn⟩ := (h.nml hm).len
  have b1 := head_low (h.nml hm).digs hn (h.nml hm).head
  have b2 := (dv_bd (h.nml hm).digs).2
  rw [← q] at low high
  have pa := p_pos a
  have c1 : (10 : Int) ^ (n + a) ≤ dv xs * 10 ^ a := by rw [Int.pow_add]; exact Int.mul_le_mul_of_nonneg_right b1 (Int.le_of_lt pa)
  have c2 : dv xs * 10 ^ a < 10 ^ (xs.length + a) := by rw [Int.pow_add]; exact Int.mul_lt_mul_of_pos_right b2 pa
  have d1 : n + a < 1383 := p_lt (by
    have : (10 : Int) ^ 1383 = 10 ^ 1382 * 10 := Int.pow_succ ..
    rw [this]
    have := p_pos 1382
    generalize (10 : Int) ^ 1382 = z at *
    omega)
  have d2 : 750 < xs.length + a := p_lt (by
    generalize (10 : Int) ^ 750 = z at *
    omega)
  have lo := h.lo
  refine ⟨by omega, by omega, fun c => ?_⟩
  have e1 : 1382 = n + a := by omega
  rw [e1, Int.pow_add, ← Int.mul_assoc] at high
  rw [hn, Nat.add_sub_cancel]
  exact Int.lt_of_mul_lt_mul_right high (Int.le_of_lt pa)

/-- The exact digits of m * 2^e, and their power of ten. -/
noncomputable def xd (m e : Int) : List Int := open Classical in if h : ∃ p : List Int × Int, Ex m e p.1 p.2 then (Classical.choose h).1 else []
noncomputable def ed (m e : Int) : Int := open Classical in if h : ∃ p : List Int × Int, Ex m e p.1 p.2 then (Classical.choose h).2 else 0
theorem ex_is {m e : Int} (hm : 0 ≤ m) : Ex m e (xd m e) (ed m e) := by
  obtain ⟨xs, E, h⟩ := ex_ex m e hm
  have k : ∃ p : List Int × Int, Ex m e p.1 p.2 := ⟨(xs, E), h⟩
  unfold xd ed
  rw [dif_pos k, dif_pos k]
  exact Classical.choose_spec k
theorem Ex.is {m e : Int} {xs : List Int} {E : Int} (hm : 0 ≤ m) (h : Ex m e xs E) : xs = xd m e ∧ E = ed m e := h.one hm (ex_is hm)

/-- What the digits of a whole number make. -/
theorem ex_of {m e : Int} {ys : List Int} {k : Nat} {F : Int} (hm : 0 < m) (hd : Digs ys) (hh : ys.getD 0 0 ≠ 48) (hk : k ≤ ys.length) (h0 : ∀ i, k ≤ i → i < ys.length → ys.getD i 0 = 48) (hl : 0 < k → ys.getD (k - 1) 0 ≠ 48)
    (hF : -1074 ≤ F) (hv : dv ys * 10 ^ (F + 1074).toNat = m * 2 ^ (e + 1074).toNat * F5) : Ex m e (ys.take k) (F + (ys.length - k)) ∧ 0 < k := by
  have vp : 0 < dv ys := by
    have hN : 0 < m * 2 ^ (e + 1074).toNat * F5 := Int.mul_pos (Int.mul_pos hm (Int.pow_pos (by omega))) F5_pos
    rw [← hv] at hN
    have := (dv_bd hd).1
    rcases (show dv ys = 0 ∨ 0 < dv ys by omega) with c | c
    · rw [c, Int.zero_mul] at hN; omega
    · exact c
  obtain ⟨kp, n, v⟩ := nml_take hd hh hk h0 hl vp
  refine ⟨⟨by omega, fun c => by omega, fun _ => n, fun _ => ?_⟩, kp⟩
  rw [← hv, ← v, show (F + ((ys.length : Int) - (k : Int)) + 1074).toNat = (ys.length - k) + (F + 1074).toNat by omega, Int.pow_add, Int.mul_assoc]
end Fx
end Go.Proofs.YtaoaniigbooihaaGreatDoor

namespace Go.Proofs.YtaoaniigbooihaaGreatDoor
open Go.RowKit Go.Deep

theorem fblen_trim (zs : List Int) : blen (Nm.trim zs) = blen zs := by
  unfold blen
  rw [Nm.trim_trim]
  by_cases h : Nm.tsize zs = 0
  · rw [if_pos h, if_pos h]
  · rw [if_neg h, if_neg h]
    have e : (Nm.trim zs).getD (Nm.tsize zs - 1) 0 = zs.getD (Nm.tsize zs - 1) 0 := by rw [Nm.trim, Nm.getD_take, if_pos (by omega)]
    rw [e]

theorem fpw_4096 : Nm.pw 4096 = 2 ^ 262144 := Nm.pw_two 4096

theorem ftwo_lt {a b : Nat} (h : (2 : Int) ^ a < 2 ^ b) : a < b := by
  rcases Nat.lt_or_ge a b with h1 | h1
  · exact h1
  · have := Nm.two_mono h1
    omega

/-- So many digits as the number times 2^k. -/
theorem FBLen.up {v : Int} {L : Nat} (k : Nat) (h : Nm.BLen v L) (hv : 0 < v) : Nm.BLen (v * 2 ^ k) (L + k) := by
  have hp := Nm.two_pos k
  have h1 := h.2.2 hv
  refine ⟨?_, fun h0 => ?_, fun _ => ⟨by omega, ?_⟩⟩
  · rw [Nm.two_add]
    exact Int.mul_lt_mul_of_pos_right h.1 hp
  · rcases Int.mul_eq_zero.1 h0 with h2 | h2 <;> omega
  · rw [show L + k - 1 = L - 1 + k by omega, Nm.two_add]
    exact Int.mul_le_mul_of_nonneg_right h1.2 (by omega)

theorem ftsize_pos {zs : List Int} (hz : Nm.Limbs zs) (hv : 0 < Nm.val zs) : 0 < Nm.tsize zs := by
  rcases Nat.eq_zero_or_pos (Nm.tsize zs) with h | h
  · have := (Nm.tsize_zero_iff hz).1 h
    omega
  · exact h

theorem fshl_any (p : Option Addr) (n cap : Nat) (zs : List Int) (kk : Int) (k : Nat) (w : World) (ha : Arg w p n cap zs) (tz : Nm.tsize zs ≤ 4096) (hkk : kk = (k : Int)) (hb : Nm.val zs * 2 ^ k < Nm.pw 4096) :
    Calls Tryz.prog 75 #[.slice p n cap, .int .i64 kk] w fun e w' => ∃ r os, e = .returned (.tuple #[.slice r (List.length os) (List.length os), .int .i64 0]) ∧ Ans w.heap.size w' r os (Nm.val zs * 2 ^ k) ∧ Below w.heap.size w w' := by
  have hv0 := (Nm.val_bd zs ha.2.2.2.2).1
  by_cases hz : Nm.tsize zs = 0
  · have hv := (Nm.tsize_zero_iff ha.2.2.2.2).1 hz
    refine (shl_zero p n cap zs kk w ha (by omega) hz).mono ?_
    rintro e w' ⟨rfl, rfl⟩
    exact ⟨none, [], rfl, ⟨Lies.nil _ _, Nm.Limbs.nil, rfl, by rw [hv, Int.zero_mul]; rfl, fun a h => by cases h⟩, Below.refl _ _⟩
  · obtain ⟨L, hL, BL, _, _⟩ := blen_is zs ha.2.2.2.2
    rw [← fblen_trim] at hL
    have hv : 0 < Nm.val zs := by
      rcases (show Nm.val zs = 0 ∨ 0 < Nm.val zs by omega) with h | h
      · exact absurd ((Nm.tsize_zero_iff ha.2.2.2.2).2 h) hz
      · exact h
    have hu := (FBLen.up k BL hv).2.2 (Int.mul_pos hv (Nm.two_pos k))
    rw [fpw_4096] at hb
    have hlt := ftwo_lt (show (2 : Int) ^ (L + k - 1) < 2 ^ 262144 by omega)
    exact shl_ok p n cap zs kk k L w ha tz hkk (by omega) hL (by omega)

end Go.Proofs.YtaoaniigbooihaaGreatDoor

namespace Go.Proofs.YtaoaniigbooihaaGreatDoor
open Go.RowKit Go.Deep

/-- What ToUint answers: the limb, and whether it is one. -/
def toU (zs : List Int) : Int := if Nm.tsize zs = 1 then zs.getD 0 0 else 0

theorem ret_to {a b : Int} {c d : Bool} (h : a = b) (k : c = d) : Ending.returned (.tuple #[.int .u64 a, .bool c]) = .returned (.tuple #[.int .u64 b, .bool d]) := by rw [h, k]

theorem toUint_any (p : Option Addr) (n cap : Nat) (zs : List Int) (w : World) (ha : Arg w p n cap zs) :
    Calls Tryz.prog 184 #[.slice p n cap] w fun e w' => e = .returned (.tuple #[.int .u64 (toU zs), .bool (decide (Nm.tsize zs ≤ 1))]) ∧ w' = w := by
  obtain ⟨a1, a2, a3, a4, a5⟩ := ha
  have tl := Nm.tsize_le zs
  have S1 := trimmed_any p n cap zs w a1 a2 (by omega) a4
  rcases (show Nm.tsize zs = 0 ∨ Nm.tsize zs = 1 ∨ 1 < Nm.tsize zs by omega) with h | h | h
  · have E : Hid (0 = toU zs ∧ true = decide (Nm.tsize zs ≤ 1)) := by simp [Hid, toU, h]
    rw [h] at S1
    have HS := hid S1
    clear S1 h
    go_enter Tryz.func184, Tryz.ntmps184
    go_wp2_with fail
    refine HS.out.mono ?_
    rintro e w' ⟨rfl, rfl⟩
    go_wp2
    go_ret2
    exact ⟨ret_to E.out.1 E.out.2, rfl⟩
  · have E : Hid (zs.getD 0 0 = toU zs ∧ true = decide (Nm.tsize zs ≤ 1)) := by simp [Hid, toU, h]
    obtain ⟨b, off, rfl, hbw, HC⟩ := a4.at (by omega)
    have hc := HC.out 0 (by omega)
    rw [Nat.add_zero] at hc
    rw [h] at S1
    have HS := hid S1
    clear S1 h
    go_enter Tryz.func184, Tryz.ntmps184
    go_wp2_with fail
    refine HS.out.mono ?_
    rintro e w' ⟨rfl, rfl⟩
    go_wp2
    go_ret2
    exact ⟨ret_to E.out.1 E.out.2, rfl⟩
  · have E : Hid (0 = toU zs ∧ false = decide (Nm.tsize zs ≤ 1)) := by
      refine ⟨?_, ?_⟩
      · rw [toU, if_neg (by omega)]
      · simp; omega
    have h1 : ((Nm.tsize zs : Int) == 0) = false := by rw [beq_eq_false_iff_ne]; omega
    have h2 : ((Nm.tsize zs : Int) == 1) = false := by rw [beq_eq_false_iff_ne]; omega
    have HS := hid S1
    clear S1 h
    go_enter Tryz.func184, Tryz.ntmps184
    go_wp2_with fail
    refine HS.out.mono ?_
    rintro e w' ⟨rfl, rfl⟩
    go_wp2
    go_ret2
    exact ⟨ret_to E.out.1 E.out.2, rfl⟩

theorem toU_val {zs : List Int} (hl : Nm.Limbs zs) (hv : Nm.val zs < 18446744073709551616) : toU zs = Nm.val zs := by
  have h1 : Nm.tsize zs ≤ 1 := (Nm.tsize_le_iff hl 1).2 (by simpa [Nm.pw] using hv)
  by_cases h : Nm.tsize zs = 1
  · rw [toU, if_pos h, ← Nm.val_trim zs, Nm.trim, h]
    cases zs with
    | nil => simp [Nm.val]
    | cons z zs => simp [Nm.val]
  · have h0 : Nm.tsize zs = 0 := by omega
    rw [toU, if_neg h, ← Nm.val_trim zs, Nm.trim, h0]
    simp [Nm.val]
end Go.Proofs.YtaoaniigbooihaaGreatDoor
