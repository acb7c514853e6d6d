/-
  Texts put together: Walk2, Walk3, Sub, XPlus.
-/
import Derived.Test.YtpeecbidojjfpaaDoorWalk2a
import Derived.Test.YtpeecbidojjfpaaDoorRB
import Derived.Test.YtpeecbidojjfpaaDoorRE
import Derived.Test.YtpeecbidojjfpaaDoorXNum
import Derived.Test.YtpeecbidojjfpaaDoorIShiftA
namespace Go.Proofs.YtpeecbidojjfpaaDoor
open Go.RowKit Go.Deep

set_option maxHeartbeats 1000000 in
theorem addTo_any (g k : Nat) (zs : List Int) (q : Option Addr) (m cap : Nat) (ys : List Int) (w : World) (hk : zs.length = k) (hkm : k ≤ 35184372088832) (ho : Own w g zs) (hl : Nm.Limbs zs)
    (hm : ys.length = m) (hmk : m ≤ k) (hy : Lies w q ys) (hly : Nm.Limbs ys) (hq : 0 < ys.length → ∀ a, q = some a → a.block < g) (hT : Nm.val zs + Nm.val ys < Nm.pw k) :
    Calls Tryd.prog 107 #[.slice (some ⟨g, 0, none⟩) k k, .slice q m cap] w fun e w' => e = .returned (.tuple #[]) ∧ Wrote g k (Nm.val zs + Nm.val ys) w w' := by
  rcases hy with rfl | ⟨b, off, rfl, hcell⟩
  · have hm0 : m = 0 := by simpa using hm.symm
    subst hm0
    have E : Wrote g k (Nm.val zs + Nm.val []) w w := ⟨zs, ho, hk, hl, by simp [Nm.val], Below.refl _ _, rfl⟩
    clear ho hl hT hq hm hk
    go_enter Tryd.func107, Tryd.ntmps107
    go_wp2
    refine wp_loop_rounds 1 ?_
    rw [rounds_succ]
    go_wp2
    refine wp_loop_rounds 1 ?_
    rw [rounds_succ]
    go_wp2
    go_end0
    exact ⟨rfl, E⟩
  · have hbg : 0 < ys.length → b < g := fun h => hq h _ rfl
    have I0 : AddInv g k w (Nm.val zs + Nm.val (ys.take 0)) 0 0 zs w := ⟨ho, hk, hl, by simp [Nm.val], Below.refl _ _, rfl⟩
    have HC : Hid (∀ i, i < ys.length → w.cell? ⟨b, off + i, none⟩ = some (.int .u64 (ys.getD i 0))) := hcell
    have HM : Hid (ys.length = m) := hm
    have HT : Hid (Nm.val zs + Nm.val ys < Nm.pw k) := hT
    have HY : Hid (Nm.Limbs ys) := hly
    clear hcell hm hT hly hq ho hk hl
    go_enter Tryd.func107, Tryd.ntmps107
    go_wp2
    go_loopw [4, 10] (fun c i wr => ∃ (j : Nat) (cc : Int) (os : List Int), j ≤ m ∧ i = .int .i64 j ∧ c = .int .u64 cc ∧ 0 ≤ cc ∧ cc ≤ 1 ∧ AddInv g k w (Nm.val zs + Nm.val (ys.take j)) j cc os wr) (fun _ i _ => m - (intOf i).toNat)
    case atStart => exact ⟨0, 0, zs, Nat.zero_le _, rfl, rfl, by omega, by omega, I0⟩
    case round =>
      obtain ⟨j, cc, os, hj, rfl, rfl, hc0, hc1, I⟩ := hrel
      by_cases hlt : j < m
      · obtain ⟨x, hx, X⟩ : ∃ x, wr.cell? ⟨b, off + j, none⟩ = some (.int .u64 x) ∧ Hid (x = ys.getD j 0) :=
          ⟨_, (I.2.2.2.2.1.cell (p := ⟨b, off + j, none⟩) (hbg (by have := HM.out; omega))).trans (HC.out j (by have := HM.out; omega)), rfl⟩
        obtain ⟨y, hyc, Y⟩ : ∃ y, wr.cell? ⟨g, j, none⟩ = some (.int .u64 y) ∧ Hid (y = os.getD j 0) := ⟨_, I.1.cell j (by have := I.2.1; omega), rfl⟩
        have hfr := I.1.free j
        have hx0 : 0 ≤ x := by have := HY.out.at j; have := X.out; omega
        have hy0 : 0 ≤ y := by have := I.2.2.1.at j; have := Y.out; omega
        obtain ⟨s, S⟩ : ∃ s, Hid (s = (y + x + cc) % 18446744073709551616) := ⟨_, rfl⟩
        obtain ⟨c', C⟩ : ∃ c', Hid (c' = (y + x + cc) / 18446744073709551616) := ⟨_, rfl⟩
        have hc0' : 0 ≤ c' := by have := C.out; omega
        have hc1' : c' ≤ 1 := by have := C.out; have := I.2.2.1.at j; have := Y.out; have := HY.out.at j; have := X.out; omega
        have hjk : (j : Int) < (k : Int) := by omega
        go_wp2_with (simp only [add64' y x cc s c' hy0 hx0 hc0 hc1 S.out C.out])
        go_roundw
        case rel =>
          have hst := I.step (by omega) (x := x) (s := s) (c' := c') (by rw [← Y.out]; exact S.out) (by rw [← Y.out]; exact C.out)
          refine ⟨j + 1, c', os.set j s, by omega, by go_num, rfl, hc0', hc1', ?_⟩
          rw [Nm.val_take_succ ys j (by have := HM.out; omega), ← X.out]
          rw [← Int.add_assoc]
          exact hst
        case measure => simp [intOf]; omega
      · have hjm : j = m := by omega
        subst hjm
        have hT : Nm.val zs + Nm.val (ys.take j) = Nm.val zs + Nm.val ys := by rw [List.take_of_length_le (by have := HM.out; omega)]
        rw [hT] at I
        clear hT
        go_wp2
        go_loopw [4, 7] (fun c i wr => ∃ (t : Nat) (cc : Int) (os : List Int), t ≤ k ∧ i = .int .i64 t ∧ c = .int .u64 cc ∧ 0 ≤ cc ∧ cc ≤ 1 ∧ AddInv g k w (Nm.val zs + Nm.val ys) t cc os wr) (fun _ i _ => k - (intOf i).toNat)
        case atStart => exact ⟨j, cc, os, hmk, rfl, rfl, hc0, hc1, I⟩
        case round =>
          clear I hc0 hc1
          obtain ⟨t, cc, os, ht, rfl, rfl, hc0, hc1, I⟩ := hrel
          by_cases hz : cc = 0
          · subst hz
            have E : Wrote g k (Nm.val zs + Nm.val ys) w wr :=
              ⟨os, I.1, I.2.1, I.2.2.1, by have := I.2.2.2.1; omega, I.2.2.2.2.1, I.2.2.2.2.2⟩
            clear I
            go_wp2
            go_end0
            exact ⟨rfl, E⟩
          · have htk := I.end HT.out (by omega)
            have htk' : (t : Int) < (k : Int) := by omega
            obtain ⟨y, hyc, Y⟩ : ∃ y, wr.cell? ⟨g, t, none⟩ = some (.int .u64 y) ∧ Hid (y = os.getD t 0) := ⟨_, I.1.cell t (by have := I.2.1; omega), rfl⟩
            have hfr := I.1.free t
            have hy0 : 0 ≤ y := by have := I.2.2.1.at t; have := Y.out; omega
            obtain ⟨s, S⟩ : ∃ s, Hid (s = (y + 0 + cc) % 18446744073709551616) := ⟨_, rfl⟩
            obtain ⟨c', C⟩ : ∃ c', Hid (c' = (y + 0 + cc) / 18446744073709551616) := ⟨_, rfl⟩
            have hc0' : 0 ≤ c' := by have := C.out; omega
            have hc1' : c' ≤ 1 := by have := C.out; have := I.2.2.1.at t; have := Y.out; omega
            go_wp2_with (simp only [add64' y 0 cc s c' hy0 (Int.le_refl 0) hc0 hc1 S.out C.out])
            go_roundw
            case rel =>
              have hst := I.step (by omega) (x := 0) (s := s) (c' := c') (by rw [← Y.out]; exact S.out) (by rw [← Y.out]; exact C.out)
              rw [Int.mul_zero, Int.add_zero] at hst
              exact ⟨t + 1, c', os.set t s, by omega, by go_num, rfl, hc0', hc1', hst⟩
            case measure => simp [intOf]; omega
end Go.Proofs.YtpeecbidojjfpaaDoor

namespace Go.Proofs.YtpeecbidojjfpaaDoor
open Go.RowKit Go.Deep

/-- Room for a sum: one limb more than the longer of both. -/
theorem sum_room {zs ys : List Int} (hz : Nm.Limbs zs) (hy : Nm.Limbs ys) (h : Nm.tsize ys ≤ Nm.tsize zs) : Nm.val (Nm.trim zs ++ List.replicate 1 0) + Nm.val (Nm.trim ys) < Nm.pw (Nm.tsize zs + 1) ∧ Nm.val (Nm.trim zs ++ List.replicate 1 0) + Nm.val (Nm.trim ys) = Nm.val zs + Nm.val ys := by
  have h1 := Nm.val_lt_tsize hz
  have h2 := Nm.val_lt_tsize hy
  have h3 := Nm.pw_mono h
  have h4 := Nm.pw_pos (Nm.tsize zs)
  rw [Nm.val_append, Nm.val_replicate, Int.mul_zero, Int.add_zero, Nm.val_trim, Nm.val_trim, Nm.pw_succ]
  exact ⟨by omega, rfl⟩

set_option maxHeartbeats 1000000 in
theorem add_ok (p q : Option Addr) (n cap m cap' : Nat) (zs ys : List Int) (w : World) (ha : Arg w p n cap zs) (hb : Arg w q m cap' ys) (hs : Nm.val zs + Nm.val ys < Nm.pw 4096) :
    Calls Tryd.prog 102 #[.slice p n cap, .slice q m cap'] w fun e w' => ∃ r os, e = .returned (.tuple #[.slice r (List.length os) (List.length os), .int .i64 0]) ∧ Ans w.heap.size w' r os (Nm.val zs + Nm.val ys) ∧ Below w.heap.size w w' := by
  have z0 := (Nm.val_bd zs ha.2.2.2.2).1
  have y0 := (Nm.val_bd ys hb.2.2.2.2).1
  have tz := ha.small (by omega)
  have ty := hb.small (by omega)
  obtain ⟨a1, a2, a3, a4, a5⟩ := ha
  obtain ⟨b1, b2, b3, b4, b5⟩ := hb
  have HS : Hid (Nm.val zs + Nm.val ys < Nm.pw 4096) := hs
  clear hs z0 y0
  by_cases hlt : Nm.tsize zs < Nm.tsize ys
  · have hlt' : (Nm.tsize zs : Int) < (Nm.tsize ys : Int) := by omega
    have R := hid (sum_room b5 a5 (by omega))
    go_enter Tryd.func102, Tryd.ntmps102
    go_wp2_with fail
    refine (pair_ok p q n cap m cap' zs ys _ a1 a2 (by omega) a4 tz b1 b2 (by omega) b4 ty).mono ?_
    rintro e w' ⟨rfl, rfl⟩
    go_wp2_with fail
    refine (widened_any q (Nm.tsize ys) (Nm.tsize ys) 1 1 (Nm.trim ys) _ rfl (Nm.trim_length ys) (by omega) (b4.take _)).mono ?_
    rintro e w1 ⟨rfl, ho, hb1, hz1⟩
    have HO := hid ho
    have HB := hid hb1
    have HZ := hid hz1
    clear ho hb1 hz1
    go_wp2_with fail
    refine (addTo_any w'.heap.size (Nm.tsize ys + 1) (Nm.trim ys ++ List.replicate 1 0) p (Nm.tsize zs) (Nm.tsize zs) (Nm.trim zs) _ (by simp [Nm.trim_length]) (by omega) HO.out ((b5.take _).append (Nm.Limbs.replicate _)) (Nm.trim_length zs) (by omega) ((a4.take _).below HB.out (Nat.le_refl _)) (a5.take _) (fun h0 => (a4.take _).lt h0) R.out.1).mono ?_
    rintro e w2 ⟨rfl, hw⟩
    obtain ⟨os, o1, o2, o3, o4, o5, o6⟩ := hw
    have HO := hid o1
    have O4 := hid o4
    have HB2 := hid o5
    clear o1 o4 o5 o6
    go_wp2_with fail
    refine (limited_own w'.heap.size (Nm.tsize ys + 1) os _ o2 (by omega) HO.out o3 w'.heap.size (Nat.le_refl _) (by rw [O4.out, R.out.2, Int.add_comm]; exact HS.out)).mono ?_
    rintro e w3 ⟨r, xs, rfl, hans, rfl⟩
    rw [O4.out, R.out.2, Int.add_comm] at hans
    have HA := hid hans
    clear hans
    go_wp2_with fail
    go_ret2
    exact ⟨r, xs, rfl, HA.out, HB.out.trans HB2.out⟩
  · have hlt' : (Nm.tsize ys : Int) ≤ (Nm.tsize zs : Int) := by omega
    have R := hid (sum_room a5 b5 (by omega))
    go_enter Tryd.func102, Tryd.ntmps102
    go_wp2_with fail
    refine (pair_ok p q n cap m cap' zs ys _ a1 a2 (by omega) a4 tz b1 b2 (by omega) b4 ty).mono ?_
    rintro e w' ⟨rfl, rfl⟩
    go_wp2_with fail
    refine (widened_any p (Nm.tsize zs) (Nm.tsize zs) 1 1 (Nm.trim zs) _ rfl (Nm.trim_length zs) (by omega) (a4.take _)).mono ?_
    rintro e w1 ⟨rfl, ho, hb1, hz1⟩
    have HO := hid ho
    have HB := hid hb1
    have HZ := hid hz1
    clear ho hb1 hz1
    go_wp2_with fail
    refine (addTo_any w'.heap.size (Nm.tsize zs + 1) (Nm.trim zs ++ List.replicate 1 0) q (Nm.tsize ys) (Nm.tsize ys) (Nm.trim ys) _ (by simp [Nm.trim_length]) (by omega) HO.out ((a5.take _).append (Nm.Limbs.replicate _)) (Nm.trim_length ys) (by omega) ((b4.take _).below HB.out (Nat.le_refl _)) (b5.take _) (fun h0 => (b4.take _).lt h0) R.out.1).mono ?_
    rintro e w2 ⟨rfl, hw⟩
    obtain ⟨os, o1, o2, o3, o4, o5, o6⟩ := hw
    have HO := hid o1
    have O4 := hid o4
    have HB2 := hid o5
    clear o1 o4 o5 o6
    go_wp2_with fail
    refine (limited_own w'.heap.size (Nm.tsize zs + 1) os _ o2 (by omega) HO.out o3 w'.heap.size (Nat.le_refl _) (by rw [O4.out, R.out.2]; exact HS.out)).mono ?_
    rintro e w3 ⟨r, xs, rfl, hans, rfl⟩
    rw [O4.out, R.out.2] at hans
    have HA := hid hans
    clear hans
    go_wp2_with fail
    go_ret2
    exact ⟨r, xs, rfl, HA.out, HB.out.trans HB2.out⟩
end Go.Proofs.YtpeecbidojjfpaaDoor

namespace Go.Proofs.YtpeecbidojjfpaaDoor
open Go.RowKit Go.Deep

set_option maxHeartbeats 1000000 in
theorem subFrom_any (g k : Nat) (zs : List Int) (q : Option Addr) (m cap : Nat) (ys : List Int) (w : World) (hk : zs.length = k) (hkm : k ≤ 35184372088832) (ho : Own w g zs) (hl : Nm.Limbs zs)
    (hm : ys.length = m) (hmk : m ≤ k) (hy : Lies w q ys) (hly : Nm.Limbs ys) (hq : 0 < ys.length → ∀ a, q = some a → a.block < g) (hT : 0 ≤ Nm.val zs - Nm.val ys) :
    Calls Tryd.prog 79 #[.slice (some ⟨g, 0, none⟩) k k, .slice q m cap] w fun e w' => e = .returned (.tuple #[]) ∧ Wrote g k (Nm.val zs - Nm.val ys) w w' := by
  rcases hy with rfl | ⟨b, off, rfl, hcell⟩
  · have hm0 : m = 0 := by simpa using hm.symm
    subst hm0
    have E : Wrote g k (Nm.val zs - Nm.val []) w w := ⟨zs, ho, hk, hl, by simp [Nm.val], Below.refl _ _, rfl⟩
    clear ho hl hT hq hm hk
    go_enter Tryd.func79, Tryd.ntmps79
    go_wp2
    refine wp_loop_rounds 1 ?_
    rw [rounds_succ]
    go_wp2
    refine wp_loop_rounds 1 ?_
    rw [rounds_succ]
    go_wp2
    go_end0
    exact ⟨rfl, E⟩
  · have hbg : 0 < ys.length → b < g := fun h => hq h _ rfl
    have I0 : AddInv g k w (Nm.val zs - Nm.val (ys.take 0)) 0 (-0) zs w := ⟨ho, hk, hl, by simp [Nm.val], Below.refl _ _, rfl⟩
    have HC : Hid (∀ i, i < ys.length → w.cell? ⟨b, off + i, none⟩ = some (.int .u64 (ys.getD i 0))) := hcell
    have HM : Hid (ys.length = m) := hm
    have HT : Hid (0 ≤ Nm.val zs - Nm.val ys) := hT
    have HY : Hid (Nm.Limbs ys) := hly
    clear hcell hm hT hly hq ho hk hl
    go_enter Tryd.func79, Tryd.ntmps79
    go_wp2
    go_loopw [4, 10] (fun c i wr => ∃ (j : Nat) (cc : Int) (os : List Int), j ≤ m ∧ i = .int .i64 j ∧ c = .int .u64 cc ∧ 0 ≤ cc ∧ cc ≤ 1 ∧ AddInv g k w (Nm.val zs - Nm.val (ys.take j)) j (-cc) os wr) (fun _ i _ => m - (intOf i).toNat)
    case atStart => exact ⟨0, 0, zs, Nat.zero_le _, rfl, rfl, by omega, by omega, I0⟩
    case round =>
      clear I0
      obtain ⟨j, cc, os, hj, rfl, rfl, hc0, hc1, I⟩ := hrel
      by_cases hlt : j < m
      · obtain ⟨x, hx, X⟩ : ∃ x, wr.cell? ⟨b, off + j, none⟩ = some (.int .u64 x) ∧ Hid (x = ys.getD j 0) :=
          ⟨_, (I.2.2.2.2.1.cell (p := ⟨b, off + j, none⟩) (hbg (by have := HM.out; omega))).trans (HC.out j (by have := HM.out; omega)), rfl⟩
        obtain ⟨y, hyc, Y⟩ : ∃ y, wr.cell? ⟨g, j, none⟩ = some (.int .u64 y) ∧ Hid (y = os.getD j 0) := ⟨_, I.1.cell j (by have := I.2.1; omega), rfl⟩
        have hfr := I.1.free j
        have hx0 := HY.out.at j
        rw [← X.out] at hx0
        obtain ⟨hx0, hx1⟩ := hx0
        have hy0 := I.2.2.1.at j
        rw [← Y.out] at hy0
        obtain ⟨hy0, hy1⟩ := hy0
        obtain ⟨s, c', hs, hc', E⟩ := sub_names y x cc hy0 hy1 hx0 hx1 hc0 hc1
        have hjk : (j : Int) < (k : Int) := by omega
        go_wp2_with (simp only [sub64' y x cc s c' hy0 hy1 hx0 hx1 hc0 hc1 hs hc' E.out])
        go_roundw
        case rel =>
          have hst := I.down (by omega) (x := -x) (s := s) (c' := -c') hs (by rw [← Y.out]; exact E.out)
          refine ⟨j + 1, c', os.set j s, by omega, by go_num, rfl, hc'.1, hc'.2, ?_⟩
          have e : Nm.val zs - Nm.val (ys.take (j + 1)) = Nm.val zs - Nm.val (ys.take j) + Nm.pw j * (-x) := by
            rw [Nm.val_take_succ ys j (by have := HM.out; omega), ← X.out, Int.mul_neg]
            omega
          rw [e]
          exact hst
        case measure => simp [intOf]; omega
      · have hjm : j = m := by omega
        subst hjm
        rw [List.take_of_length_le (by have := HM.out; omega)] at I
        go_wp2
        go_loopw [4, 7] (fun c i wr => ∃ (t : Nat) (cc : Int) (os : List Int), t ≤ k ∧ i = .int .i64 t ∧ c = .int .u64 cc ∧ 0 ≤ cc ∧ cc ≤ 1 ∧ AddInv g k w (Nm.val zs - Nm.val ys) t (-cc) os wr) (fun _ i _ => k - (intOf i).toNat)
        case atStart => exact ⟨j, cc, os, hmk, rfl, rfl, hc0, hc1, I⟩
        case round =>
          clear I hc0 hc1
          obtain ⟨t, cc, os, ht, rfl, rfl, hc0, hc1, I⟩ := hrel
          by_cases hz : cc = 0
          · subst hz
            have E : Wrote g k (Nm.val zs - Nm.val ys) w wr := ⟨os, I.1, I.2.1, I.2.2.1, by have := I.2.2.2.1; simp at this; omega, I.2.2.2.2.1, I.2.2.2.2.2⟩
            clear I
            go_wp2
            go_end0
            exact ⟨rfl, E⟩
          · have htk := I.stop HT.out (by omega)
            have htk' : (t : Int) < (k : Int) := by omega
            obtain ⟨y, hyc, Y⟩ : ∃ y, wr.cell? ⟨g, t, none⟩ = some (.int .u64 y) ∧ Hid (y = os.getD t 0) := ⟨_, I.1.cell t (by have := I.2.1; omega), rfl⟩
            have hfr := I.1.free t
            have hy0 := I.2.2.1.at t
            rw [← Y.out] at hy0
            obtain ⟨hy0, hy1⟩ := hy0
            obtain ⟨s, c', hs, hc', E⟩ := sub_names y 0 cc hy0 hy1 (by omega) (by omega) hc0 hc1
            go_wp2_with (simp only [sub64' y 0 cc s c' hy0 hy1 (Int.le_refl 0) (by decide) hc0 hc1 hs hc' E.out])
            go_roundw
            case rel =>
              have hst := I.down (by omega) (x := -0) (s := s) (c' := -c') hs (by rw [← Y.out]; exact E.out)
              rw [Int.neg_zero, Int.mul_zero, Int.add_zero] at hst
              exact ⟨t + 1, c', os.set t s, by omega, by go_num, rfl, hc'.1, hc'.2, hst⟩
            case measure => simp [intOf]; omega

theorem Arg.trim {w : World} {p : Option Addr} {n cap : Nat} {zs : List Int} (h : Arg w p n cap zs) : Arg w p (Nm.tsize zs) (Nm.tsize zs) (Nm.trim zs) :=
  ⟨Nm.trim_length zs, Nat.le_refl _, by have := h.tl; have := h.2.1; have := h.2.2.1; omega, h.2.2.2.1.trim, h.2.2.2.2.trim⟩

set_option maxHeartbeats 1000000 in
theorem sub_ok (p q : Option Addr) (n cap m cap' : Nat) (zs ys : List Int) (w : World) (ha : Arg w p n cap zs) (hb : Arg w q m cap' ys) (tz : Nm.tsize zs ≤ 4096) (hle : Nm.val ys ≤ Nm.val zs) :
    Calls Tryd.prog 61 #[.slice p n cap, .slice q m cap'] w fun e w' => ∃ r os, e = .returned (.tuple #[.slice r (List.length os) (List.length os), .int .i64 0]) ∧ Ans w.heap.size w' r os (Nm.val zs - Nm.val ys) ∧ Below w.heap.size w w' := by
  have hs : Nm.val zs < Nm.pw 4096 := (Nm.tsize_le_iff ha.2.2.2.2 4096).1 tz
  have y0 := (Nm.val_bd ys hb.2.2.2.2).1
  have ty : Nm.tsize ys ≤ 4096 := (Nm.tsize_le_iff hb.2.2.2.2 4096).2 (by omega)
  have tyz : Nm.tsize ys ≤ Nm.tsize zs := by
    have h1 := Nm.val_lt_tsize ha.2.2.2.2
    exact (Nm.tsize_le_iff hb.2.2.2.2 _).2 (by omega)
  have AT := hid ha.trim
  have BT := hid hb.trim
  obtain ⟨a1, a2, a3, a4, a5⟩ := ha
  obtain ⟨b1, b2, b3, b4, b5⟩ := hb
  obtain ⟨c, C⟩ : ∃ c, Hid (cmpI (Nm.val (Nm.trim zs)) (Nm.val (Nm.trim ys)) = c) := ⟨_, rfl⟩
  have hc : ¬ c < 0 := by
    rw [← C.out, Nm.val_trim, Nm.val_trim]
    unfold cmpI
    rw [if_neg (by omega)]
    split <;> omega
  have V : Hid (Nm.val (Nm.trim zs) - Nm.val (Nm.trim ys) = Nm.val zs - Nm.val ys) := by rw [Hid, Nm.val_trim, Nm.val_trim]
  have HS : Hid (0 ≤ Nm.val (Nm.trim zs) - Nm.val (Nm.trim ys) ∧ Nm.val (Nm.trim zs) - Nm.val (Nm.trim ys) < Nm.pw 4096) := by rw [Hid, Nm.val_trim, Nm.val_trim]; omega
  clear hs y0 hle
  go_enter Tryd.func61, Tryd.ntmps61
  go_wp2_with fail
  refine (pair_ok p q n cap m cap' zs ys _ a1 a2 (by omega) a4 tz b1 b2 (by omega) b4 ty).mono ?_
  rintro e w' ⟨rfl, rfl⟩
  go_wp2_with fail
  refine (cmp_is c p q _ _ _ _ (Nm.trim zs) (Nm.trim ys) _ AT.out BT.out C.out).mono ?_
  rintro e w1 ⟨rfl, hb1⟩
  have D1 := hid hb1
  clear hb1
  go_wp2_with fail
  refine (widened_any p (Nm.tsize zs) (Nm.tsize zs) 0 0 (Nm.trim zs) _ rfl (Nm.trim_length zs) (by omega) (AT.out.below D1.out (Nat.le_refl _)).2.2.2.1).mono ?_
  rintro e w2 ⟨rfl, ho, hb1, hz1⟩
  rw [List.replicate_zero, List.append_nil] at ho
  have HO := hid ho
  have D2 := hid hb1
  have S1 := hid D1.out.size
  clear ho hb1 hz1
  go_wp2_with fail
  refine (subFrom_any w1.heap.size (Nm.tsize zs) (Nm.trim zs) q (Nm.tsize ys) (Nm.tsize ys) (Nm.trim ys) _ (Nm.trim_length zs) (by omega) HO.out a5.trim (Nm.trim_length ys) tyz ((BT.out.below D1.out (Nat.le_refl _)).2.2.2.1.below D2.out (Nat.le_refl _)) b5.trim (fun h0 => (BT.out.below D1.out (Nat.le_refl _)).2.2.2.1.lt h0) HS.out.1).mono ?_
  rintro e w3 ⟨rfl, hw⟩
  obtain ⟨os, o1, o2, o3, o4, o5, o6⟩ := hw
  have HO3 := hid o1
  have O4 := hid o4
  have HB2 := hid o5
  clear o1 o4 o5 o6
  go_wp2_with fail
  refine (limited_own w1.heap.size (Nm.tsize zs) os _ o2 (by omega) HO3.out o3 w'.heap.size S1.out (by rw [O4.out]; exact HS.out.2)).mono ?_
  rintro e w4 ⟨r, xs, rfl, hans, rfl⟩
  rw [O4.out, V.out] at hans
  have HA := hid hans
  clear hans
  go_wp2_with fail
  go_ret2
  exact ⟨r, xs, rfl, HA.out, D1.out.trans ((D2.out.trans HB2.out).mono S1.out)⟩

set_option maxHeartbeats 1000000 in
theorem sub_below (p q : Option Addr) (n cap m cap' : Nat) (zs ys : List Int) (w : World) (ha : Arg w p n cap zs) (hb : Arg w q m cap' ys) (tz : Nm.tsize zs ≤ 4096) (ty : Nm.tsize ys ≤ 4096) (hlt : Nm.val zs < Nm.val ys) :
    Calls Tryd.prog 61 #[.slice p n cap, .slice q m cap'] w fun e w' => e = .returned (.tuple #[.slice none 0 0, .int .i64 10]) ∧ Below w.heap.size w w' := by
  have AT := hid ha.trim
  have BT := hid hb.trim
  obtain ⟨a1, a2, a3, a4, a5⟩ := ha
  obtain ⟨b1, b2, b3, b4, b5⟩ := hb
  have C := hid (cmpI_lt hlt)
  rw [← Nm.val_trim zs, ← Nm.val_trim ys] at C
  clear hlt
  go_enter Tryd.func61, Tryd.ntmps61
  go_wp2_with fail
  refine (pair_ok p q n cap m cap' zs ys _ a1 a2 (by omega) a4 tz b1 b2 (by omega) b4 ty).mono ?_
  rintro e w' ⟨rfl, rfl⟩
  go_wp2_with fail
  refine (cmp_is _ p q _ _ _ _ (Nm.trim zs) (Nm.trim ys) _ AT.out BT.out C.out).mono ?_
  rintro e w1 ⟨rfl, hb1⟩
  have D1 := hid hb1
  clear hb1
  go_wp2_with fail
  go_ret2
  exact ⟨rfl, D1.out⟩
end Go.Proofs.YtpeecbidojjfpaaDoor

/-
  soft: plus.
-/
namespace Go.Proofs.YtpeecbidojjfpaaDoor
open Go Go.RowKit Go.Deep

set_option maxRecDepth 100000 in
set_option maxHeartbeats 8000000 in
theorem plus_at (n1 n2 m1 m2 : Bool) (p1 p2 : Option Addr) (l1 c1 l2 c2 : Nat) (z1 z2 : List Int) (e1 e2 V1 V2 : Int) (w : World) (a1 : Arg w p1 l1 c1 z1) (a2 : Arg w p2 l2 c2 z2) (hV1 : Nm.val z1 = V1) (hV2 : Nm.val z2 = V2) (b1 : V1 < 2 ^ 200) (b2 : V2 < 2 ^ 200)
    (q1 : -2200 ≤ e1) (q2 : e1 ≤ 2000) (q3 : -2200 ≤ e2) (q4 : e2 ≤ 2000) (m : Int) (k1 k2 : Nat) (hm : min e1 e2 = m) (hk1 : (k1 : Int) = e1 - m) (hk2 : (k2 : Int) = e2 - m) :
    Calls Tryd.prog 92 #[exactOf n1 p1 l1 c1 e1 m1, exactOf n2 p2 l2 c2 e2 m2] w fun e w' => PlusTold n1 V1 e1 n2 V2 e2 w e w' := by
  have kk : k1 ≤ 4200 ∧ k2 ≤ 4200 := by omega
  have v1 : 0 ≤ V1 := by rw [← hV1]; exact (Nm.val_bd z1 a1.2.2.2.2).1
  have v2 : 0 ≤ V2 := by rw [← hV2]; exact (Nm.val_bd z2 a2.2.2.2.2).1
  have u1 := Ie.up_lt b1 kk.1
  have u2 := Ie.up_lt b2 kk.2
  have x1 : 0 ≤ V1 * 2 ^ k1 := Int.mul_nonneg v1 (by have := Nm.two_pos k1; omega)
  have x2 : 0 ≤ V2 * 2 ^ k2 := Int.mul_nonneg v2 (by have := Nm.two_pos k2; omega)
  have e4096 := pw_4096
  have big := Nm.two_mono (show 4401 ≤ 262144 by omega)
  have two : (2 : Int) ^ 4401 = 2 * 2 ^ 4400 := Nm.two_succ 4400
  have five := Nm.two_mono (show 4401 ≤ 5000 by omega)
  have t1 : Nm.tsize z1 ≤ 4096 := (Nm.tsize_le_iff a1.2.2.2.2 4096).2 (by rw [hV1]; have := Nm.two_mono (show 200 ≤ 4400 by omega); omega)
  have t2 : Nm.tsize z2 ≤ 4096 := (Nm.tsize_le_iff a2.2.2.2.2 4096).2 (by rw [hV2]; have := Nm.two_mono (show 200 ≤ 4400 by omega); omega)
  have S1 : Hid (∀ (wx : World) (d : Int), Below w.heap.size w wx → d = e1 - m → Calls Tryd.prog 11 #[.slice p1 l1 c1, .int .i64 d] wx fun e w' => ∃ r os, e = .returned (.tuple #[.slice r (List.length os) (List.length os), .int .i64 0]) ∧ Ans wx.heap.size w' r os (V1 * 2 ^ k1) ∧ Below wx.heap.size wx w') := by
    intro wx d hx hd
    have := shl_any p1 l1 c1 z1 d k1 wx (a1.below hx (Nat.le_refl _)) t1 (by omega) (by rw [hV1]; omega)
    rw [hV1] at this
    exact this
  have S2 : Hid (∀ (wx : World) (d : Int), Below w.heap.size w wx → d = e2 - m → Calls Tryd.prog 11 #[.slice p2 l2 c2, .int .i64 d] wx fun e w' => ∃ r os, e = .returned (.tuple #[.slice r (List.length os) (List.length os), .int .i64 0]) ∧ Ans wx.heap.size w' r os (V2 * 2 ^ k2) ∧ Below wx.heap.size wx w') := by
    intro wx d hx hd
    have := shl_any p2 l2 c2 z2 d k2 wx (a2.below hx (Nat.le_refl _)) t2 (by omega) (by rw [hV2]; omega)
    rw [hV2] at this
    exact this
  have FIN : Hid (∀ (w3 : World) (neg : Bool) (p : Option Addr) (os : List Int) (V x : Int) (x0 x1 x2 x3 y0 y1 y2 y3 : Value), Box w w3 x0 x1 x2 x3 y0 y1 y2 y3 → Ans (w.heap.size + 3) w3 p os V → Ie.SumIs n1 V1 e1 n2 V2 e2 neg V x →
      PlusTold n1 V1 e1 n2 V2 e2 w (.returned (exactOf neg p (List.length os) (List.length os) x false)) ((((w3.setCell ⟨w.heap.size + 2, 0, none⟩ (.bool neg)).setCell ⟨w.heap.size + 2, 1, none⟩ (.slice p os.length os.length)).setCell ⟨w.heap.size + 2, 2, none⟩ (.int .i64 x)).setCell ⟨w.heap.size + 2, 3, none⟩ (.bool false))) := by
    intro w3 neg p os V x x0 x1 x2 x3 y0 y1 y2 y3 hb A hS
    have A' := A.set4 (b := w.heap.size + 2) (u0 := .bool neg) (u1 := .slice p os.length os.length) (u2 := .int .i64 x) (u3 := .bool false) (by omega)
    exact ⟨neg, p, os, V, x, rfl, ⟨A'.1, A'.2.1, A'.2.2.1, A'.2.2.2.1, fun a h => by have := A'.2.2.2.2 a h; omega⟩, set4_below hb.2.1 (by omega), hS⟩
  have B0 := Box.new w (.bool n1) (.slice p1 l1 c1) (.int .i64 e1) (.bool m1) (.bool n2) (.slice p2 l2 c2) (.int .i64 e2) (.bool m2)
  have SA : Hid (∀ (neg : Bool) (V : Int), Ie.sn neg V = Ie.sn n1 (V1 * 2 ^ k1) + Ie.sn n2 (V2 * 2 ^ k2) → (V = 0 → neg = (n1 && n2)) → 0 ≤ V → V < 2 ^ 5000 → Ie.SumIs n1 V1 e1 n2 V2 e2 neg V m) := fun neg V h h0 h1 h2 => Ie.sum_at hm hk1 hk2 h h0 h1 h2
  have SN : Hid (n1 ≠ n2 → V1 * 2 ^ k1 = V2 * 2 ^ k2 → Ie.SumIs n1 V1 e1 n2 V2 e2 false 0 0) := fun h h' => Ie.sum_none hm hk1 hk2 h h'
  have U1 := hid u1
  have U2 := hid u2
  have BG : Hid ((V1 * 2 ^ k1 + V2 * 2 ^ k2 < Nm.pw 4096 ∧ V1 * 2 ^ k1 + V2 * 2 ^ k2 < 2 ^ 5000) ∧ (V1 * 2 ^ k1 < 2 ^ 5000 ∧ V2 * 2 ^ k2 < 2 ^ 5000)) := by
    have e : (2 : Int) ^ (200 + 4200) = 2 ^ 4400 := rfl
    rw [e] at u1 u2
    refine ⟨⟨?_, ?_⟩, ?_, ?_⟩ <;> omega
  clear hV1 hV2 b1 b2 a1 a2 v1 v2 kk u1 u2 big two five t1 t2 e4096 hk1 hk2
  generalize hX1 : V1 * 2 ^ k1 = X1 at *
  generalize hX2 : V2 * 2 ^ k2 = X2 at *
  clear hX1 hX2
  simp only [exactOf]
  by_cases hn : n1 = n2
  · subst hn
    have nn : (n1 == n1) = true := by simp
    go_enter Tryd.func92, Tryd.ntmps92
    go_wp2_with fail
    refine (S1.out _ _ B0.2.1 (by omega)).mono ?_
    rintro e wa ⟨r1, o1, rfl, A1, hB1⟩
    have Ba := B0.on hB1
    obtain ⟨⟨cx0, cx1, cx2⟩, ⟨cy0, cy1, cy2⟩, -⟩ := Ba.cells
    have s0 := B0.2.2
    have AA := hid A1
    clear hB1 A1 S1
    go_wp2_with fail
    refine (S2.out _ _ Ba.2.1 (by omega)).mono ?_
    rintro e wb ⟨r2, o2, rfl, A2, hB2⟩
    have Bb := Ba.on hB2
    have A1 := AA.out.below hB2 (Nat.le_refl _)
    have sa := Ba.2.2
    obtain ⟨⟨h1, h2⟩, h3, h4⟩ := BG.out
    obtain ⟨t1, l1', y1⟩ := A1.tl U1.out (by omega)
    obtain ⟨t2, l2', y2⟩ := A2.tl U2.out (by omega)
    clear cx0 cx1 cx2 cy0 cy1 cy2
    obtain ⟨⟨cx0, cx1, cx2⟩, ⟨cy0, cy1, cy2⟩, -⟩ := Bb.cells
    have g1 := A1.arg (by omega)
    have g2 := A2.arg (by omega)
    have CC := hid (add_ok r1 r2 _ _ _ _ o1 o2 wb g1 g2 (by rw [A1.2.2.2.1, A2.2.2.2.1]; omega))
    rw [A1.2.2.2.1, A2.2.2.2.1] at CC
    have HH := hid (And.intro h2 (And.intro h3 h4))
    have BB := hid Bb
    have SS := hid (And.intro s0 sa)
    clear S2 hB2 A1 A2 AA Ba Bb U1 U2 BG t1 t2 l1' l2' y1 y2 g1 g2 h1 h2 h3 h4 s0 sa B0
    go_wp2_with fail
    refine CC.out.mono ?_
    rintro e wc ⟨r3, o3, rfl, A3, hB3⟩
    have Bc := BB.out.on hB3
    have KF := FIN.out wc n1 r3 o3 (X1 + X2) m _ _ _ _ _ _ _ _ Bc ⟨A3.1, A3.2.1, A3.2.2.1, A3.2.2.2.1, fun a h => by have := A3.2.2.2.2 a h; have := BB.out.2.2; omega⟩ (SA.out n1 (X1 + X2) (by cases n1 <;> simp only [Ie.sn, Bool.false_eq_true, if_true, if_false] <;> omega) (fun _ => by simp) (by omega) HH.out.1)
    clear A3 hB3 CC BB cx0 cx1 cx2 cy0 cy1 cy2
    obtain ⟨⟨cx0, cx1, cx2⟩, ⟨cy0, cy1, cy2⟩, ⟨⟨r0, r1', r2', r3⟩, ⟨f0, f1, f2, f3⟩⟩⟩ := Bc.cells
    have RR := hid Bc.1.2.2
    have KK := hid KF
    clear Bc KF
    go_wp2_with fail
    (try simp only [Exit.inBlock, Exit.then])
    refine bodyPost_ret (results_cell_row rfl _ _ (w.heap.size + 2) 108 _ (0, 0) _ rfl (Row4.set RR.out) Tryd.underlying108 rfl (by kernel_rfl)) rfl ?_
    exact KK.out
  · have nn : (n1 == n2) = false := by rw [beq_eq_false_iff_ne]; exact hn
    rcases (show X2 < X1 ∨ X1 < X2 ∨ X1 = X2 by omega) with ho | ho | ho
    · have CI : cmpI X1 X2 = 1 := cmpI_gt ho
      go_enter Tryd.func92, Tryd.ntmps92
      go_wp2_with fail
      refine (S1.out _ _ B0.2.1 (by omega)).mono ?_
      rintro e wa ⟨r1, o1, rfl, A1, hB1⟩
      have Ba := B0.on hB1
      obtain ⟨⟨cx0, cx1, cx2⟩, ⟨cy0, cy1, cy2⟩, -⟩ := Ba.cells
      have s0 := B0.2.2
      have AA := hid A1
      clear hB1 A1 S1
      go_wp2_with fail
      refine (S2.out _ _ Ba.2.1 (by omega)).mono ?_
      rintro e wb ⟨r2, o2, rfl, A2, hB2⟩
      have Bb := Ba.on hB2
      have A1 := AA.out.below hB2 (Nat.le_refl _)
      have sa := Ba.2.2
      obtain ⟨⟨h1, h2⟩, h3, h4⟩ := BG.out
      obtain ⟨t1, l1', y1⟩ := A1.tl U1.out (by omega)
      obtain ⟨t2, l2', y2⟩ := A2.tl U2.out (by omega)
      clear cx0 cx1 cx2 cy0 cy1 cy2
      obtain ⟨⟨cx0, cx1, cx2⟩, ⟨cy0, cy1, cy2⟩, -⟩ := Bb.cells
      have g1 := A1.arg (by omega)
      have g2 := A2.arg (by omega)
      have C0 := hid (cmp_is (cmpI X1 X2) r1 r2 _ _ _ _ o1 o2 wb g1 g2 (by rw [A1.2.2.2.1, A2.2.2.2.1]))
      rw [CI] at C0
      have CC := hid (fun (wx : World) (hx : Below wb.heap.size wb wx) => sub_ok r1 r2 _ _ _ _ o1 o2 wx (g1.below hx (Nat.le_refl _)) (g2.below hx (Nat.le_refl _)) t1 (by rw [A1.2.2.2.1, A2.2.2.2.1]; omega))
      rw [A1.2.2.2.1, A2.2.2.2.1] at CC
      have HH := hid (And.intro h2 (And.intro h3 h4))
      have BB := hid Bb
      have SS := hid (And.intro s0 sa)
      clear S2 hB2 A1 A2 AA Ba Bb U1 U2 BG t1 t2 l1' l2' y1 y2 g1 g2 h1 h2 h3 h4 s0 sa B0 CI
      go_wp2_with fail
      refine C0.out.mono ?_
      rintro e wz ⟨rfl, hBz⟩
      have Bz := BB.out.on hBz
      have C1 := hid (CC.out wz hBz)
      have ZZ := hid Bz
      clear CC hBz Bz BB cx0 cx1 cx2 cy0 cy1 cy2
      go_wp2_with fail
      refine C1.out.mono ?_
      rintro e wc ⟨r3, o3, rfl, A3, hB3⟩
      have Bc := ZZ.out.on hB3
      have KF := FIN.out wc n1 r3 o3 (X1 - X2) m _ _ _ _ _ _ _ _ Bc ⟨A3.1, A3.2.1, A3.2.2.1, A3.2.2.2.1, fun a h => by have := A3.2.2.2.2 a h; have := ZZ.out.2.2; omega⟩ (SA.out n1 (X1 - X2) (by cases n1 <;> cases n2 <;> simp only [Ie.sn, Bool.false_eq_true, if_true, if_false] <;> first | exact absurd rfl hn | omega) (fun h => by omega) (by omega) (by have := HH.out; omega))
      clear A3 hB3 C1 ZZ C0
      obtain ⟨⟨cx0, cx1, cx2⟩, ⟨cy0, cy1, cy2⟩, ⟨⟨r0, r1', r2', r3⟩, ⟨f0, f1, f2, f3⟩⟩⟩ := Bc.cells
      have RR := hid Bc.1.2.2
      have KK := hid KF
      clear Bc KF
      go_wp2_with fail
      (try simp only [Exit.inBlock, Exit.then])
      refine bodyPost_ret (results_cell_row rfl _ _ (w.heap.size + 2) 108 _ (0, 0) _ rfl (Row4.set RR.out) Tryd.underlying108 rfl (by kernel_rfl)) rfl ?_
      exact KK.out
    · have CI : cmpI X1 X2 = -1 := cmpI_lt ho
      go_enter Tryd.func92, Tryd.ntmps92
      go_wp2_with fail
      refine (S1.out _ _ B0.2.1 (by omega)).mono ?_
      rintro e wa ⟨r1, o1, rfl, A1, hB1⟩
      have Ba := B0.on hB1
      obtain ⟨⟨cx0, cx1, cx2⟩, ⟨cy0, cy1, cy2⟩, -⟩ := Ba.cells
      have s0 := B0.2.2
      have AA := hid A1
      clear hB1 A1 S1
      go_wp2_with fail
      refine (S2.out _ _ Ba.2.1 (by omega)).mono ?_
      rintro e wb ⟨r2, o2, rfl, A2, hB2⟩
      have Bb := Ba.on hB2
      have A1 := AA.out.below hB2 (Nat.le_refl _)
      have sa := Ba.2.2
      obtain ⟨⟨h1, h2⟩, h3, h4⟩ := BG.out
      obtain ⟨t1, l1', y1⟩ := A1.tl U1.out (by omega)
      obtain ⟨t2, l2', y2⟩ := A2.tl U2.out (by omega)
      clear cx0 cx1 cx2 cy0 cy1 cy2
      obtain ⟨⟨cx0, cx1, cx2⟩, ⟨cy0, cy1, cy2⟩, -⟩ := Bb.cells
      have g1 := A1.arg (by omega)
      have g2 := A2.arg (by omega)
      have C0 := hid (cmp_is (cmpI X1 X2) r1 r2 _ _ _ _ o1 o2 wb g1 g2 (by rw [A1.2.2.2.1, A2.2.2.2.1]))
      rw [CI] at C0
      have CC := hid (fun (wx : World) (hx : Below wb.heap.size wb wx) => sub_ok r2 r1 _ _ _ _ o2 o1 wx (g2.below hx (Nat.le_refl _)) (g1.below hx (Nat.le_refl _)) t2 (by rw [A1.2.2.2.1, A2.2.2.2.1]; omega))
      rw [A1.2.2.2.1, A2.2.2.2.1] at CC
      have HH := hid (And.intro h2 (And.intro h3 h4))
      have BB := hid Bb
      have SS := hid (And.intro s0 sa)
      clear S2 hB2 A1 A2 AA Ba Bb U1 U2 BG t1 t2 l1' l2' y1 y2 g1 g2 h1 h2 h3 h4 s0 sa B0 CI
      go_wp2_with fail
      refine C0.out.mono ?_
      rintro e wz ⟨rfl, hBz⟩
      have Bz := BB.out.on hBz
      have C1 := hid (CC.out wz hBz)
      have ZZ := hid Bz
      clear CC hBz Bz BB cx0 cx1 cx2 cy0 cy1 cy2
      go_wp2_with fail
      refine C1.out.mono ?_
      rintro e wc ⟨r3, o3, rfl, A3, hB3⟩
      have Bc := ZZ.out.on hB3
      have KF := FIN.out wc n2 r3 o3 (X2 - X1) m _ _ _ _ _ _ _ _ Bc ⟨A3.1, A3.2.1, A3.2.2.1, A3.2.2.2.1, fun a h => by have := A3.2.2.2.2 a h; have := ZZ.out.2.2; omega⟩ (SA.out n2 (X2 - X1) (by cases n1 <;> cases n2 <;> simp only [Ie.sn, Bool.false_eq_true, if_true, if_false] <;> first | exact absurd rfl hn | omega) (fun h => by omega) (by omega) (by have := HH.out; omega))
      clear A3 hB3 C1 ZZ C0
      obtain ⟨⟨cx0, cx1, cx2⟩, ⟨cy0, cy1, cy2⟩, ⟨⟨r0, r1', r2', r3⟩, ⟨f0, f1, f2, f3⟩⟩⟩ := Bc.cells
      have RR := hid Bc.1.2.2
      have KK := hid KF
      clear Bc KF
      go_wp2_with fail
      (try simp only [Exit.inBlock, Exit.then])
      refine bodyPost_ret (results_cell_row rfl _ _ (w.heap.size + 2) 108 _ (0, 0) _ rfl (Row4.set RR.out) Tryd.underlying108 rfl (by kernel_rfl)) rfl ?_
      exact KK.out
    · have CI : cmpI X1 X2 = 0 := cmpI_eq ho
      go_enter Tryd.func92, Tryd.ntmps92
      go_wp2_with fail
      refine (S1.out _ _ B0.2.1 (by omega)).mono ?_
      rintro e wa ⟨r1, o1, rfl, A1, hB1⟩
      have Ba := B0.on hB1
      obtain ⟨⟨cx0, cx1, cx2⟩, ⟨cy0, cy1, cy2⟩, -⟩ := Ba.cells
      have s0 := B0.2.2
      have AA := hid A1
      clear hB1 A1 S1
      go_wp2_with fail
      refine (S2.out _ _ Ba.2.1 (by omega)).mono ?_
      rintro e wb ⟨r2, o2, rfl, A2, hB2⟩
      have Bb := Ba.on hB2
      have A1 := AA.out.below hB2 (Nat.le_refl _)
      have sa := Ba.2.2
      obtain ⟨⟨h1, h2⟩, h3, h4⟩ := BG.out
      obtain ⟨t1, l1', y1⟩ := A1.tl U1.out (by omega)
      obtain ⟨t2, l2', y2⟩ := A2.tl U2.out (by omega)
      clear cx0 cx1 cx2 cy0 cy1 cy2
      obtain ⟨⟨cx0, cx1, cx2⟩, ⟨cy0, cy1, cy2⟩, -⟩ := Bb.cells
      have g1 := A1.arg (by omega)
      have g2 := A2.arg (by omega)
      have C0 := hid (cmp_is (cmpI X1 X2) r1 r2 _ _ _ _ o1 o2 wb g1 g2 (by rw [A1.2.2.2.1, A2.2.2.2.1]))
      rw [CI] at C0
      have HH := hid (And.intro h2 (And.intro h3 h4))
      have BB := hid Bb
      have SS := hid (And.intro s0 sa)
      clear S2 hB2 A1 A2 AA Ba Bb U1 U2 BG t1 t2 l1' l2' y1 y2 g1 g2 h1 h2 h3 h4 s0 sa B0 CI
      go_wp2_with fail
      refine C0.out.mono ?_
      rintro e wz ⟨rfl, hBz⟩
      have Bz := BB.out.on hBz
      have Bc := Bz
      have KF := FIN.out wz false none [] 0 0 _ _ _ _ _ _ _ _ Bc ⟨Lies.nil _ _, Nm.Limbs.nil, rfl, rfl, fun a h => by cases h⟩ (SN.out hn ho)
      clear BB Bz hBz cx0 cx1 cx2 cy0 cy1 cy2 C0
      obtain ⟨⟨cx0, cx1, cx2⟩, ⟨cy0, cy1, cy2⟩, ⟨⟨r0, r1', r2', r3⟩, ⟨f0, f1, f2, f3⟩⟩⟩ := Bc.cells
      have RR := hid Bc.1.2.2
      have KK := hid KF
      clear Bc KF
      go_wp2_with fail
      (try simp only [Exit.inBlock, Exit.then])
      refine bodyPost_ret (results_cell_row rfl _ _ (w.heap.size + 2) 108 _ (0, 0) _ rfl (Row4.set RR.out) Tryd.underlying108 rfl (by kernel_rfl)) rfl ?_
      exact KK.out

theorem xplus_any (n1 n2 m1 m2 : Bool) (p1 p2 : Option Addr) (l1 c1 l2 c2 : Nat) (z1 z2 : List Int) (e1 e2 V1 V2 : Int) (w : World) (a1 : Arg w p1 l1 c1 z1) (a2 : Arg w p2 l2 c2 z2) (hV1 : Nm.val z1 = V1) (hV2 : Nm.val z2 = V2) (b1 : V1 < 2 ^ 200) (b2 : V2 < 2 ^ 200)
    (q1 : -2200 ≤ e1) (q2 : e1 ≤ 2000) (q3 : -2200 ≤ e2) (q4 : e2 ≤ 2000) :
    Calls Tryd.prog 92 #[exactOf n1 p1 l1 c1 e1 m1, exactOf n2 p2 l2 c2 e2 m2] w fun e w' => PlusTold n1 V1 e1 n2 V2 e2 w e w' :=
  plus_at n1 n2 m1 m2 p1 p2 l1 c1 l2 c2 z1 z2 e1 e2 V1 V2 w a1 a2 hV1 hV2 b1 b2 q1 q2 q3 q4 (min e1 e2) (e1 - min e1 e2).toNat (e2 - min e1 e2).toNat rfl (by omega) (by omega)
end Go.Proofs.YtpeecbidojjfpaaDoor
