/-
  THE WALK OF addTo.
-/
import Derived.Test.YtmihjiiagpkciaaDoorWalk2a
namespace Go.Proofs.YtmihjiiagpkciaaDoor
open Go.RowKit Go.Deep

set_option maxHeartbeats 1000000 in
theorem addTo_any (g k : Nat) (zs : List Int) (q : Option Addr) (m cap : Nat) (ys : List Int) (w : World) (hk : zs.length = k) (hkm : k ≤ 35184372088832) (ho : Own w g zs) (hl : Nm.Limbs zs)
    (hm : ys.length = m) (hmk : m ≤ k) (hy : Lies w q ys) (hly : Nm.Limbs ys) (hq : 0 < ys.length → ∀ a, q = some a → a.block < g) (hT : Nm.val zs + Nm.val ys < Nm.pw k) :
    Calls Tryd.prog 63 #[.slice (some ⟨g, 0, none⟩) k k, .slice q m cap] w fun e w' => e = .returned (.tuple #[]) ∧ Wrote g k (Nm.val zs + Nm.val ys) w w' := by
  rcases hy with rfl | ⟨b, off, rfl, hcell⟩
  · have hm0 : m = 0 := by simpa using hm.symm
    subst hm0
    have E : Wrote g k (Nm.val zs + Nm.val []) w w := ⟨zs, ho, hk, hl, by simp [Nm.val], Below.refl _ _, rfl⟩
    clear ho hl hT hq hm hk
    go_enter Tryd.func63, Tryd.ntmps63
    go_wp2
    refine wp_loop_rounds 1 ?_
    rw [rounds_succ]
    go_wp2
    refine wp_loop_rounds 1 ?_
    rw [rounds_succ]
    go_wp2
    go_end0
    exact ⟨rfl, E⟩
  · have hbg : 0 < ys.length → b < g := fun h => hq h _ rfl
    have I0 : AddInv g k w (Nm.val zs + Nm.val (ys.take 0)) 0 0 zs w := ⟨ho, hk, hl, by simp [Nm.val], Below.refl _ _, rfl⟩
    have HC : Hid (∀ i, i < ys.length → w.cell? ⟨b, off + i, none⟩ = some (.int .u64 (ys.getD i 0))) := hcell
    have HM : Hid (ys.length = m) := hm
    have HT : Hid (Nm.val zs + Nm.val ys < Nm.pw k) := hT
    have HY : Hid (Nm.Limbs ys) := hly
    clear hcell hm hT hly hq ho hk hl
    go_enter Tryd.func63, Tryd.ntmps63
    go_wp2
    go_loopw [4, 10] (fun c i wr => ∃ (j : Nat) (cc : Int) (os : List Int), j ≤ m ∧ i = .int .i64 j ∧ c = .int .u64 cc ∧ 0 ≤ cc ∧ cc ≤ 1 ∧ AddInv g k w (Nm.val zs + Nm.val (ys.take j)) j cc os wr) (fun _ i _ => m - (intOf i).toNat)
    case atStart => exact ⟨0, 0, zs, Nat.zero_le _, rfl, rfl, by omega, by omega, I0⟩
    case round =>
      obtain ⟨j, cc, os, hj, rfl, rfl, hc0, hc1, I⟩ := hrel
      by_cases hlt : j < m
      · obtain ⟨x, hx, X⟩ : ∃ x, wr.cell? ⟨b, off + j, none⟩ = some (.int .u64 x) ∧ Hid (x = ys.getD j 0) :=
          ⟨_, (I.2.2.2.2.1.cell (p := ⟨b, off + j, none⟩) (hbg (by have := HM.out; omega))).trans (HC.out j (by have := HM.out; omega)), rfl⟩
        obtain ⟨y, hyc, Y⟩ : ∃ y, wr.cell? ⟨g, j, none⟩ = some (.int .u64 y) ∧ Hid (y = os.getD j 0) := ⟨_, I.1.cell j (by have := I.2.1; omega), rfl⟩
        have hfr := I.1.free j
        have hx0 : 0 ≤ x := by have := HY.out.at j; have := X.out; omega
        have hy0 : 0 ≤ y := by have := I.2.2.1.at j; have := Y.out; omega
        obtain ⟨s, S⟩ : ∃ s, Hid (s = (y + x + cc) % 18446744073709551616) := ⟨_, rfl⟩
        obtain ⟨c', C⟩ : ∃ c', Hid (c' = (y + x + cc) / 18446744073709551616) := ⟨_, rfl⟩
        have hc0' : 0 ≤ c' := by have := C.out; omega
        have hc1' : c' ≤ 1 := by have := C.out; have := I.2.2.1.at j; have := Y.out; have := HY.out.at j; have := X.out; omega
        have hjk : (j : Int) < (k : Int) := by omega
        go_wp2_with (simp only [add64' y x cc s c' hy0 hx0 hc0 hc1 S.out C.out])
        go_roundw
        case rel =>
          have hst := I.step (by omega) (x := x) (s := s) (c' := c') (by rw [← Y.out]; exact S.out) (by rw [← Y.out]; exact C.out)
          refine ⟨j + 1, c', os.set j s, by omega, by go_num, rfl, hc0', hc1', ?_⟩
          rw [Nm.val_take_succ ys j (by have := HM.out; omega), ← X.out]
          rw [← Int.add_assoc]
          exact hst
        case measure => simp [intOf]; omega
      · have hjm : j = m := by omega
        subst hjm
        have hT : Nm.val zs + Nm.val (ys.take j) = Nm.val zs + Nm.val ys := by rw [List.take_of_length_le (by have := HM.out; omega)]
        rw [hT] at I
        clear hT
        go_wp2
        go_loopw [4, 7] (fun c i wr => ∃ (t : Nat) (cc : Int) (os : List Int), t ≤ k ∧ i = .int .i64 t ∧ c = .int .u64 cc ∧ 0 ≤ cc ∧ cc ≤ 1 ∧ AddInv g k w (Nm.val zs + Nm.val ys) t cc os wr) (fun _ i _ => k - (intOf i).toNat)
        case atStart => exact ⟨j, cc, os, hmk, rfl, rfl, hc0, hc1, I⟩
        case round =>
          clear I hc0 hc1
          obtain ⟨t, cc, os, ht, rfl, rfl, hc0, hc1, I⟩ := hrel
          by_cases hz : cc = 0
          · subst hz
            have E : Wrote g k (Nm.val zs + Nm.val ys) w wr :=
              ⟨os, I.1, I.2.1, I.2.2.1, by have := I.2.2.2.1; omega, I.2.2.2.2.1, I.2.2.2.2.2⟩
            clear I
            go_wp2
            go_end0
            exact ⟨rfl, E⟩
          · have htk := I.end HT.out (by omega)
            have htk' : (t : Int) < (k : Int) := by omega
            obtain ⟨y, hyc, Y⟩ : ∃ y, wr.cell? ⟨g, t, none⟩ = some (.int .u64 y) ∧ Hid (y = os.getD t 0) := ⟨_, I.1.cell t (by have := I.2.1; omega), rfl⟩
            have hfr := I.1.free t
            have hy0 : 0 ≤ y := by have := I.2.2.1.at t; have := Y.out; omega
            obtain ⟨s, S⟩ : ∃ s, Hid (s = (y + 0 + cc) % 18446744073709551616) := ⟨_, rfl⟩
            obtain ⟨c', C⟩ : ∃ c', Hid (c' = (y + 0 + cc) / 18446744073709551616) := ⟨_, rfl⟩
            have hc0' : 0 ≤ c' := by have := C.out; omega
            have hc1' : c' ≤ 1 := by have := C.out; have := I.2.2.1.at t; have := Y.out; omega
            go_wp2_with (simp only [add64' y 0 cc s c' hy0 (Int.le_refl 0) hc0 hc1 S.out C.out])
            go_roundw
            case rel =>
              have hst := I.step (by omega) (x := 0) (s := s) (c' := c') (by rw [← Y.out]; exact S.out) (by rw [← Y.out]; exact C.out)
              rw [Int.mul_zero, Int.add_zero] at hst
              exact ⟨t + 1, c', os.set t s, by omega, by go_num, rfl, hc0', hc1', hst⟩
            case measure => simp [intOf]; omega
end Go.Proofs.YtmihjiiagpkciaaDoor
