/-
  Texts put together: QRef6, QNearD, QRef7, SRef1, SInN, SIn, PoR5, PoR6N.
-/
import Derived.Test.YtaoaniigbooihaaGreatDoorRB
import Derived.Test.YtaoaniigbooihaaGreatDoorRC
import Derived.Test.YtaoaniigbooihaaGreatDoorRD
import Derived.Test.YtaoaniigbooihaaGreatDoorSmallA
import Derived.Test.YtaoaniigbooihaaGreatDoorSTimes
import Derived.Test.YtaoaniigbooihaaGreatDoorRH
import Derived.Deep.CutRange
import Derived.Deep.CutBlock
import Derived.Deep.LoopGhost
import Derived.OwnWalk
namespace Go.Proofs.YtaoaniigbooihaaGreatDoor
open Go.RowKit Go.Deep

set_option maxRecDepth 100000 in
set_option maxHeartbeats 4000000 in
theorem refPlus_any (p q : Option Addr) (L1 cap L2 cap' n : Nat) (xs ys : List Int) (w : World) (ha : Arg w p L1 cap xs) (hb : Arg w q L2 cap' ys) (h1 : L1 ≤ n) (h2 : L2 ≤ n) (hmx : (n = L1 ∧ L2 ≤ L1) ∨ (n = L2 ∧ L1 < L2)) (hn0 : 0 < n) (hnb : n ≤ 1000000) :
    Calls Tryz.prog 173 #[.slice p L1 cap, .slice q L2 cap'] w fun e w' => ∃ r os, e = .returned (.slice r (List.length os) (List.length os)) ∧ Ans w.heap.size w' r os (Nm.val xs + Nm.val ys) ∧ Below w.heap.size w w' := by
  obtain ⟨a1, a2, a3, a4, a5⟩ := ha
  obtain ⟨b1, b2, b3, b4, b5⟩ := hb
  have hn44 : n ≤ 17592186044416 := by omega
  have hmk := make64 (n + 1) (by omega) w
  have em : ((n + 1 : Nat) : Int) = (n : Int) + 1 := by omega
  rw [em] at hmk
  clear em
  have ho : Own (w.alloc (.cells (madeCells #[.int .u64 0] (n + 1)) 26)) w.heap.size (List.replicate (n + 1) 0) := by
    rw [made_zero]; exact Own.alloc w _
  have hb0 : Below w.heap.size w (w.alloc (.cells (madeCells #[.int .u64 0] (n + 1)) 26)) := (Below.refl _ _).alloc (Nat.le_refl _) _
  obtain ⟨W0, hW0⟩ : ∃ W0, w.alloc (.cells (madeCells #[.int .u64 0] (n + 1)) 26) = W0 := ⟨_, rfl⟩
  rw [hW0] at hmk ho hb0
  clear hW0
  have I0 : MaInv w.heap.size (n + 1) W0 (Nm.val (xs.take 0) + Nm.val (ys.take 0)) 0 0 (List.replicate (n + 1) 0) W0 :=
    ⟨⟨ho, by simp, Nm.Limbs.replicate _, by simp [Nm.val_replicate, Nm.val], Below.refl _ _, rfl⟩, by omega, fun i _ => getD_replicate _ _⟩
  have HI0 := hid I0
  have HB0 := hid hb0
  have A1 := hid a1
  have A4 := hid a4
  have A5 := hid a5
  have B1 := hid b1
  have B4 := hid b4
  have B5 := hid b5
  have fin : ∀ (c : Int) (os : List Int) (wr : World), 0 ≤ c → c ≤ 1 → MaInv w.heap.size (n + 1) W0 (Nm.val (xs.take n) + Nm.val (ys.take n)) n c os wr →
      Own (wr.setCell ⟨w.heap.size, n, none⟩ (.int .u64 c)) w.heap.size (os.set n c) ∧ (os.set n c).length = n + 1 ∧ Nm.Limbs (os.set n c) ∧ Nm.val (os.set n c) = Nm.val xs + Nm.val ys ∧ Below w.heap.size w (wr.setCell ⟨w.heap.size, n, none⟩ (.int .u64 c)) := by
    intro c os wr c0 c1 I
    obtain ⟨⟨i1, i2, i3, i4, i5, i6⟩, i7, i8⟩ := I
    refine ⟨i1.set n c, by simpa using i2, i3.set n c0 (by omega), ?_, (hb0.trans i5).setCell (p := ⟨w.heap.size, n, none⟩) (Nat.le_refl _) _⟩
    rw [Nm.val_set _ _ _ (by omega), i8 n (Nat.le_refl _), Int.sub_zero, i4, List.take_of_length_le (by omega), List.take_of_length_le (by omega)]
  have FIN := hid fin
  have hL1n : (L1 : Int) ≤ (n : Int) := by omega
  have hL2n : (L2 : Int) ≤ (n : Int) := by omega
  clear fin I0 ho hb0 a1 a4 a5 b1 b4 b5
  rcases hmx with ⟨hmx1, hmx2⟩ | ⟨hmx1, hmx2⟩
  · subst hmx1
    have hgt : ¬ (n : Int) < (L2 : Int) := by omega
    go_enter Tryz.func173, Tryz.ntmps173
    go_wp2_with fail
    go_loopw [7, 8] (fun cc i wr => ∃ (j : Nat) (c : Int) (os : List Int), j ≤ n ∧ i = .int .i64 j ∧ cc = .int .u64 c ∧ (0 ≤ c ∧ c ≤ 1) ∧ Hid (MaInv w.heap.size (n + 1) W0 (Nm.val (xs.take j) + Nm.val (ys.take j)) j c os wr)) (fun _ i _ => n - (intOf i).toNat)
    case atStart => exact ⟨0, 0, _, Nat.zero_le _, rfl, rfl, by omega, HI0.out⟩
    case round =>
      clear HI0 hmk
      obtain ⟨j, c, os, hj, rfl, rfl, ⟨c0, c1⟩, I⟩ := hrel
      by_cases hlt : j < n
      · obtain ⟨y0, hy0⟩ : ∃ y, wr.cell? ⟨w.heap.size, j, none⟩ = some (.int .u64 y) := ⟨_, I.out.1.1.cell j (by have := I.out.1.2.1; omega)⟩
        have hfr := I.out.1.1.free j
        have hBw := HB0.out.trans I.out.1.2.2.2.2.1
        have hjn : (j : Int) < (n : Int) := by omega
        have hjn1 : (j : Int) < (n : Int) + 1 := by omega
        by_cases hx : j < n
        · obtain ⟨b, off, hp, hbw, HC⟩ := A4.out.at (by have := A1.out; omega)
          subst hp
          obtain ⟨x, hxc, X⟩ : ∃ x, wr.cell? ⟨b, off + j, none⟩ = some (.int .u64 x) ∧ Hid (x = xs.getD j 0) := ⟨_, (hBw.cell (p := ⟨b, off + j, none⟩) hbw).trans (HC.out j (by have := A1.out; omega)), rfl⟩
          have hx0 := A5.out.at j
          rw [← X.out] at hx0
          obtain ⟨hx0, hx1⟩ := hx0
          have hxl : (j : Int) < (n : Int) := by omega
          by_cases hy : j < L2
          · obtain ⟨b', off', hq, hbw', HC'⟩ := B4.out.at (by have := B1.out; omega)
            subst hq
            obtain ⟨y, hyc, Y⟩ : ∃ y, wr.cell? ⟨b', off' + j, none⟩ = some (.int .u64 y) ∧ Hid (y = ys.getD j 0) := ⟨_, (hBw.cell (p := ⟨b', off' + j, none⟩) hbw').trans (HC'.out j (by have := B1.out; omega)), rfl⟩
            have hyy0 := B5.out.at j
            rw [← Y.out] at hyy0
            obtain ⟨hyy0, hyy1⟩ := hyy0
            have hyl : (j : Int) < (L2 : Int) := by omega
            have HBw := hid hBw
            clear hBw
            rcases (show x + y + c < 18446744073709551616 ∨ (x + y < 18446744073709551616 ∧ 18446744073709551616 ≤ x + y + c) ∨ 18446744073709551616 ≤ x + y by omega) with k | k | k
            · have N := hid (plus_next I.out (s := x + y + c) (c' := 0) hlt (by omega) (by omega) (by rw [← X.out, ← Y.out]; omega))
              have k1 : ¬ x + y < x := by omega
              have k2 : ¬ x + y + c < c := by omega
              clear I
              go_wp2
              go_roundw
              case rel => exact ⟨j + 1, 0, _, by omega, by go_num, rfl, by omega, N.out⟩
              case measure => simp [intOf]; omega
            · obtain ⟨k1, k2⟩ := k
              have N := hid (plus_next I.out (s := x + y + c - 18446744073709551616) (c' := 1) hlt (by omega) (by omega) (by rw [← X.out, ← Y.out]; omega))
              have k3 : ¬ x + y < x := by omega
              have r2 := wrap_over k2 (by omega)
              have k4 : x + y + c - 18446744073709551616 < c := by omega
              clear I
              go_wp2
              go_roundw
              case rel => exact ⟨j + 1, 1, _, by omega, by go_num, rfl, by omega, N.out⟩
              case measure => simp [intOf]; omega
            · have N := hid (plus_next I.out (s := x + y - 18446744073709551616 + c) (c' := 1) hlt (by omega) (by omega) (by rw [← X.out, ← Y.out]; omega))
              have r2 := wrap_over k (by omega)
              have k3 : x + y - 18446744073709551616 < x := by omega
              have k4 : ¬ x + y - 18446744073709551616 + c < c := by omega
              clear I
              go_wp2
              go_roundw
              case rel => exact ⟨j + 1, 1, _, by omega, by go_num, rfl, by omega, N.out⟩
              case measure => simp [intOf]; omega
          · have YZ := hid (getD_out (zs := ys) (k := j) (by have := B1.out; omega))
            have hyl : ¬ (j : Int) < (L2 : Int) := by omega
            clear hBw
            rcases (show x + c < 18446744073709551616 ∨ 18446744073709551616 ≤ x + c by omega) with k | k
            · have N := hid (plus_next I.out (s := x + c) (c' := 0) hlt (by omega) (by omega) (by rw [← X.out, YZ.out]; omega))
              have k2 : ¬ x + c < c := by omega
              clear I
              go_wp2
              go_roundw
              case rel => exact ⟨j + 1, 0, _, by omega, by go_num, rfl, by omega, N.out⟩
              case measure => simp [intOf]; omega
            · have N := hid (plus_next I.out (s := x + c - 18446744073709551616) (c' := 1) hlt (by omega) (by omega) (by rw [← X.out, YZ.out]; omega))
              have r2 := wrap_over k (by omega)
              have k4 : x + c - 18446744073709551616 < c := by omega
              clear I
              go_wp2
              go_roundw
              case rel => exact ⟨j + 1, 1, _, by omega, by go_num, rfl, by omega, N.out⟩
              case measure => simp [intOf]; omega
        · exact absurd hlt hx
      · have hjn : j = n := by omega
        subst hjn
        have F := hid (FIN.out c os wr c0 c1 I.out)
        obtain ⟨y0, hy0⟩ : ∃ y, wr.cell? ⟨w.heap.size, j, none⟩ = some (.int .u64 y) := ⟨_, I.out.1.1.cell j (by have := I.out.1.2.1; omega)⟩
        have hfr := I.out.1.1.free j
        clear I
        go_wp2_with fail
        refine (short_some (some ⟨w.heap.size, 0, none⟩) (j + 1) (j + 1) (os.set j c) _ F.out.2.1 (by omega) F.out.1.lies F.out.2.2.1).mono ?_
        rintro e w2 ⟨r, us, rfl, -, A2, d2⟩
        have G : Hid (Ans w.heap.size w2 r us (Nm.val xs + Nm.val ys) ∧ Below w.heap.size w w2) := by
          rw [← F.out.2.2.2.1]
          exact ⟨A2.up F.out.2.2.2.2.size, chain F.out.2.2.2.2 d2 (Nat.le_refl _)⟩
        clear A2 d2
        go_wp2_with fail
        go_ret
        exact ⟨r, us, rfl, G.out.1, G.out.2⟩
  · subst hmx1
    have hgt : (L1 : Int) < (n : Int) := by omega
    go_enter Tryz.func173, Tryz.ntmps173
    go_wp2_with fail
    go_loopw [7, 8] (fun cc i wr => ∃ (j : Nat) (c : Int) (os : List Int), j ≤ n ∧ i = .int .i64 j ∧ cc = .int .u64 c ∧ (0 ≤ c ∧ c ≤ 1) ∧ Hid (MaInv w.heap.size (n + 1) W0 (Nm.val (xs.take j) + Nm.val (ys.take j)) j c os wr)) (fun _ i _ => n - (intOf i).toNat)
    case atStart => exact ⟨0, 0, _, Nat.zero_le _, rfl, rfl, by omega, HI0.out⟩
    case round =>
      clear HI0 hmk
      obtain ⟨j, c, os, hj, rfl, rfl, ⟨c0, c1⟩, I⟩ := hrel
      by_cases hlt : j < n
      · obtain ⟨y0, hy0⟩ : ∃ y, wr.cell? ⟨w.heap.size, j, none⟩ = some (.int .u64 y) := ⟨_, I.out.1.1.cell j (by have := I.out.1.2.1; omega)⟩
        have hfr := I.out.1.1.free j
        have hBw := HB0.out.trans I.out.1.2.2.2.2.1
        have hjn : (j : Int) < (n : Int) := by omega
        have hjn1 : (j : Int) < (n : Int) + 1 := by omega
        by_cases hx : j < L1
        · obtain ⟨b, off, hp, hbw, HC⟩ := A4.out.at (by have := A1.out; omega)
          subst hp
          obtain ⟨x, hxc, X⟩ : ∃ x, wr.cell? ⟨b, off + j, none⟩ = some (.int .u64 x) ∧ Hid (x = xs.getD j 0) := ⟨_, (hBw.cell (p := ⟨b, off + j, none⟩) hbw).trans (HC.out j (by have := A1.out; omega)), rfl⟩
          have hx0 := A5.out.at j
          rw [← X.out] at hx0
          obtain ⟨hx0, hx1⟩ := hx0
          have hxl : (j : Int) < (L1 : Int) := by omega
          by_cases hy : j < n
          · obtain ⟨b', off', hq, hbw', HC'⟩ := B4.out.at (by have := B1.out; omega)
            subst hq
            obtain ⟨y, hyc, Y⟩ : ∃ y, wr.cell? ⟨b', off' + j, none⟩ = some (.int .u64 y) ∧ Hid (y = ys.getD j 0) := ⟨_, (hBw.cell (p := ⟨b', off' + j, none⟩) hbw').trans (HC'.out j (by have := B1.out; omega)), rfl⟩
            have hyy0 := B5.out.at j
            rw [← Y.out] at hyy0
            obtain ⟨hyy0, hyy1⟩ := hyy0
            have hyl : (j : Int) < (n : Int) := by omega
            have HBw := hid hBw
            clear hBw
            rcases (show x + y + c < 18446744073709551616 ∨ (x + y < 18446744073709551616 ∧ 18446744073709551616 ≤ x + y + c) ∨ 18446744073709551616 ≤ x + y by omega) with k | k | k
            · have N := hid (plus_next I.out (s := x + y + c) (c' := 0) hlt (by omega) (by omega) (by rw [← X.out, ← Y.out]; omega))
              have k1 : ¬ x + y < x := by omega
              have k2 : ¬ x + y + c < c := by omega
              clear I
              go_wp2
              go_roundw
              case rel => exact ⟨j + 1, 0, _, by omega, by go_num, rfl, by omega, N.out⟩
              case measure => simp [intOf]; omega
            · obtain ⟨k1, k2⟩ := k
              have N := hid (plus_next I.out (s := x + y + c - 18446744073709551616) (c' := 1) hlt (by omega) (by omega) (by rw [← X.out, ← Y.out]; omega))
              have k3 : ¬ x + y < x := by omega
              have r2 := wrap_over k2 (by omega)
              have k4 : x + y + c - 18446744073709551616 < c := by omega
              clear I
              go_wp2
              go_roundw
              case rel => exact ⟨j + 1, 1, _, by omega, by go_num, rfl, by omega, N.out⟩
              case measure => simp [intOf]; omega
            · have N := hid (plus_next I.out (s := x + y - 18446744073709551616 + c) (c' := 1) hlt (by omega) (by omega) (by rw [← X.out, ← Y.out]; omega))
              have r2 := wrap_over k (by omega)
              have k3 : x + y - 18446744073709551616 < x := by omega
              have k4 : ¬ x + y - 18446744073709551616 + c < c := by omega
              clear I
              go_wp2
              go_roundw
              case rel => exact ⟨j + 1, 1, _, by omega, by go_num, rfl, by omega, N.out⟩
              case measure => simp [intOf]; omega
          · exact absurd hlt hy
        · have XZ := hid (getD_out (zs := xs) (k := j) (by have := A1.out; omega))
          have hxl : ¬ (j : Int) < (L1 : Int) := by omega
          have hy : j < n := by omega
          obtain ⟨b', off', hq, hbw', HC'⟩ := B4.out.at (by have := B1.out; omega)
          subst hq
          obtain ⟨y, hyc, Y⟩ : ∃ y, wr.cell? ⟨b', off' + j, none⟩ = some (.int .u64 y) ∧ Hid (y = ys.getD j 0) := ⟨_, (hBw.cell (p := ⟨b', off' + j, none⟩) hbw').trans (HC'.out j (by have := B1.out; omega)), rfl⟩
          have hyy0 := B5.out.at j
          rw [← Y.out] at hyy0
          obtain ⟨hyy0, hyy1⟩ := hyy0
          have hyl : (j : Int) < (n : Int) := by omega
          have hy00 : ¬ y < 0 := by omega
          clear hBw
          rcases (show y + c < 18446744073709551616 ∨ 18446744073709551616 ≤ y + c by omega) with k | k
          · have N := hid (plus_next I.out (s := y + c) (c' := 0) hlt (by omega) (by omega) (by rw [XZ.out, ← Y.out]; omega))
            have k2 : ¬ y + c < c := by omega
            clear I
            go_wp2
            go_roundw
            case rel => exact ⟨j + 1, 0, _, by omega, by go_num, rfl, by omega, N.out⟩
            case measure => simp [intOf]; omega
          · have N := hid (plus_next I.out (s := y + c - 18446744073709551616) (c' := 1) hlt (by omega) (by omega) (by rw [XZ.out, ← Y.out]; omega))
            have r2 := wrap_over k (by omega)
            have k4 : y + c - 18446744073709551616 < c := by omega
            clear I
            go_wp2
            go_roundw
            case rel => exact ⟨j + 1, 1, _, by omega, by go_num, rfl, by omega, N.out⟩
            case measure => simp [intOf]; omega
      · have hjn : j = n := by omega
        subst hjn
        have F := hid (FIN.out c os wr c0 c1 I.out)
        obtain ⟨y0, hy0⟩ : ∃ y, wr.cell? ⟨w.heap.size, j, none⟩ = some (.int .u64 y) := ⟨_, I.out.1.1.cell j (by have := I.out.1.2.1; omega)⟩
        have hfr := I.out.1.1.free j
        clear I
        go_wp2_with fail
        refine (short_some (some ⟨w.heap.size, 0, none⟩) (j + 1) (j + 1) (os.set j c) _ F.out.2.1 (by omega) F.out.1.lies F.out.2.2.1).mono ?_
        rintro e w2 ⟨r, us, rfl, -, A2, d2⟩
        have G : Hid (Ans w.heap.size w2 r us (Nm.val xs + Nm.val ys) ∧ Below w.heap.size w w2) := by
          rw [← F.out.2.2.2.1]
          exact ⟨A2.up F.out.2.2.2.2.size, chain F.out.2.2.2.2 d2 (Nat.le_refl _)⟩
        clear A2 d2
        go_wp2_with fail
        go_ret
        exact ⟨r, us, rfl, G.out.1, G.out.2⟩
end Go.Proofs.YtaoaniigbooihaaGreatDoor

namespace Go.Proofs.YtaoaniigbooihaaGreatDoor
open Go Go.RowKit Go.Deep

/-- The whole number nearest to A / B, of two the even one. -/
def nearI (A B : Int) : Int := if 2 * (A % B) < B ∨ (2 * (A % B) = B ∧ A / B % 2 = 0) then A / B else A / B + 1

/-- What DivMod's numbers keep to. -/
theorem split_facts {A B P : Int} (hA : 0 ≤ A) (hAP : A < P) (hB : 0 < B) : A / B * B + A % B = A ∧ A / B < P ∧ A % B < P ∧ A / B * B < P ∧ 0 ≤ A % B ∧ A % B < B ∧ 0 ≤ A / B ∧ (0 < A % B → A / B + 1 < P) := by
  have ed := Int.emod_add_mul_ediv A B
  have e0 := Int.emod_nonneg A (show B ≠ 0 by omega)
  have e1 := Int.emod_lt_of_pos A hB
  have e2 : 0 ≤ A / B := Int.ediv_nonneg hA (by omega)
  have e3 : A / B * 1 ≤ A / B * B := Int.mul_le_mul_of_nonneg_left (by omega) e2
  rw [Int.mul_comm] at ed
  refine ⟨by omega, by omega, by omega, by omega, e0, e1, e2, fun h => by omega⟩

/-- An answer that stays below 2^(64 * 4096), as an argument. -/
theorem Ans.argS {B : Nat} {w : World} {p : Option Addr} {ys : List Int} {n : Int} (h : Ans B w p ys n) (hn : n < Nm.pw 4096) : Arg w p ys.length ys.length ys :=
  h.arg (by have := h.small hn; omega)

theorem Ans.ts {B : Nat} {w : World} {p : Option Addr} {ys : List Int} {n : Int} (h : Ans B w p ys n) (hn : n < Nm.pw 4096) : Nm.tsize ys ≤ 4096 := by
  rw [h.2.2.1]
  exact h.small hn
end Go.Proofs.YtaoaniigbooihaaGreatDoor

namespace Go.Proofs.YtaoaniigbooihaaGreatDoor
open Go.RowKit Go.Deep

theorem rdm_big (p q : Option Addr) (n cap m cap' : Nat) (zs ys : List Int) (w : World) (ha : Arg w p n cap zs) (hb : Arg w q m cap' ys) (h : 4096 < Nm.tsize zs ∨ 4096 < Nm.tsize ys) :
    Calls Tryz.prog 170 #[.slice p n cap, .slice q m cap'] w fun e w' => e = .returned (.tuple #[.slice none 0 0, .slice none 0 0, .int .i64 2]) ∧ w' = w := by
  have hn := ha.2.1
  have hn' := ha.2.2.1
  have hm := hb.2.1
  have hm' := hb.2.2.1
  have L1 := hid (top_any p n cap zs w ha.1 (by omega) ha.2.2.2.1)
  have L2 := hid (top_any q m cap' ys w hb.1 (by omega) hb.2.2.2.1)
  by_cases h1 : 4096 < Nm.tsize zs
  · have h1' : (4096 : Int) < (Nm.tsize zs : Int) := by omega
    go_enter Tryz.func170, Tryz.ntmps170
    go_wp2_with fail
    refine L1.out.mono ?_
    rintro e w' ⟨rfl, rfl⟩
    go_wp2_with fail
    go_ret3
    exact ⟨rfl, rfl⟩
  · have h1' : (Nm.tsize zs : Int) ≤ 4096 := by omega
    have h2' : (4096 : Int) < (Nm.tsize ys : Int) := by omega
    go_enter Tryz.func170, Tryz.ntmps170
    go_wp2_with fail
    refine L1.out.mono ?_
    rintro e w' ⟨rfl, rfl⟩
    go_wp2_with fail
    refine L2.out.mono ?_
    rintro e w' ⟨rfl, rfl⟩
    go_wp2_with fail
    go_ret3
    exact ⟨rfl, rfl⟩

theorem rdm_zero (p q : Option Addr) (n cap m cap' : Nat) (zs ys : List Int) (w : World) (ha : Arg w p n cap zs) (hb : Arg w q m cap' ys) (tz : Nm.tsize zs ≤ 4096) (ty : Nm.tsize ys = 0) :
    Calls Tryz.prog 170 #[.slice p n cap, .slice q m cap'] w fun e w' => e = .returned (.tuple #[.slice none 0 0, .slice none 0 0, .int .i64 4]) ∧ w' = w := by
  have hn := ha.2.1
  have hn' := ha.2.2.1
  have hm := hb.2.1
  have hm' := hb.2.2.1
  have L1 := hid (top_any p n cap zs w ha.1 (by omega) ha.2.2.2.1)
  have L2 := top_any q m cap' ys w hb.1 (by omega) hb.2.2.2.1
  have h1' : (Nm.tsize zs : Int) ≤ 4096 := by omega
  rw [ty] at L2
  have HL2 := hid L2
  clear L2
  go_enter Tryz.func170, Tryz.ntmps170
  go_wp2_with fail
  refine L1.out.mono ?_
  rintro e w' ⟨rfl, rfl⟩
  go_wp2_with fail
  refine HL2.out.mono ?_
  rintro e w' ⟨rfl, rfl⟩
  go_wp2_with fail
  refine HL2.out.mono ?_
  rintro e w' ⟨rfl, rfl⟩
  go_wp2_with fail
  go_ret3
  exact ⟨rfl, rfl⟩

theorem rdm_ok (p q : Option Addr) (n cap m cap' : Nat) (zs ys : List Int) (w : World) (ha : Arg w p n cap zs) (hb : Arg w q m cap' ys) (tz : Nm.tsize zs ≤ 4096) (ty : Nm.tsize ys ≤ 4096) (hy : 0 < Nm.tsize ys) :
    Calls Tryz.prog 170 #[.slice p n cap, .slice q m cap'] w fun e w' => Splits (Nm.val zs) (Nm.val ys) w e w' := by
  have hn := ha.2.1
  have hn' := ha.2.2.1
  have hm := hb.2.1
  have hm' := hb.2.2.1
  have L1 := hid (top_any p n cap zs w ha.1 (by omega) ha.2.2.2.1)
  have L2 := hid (top_any q m cap' ys w hb.1 (by omega) hb.2.2.2.1)
  have DV := hid (refDivide_any p q n cap m cap' zs ys w ha hb tz ty hy)
  have h1' : (Nm.tsize zs : Int) ≤ 4096 := by omega
  have h2' : (Nm.tsize ys : Int) ≤ 4096 := by omega
  have h3' : ((Nm.tsize ys : Int) == 0) = false := by rw [beq_eq_false_iff_ne]; omega
  clear ha hb tz ty hy
  go_enter Tryz.func170, Tryz.ntmps170
  go_wp2_with fail
  refine L1.out.mono ?_
  rintro e w' ⟨rfl, rfl⟩
  go_wp2_with fail
  refine L2.out.mono ?_
  rintro e w' ⟨rfl, rfl⟩
  go_wp2_with fail
  refine L2.out.mono ?_
  rintro e w' ⟨rfl, rfl⟩
  go_wp2_with fail
  refine DV.out.mono ?_
  rintro e w1 ⟨r1, os, r2, rs, rfl, A1, A2, hb⟩
  have F : Hid (Splits (Nm.val zs) (Nm.val ys) w' (.returned (.tuple #[.slice r1 (List.length os) (List.length os), .slice r2 (List.length rs) (List.length rs), .int .i64 0])) w1) := ⟨r1, os, r2, rs, rfl, A1, A2, hb⟩
  clear A1 A2 hb DV
  go_wp2_with fail
  go_ret3
  exact F.out

theorem rnear_big (p q : Option Addr) (n cap m cap' : Nat) (zs ys : List Int) (w : World) (ha : Arg w p n cap zs) (hb : Arg w q m cap' ys) (h : 4096 < Nm.tsize zs ∨ 4096 < Nm.tsize ys) :
    Calls Tryz.prog 145 #[.slice p n cap, .slice q m cap'] w fun e w' => e = .returned (.tuple #[.slice none 0 0, .int .i64 2]) ∧ w' = w := by
  have H := hid (rdm_big p q n cap m cap' zs ys w ha hb h)
  clear h
  go_enter Tryz.func145, Tryz.ntmps145
  go_wp2_with fail
  refine H.out.mono ?_
  rintro e w' ⟨rfl, rfl⟩
  go_wp2_with fail
  go_ret2
  exact ⟨rfl, rfl⟩

theorem rnear_zero (p q : Option Addr) (n cap m cap' : Nat) (zs ys : List Int) (w : World) (ha : Arg w p n cap zs) (hb : Arg w q m cap' ys) (tz : Nm.tsize zs ≤ 4096) (ty : Nm.tsize ys = 0) :
    Calls Tryz.prog 145 #[.slice p n cap, .slice q m cap'] w fun e w' => e = .returned (.tuple #[.slice none 0 0, .int .i64 4]) ∧ w' = w := by
  have H := hid (rdm_zero p q n cap m cap' zs ys w ha hb tz ty)
  clear ty
  go_enter Tryz.func145, Tryz.ntmps145
  go_wp2_with fail
  refine H.out.mono ?_
  rintro e w' ⟨rfl, rfl⟩
  go_wp2_with fail
  go_ret2
  exact ⟨rfl, rfl⟩

/-- The lowest limb tells whether a number is odd. -/
theorem odd_low {os : List Int} : os.getD 0 0 % 2 = Nm.val os % 2 := by
  cases os with
  | nil => rfl
  | cons z zs => simp only [List.getD_cons_zero, Nm.val]; omega

/-- The end of the reference's Near: one more, or not. -/
def NearEnd (A B Q : Int) (w : World) (s1 : Option Addr) (os : List Int) : Prop :=
  ∀ (w3 : World), Below w.heap.size w w3 → Ans w.heap.size w3 s1 os Q → nearI A B = Q + 1 →
    Calls Tryz.prog 173 #[.slice s1 (List.length os) (List.length os), .slice (some ⟨w3.heap.size, 0, none⟩) 1 1] (w3.alloc (.cells #[.int .u64 1] 26)) fun e w' => ∃ r us, e = .returned (.slice r (List.length us) (List.length us)) ∧ Ans w.heap.size w' r us (nearI A B) ∧ Below w.heap.size w w'

theorem near_end {A B Q : Int} {w : World} {s1 : Option Addr} {os : List Int} (hQ : Q < Nm.pw 4096) : NearEnd A B Q w s1 os := by
  intro w3 hb ha hn
  have hb4 : Below w3.heap.size w3 (w3.alloc (.cells #[.int .u64 1] 26)) := (Below.refl _ _).alloc (Nat.le_refl _) _
  have A5 : Arg (w3.alloc (.cells #[.int .u64 1] 26)) (some ⟨w3.heap.size, 0, none⟩) 1 1 [1] := ⟨rfl, Nat.le_refl _, by omega, (Own.alloc w3 [1]).lies, limb_one (by omega)⟩
  have hA := ha.below hb4 (Nat.le_refl _)
  have hs := ha.small hQ
  have fin : ∀ (e : Ending) (w' : World), (∃ r us, e = .returned (.slice r (List.length us) (List.length us)) ∧ Ans (w3.alloc (.cells #[.int .u64 1] 26)).heap.size w' r us (Nm.val os + Nm.val [1]) ∧ Below (w3.alloc (.cells #[.int .u64 1] 26)).heap.size (w3.alloc (.cells #[.int .u64 1] 26)) w') →
      ∃ r us, e = .returned (.slice r (List.length us) (List.length us)) ∧ Ans w.heap.size w' r us (nearI A B) ∧ Below w.heap.size w w' := by
    rintro e w' ⟨r, us, rfl, h1, h2⟩
    rw [hA.2.2.2.1, show Nm.val [1] = 1 by simp [Nm.val], ← hn] at h1
    have c4 := chain hb hb4 (Nat.le_refl _)
    exact ⟨r, us, rfl, h1.up c4.size, chain c4 h2 (Nat.le_refl _)⟩
  by_cases h0 : 1 ≤ os.length
  · exact (refPlus_any s1 _ os.length os.length 1 1 os.length os [1] _ (hA.argS hQ) A5 (Nat.le_refl _) h0 (.inl ⟨rfl, h0⟩) (by omega) (by omega)).mono fin
  · exact (refPlus_any s1 _ os.length os.length 1 1 1 os [1] _ (hA.argS hQ) A5 (by omega) (Nat.le_refl _) (.inr ⟨rfl, by omega⟩) (by omega) (by omega)).mono fin

set_option maxRecDepth 100000 in
set_option maxHeartbeats 4000000 in
theorem rnear_ok (p q : Option Addr) (n cap m cap' : Nat) (za zb : List Int) (w : World) (ha : Arg w p n cap za) (hb : Arg w q m cap' zb) (tz : Nm.tsize za ≤ 4096) (ty : Nm.tsize zb ≤ 4096) (hy : 0 < Nm.tsize zb) :
    Calls Tryz.prog 145 #[.slice p n cap, .slice q m cap'] w fun e w' => ∃ r os, e = .returned (.tuple #[.slice r (List.length os) (List.length os), .int .i64 0]) ∧ Ans w.heap.size w' r os (nearI (Nm.val za) (Nm.val zb)) ∧ Below w.heap.size w w' := by
  have va := (Nm.val_bd za ha.2.2.2.2).1
  have vb : 0 < Nm.val zb := by
    have h1 := Nm.tsize_zero_iff hb.2.2.2.2
    have h2 := (Nm.val_bd zb hb.2.2.2.2).1
    omega
  have hs : Nm.val za < Nm.pw 4096 := (Nm.tsize_le_iff ha.2.2.2.2 4096).1 tz
  have SF := hid (split_facts va hs vb)
  have DM := hid (rdm_ok p q n cap m cap' za zb w ha hb tz ty hy)
  have HB := hid hb
  obtain ⟨A, hA⟩ : ∃ A, Nm.val za = A := ⟨_, rfl⟩
  obtain ⟨B, hB⟩ : ∃ B, Nm.val zb = B := ⟨_, rfl⟩
  rw [hA, hB] at SF DM
  have HVB := hid hB
  rw [hA, hB]
  clear va vb hs ha hb tz ty hy hA hB
  obtain ⟨Q, hQ⟩ : ∃ Q, A / B = Q := ⟨_, rfl⟩
  obtain ⟨R, hR⟩ : ∃ R, A % B = R := ⟨_, rfl⟩
  simp only [Splits, hQ, hR] at DM
  rw [hQ, hR] at SF
  have NI : Hid (nearI A B = if 2 * R < B ∨ (2 * R = B ∧ Q % 2 = 0) then Q else Q + 1) := by show _ = _; rw [nearI, hQ, hR]
  clear hQ hR
  go_enter Tryz.func145, Tryz.ntmps145
  go_wp2_with fail
  refine DM.out.mono ?_
  rintro e w1 ⟨s1, os, s2, rs, rfl, B1, B2, hb1⟩
  have HB1 := hid B1
  have HB2 := hid B2
  have D1 := hid hb1
  have HBB := hid (HB.out.below hb1 (Nat.le_refl _))
  have hrl : Hid (rs.length ≤ 4096) := B2.small SF.out.2.2.1
  clear B1 B2 hb1 DM
  go_wp2_with fail
  refine (doubled_any s2 rs.length rs.length rs 0 _ rfl (by have := hrl.out; omega) HB2.out.1 HB2.out.2.1 (by omega) (by omega)).mono ?_
  rintro e w2 ⟨ds, rfl, K⟩
  have AD : Hid (Arg w2 (some ⟨w1.heap.size, 0, none⟩) (rs.length + 1) (rs.length + 1) ds) := ⟨K.out.2.1, Nat.le_refl _, by have := hrl.out; omega, K.out.1.lies, K.out.2.2.1⟩
  have VD : Hid (Nm.val ds = 2 * R) := by show _ = _; rw [K.out.2.2.2.1, HB2.out.2.2.2.1]; omega
  have D2 := hid (chain D1.out K.out.2.2.2.2 (Nat.le_refl _))
  have HB1' := hid (HB1.out.below K.out.2.2.2.2 (Nat.le_refl _))
  have HBB' := hid (HBB.out.below K.out.2.2.2.2 (Nat.le_refl _))
  clear K HB1 HB2 D1 HBB
  obtain ⟨c, HC⟩ : ∃ c, Hid (cmpI (2 * R) B = c) := ⟨_, rfl⟩
  go_wp2_with fail
  refine (order_is c _ q _ _ m cap' ds zb _ AD.out HBB'.out (by rw [VD.out, HVB.out]; exact HC.out)).mono ?_
  rintro e w3 ⟨rfl, hb3⟩
  have HB1 := hid (HB1'.out.below hb3 (Nat.le_refl _))
  have D3 := hid (chain D2.out hb3 (Nat.le_refl _))
  clear hb3 HB1' D2 AD VD HBB'
  have NE := hid (near_end (A := A) (B := B) (w := w) (s1 := s1) (os := os) SF.out.2.1)
  have fin : nearI A B = Q → ∃ r os', Ending.returned (.tuple #[.slice s1 (List.length os) (List.length os), .int .i64 0]) = .returned (.tuple #[.slice r (List.length os') (List.length os'), .int .i64 0]) ∧ Ans w.heap.size w3 r os' (nearI A B) ∧ Below w.heap.size w w3 :=
    fun e => ⟨s1, os, rfl, by rw [e]; exact HB1.out, D3.out⟩
  have FIN := hid fin
  have OD := hid (odd_low (os := os))
  rw [HB1.out.2.2.2.1] at OD
  clear fin
  by_cases h0 : os.length = 0
  · have hQ0 : Q = 0 := by
      have h1 := HB1.out.2.2.2.1
      rw [List.eq_nil_of_length_eq_zero h0] at h1
      simp [Nm.val] at h1
      omega
    have hl0 : ¬ (0 : Int) < (os.length : Int) := by omega
    have HQ0 := hid hQ0
    clear h0 hQ0
    rcases (show 2 * R < B ∨ 2 * R = B ∨ B < 2 * R by omega) with h | h | h
    · have hc : c = -1 := by rw [← HC.out]; exact cmpI_lt h
      have E : Hid (nearI A B = Q) := by show _ = _; rw [NI.out, if_pos (.inl h)]
      subst hc
      clear h
      go_wp2_with fail
      go_ret2
      exact FIN.out E.out
    · have hc : c = 0 := by rw [← HC.out]; exact cmpI_eq h
      have E : Hid (nearI A B = Q) := by show _ = _; rw [NI.out, if_pos (.inr ⟨h, by rw [HQ0.out]; rfl⟩)]
      subst hc
      clear h
      go_wp2_with fail
      go_ret2
      exact FIN.out E.out
    · have hc : c = 1 := by rw [← HC.out]; exact cmpI_gt h
      have E : Hid (nearI A B = Q + 1) := by show _ = _; rw [NI.out, if_neg (by omega)]
      subst hc
      clear h
      have PL := hid (NE.out w3 D3.out HB1.out E.out)
      go_wp2_with fail
      refine PL.out.mono ?_
      rintro e w5 ⟨t, us, rfl, B5, hb5⟩
      have HB5 := hid B5
      have D5 := hid hb5
      clear B5 hb5
      go_wp2_with fail
      go_ret2
      exact ⟨t, us, rfl, HB5.out, D5.out⟩
  · have hl0 : (0 : Int) < (os.length : Int) := by omega
    obtain ⟨b, off, hp, hbw, HC1⟩ := HB1.out.1.at (by omega)
    subst hp
    obtain ⟨x, hx, X⟩ : ∃ x, w3.cell? ⟨b, off, none⟩ = some (.int .u64 x) ∧ Hid (x = os.getD 0 0) := ⟨_, HC1.out 0 (by omega), rfl⟩
    rw [← X.out] at OD
    have hx0 := HB1.out.2.1.at 0
    rw [← X.out] at hx0
    obtain ⟨hx0, hx1⟩ := hx0
    clear h0
    rcases (show 2 * R < B ∨ (2 * R = B ∧ Q % 2 = 0) ∨ (2 * R = B ∧ Q % 2 = 1) ∨ B < 2 * R by omega) with h | h | h | h
    · have hc : c = -1 := by rw [← HC.out]; exact cmpI_lt h
      have E : Hid (nearI A B = Q) := by show _ = _; rw [NI.out, if_pos (.inl h)]
      subst hc
      clear h
      go_wp2_with fail
      go_ret2
      exact FIN.out E.out
    · have hc : c = 0 := by rw [← HC.out]; exact cmpI_eq h.1
      have E : Hid (nearI A B = Q) := by show _ = _; rw [NI.out, if_pos (.inr h)]
      have hm2 : x % 2 = 0 := OD.out.trans h.2
      subst hc
      clear h
      go_wp2_with fail
      go_ret2
      exact FIN.out E.out
    · have hc : c = 0 := by rw [← HC.out]; exact cmpI_eq h.1
      have E : Hid (nearI A B = Q + 1) := by show _ = _; rw [NI.out, if_neg (by omega)]
      have hm2 : x % 2 = 1 := OD.out.trans h.2
      subst hc
      clear h
      have PL := hid (NE.out w3 D3.out HB1.out E.out)
      go_wp2_with fail
      refine PL.out.mono ?_
      rintro e w5 ⟨t, us, rfl, B5, hb5⟩
      have HB5 := hid B5
      have D5 := hid hb5
      clear B5 hb5
      go_wp2_with fail
      go_ret2
      exact ⟨t, us, rfl, HB5.out, D5.out⟩
    · have hc : c = 1 := by rw [← HC.out]; exact cmpI_gt h
      have E : Hid (nearI A B = Q + 1) := by show _ = _; rw [NI.out, if_neg (by omega)]
      subst hc
      clear h
      have PL := hid (NE.out w3 D3.out HB1.out E.out)
      go_wp2_with fail
      refine PL.out.mono ?_
      rintro e w5 ⟨t, us, rfl, B5, hb5⟩
      have HB5 := hid B5
      have D5 := hid hb5
      clear B5 hb5
      go_wp2_with fail
      go_ret2
      exact ⟨t, us, rfl, HB5.out, D5.out⟩
end Go.Proofs.YtaoaniigbooihaaGreatDoor

namespace Go.Proofs.YtaoaniigbooihaaGreatDoor
open Go.RowKit Go.Deep

/-- The number of limbs, as the statements count it. -/
theorem slimbs_any (p : Option Addr) (n cap : Nat) (zs : List Int) (w : World) (hn : zs.length = n) (hm : n ≤ 140737488355328) (h : Lies w p zs) :
    Calls Tryz.prog 199 #[.slice p n cap] w fun e w' => e = .returned (.int .i64 (Nm.tsize zs)) ∧ w' = w := by
  rcases h with rfl | ⟨b, off, rfl, hcell⟩
  · have hn0 : n = 0 := by simpa using hn.symm
    subst hn0
    go_enter Tryz.func199, Tryz.ntmps199
    go_wp2
    refine wp_loop_rounds 1 ?_
    rw [rounds_succ]
    go_wp2
    go_ret
    exact ⟨rfl, rfl⟩
  · have H : Hid (zs.length = n) := hn
    have HC : Hid (∀ i, i < zs.length → w.cell? ⟨b, off + i, none⟩ = some (.int .u64 (zs.getD i 0))) := hcell
    clear hn hcell
    go_enter Tryz.func199, Tryz.ntmps199
    go_wp2
    go_loop [3] (fun t => ∃ k : Nat, k ≤ n ∧ t = .int .i64 k ∧ Hid (∀ j, k ≤ j → zs.getD j 0 = 0)) (fun t => (intOf t).toNat)
    case atStart => exact ⟨n, Nat.le_refl _, rfl, fun j hj => by simp [List.getD, List.getElem?_eq_none (show zs.length ≤ j by have := H.out; omega)]⟩
    case round =>
      obtain ⟨k, hk, rfl, hz⟩ := hrel
      by_cases h0 : k = 0
      · subst h0
        go_wp2
        go_ret
        exact ⟨by rw [Nm.tsize_unique zs 0 hz.out (.inl rfl)]; rfl, rfl⟩
      · obtain ⟨j, rfl⟩ : ∃ j, k = j + 1 := ⟨k - 1, by omega⟩
        obtain ⟨x, hx, X⟩ : ∃ x, w.cell? ⟨b, off + j, none⟩ = some (.int .u64 x) ∧ Hid (x = zs.getD j 0) := ⟨_, HC.out j (by have := H.out; omega), rfl⟩
        by_cases hx0 : x = 0
        · subst hx0
          go_wp2
          go_round
          case rel =>
            refine ⟨j, by omega, rfl, fun i hi => ?_⟩
            by_cases e : i = j
            · subst e; exact X.out.symm
            · exact hz.out i (by omega)
          case measure => simp [intOf]
        · go_wp2
          go_ret
          exact ⟨by rw [Nm.tsize_unique zs (j + 1) hz.out (.inr (by rw [Nat.add_sub_cancel, ← X.out]; exact hx0))]; rfl, rfl⟩

def vv (x : Int) : Int := if 48 ≤ x ∧ x ≤ 57 then x - 48 else if 97 ≤ x ∧ x ≤ 122 then x - 97 + 10 else if 65 ≤ x ∧ x ≤ 90 then x - 65 + 10 else 99

theorem vv_wv (x B : Int) (h36 : B ≤ 36) : (vv x < B ↔ wv x < B) ∧ 0 ≤ vv x ∧ vv x ≤ 99 := by
  unfold vv wv
  split
  · omega
  · split
    · omega
    · split <;> omega

theorem retV64 {a b : Int} (h : a = b) : Ending.returned (.int .i64 a) = .returned (.int .i64 b) := by rw [h]

/-- The byte of a digit. -/
def dgt (v : Int) (up : Bool) : Int := if v < 10 then 48 + v else if up then 65 + v - 10 else 97 + v - 10

theorem ret_u8 {a b : Int} (h : a = b) : Ending.returned (.int .u8 a) = .returned (.int .u8 b) := by rw [h]

set_option maxRecDepth 100000 in
theorem sdigit_any (v : Int) (up : Bool) (w : World) (h0 : 0 ≤ v) (h1 : v < 36) : Calls Tryz.prog 202 #[.int .i64 v, .bool up] w fun e w' => e = .returned (.int .u8 (dgt v up)) ∧ w' = w := by
  by_cases h : v < 10
  · have E : Hid (48 + v = dgt v up) := by show _ = _; rw [dgt, if_pos h]
    go_enter Tryz.func202, Tryz.ntmps202
    go_wp2
    go_ret
    exact ⟨ret_u8 E.out, rfl⟩
  · cases up with
    | true =>
      have E : Hid (65 + v - 10 = dgt v true) := by show _ = _; rw [dgt, if_neg h]; rfl
      have h2 : 10 ≤ v := by omega
      clear h
      go_enter Tryz.func202, Tryz.ntmps202
      go_wp2
      go_ret
      exact ⟨ret_u8 E.out, rfl⟩
    | false =>
      have E : Hid (97 + v - 10 = dgt v false) := by show _ = _; rw [dgt, if_neg h]; rfl
      have h2 : 10 ≤ v := by omega
      clear h
      go_enter Tryz.func202, Tryz.ntmps202
      go_wp2
      go_ret
      exact ⟨ret_u8 E.out, rfl⟩

set_option maxRecDepth 100000 in
set_option maxHeartbeats 1000000 in
theorem sgroup_any (B : Int) (w : World) (h2 : 2 ≤ B) (h36 : B ≤ 36) :
    Calls Tryz.prog 200 #[.int .i64 B] w fun e w' => (∃ (k : Nat) (P : Int), e = .returned (.tuple #[.int .i64 (k : Int), .int .u64 P]) ∧ P = B ^ k ∧ k ≤ 30 ∧ 1 ≤ P ∧ P < 2147483648 ∧ 2147483648 ≤ P * B) ∧ w' = w := by
  go_enter Tryz.func200, Tryz.ntmps200
  go_wp2_with fail
  go_loop [4, 5] (fun c p => ∃ (P : Int) (k : Nat), p = .int .u64 P ∧ c = .int .i64 (k : Int) ∧ 1 ≤ P ∧ P < 2147483648 ∧ Hid (P = B ^ k ∧ k ≤ 30)) (fun c _ => 31 - (intOf c).toNat)
  case atStart => exact ⟨1, 0, rfl, rfl, by omega, by omega, by rw [Int.pow_zero], by omega⟩
  case round =>
    obtain ⟨P, k, rfl, rfl, hP1, hP2, F⟩ := hrel
    have hk : (k : Int) ≤ 30 := by have := F.out.2; omega
    have hm0 : P * 1 ≤ P * B := Int.mul_le_mul_of_nonneg_left (by omega) (by omega)
    have hm1 : P * B ≤ P * 36 := Int.mul_le_mul_of_nonneg_left h36 (by omega)
    obtain ⟨Q, hQ⟩ : ∃ Q, P * B = Q := ⟨_, rfl⟩
    have q1 : IntKind.u64.wrap (P * B) = Q := by rw [hQ, IntKind.wrap_u64]; omega
    have hq0 : 1 ≤ Q := by omega
    have hq1 : Q < 18446744073709551616 := by omega
    have HQ := hid hQ
    clear hm0 hm1 hQ
    by_cases hlt : Q < 2147483648
    · have K2 : Hid (Q = B ^ (k + 1) ∧ k + 1 ≤ 30) := by
        have e : Q = B ^ (k + 1) := by rw [Int.pow_succ, ← F.out.1, HQ.out]
        refine ⟨e, ?_⟩
        have := Ln.small (A := B ^ (k + 1)) (L := 31) h2 (Int.le_refl _) (by rw [← e, show (2 : Int) ^ 31 = 2147483648 by decide]; exact hlt)
        omega
      go_wp2_with fail
      go_round
      case rel => exact ⟨Q, k + 1, rfl, by go_num, hq0, hlt, K2.out⟩
      case measure => simp [intOf]; have := F.out.2; omega
    · go_wp2_with fail
      go_ret2
      exact ⟨⟨k, P, rfl, F.out.1, F.out.2, hP1, hP2, by rw [HQ.out]; omega⟩, rfl⟩
end Go.Proofs.YtaoaniigbooihaaGreatDoor

namespace Go.Proofs.YtaoaniigbooihaaGreatDoor
open Go.RowKit Go.Deep
namespace Gn

theorem pb_pow (B : Int) : ∀ n, pb B n = B ^ n
  | 0 => by simp [pb]
  | n + 1 => by
    have : pb B (n + 1) = B * pb B n := by first | rfl | (simp only [pb]; omega)
    rw [this, pb_pow B n, Int.pow_succ, Int.mul_comm]
theorem gv_lt {B : Int} (hB : 0 < B) : ∀ (zs : List Int), Digs B zs → 0 ≤ gv B zs ∧ gv B zs < B ^ zs.length
  | [], _ => by simp [gv]
  | z :: zs, h => by
    have hz := h z (by simp)
    have ih := gv_lt hB zs (fun y hy => h y (by simp [hy]))
    have e : gv B (z :: zs) = z + B * gv B zs := by first | rfl | (simp only [gv]; omega)
    rw [e, List.length_cons, Int.pow_succ]
    have m1 : 0 ≤ B * gv B zs := Int.mul_nonneg (by omega) ih.1
    have m2 : B * (gv B zs + 1) ≤ B * B ^ zs.length := Int.mul_le_mul_of_nonneg_left (by omega) (by omega)
    rw [Int.mul_add] at m2
    rw [Int.mul_comm (B ^ zs.length) B]
    omega
theorem gv_at {B : Int} (hB : 0 < B) : ∀ (zs : List Int) (i : Nat), Digs B zs → i < zs.length → gv B zs / B ^ i % B = zs.getD i 0
  | [], i, _, hi => by simp at hi
  | z :: zs, 0, h, _ => by
    have hz := h z (by simp)
    have e : gv B (z :: zs) = z + B * gv B zs := by first | rfl | (simp only [gv]; omega)
    rw [e, Int.pow_zero, Int.ediv_one, Int.add_mul_emod_self_left, Int.emod_eq_of_lt hz.1 hz.2]
    rfl
  | z :: zs, i + 1, h, hi => by
    have hz := h z (by simp)
    have e : gv B (z :: zs) = z + B * gv B zs := by first | rfl | (simp only [gv]; omega)
    have ih := gv_at hB zs i (fun y hy => h y (by simp [hy])) (by simpa using hi)
    have p : (z + B * gv B zs) / B ^ (i + 1) = gv B zs / B ^ i := by
      rw [Int.pow_succ, Int.mul_comm (B ^ i) B, ← Int.ediv_ediv_of_nonneg (by omega), Int.add_mul_ediv_left _ _ (by omega), Int.ediv_eq_zero_of_lt hz.1 hz.2, Int.zero_add]
    rw [e, p, ih]
    rfl
/-- A digit of a group is a digit of the number. -/
theorem mod_div {B : Int} (hB : 0 < B) (X : Int) (m : Nat) : ∀ j : Nat, X % B ^ (j + m) / B ^ j = X / B ^ j % B ^ m
  | 0 => by simp
  | j + 1 => by
    have e := Dn.split_mod hB (j + m) X
    have ih := mod_div hB (X / B) m j
    have q : X % B ^ (j + 1 + m) / B ^ (j + 1) = X % B ^ (j + m + 1) / B / B ^ j := by
      rw [show j + 1 + m = j + m + 1 by omega, Int.pow_succ B j, Int.mul_comm (B ^ j) B, ← Int.ediv_ediv_of_nonneg (by omega)]
    rw [q, e.2.1, ih]
    rw [Int.pow_succ, Int.mul_comm (B ^ j) B, ← Int.ediv_ediv_of_nonneg (by omega)]
theorem dig_at {B P : Int} {k : Nat} (hB : 0 < B) (hP : P = B ^ k) (zs : List Int) (h : Digs P zs) (i j : Nat) (hi : i < zs.length) (hj : j < k) : zs.getD i 0 / B ^ j % B = gv P zs / B ^ (i * k + j) % B := by
  have p0 : 0 < P := by rw [hP]; exact Int.pow_pos hB
  rw [← gv_at p0 zs i h hi]
  obtain ⟨r, hr⟩ : ∃ r, k = j + (r + 1) := ⟨k - j - 1, by omega⟩
  have e1 : gv P zs / P ^ i % P / B ^ j = gv P zs / P ^ i / B ^ j % B ^ (r + 1) := by
    conv => lhs; rw [show (gv P zs / P ^ i % P) = gv P zs / P ^ i % B ^ (j + (r + 1)) by rw [hP, ← hr]]
    exact mod_div hB _ _ _
  rw [e1, Int.emod_emod_of_dvd _ (by rw [Int.pow_succ]; exact Int.dvd_mul_left _ _)]
  have e2 : gv P zs / P ^ i / B ^ j = gv P zs / B ^ (i * k + j) := by
    rw [Int.ediv_ediv_of_nonneg (Int.le_of_lt (Int.pow_pos p0)), Int.pow_add, hP, ← Int.pow_mul, Nat.mul_comm k i]
  rw [e2]

/-- The letters of the low digits, lowest first. -/
def bk (B V : Int) (up : Bool) : Nat → List Int
  | 0 => []
  | t + 1 => bk B V up t ++ [dgt (V / B ^ t % B) up]
theorem bk_len (B V : Int) (up : Bool) : ∀ t, (bk B V up t).length = t
  | 0 => rfl
  | t + 1 => by rw [bk, List.length_append, bk_len B V up t]; rfl
theorem bk_at (B V : Int) (up : Bool) : ∀ t s, s < t → (bk B V up t).getD s 0 = dgt (V / B ^ s % B) up
  | 0, s, h => by omega
  | t + 1, s, h => by
    rw [bk, List.getD_eq_getElem?_getD]
    rcases Nat.lt_or_ge s t with q | q
    · rw [List.getElem?_append_left (by rw [bk_len]; exact q), ← List.getD_eq_getElem?_getD, bk_at B V up t s q]
    · have : s = t := by omega
      subst this
      rw [List.getElem?_append_right (by rw [bk_len]; omega), bk_len, Nat.sub_self]
      rfl
theorem dg_next {B : Int} (hB : 0 < B) (n : Nat) (V : Int) : Dn.dg B (n + 1) V = V / B ^ n % B :: Dn.dg B n V := by
  rw [Dn.dg_head hB, Dn.dg_mod hB]
theorem bk_rev {B : Int} (hB : 0 < B) (V : Int) (up : Bool) : ∀ t, (bk B V up t).reverse = (Dn.dg B t V).map (fun d => dgt d up)
  | 0 => rfl
  | t + 1 => by rw [bk, List.reverse_append, bk_rev hB V up t, dg_next hB]; rfl

theorem dgt_letter : ∀ k : Fin 36, ∀ up : Bool, dgt (k.val : Int) up = (lettersOf up).getD k.val 0 ∧ (dgt (k.val : Int) up = 48 ↔ k.val = 0) ∧ (0 ≤ dgt (k.val : Int) up ∧ dgt (k.val : Int) up < 256) := by decide
theorem dgt_is {d : Int} (h0 : 0 ≤ d) (h1 : d < 36) (up : Bool) : dgt d up = (lettersOf up).getD d.toNat 0 ∧ (dgt d up = 48 ↔ d = 0) ∧ (0 ≤ dgt d up ∧ dgt d up < 256) := by
  have := dgt_letter ⟨d.toNat, by omega⟩ up
  simp only at this
  rw [show ((d.toNat : Nat) : Int) = d by omega] at this
  exact ⟨this.1, ⟨fun q => by have := this.2.1.1 q; omega, fun q => this.2.1.2 (by omega)⟩, this.2.2⟩
theorem dig_bd {B : Int} (hB : 0 < B) (V : Int) (s : Nat) : 0 ≤ V / B ^ s % B ∧ V / B ^ s % B < B := ⟨Int.emod_nonneg _ (by omega), Int.emod_lt_of_pos _ hB⟩
theorem map_lets {B : Int} (hB : 0 < B) (h36 : B ≤ 36) (up : Bool) (m : Nat) (V : Int) : (Dn.dg B m V).map (fun d => dgt d up) = lets (lettersOf up) (Dn.dg B m V) := by
  unfold lets
  apply List.map_congr_left
  intro d hd
  have := Dn.dg_mem hB m V d hd
  exact (dgt_is this.1 (by omega) up).1

/-- Zeros at the head of a number's digits. -/
theorem low_of {B : Int} (hB : 0 < B) {V : Int} (h0 : 0 ≤ V) (m : Nat) : ∀ T, m ≤ T → V < B ^ T → (∀ s, m ≤ s → s < T → V / B ^ s % B = 0) → V < B ^ m := by
  intro T
  induction T with
  | zero => intro h1 h2 _; rw [show m = 0 by omega]; exact h2
  | succ T ih =>
    intro h1 h2 h3
    rcases Nat.lt_or_ge T m with q | q
    · rw [show m = T + 1 by omega]; exact h2
    · refine ih q ?_ (fun s a b => h3 s a (by omega))
      have z := h3 T q (by omega)
      have p : 0 < B ^ T := Int.pow_pos hB
      have l : V / B ^ T < B := by
        apply Int.ediv_lt_of_lt_mul p
        rw [Int.pow_succ, Int.mul_comm] at h2
        exact h2
      have n : 0 ≤ V / B ^ T := Int.ediv_nonneg h0 (Int.le_of_lt p)
      rw [Int.emod_eq_of_lt n l] at z
      by_cases c : V < B ^ T
      · exact c
      · have : 1 ≤ V / B ^ T := (Int.le_ediv_iff_mul_le p).2 (by omega)
        omega
theorem strip_is {B : Int} (hB : 0 < B) {V : Int} (h0 : 0 < V) {m T : Nat} (hm : m ≤ T) (hT : V < B ^ T) (hz : ∀ s, m ≤ s → s < T → V / B ^ s % B = 0) (ht : m ≤ 1 ∨ V / B ^ (m - 1) % B ≠ 0) : Dn.strip (Dn.dg B T V) = Dn.dg B m V := by
  have lm := low_of hB (by omega) m T hm hT hz
  rw [Dn.strip_dg hB (by omega) hT lm]
  cases m with
  | zero => rw [Int.pow_zero] at lm; omega
  | succ m =>
    have nz : V / B ^ m % B ≠ 0 := by
      rcases ht with q | q
      · have : m = 0 := by omega
        subst this
        rw [Int.pow_zero, Int.ediv_one]
        rw [show B ^ (0 + 1) = B by rw [Nat.zero_add, Int.pow_one]] at lm
        rw [Int.emod_eq_of_lt (by omega) lm]; omega
      · simpa using q
    rw [dg_next hB]
    unfold Dn.strip
    rw [List.dropWhile_cons_of_neg (by simpa using nz)]
end Gn
end Go.Proofs.YtaoaniigbooihaaGreatDoor

namespace Go.Proofs.YtaoaniigbooihaaGreatDoor
open Go.RowKit Go.Deep

theorem srow64_empty (w : World) : Row64 w.heap.size (w.alloc (.cells #[] 26)) (.slice (some ⟨w.heap.size, 0, none⟩) 0 0) [] := by
  refine ⟨rfl, .inr ⟨w.heap.size, 0, #[], rfl, Nat.le_refl _, ?_, Nat.le_refl _, by simp only [maxLen]; omega, rfl, rfl⟩⟩
  show (w.heap.push _)[w.heap.size]? = _
  rw [Array.getElem?_push, if_pos rfl]
theorem srow8_empty (w : World) : Row8 w.heap.size (w.alloc (.cells #[] 5)) (.slice (some ⟨w.heap.size, 0, none⟩) 0 0) [] := by
  refine ⟨rfl, .inr ⟨w.heap.size, 0, #[], rfl, Nat.le_refl _, ?_, Nat.le_refl _, by simp only [maxLen]; omega, rfl, rfl⟩⟩
  show (w.heap.push _)[w.heap.size]? = _
  rw [Array.getElem?_push, if_pos rfl]
theorem alloc_bs (w : World) (A : Obj) : Below w.heap.size w (w.alloc A) := Below.alloc (w := w) (Below.refl w.heap.size w) (Nat.le_refl _) A
theorem smake0 (c : Nat) (hc : c ≤ 1000000) (w : World) : (Instr.makeSlice 47 (.int .i64 0) (.int .i64 (c : Int))).run Tryz.prog w = .ok (.slice (some ⟨w.heap.size, 0, none⟩) 0 c) (w.alloc (.cells (madeCells #[.int .u8 0] c) 5)) ∧ Row8 w.heap.size (w.alloc (.cells (madeCells #[.int .u8 0] c) 5)) (.slice (some ⟨w.heap.size, 0, none⟩) 0 c) [] := by
  obtain ⟨i, hi, hz⟩ := Option.map_eq_some_iff.1 info8
  simp only [Prod.mk.injEq] at hz
  obtain ⟨z1, z2, z3⟩ := hz
  have hr := run_make (P := Tryz.prog) w 47 5 i (.int .u8 0) Tryz.underlying47 hi z1 .i64 .i64 0 (c : Int) (Int.le_refl _) (by omega) (by rw [z3]; omega) (by omega)
  rw [z2] at hr
  simp only [Int.toNat_zero, Int.toNat_natCast, Nat.mul_one] at hr
  exact ⟨hr, World.ownsRow_made w _ c (Nat.le_refl _) (by simp only [maxLen]; omega) (by rw [size_madeCells, Nat.mul_one])⟩
theorem lets_b (up : Bool) (ds : List Int) : ∀ x ∈ lets (lettersOf up) ds, 0 ≤ x ∧ x < 256 := by
  intro x hx
  obtain ⟨d, _, rfl⟩ := List.mem_map.1 hx
  have k : ∀ (l : List Int), (∀ y ∈ l, 0 ≤ y ∧ y < 256) → 0 ≤ l.getD d.toNat 0 ∧ l.getD d.toNat 0 < 256 := by
    intro l hl
    rw [List.getD_eq_getElem?_getD]
    cases h : l[d.toNat]? with
    | none => simp
    | some y => exact hl y (List.mem_of_getElem? h)
  apply k
  cases up
  · show ∀ y ∈ smallL, _
    decide
  · show ∀ y ∈ capL, _
    decide

def InTold (za : List Int) (B : Int) (up : Bool) (w : World) (e : Ending) (w' : World) : Prop := ∃ s xs E, e = .returned (.tuple #[.string s, .int .i64 E]) ∧ Str s xs ∧ InIs za B up xs E ∧ Below w.heap.size w w'

set_option maxRecDepth 100000 in
set_option maxHeartbeats 8000000 in
theorem sinBase_any (p : Option Addr) (n cap : Nat) (za : List Int) (B : Int) (up : Bool) (w : World) (ha : Arg w p n cap za) :
    Calls Tryz.prog 174 #[.slice p n cap, .int .i64 B, .bool up] w fun e w' => InTold za B up w e w' := by
  obtain ⟨a1, a2, a3, a4, a5⟩ := ha
  have LM := hid (slimbs_any p n cap za w a1 (by omega) a4)
  have BR := hid (Below.refl w.heap.size w)
  by_cases hb : 4096 < Nm.tsize za
  · have F : Hid (InTold za B up w (.returned (.tuple #[.string ⟨#[]⟩, .int .i64 2])) w) := ⟨_, [], _, rfl, rfl, .big hb, BR.out⟩
    have hbi : (4096 : Int) < (Nm.tsize za : Int) := by omega
    clear a1 a2 a3 a4 a5 hb
    go_enter Tryz.func174, Tryz.ntmps174
    go_wp2_with fail
    with_reducible refine LM.out.mono ?_
    rintro e w1 ⟨rfl, e1⟩
    rw [e1]
    go_wp2_with fail
    go_ret2
    exact F.out
  have hbi : ¬ (4096 : Int) < (Nm.tsize za : Int) := by omega
  by_cases h2 : B < 2
  · have F : Hid (InTold za B up w (.returned (.tuple #[.string ⟨#[]⟩, .int .i64 32])) w) := ⟨_, [], _, rfl, rfl, .base (by omega) (.inl h2), BR.out⟩
    clear a1 a2 a3 a4 a5 hb
    go_enter Tryz.func174, Tryz.ntmps174
    go_wp2_with fail
    with_reducible refine LM.out.mono ?_
    rintro e w1 ⟨rfl, e1⟩
    rw [e1]
    go_wp2_with fail
    go_ret2
    exact F.out
  by_cases h36 : 36 < B
  · have F : Hid (InTold za B up w (.returned (.tuple #[.string ⟨#[]⟩, .int .i64 32])) w) := ⟨_, [], _, rfl, rfl, .base (by omega) (.inr h36), BR.out⟩
    clear a1 a2 a3 a4 a5 hb
    go_enter Tryz.func174, Tryz.ntmps174
    go_wp2_with fail
    with_reducible refine LM.out.mono ?_
    rintro e w1 ⟨rfl, e1⟩
    rw [e1]
    go_wp2_with fail
    go_ret2
    exact F.out
  have B2 : 2 ≤ B := by omega
  have B36 : B ≤ 36 := by omega
  have GR := hid (sgroup_any B w B2 B36)
  obtain ⟨V, hV⟩ : ∃ V, V = Nm.val za := ⟨_, rfl⟩
  have v0 := (Nm.val_bd za a5).1
  have tz := Nm.tsize_zero_iff a5
  have tl := Nm.tsize_le za
  have TZV : Hid (V = 0 → Nm.tsize za = 0) := fun q => tz.2 (by rw [← hV]; exact q)
  have ZR0 : Hid (V = 0 → ∀ w', Below w.heap.size w w' → InTold za B up w (.returned (.tuple #[.string ⟨#[48]⟩, .int .i64 0])) w') := fun q w' k => ⟨_, [48], _, rfl, rfl, .zero (tz.2 (by rw [← hV]; exact q)) B2 B36, k⟩
  have FI0 : Hid (∀ T mm s, V < B ^ T → V ≠ 0 → mm ≤ T → (∀ s, mm ≤ s → s < T → V / B ^ s % B = 0) → (mm ≤ 1 ∨ V / B ^ (mm - 1) % B ≠ 0) → Str s (lets (lettersOf up) (Dn.dg B mm V)) → ∀ w', Below w.heap.size w w' → InTold za B up w (.returned (.tuple #[.string s, .int .i64 0])) w') := by
    intro T mm s hT vne hm hz ht hs w' k
    refine ⟨s, _, _, rfl, hs, ?_, k⟩
    rw [← Gn.strip_is (by omega) (by omega) hm hT hz ht, hV]
    exact .ok T (by omega) (by omega) B2 B36 (by rw [← hV]; exact hT)
  have TZ : Hid (∀ j, Nm.tsize za ≤ j → za.getD j 0 = 0) := Nm.tsize_zero za
  have DZ : Hid (Nm.val (za.drop (Nm.tsize za)) = 0) := by
    have e := Nm.val_drop za (Nm.tsize za) tl
    have e2 := Nm.val_trim za
    unfold Nm.trim at e2
    rw [e2] at e
    have pp := Nm.pw_pos (Nm.tsize za)
    have : Nm.pw (Nm.tsize za) * Nm.val (za.drop (Nm.tsize za)) = 0 := by omega
    rcases Int.mul_eq_zero.1 this with q | q
    · omega
    · exact q
  have DN : Hid (∀ j, j < za.length → Nm.val (za.drop j) = za.getD j 0 + 18446744073709551616 * Nm.val (za.drop (j + 1))) := by
    intro j hj
    rw [List.drop_eq_getElem_cons hj, Nm.val, List.getD_eq_getElem?_getD, List.getElem?_eq_getElem hj]
    rfl
  have LB : Hid (∀ j, 0 ≤ za.getD j 0 ∧ za.getD j 0 < 18446744073709551616) := fun j => a5.at j
  have HA : Hid (Lies w p za) := a4
  have TT : Hid (Nm.tsize za ≤ 4096) := by show _ ≤ _; omega
  have TL : Hid (Nm.tsize za ≤ za.length) := tl
  have VD : Hid (Nm.val (za.drop 0) = V) := by rw [Hid, List.drop_zero, hV]
  have V0 : Hid (0 ≤ V) := by rw [hV]; exact v0
  have nl : (n : Int) ≤ 17592186044416 := by omega
  clear a2 a4 a5 hb h2 h36 v0 tz tl hV
  have DB : Hid (0 < B ∧ B ≤ 36) := ⟨by omega, B36⟩
  have NL : Hid (za.length = n) := a1
  clear a1
  go_enter Tryz.func174, Tryz.ntmps174
  go_wp2_with fail
  with_reducible refine LM.out.mono ?_
  rintro e w1 ⟨rfl, e1⟩
  rw [e1]
  clear e1 LM w1
  obtain ⟨tN, HT⟩ : ∃ tN, Hid (tN = Nm.tsize za) := ⟨_, rfl⟩
  rw [← HT.out] at hbi TZ DZ TT TL TZV
  rw [← HT.out]
  clear HT
  go_wp2_with fail
  with_reducible refine GR.out.mono ?_
  rintro e w1 ⟨⟨k, P, rfl, hP, k30, P1, P2, P3⟩, e1⟩
  rw [e1]
  clear e1 w1 GR
  have P4 : 65536 ≤ P := by
    have : P * B ≤ P * 36 := Int.mul_le_mul_of_nonneg_left B36 (by omega)
    omega
  have HP := hid hP
  have R0 := hid (srow64_empty w)
  have A0 := hid (alloc_bs w (.cells #[] 26))
  have tNi : (tN : Int) ≤ 4096 := by have := TT.out; omega
  clear hP P3
  go_upto_region 8 with fail
  generalize (w.alloc (.cells #[] 26)) = wG at *
  go_wp2_with fail
  go_loopg [11, 12] tN (fun m gq iv wr => ∃ (mv : Value) (gs : List Int) (c : Int), gq = mv ∧ iv = .int .i64 c ∧ c = (m : Int) - 1 ∧ Hid (m ≤ tN ∧ Row64 w.heap.size wr mv gs ∧ Gn.Digs P gs ∧ Gn.gv P gs = Nm.val (za.drop m) ∧ gs.length ≤ 4 * (tN - m) ∧ Below w.heap.size w wr))
  case atStart => exact ⟨_, [], _, rfl, rfl, rfl, Nat.le_refl _, R0.out, (by intro z hz; simp at hz), by rw [DZ.out]; rfl, by simp, A0.out⟩
  case round =>
    obtain ⟨mv, gs, c, hmv, rfl, hc, I⟩ := hrel
    have hmv := hmv.symm
    subst hmv
    clear R0 A0
    cases gk with
    | succ r =>
      obtain rfl : c = (r : Int) := by omega
      clear hc
      have rt : r < tN := by have := I.out.1; omega
      have rl : r < za.length := by have := TL.out; omega
      have rn : (r : Int) < (n : Int) := by have := NL.out; omega
      have r0 : 0 ≤ (r : Int) := by omega
      obtain ⟨b, off, hp, hcell⟩ : ∃ b off, p = some ⟨b, off, none⟩ ∧ ∀ i, i < za.length → w.cell? ⟨b, off + i, none⟩ = some (.int .u64 (za.getD i 0)) := by
        rcases HA.out with q | q
        · rw [q] at rl; simp at rl
        · exact q
      subst hp
      have c0 := hcell r rl
      have lt0 := cell_lt c0
      have CC : Hid (∀ wk, Below w.heap.size w wk → wk.cell? ⟨b, off + r, none⟩ = some (.int .u64 (za.getD r 0))) := fun wk hk => by rw [hk.cell (p := ⟨b, off + r, none⟩) lt0]; exact c0
      have c1 := CC.out wr I.out.2.2.2.2.2
      have xb := LB.out r
      have DNR := hid (DN.out r rl)
      generalize za.getD r 0 = x at *
      obtain ⟨x0, x1⟩ := xb
      have rm := r_mask32 x x0 x1
      obtain ⟨hi, hhi, HI⟩ : ∃ hi, x / 4294967296 = hi ∧ Hid (hi = x / 4294967296) := ⟨_, rfl, rfl⟩
      obtain ⟨lo, hlo, LO⟩ : ∃ lo, x % 4294967296 = lo ∧ Hid (lo = x % 4294967296) := ⟨_, rfl, rfl⟩
      have hib : 0 ≤ hi ∧ hi < 4294967296 := by rw [← hhi]; omega
      have lob : 0 ≤ lo ∧ lo < 4294967296 := by rw [← hlo]; omega
      have T1 := hid (stimes_any w.heap.size mv gs P hi wr I.out.2.1 I.out.2.2.1 (by have := I.out.2.2.2.2.1; have := TT.out; omega) P4 P2 hib.1 hib.2 I.out.2.2.2.2.2.size)
      have T2 := hid (fun mv' gs' wk r1 r2 r3 r4 => stimes_any w.heap.size mv' gs' P lo wk r1 r2 r3 P4 P2 lob.1 lob.2 r4)
      rw [hlo] at rm
      have TTH := TT
      clear hcell c0 lt0 hib lob ZR0 FI0 DN
      go_wp2_with fail
      with_reducible refine T1.out.mono ?_
      rintro e w2 ⟨mv1, gs1, rfl, q1, q2, q3, q4, q5⟩
      have I2 : Hid (r + 1 ≤ tN ∧ Row64 w.heap.size w2 mv1 gs1 ∧ Gn.Digs P gs1 ∧ Gn.gv P gs1 = 4294967296 * Nm.val (za.drop (r + 1)) + hi ∧ gs1.length ≤ 4 * (tN - (r + 1)) + 2 ∧ Below w.heap.size w w2) := ⟨I.out.1, q1, q2, by rw [q3, I.out.2.2.2.1], by have := I.out.2.2.2.2.1; omega, I.out.2.2.2.2.2.trans q5⟩
      have c2 := CC.out w2 I2.out.2.2.2.2.2
      have T3 := hid (T2.out mv1 gs1 w2 q1 q2 (by have := I2.out.2.2.2.2.1; have := TT.out; omega) I2.out.2.2.2.2.2.size)
      clear q1 q2 q3 q4 q5 T1 T2 I c1
      go_wp2_with fail
      with_reducible refine T3.out.mono ?_
      rintro e w3 ⟨mv2, gs2, rfl, q1, q2, q3, q4, q5⟩
      have F : Hid (r ≤ tN ∧ Row64 w.heap.size w3 mv2 gs2 ∧ Gn.Digs P gs2 ∧ Gn.gv P gs2 = Nm.val (za.drop r) ∧ gs2.length ≤ 4 * (tN - r) ∧ Below w.heap.size w w3) := ⟨by omega, q1, q2, by rw [q3, I2.out.2.2.2.1, DNR.out, HI.out, LO.out]; omega, by have := I2.out.2.2.2.2.1; omega, I2.out.2.2.2.2.2.trans q5⟩
      clear q1 q2 q3 q4 q5 T3 I2 c2 hhi hlo rm
      go_wp2_with fail
      go_roundg r
      case measure => omega
      case rel => exact ⟨mv2, gs2, _, rfl, rfl, by omega, F.out⟩
    | zero =>
      obtain rfl : c = -1 := by omega
      clear hc
      obtain ⟨wE, rfl⟩ : ∃ wE, wE = wr := ⟨wr, rfl⟩
      obtain ⟨-, g1, g2, g3, g4, g5⟩ := I.out
      rw [VD.out] at g3
      have B1 := hid g5
      obtain ⟨pm, cp, es⟩ := g1.shape
      obtain ⟨G, HG⟩ : ∃ G, Hid (gs.length = G) := ⟨_, rfl⟩
      rw [HG.out] at es
      have GB : Hid (G ≤ 16384) := by have := TT.out; have := HG.out; show _ ≤ _; omega
      have Gi : (G : Int) ≤ 16384 := by have := GB.out; omega
      have CG : Hid (gs ≠ [] → ∃ gb, pm = some ⟨gb, 0, none⟩ ∧ ∀ wk, Below wE.heap.size wE wk → ∀ i, i < G → wk.cell? ⟨gb, i, none⟩ = some (.int .u64 (gs.getD i 0))) := by
        intro q
        obtain ⟨gb, cp', e2, cl⟩ := g1.cells q
        rw [HG.out, es] at e2
        cases e2
        refine ⟨gb, rfl, fun wk hk i hi => ?_⟩
        have c := cl i (by rw [HG.out]; exact hi)
        rw [Nat.zero_add] at c
        rw [hk.cell (p := ⟨gb, i, none⟩) (cell_lt c)]
        exact c
      have DG : Hid (∀ i j, i < G → j < k → gs.getD i 0 / B ^ j % B = V / B ^ (i * k + j) % B) := by
        intro i j hi hj
        rw [← g3]
        exact Gn.dig_at DB.out.1 HP.out gs g2 i j (by rw [HG.out]; exact hi) hj
      have GBD : Hid (∀ i, 0 ≤ gs.getD i 0 ∧ gs.getD i 0 < P) := fun i => Gn.Digs.at g2 (by omega) i
      obtain ⟨T, HT⟩ : ∃ T, Hid (T = G * k) := ⟨_, rfl⟩
      have VT : Hid (V < B ^ T) := by
        have q := (Gn.gv_lt (by omega) gs g2).2
        rw [g3, HG.out, HP.out, ← Int.pow_mul, Nat.mul_comm k G, ← HT.out] at q
        exact q
      have TB : Hid (T ≤ 491520) := by
        have h1 := GB.out
        have h2 : G * k ≤ 16384 * 30 := Nat.mul_le_mul h1 k30
        rw [← HT.out] at h2
        exact h2
      have ZR : Hid (T = 0 → ∀ w', Below w.heap.size w w' → InTold za B up w (.returned (.tuple #[.string ⟨#[48]⟩, .int .i64 0])) w') := by
        intro q
        have v := VT.out
        rw [q, Int.pow_zero] at v
        exact ZR0.out (by have := V0.out; omega)
      have FI : Hid (V ≠ 0 → ∀ mm s, mm ≤ T → (∀ s, mm ≤ s → s < T → V / B ^ s % B = 0) → (mm ≤ 1 ∨ V / B ^ (mm - 1) % B ≠ 0) → Str s (lets (lettersOf up) (Dn.dg B mm V)) → ∀ w', Below w.heap.size w w' → InTold za B up w (.returned (.tuple #[.string s, .int .i64 0])) w') := fun q mm s => FI0.out T mm s VT.out q
      have VN : Hid (T ≠ 0 → V ≠ 0) := by
        intro q v
        have z := TZV.out v
        have : G = 0 := by have := HG.out; omega
        apply q
        rw [HT.out, this, Nat.zero_mul]
      have R8 := hid (srow8_empty wE)
      have A8 := hid (alloc_bs wE (.cells #[] 5))
      have BZ : Hid (w.heap.size ≤ wE.heap.size) := B1.out.size
      have TI : Hid (∀ i j, i < G → j < k → i * k + j < 491520) := by
        intro i j hi hj
        have h1 : (i + 1) * k ≤ G * k := Nat.mul_le_mul_right k hi
        rw [Nat.succ_mul] at h1
        have := TB.out
        have := HT.out
        omega
      have gne : Hid (0 < G → gs ≠ []) := fun h q => by have := HG.out; rw [q] at this; simp at this; omega
      have PB : Hid (P < 2147483648) := P2
      have ki : (k : Int) ≤ 30 := by omega
      subst es
      clear I g1 g2 g3 g4 g5 VD FI0 ZR0 TZV VT HG GB HA DZ DN TZ LB TL TT NL hbi tNi nl P1 P2 P4 HP k30 V0
      go_upto_region 14 with fail
      generalize (wE.alloc (.cells #[] 5)) = wB at *
      go_wp2_with fail
      go_loopg [13, 14, 15, 16] G (fun m bv iv gq jq wk => ∃ (mv' : Value) (i : Nat), bv = mv' ∧ i + m = G ∧ iv = .int .i64 (i : Int) ∧ Hid (Row8 wE.heap.size wk mv' (Gn.bk B V up (i * k)) ∧ Below wE.heap.size wE wk))
      case atStart => exact ⟨_, 0, rfl, by omega, rfl, by rw [Nat.zero_mul]; exact R8.out, A8.out⟩
      case round =>
        obtain ⟨mvb, i, hmvb, hi, rfl, I⟩ := hrel
        have hmvb := hmvb.symm
        subst hmvb
        clear R8 A8
        by_cases il : i < G
        · have ili : (i : Int) < (G : Int) := by omega
          obtain ⟨gb, hpm, cl⟩ := CG.out (gne.out (by omega))
          subst hpm
          have c0 := cl wr I.out.2 i il
          have gbd := GBD.out i
          have DGI := hid (fun j hj => DG.out i j il hj)
          have TII := hid (fun j hj => TI.out i j il hj)
          generalize gs.getD i 0 = g0 at *
          obtain ⟨gb0, gb1⟩ := gbd
          have GH : Hid (0 ≤ g0 ∧ g0 < 2147483648) := ⟨gb0, by have := PB.out; omega⟩
          clear cl CG DG GBD TI gb1 FI ZR VN
          go_wp2_with fail
          go_loopg [13, 15, 16] k (fun m bv gq jq wk => ∃ (mv' : Value) (j : Nat) (q : Int), bv = mv' ∧ j + m = k ∧ jq = .int .i64 (j : Int) ∧ gq = .int .u64 q ∧ Hid (q = g0 / B ^ j ∧ Row8 wE.heap.size wk mv' (Gn.bk B V up (i * k + j)) ∧ Below wE.heap.size wE wk))
          case atStart => exact ⟨_, 0, g0, rfl, by omega, rfl, rfl, by rw [Int.pow_zero, Int.ediv_one], I.out.1, I.out.2⟩
          case round =>
            obtain ⟨mvc, j, q, hmvc, hj, rfl, rfl, J⟩ := hrel
            have hmvc := hmvc.symm
            subst hmvc
            clear c0 I
            by_cases jl : j < k
            · have jli : (j : Int) < (k : Int) := by omega
              have qb : 0 ≤ q ∧ q < 2147483648 := by
                rw [J.out.1]
                have pp : 0 < B ^ j := Int.pow_pos DB.out.1
                have h1 := Int.ediv_nonneg GH.out.1 (Int.le_of_lt pp)
                have h2 : g0 / B ^ j ≤ g0 := Int.ediv_le_self _ GH.out.1
                have := GH.out.2
                omega
              obtain ⟨d, hd, HD⟩ : ∃ d, q % B = d ∧ Hid (d = q % B) := ⟨_, rfl, rfl⟩
              obtain ⟨q2, hq2, HQ⟩ : ∃ q2, q / B = q2 ∧ Hid (q2 = q / B) := ⟨_, rfl, rfl⟩
              have db : 0 ≤ d ∧ d < 36 := by
                rw [← hd]
                have h1 := Int.emod_nonneg q (show B ≠ 0 by omega)
                have h2 := Int.emod_lt_of_pos q DB.out.1
                have := DB.out.2
                omega
              obtain ⟨db0, db1⟩ := db
              obtain ⟨qb0, qb1⟩ := qb
              have q2b : 0 ≤ q2 := by rw [← hq2]; exact Int.ediv_nonneg qb0 (by omega)
              have SD := hid (fun W' => sdigit_any d up W' db0 db1)
              have ed : d = V / B ^ (i * k + j) % B := by rw [HD.out, J.out.1]; exact DGI.out j jl
              obtain ⟨mv', w2, ap, r2, z2, b2, _⟩ := J.out.2.1.push (dgt d up) (by rw [Gn.bk_len]; have := TII.out j jl; omega) J.out.2.2.size
              have F : Hid (q2 = g0 / B ^ (j + 1) ∧ Row8 wE.heap.size w2 mv' (Gn.bk B V up (i * k + (j + 1))) ∧ Below wE.heap.size wE w2) := by
                refine ⟨?_, ?_, J.out.2.2.trans b2⟩
                · rw [HQ.out, J.out.1, Int.ediv_ediv_of_nonneg (Int.le_of_lt (Int.pow_pos DB.out.1)), Int.pow_succ]
                · rw [← Nat.add_assoc, Gn.bk, ← ed]; exact r2
              have AP := hid ap
              clear ap r2 z2 b2 ed J DGI TII GH
              generalize dgt d up = xd at *
              go_wp2_with fail
              with_reducible refine (SD.out _).mono ?_
              rintro e w9 ⟨rfl, e9⟩
              rw [e9]
              clear e9 w9 SD
              go_wp2_with (at_builtin; refine wpList_append_b rfl _ _ rfl AP.out (by rfl) (by rfl) ?_; clear AP)
              go_roundg (k - (j + 1))
              case measure => omega
              case rel => exact ⟨mv', j + 1, q2, rfl, by omega, by go_num, by rw [HQ.out], F.out⟩
            · have jli : ¬ (j : Int) < (k : Int) := by omega
              have F : Hid (Row8 wE.heap.size wr mvc (Gn.bk B V up ((i + 1) * k)) ∧ Below wE.heap.size wE wr) := by
                have e : (i + 1) * k = i * k + j := by rw [Nat.succ_mul]; omega
                rw [e]
                exact J.out.2
              clear J DGI TII GH
              go_wp2_with fail
              go_roundg (G - (i + 1))
              case measure => omega
              case rel => exact ⟨mvc, i + 1, rfl, by omega, by go_num, F.out⟩
        · have ili : ¬ (i : Int) < (G : Int) := by omega
          have QS : Hid (Row8 wE.heap.size wr mvb (Gn.bk B V up T) ∧ Below wE.heap.size wE wr) := by
            have e : T = i * k := by rw [HT.out, show i = G by omega]
            rw [e]; exact I.out
          obtain ⟨pb, cb0, es3⟩ := QS.out.1.shape
          rw [Gn.bk_len] at es3
          subst es3
          have Ti : (T : Int) ≤ 491520 := by have := TB.out; omega
          clear I CG DG GBD TI gne PB HT
          go_wp2_with fail
          go_loopg [17] T (fun m mq wk => mq = .int .i64 (m : Int) ∧ Hid (m ≤ T ∧ (∀ s, m ≤ s → s < T → V / B ^ s % B = 0) ∧ (m = 0 → T = 0)) ∧ Hid (Row8 wE.heap.size wk (.slice pb T cb0) (Gn.bk B V up T) ∧ Below wE.heap.size wE wk))
          case atStart => exact ⟨rfl, ⟨Nat.le_refl _, fun s a b => by omega, fun q => q⟩, QS.out⟩
          case round =>
            obtain ⟨rfl, M, Q0⟩ := hrel
            obtain ⟨mm, rfl⟩ : ∃ mm, mm = gk := ⟨gk, rfl⟩
            clear QS
            by_cases m1 : 1 < mm
            · have m1i : (1 : Int) < (mm : Int) := by omega
              have mT : mm ≤ T := M.out.1
              have mTi : (mm : Int) ≤ (T : Int) := by omega
              obtain ⟨r, hr⟩ : ∃ r : Nat, mm = r + 1 := ⟨mm - 1, by omega⟩
              have ri : (mm : Int) - 1 = (r : Int) := by omega
              have rT : (r : Int) < (T : Int) := by omega
              have r0 : 0 ≤ (r : Int) := by omega
              have bt0 : Gn.bk B V up T ≠ [] := fun q => by have := congrArg List.length q; rw [Gn.bk_len, List.length_nil] at this; omega
              obtain ⟨gc, cc, ec, cl⟩ := Q0.out.1.cells bt0
              rw [Gn.bk_len] at ec cl
              cases ec
              have c0 := cl r (by omega)
              rw [Nat.zero_add, Gn.bk_at B V up T r (by omega)] at c0
              have dd := Gn.dgt_is (Gn.dig_bd DB.out.1 V r).1 (Int.lt_of_lt_of_le (Gn.dig_bd DB.out.1 V r).2 DB.out.2) up
              by_cases hz : V / B ^ r % B = 0
              · have e48 : dgt (V / B ^ r % B) up = 48 := dd.2.1.2 hz
                rw [e48] at c0
                have F : Hid (r ≤ T ∧ (∀ s, r ≤ s → s < T → V / B ^ s % B = 0) ∧ (r = 0 → T = 0)) := ⟨by omega, fun s a b => by
                  rcases Nat.lt_or_ge r s with q | q
                  · exact M.out.2.1 s (by omega) b
                  · rw [show s = r by omega]; exact hz, fun q => by omega⟩
                have WK : IntKind.i64.wrap ((mm : Int) - 1) = (r : Int) := by rw [IntKind.wrap_i64]; omega
                clear M cl dd hz e48 bt0 ZR FI VN
                have HR := hid hr
                clear hr
                go_wp2_with fail
                go_roundg r
                case measure => have := HR.out; omega
                case rel => exact ⟨by go_num, F.out, Q0.out⟩
              · have e48 : dgt (V / B ^ r % B) up ≠ 48 := fun q => hz (dd.2.1.1 q)
                have m2 : mm ≤ 1 ∨ V / B ^ (mm - 1) % B ≠ 0 := .inr (by rw [hr, Nat.add_sub_cancel]; exact hz)
                have M2 := hid m2
                generalize hx : dgt (V / B ^ r % B) up = x at *
                have x48 : (x == 48) = false := by simpa using e48
                have WK : IntKind.i64.wrap ((mm : Int) - 1) = (r : Int) := by rw [IntKind.wrap_i64]; omega
                clear cl dd hz bt0 hx e48 m2 hr
                go_upto_region 26 with fail
                clear c0 x48 ri rT r0 WK m1i mTi
                have m2 := M2.out
                obtain ⟨wL, rfl⟩ : ∃ wL, wL = wr := ⟨wr, rfl⟩
                obtain ⟨m0, m1, m3⟩ := M.out
                have Q := hid Q0.out
                clear Q0 M
                by_cases mz : mm = 0
                · have F := hid (ZR.out (m3 mz))
                  subst mz
                  have QB := hid Q.out.2
                  clear m0 m1 m2 m3 Q ZR FI
                  go_wp2_with fail
                  go_ret2
                  exact F.out _ (B1.out.trans (QB.out.mono BZ.out))
                · have mi : ¬ (mm : Int) = 0 := by omega
                  have mi2 : ((mm : Int) == 0) = false := by simpa using mi
                  have mb : (mm : Int) ≤ 500000 := by have := TB.out; omega
                  have FX := hid (fun s hs => FI.out (VN.out (by omega)) mm s m0 m1 m2 hs)
                  have mk := (smake0 mm (by have := TB.out; omega) wL).1
                  have O0 := hid (smake0 mm (by have := TB.out; omega) wL).2
                  have A0 := alloc_b wL (.cells (madeCells #[.int .u8 0] mm) 5)
                  have bt0 : Gn.bk B V up T ≠ [] := fun q => by have := congrArg List.length q; rw [Gn.bk_len, List.length_nil] at this; omega
                  obtain ⟨gb, cb, eb, cells⟩ := Q.out.1.cells bt0
                  rw [Gn.bk_len] at eb cells
                  have CB : Hid (∀ wk, Below wL.heap.size wL wk → ∀ s, s < T → wk.cell? ⟨gb, s, none⟩ = some (.int .u8 (dgt (V / B ^ s % B) up))) := by
                    intro wk hk s hs
                    have c := cells s hs
                    rw [Nat.zero_add, Gn.bk_at B V up T s hs] at c
                    rw [hk.cell (p := ⟨gb, s, none⟩) (cell_lt c)]
                    exact c
                  cases eb
                  have HQ := hid (B1.out.trans (Q.out.2.mono BZ.out))
                  have MT : Hid (mm ≤ T) := m0
                  have MZ := hid mz
                  have BW : Hid (w.heap.size ≤ wL.heap.size) := HQ.out.size
                  have AX := hid A0
                  clear m0 m1 m2 m3 Q ZR FI mz mi cells bt0 A0 VN
                  go_upto_region 29 with fail
                  generalize hwx : (wL.alloc (.cells (madeCells #[.int .u8 0] mm) 5)) = wM at *
                  clear hwx mk
                  go_wp2_with fail
                  go_loopg [18, 19] mm (fun r ov iv wk => ∃ (mvo : Value) (c : Int), ov = mvo ∧ iv = .int .i64 c ∧ c = (r : Int) - 1 ∧ Hid (r ≤ mm ∧ Row8 wL.heap.size wk mvo ((Gn.bk B V up mm).drop r).reverse ∧ Below wL.heap.size wL wk))
                  case atStart =>
                    refine ⟨_, _, rfl, rfl, by omega, Nat.le_refl _, ?_, AX.out⟩
                    rw [List.drop_of_length_le (by rw [Gn.bk_len]; omega)]
                    exact O0.out
                  case round =>
                    obtain ⟨mvo, c, hov, rfl, hc, I⟩ := hrel
                    have hov := hov.symm
                    subst hov
                    have CBH := hid (fun s hs => CB.out _ I.out.2.2 s hs)
                    cases gk with
                    | zero =>
                      have hcn : ¬ 0 ≤ c := by omega
                      have R8 := I.out.2.1
                      rw [List.drop_zero, Gn.bk_rev DB.out.1 V up mm, Gn.map_lets DB.out.1 DB.out.2 up mm V] at R8
                      have ln : (lets (lettersOf up) (Dn.dg B mm V)).length = mm := by rw [lets, List.length_map, Dn.dg_length]
                      have ne : lets (lettersOf up) (Dn.dg B mm V) ≠ [] := fun q => by rw [q, List.length_nil] at ln; exact MZ.out ln.symm
                      obtain ⟨go, co, eo, cl⟩ := R8.cells ne
                      rw [ln] at eo cl
                      have ST := Str.of_nums (xs := lets (lettersOf up) (Dn.dg B mm V)) (lets_b up _)
                      have cv : (convert 47 9 mvo).run Tryz.prog wr = .ok (.string (strOfNums (lets (lettersOf up) (Dn.dg B mm V)))) wr := by
                        rw [eo]
                        exact run_convert_bytes_arg (P := Tryz.prog) wr 47 5 Tryz.underlying47 Tryz.underlying5 go 0 mm co _ ln (fun i hi => cl i hi) 9 Tryz.underlying9
                      have F := hid (FX.out _ ST wr (HQ.out.trans (I.out.2.2.mono BW.out)))
                      clear I CBH R8 ln ne cl ST CB FX eo
                      generalize strOfNums (lets (lettersOf up) (Dn.dg B mm V)) = SS at *
                      go_wp2_with fail
                      go_ret2
                      exact F.out
                    | succ r =>
                      have hcr : c = (r : Int) := by omega
                      have hr0 : 0 ≤ (r : Int) := by omega
                      have rm : r < mm := by have := I.out.1; omega
                      have rT : r < T := by have := MT.out; omega
                      have rTi : (r : Int) < (T : Int) := by omega
                      have cr := CBH.out r rT
                      obtain ⟨mv', w2, ap, r2, z2, b2, _⟩ := I.out.2.1.push (dgt (V / B ^ r % B) up) (by rw [List.length_reverse, List.length_drop, Gn.bk_len]; omega) I.out.2.2.size
                      have ed : (Gn.bk B V up mm).drop r = dgt (V / B ^ r % B) up :: (Gn.bk B V up mm).drop (r + 1) := by
                        rw [List.drop_eq_getElem_cons (by rw [Gn.bk_len]; exact rm)]
                        have := Gn.bk_at B V up mm r rm
                        rw [List.getD_eq_getElem?_getD, List.getElem?_eq_getElem (by rw [Gn.bk_len]; exact rm)] at this
                        rw [← this]; rfl
                      have F : Hid (r ≤ mm ∧ Row8 wL.heap.size w2 mv' ((Gn.bk B V up mm).drop r).reverse ∧ Below wL.heap.size wL w2) := ⟨by omega, by rw [ed, List.reverse_cons]; exact r2, I.out.2.2.trans b2⟩
                      have AP := hid ap
                      clear ap r2 z2 b2 ed I CBH CB FX
                      subst hcr
                      clear hc
                      generalize dgt (V / B ^ r % B) up = x at *
                      go_wp2_with (at_builtin; refine wpList_append_b rfl _ _ rfl AP.out (by rfl) (by rfl) ?_; clear AP)
                      go_roundg r
                      case measure => omega
                      case rel => exact ⟨mv', _, rfl, rfl, by omega, F.out⟩
            · have m1i : ¬ (1 : Int) < (mm : Int) := by omega
              have m2 : mm ≤ 1 ∨ V / B ^ (mm - 1) % B ≠ 0 := .inl (by omega)
              have M2 := hid m2
              clear m2
              go_upto_region 26 with fail
              have m2 := M2.out
              obtain ⟨wL, rfl⟩ : ∃ wL, wL = wr := ⟨wr, rfl⟩
              obtain ⟨m0, m1, m3⟩ := M.out
              have Q := hid Q0.out
              clear Q0 M
              by_cases mz : mm = 0
              · have F := hid (ZR.out (m3 mz))
                subst mz
                have QB := hid Q.out.2
                clear m0 m1 m2 m3 Q ZR FI
                go_wp2_with fail
                go_ret2
                exact F.out _ (B1.out.trans (QB.out.mono BZ.out))
              · have mi : ¬ (mm : Int) = 0 := by omega
                have mi2 : ((mm : Int) == 0) = false := by simpa using mi
                have mb : (mm : Int) ≤ 500000 := by have := TB.out; omega
                have FX := hid (fun s hs => FI.out (VN.out (by omega)) mm s m0 m1 m2 hs)
                have mk := (smake0 mm (by have := TB.out; omega) wL).1
                have O0 := hid (smake0 mm (by have := TB.out; omega) wL).2
                have A0 := alloc_b wL (.cells (madeCells #[.int .u8 0] mm) 5)
                have bt0 : Gn.bk B V up T ≠ [] := fun q => by have := congrArg List.length q; rw [Gn.bk_len, List.length_nil] at this; omega
                obtain ⟨gb, cb, eb, cells⟩ := Q.out.1.cells bt0
                rw [Gn.bk_len] at eb cells
                have CB : Hid (∀ wk, Below wL.heap.size wL wk → ∀ s, s < T → wk.cell? ⟨gb, s, none⟩ = some (.int .u8 (dgt (V / B ^ s % B) up))) := by
                  intro wk hk s hs
                  have c := cells s hs
                  rw [Nat.zero_add, Gn.bk_at B V up T s hs] at c
                  rw [hk.cell (p := ⟨gb, s, none⟩) (cell_lt c)]
                  exact c
                cases eb
                have HQ := hid (B1.out.trans (Q.out.2.mono BZ.out))
                have MT : Hid (mm ≤ T) := m0
                have MZ := hid mz
                have BW : Hid (w.heap.size ≤ wL.heap.size) := HQ.out.size
                have AX := hid A0
                clear m0 m1 m2 m3 Q ZR FI mz mi cells bt0 A0 VN
                go_upto_region 29 with fail
                generalize hwx : (wL.alloc (.cells (madeCells #[.int .u8 0] mm) 5)) = wM at *
                clear hwx mk
                go_wp2_with fail
                go_loopg [18, 19] mm (fun r ov iv wk => ∃ (mvo : Value) (c : Int), ov = mvo ∧ iv = .int .i64 c ∧ c = (r : Int) - 1 ∧ Hid (r ≤ mm ∧ Row8 wL.heap.size wk mvo ((Gn.bk B V up mm).drop r).reverse ∧ Below wL.heap.size wL wk))
                case atStart =>
                  refine ⟨_, _, rfl, rfl, by omega, Nat.le_refl _, ?_, AX.out⟩
                  rw [List.drop_of_length_le (by rw [Gn.bk_len]; omega)]
                  exact O0.out
                case round =>
                  obtain ⟨mvo, c, hov, rfl, hc, I⟩ := hrel
                  have hov := hov.symm
                  subst hov
                  have CBH := hid (fun s hs => CB.out _ I.out.2.2 s hs)
                  cases gk with
                  | zero =>
                    have hcn : ¬ 0 ≤ c := by omega
                    have R8 := I.out.2.1
                    rw [List.drop_zero, Gn.bk_rev DB.out.1 V up mm, Gn.map_lets DB.out.1 DB.out.2 up mm V] at R8
                    have ln : (lets (lettersOf up) (Dn.dg B mm V)).length = mm := by rw [lets, List.length_map, Dn.dg_length]
                    have ne : lets (lettersOf up) (Dn.dg B mm V) ≠ [] := fun q => by rw [q, List.length_nil] at ln; exact MZ.out ln.symm
                    obtain ⟨go, co, eo, cl⟩ := R8.cells ne
                    rw [ln] at eo cl
                    have ST := Str.of_nums (xs := lets (lettersOf up) (Dn.dg B mm V)) (lets_b up _)
                    have cv : (convert 47 9 mvo).run Tryz.prog wr = .ok (.string (strOfNums (lets (lettersOf up) (Dn.dg B mm V)))) wr := by
                      rw [eo]
                      exact run_convert_bytes_arg (P := Tryz.prog) wr 47 5 Tryz.underlying47 Tryz.underlying5 go 0 mm co _ ln (fun i hi => cl i hi) 9 Tryz.underlying9
                    have F := hid (FX.out _ ST wr (HQ.out.trans (I.out.2.2.mono BW.out)))
                    clear I CBH R8 ln ne cl ST CB FX eo
                    generalize strOfNums (lets (lettersOf up) (Dn.dg B mm V)) = SS at *
                    go_wp2_with fail
                    go_ret2
                    exact F.out
                  | succ r =>
                    have hcr : c = (r : Int) := by omega
                    have hr0 : 0 ≤ (r : Int) := by omega
                    have rm : r < mm := by have := I.out.1; omega
                    have rT : r < T := by have := MT.out; omega
                    have rTi : (r : Int) < (T : Int) := by omega
                    have cr := CBH.out r rT
                    obtain ⟨mv', w2, ap, r2, z2, b2, _⟩ := I.out.2.1.push (dgt (V / B ^ r % B) up) (by rw [List.length_reverse, List.length_drop, Gn.bk_len]; omega) I.out.2.2.size
                    have ed : (Gn.bk B V up mm).drop r = dgt (V / B ^ r % B) up :: (Gn.bk B V up mm).drop (r + 1) := by
                      rw [List.drop_eq_getElem_cons (by rw [Gn.bk_len]; exact rm)]
                      have := Gn.bk_at B V up mm r rm
                      rw [List.getD_eq_getElem?_getD, List.getElem?_eq_getElem (by rw [Gn.bk_len]; exact rm)] at this
                      rw [← this]; rfl
                    have F : Hid (r ≤ mm ∧ Row8 wL.heap.size w2 mv' ((Gn.bk B V up mm).drop r).reverse ∧ Below wL.heap.size wL w2) := ⟨by omega, by rw [ed, List.reverse_cons]; exact r2, I.out.2.2.trans b2⟩
                    have AP := hid ap
                    clear ap r2 z2 b2 ed I CBH CB FX
                    subst hcr
                    clear hc
                    generalize dgt (V / B ^ r % B) up = x at *
                    go_wp2_with (at_builtin; refine wpList_append_b rfl _ _ rfl AP.out (by rfl) (by rfl) ?_; clear AP)
                    go_roundg r
                    case measure => omega
                    case rel => exact ⟨mv', _, rfl, rfl, by omega, F.out⟩

set_option maxRecDepth 100000 in
theorem sdigits_any (p : Option Addr) (n cap : Nat) (za : List Int) (w : World) (ha : Arg w p n cap za) :
    Calls Tryz.prog 146 #[.slice p n cap] w fun e w' => InTold za 10 false w e w' := by
  have IB := hid (sinBase_any p n cap za 10 false w ha)
  clear ha
  go_enter Tryz.func146, Tryz.ntmps146
  go_wp2_with fail
  with_reducible refine IB.out.mono ?_
  rintro e w1 ⟨s, xs, E, rfl, h1, h2, h3⟩
  have F : Hid (InTold za 10 false w (.returned (.tuple #[.string s, .int .i64 E])) w1) := ⟨s, xs, E, rfl, h1, h2, h3⟩
  clear h1 h2 h3
  go_wp2_with fail
  go_ret2
  exact F.out
end Go.Proofs.YtaoaniigbooihaaGreatDoor

namespace Go.Proofs.YtaoaniigbooihaaGreatDoor
open Go Go.RowKit Go.Deep Go.Shelf

/-- The digits of a number, with none ahead that could be left out. -/
structure Po.RdT (V : Int) (xs : List Int) : Prop where
  digs : Digs xs
  ne : xs ≠ []
  val : dv xs = V
  zero : V = 0 → xs = [48]
  head : 0 < V → xs.getD 0 0 ≠ 48
theorem Po.rdt_in {os : List Int} {V : Int} {xs : List Int} {E : Int} (hz : Nm.Limbs os) (hv : Nm.val os = V) (h0 : 0 ≤ V) (ht : Nm.tsize os ≤ 4096) (h : InIs os 10 false xs E) : Po.RdT V xs := by
  cases h with
  | big c => omega
  | base _ c => omega
  | zero c _ _ =>
    have := (Nm.tsize_zero_iff hz).1 c
    refine ⟨fun x hx => by simp at hx; omega, by simp, ?_, fun _ => rfl, fun c => by omega⟩
    rw [← hv, this]
    decide
  | ok L c1 c2 c3 c4 c5 =>
    rw [hv] at c5 ⊢
    have hp : 0 < V := by
      have := Nm.tsize_zero_iff hz
      rcases (show V = 0 ∨ 0 < V by omega) with q | q
      · have := this.2 (by rw [hv]; exact q); omega
      · exact q
    have mem : ∀ d ∈ Dn.strip (Dn.dg 10 L V), 0 ≤ d ∧ d < 10 := fun d hd => Dn.dg_mem (by omega) L V d (Dn.strip_mem hd)
    have e : lets (lettersOf false) (Dn.strip (Dn.dg 10 L V)) = (Dn.strip (Dn.dg 10 L V)).map (fun d => d + 48) := List.map_congr_left fun d hd => small_dig d (mem d hd).1 (mem d hd).2
    have v : Dn.tv 10 0 (Dn.strip (Dn.dg 10 L V)) = V := by rw [Dn.tv_strip]; exact Dn.tv_dg (by omega) L V (by omega) c5
    have ne : Dn.strip (Dn.dg 10 L V) ≠ [] := by
      intro c
      rw [c] at v
      simp [Dn.tv] at v
      omega
    rw [e]
    refine ⟨?_, by simpa using ne, ?_, fun c => by omega, fun _ => ?_⟩
    · intro d hd
      obtain ⟨x, hx, rfl⟩ := List.mem_map.1 hd
      have := mem x hx
      omega
    · unfold dv
      rw [List.map_map, show ((fun d : Int => d - 48) ∘ fun d => d + 48) = id from funext fun d => by simp, List.map_id]
      exact v
    · match hm : Dn.strip (Dn.dg 10 L V), ne with
      | x :: ys, _ =>
        have := Dn.strip_head hm
        simp
        omega

/-- |d| * 10^p to the nearest whole number. -/
def Po.rnd (d p : Int) : Int := nearI (Ie.dm d * 10 ^ p.toNat * 2 ^ (Ie.de d).toNat) (10 ^ (-p).toNat * 2 ^ (-(Ie.de d)).toNat)
theorem Po.nearI_bd {A B : Int} (hA : 0 ≤ A) (hB : 0 < B) : 0 ≤ nearI A B ∧ nearI A B ≤ A + 1 := by
  have e2 : 0 ≤ A / B := Int.ediv_nonneg hA (by omega)
  have e3 : A / B ≤ A := Int.ediv_le_self _ hA
  unfold nearI
  split <;> omega
def RdTold (d p : Int) (w : World) (e : Ending) (w' : World) : Prop := ∃ xs, e = .returned (.string (strOfNums xs)) ∧ Po.RdT (Po.rnd d p) xs ∧ Below w.heap.size w w'

set_option maxRecDepth 100000 in
set_option maxHeartbeats 4000000 in
theorem xrounded_any (d p : Int) (w : World) (h0 : 0 ≤ d) (h1 : d < 18446744073709551616) (hf : Ie.fnt d = true) (p0 : -9000 ≤ p) (p1 : p ≤ 9000) :
    Calls Tryz.prog 118 #[.int .u64 d, .int .i64 p] w fun e w' => RdTold d p w e w' := by
  obtain ⟨m0, m1, e0, e1, _⟩ := Ie.fdec d (of_decide_eq_true hf)
  have D := hid (zdecode_any d w h0 h1)
  have SC := hid (fun W' => xscaled_any (Ie.dm d) (Ie.de d) (-p) W' m0 (by omega) (by omega) (by omega) (by omega) (by omega))
  have q1 : Hid (Ie.dm d * 10 ^ p.toNat * 2 ^ (Ie.de d).toNat < Nm.pw 4096 ∧ Ie.dm d * 10 ^ p.toNat * 2 ^ (Ie.de d).toNat + 1 < Nm.pw 4096) := by
    have := pw_bdm (m := Ie.dm d) (a := p.toNat) (b := (Ie.de d).toNat) m0 (by omega) (by omega)
    have k := pw_bdm (m := Ie.dm d + 1) (a := p.toNat) (b := (Ie.de d).toNat) (by omega) (by omega) (by omega)
    have pp : (0 : Int) < 10 ^ p.toNat * 2 ^ (Ie.de d).toNat := Int.mul_pos (Int.pow_pos (by omega)) (Int.pow_pos (by omega))
    rw [Int.mul_assoc, Int.add_mul, Int.one_mul, ← Int.mul_assoc] at k
    exact ⟨this, by omega⟩
  have q2 : Hid ((10 : Int) ^ (-p).toNat * 2 ^ (-(Ie.de d)).toNat < Nm.pw 4096) := pw_bd (by omega)
  have q3 : Hid ((0 : Int) < 10 ^ (-p).toNat * 2 ^ (-(Ie.de d)).toNat) := Int.mul_pos (Int.pow_pos (by omega)) (Int.pow_pos (by omega))
  have q4 : Hid (0 ≤ Ie.dm d * 10 ^ p.toNat * 2 ^ (Ie.de d).toNat) := Int.mul_nonneg (Int.mul_nonneg m0 (Int.le_of_lt (Int.pow_pos (by omega)))) (Int.le_of_lt (Int.pow_pos (by omega)))
  have RN : Hid (Po.rnd d p = nearI (Ie.dm d * 10 ^ p.toNat * 2 ^ (Ie.de d).toNat) (10 ^ (-p).toNat * 2 ^ (-(Ie.de d)).toNat)) := rfl
  unfold ScTold at SC
  simp only [Int.neg_neg] at SC
  unfold RdTold
  generalize Ie.dm d * 10 ^ p.toNat * 2 ^ (Ie.de d).toNat = A at *
  generalize (10 : Int) ^ (-p).toNat * 2 ^ (-(Ie.de d)).toNat = B at *
  generalize Po.rnd d p = V at *
  simp only [partsOf] at D
  generalize decide (9223372036854775808 ≤ d) = neg at *
  clear m0 m1 e0 e1 hf
  generalize Ie.cls d = cc at *
  generalize Ie.dm d = m at *
  generalize Ie.de d = x at *
  go_enter Tryz.func118, Tryz.ntmps118
  go_wp2_with fail
  with_reducible refine D.out.mono ?_
  rintro e w1 ⟨rfl, b1⟩
  have B1 := hid b1
  clear b1 D
  go_wp2_with fail
  with_reducible refine (SC.out _).mono ?_
  rintro e w2 ⟨r, os, s, us, rfl, a1, a2, b2⟩
  have B2 := hid (below_on (Below.alloc B1.out B1.out.size _) b2)
  have hy : 0 < Nm.tsize us := by
    rcases Nat.eq_zero_or_pos (Nm.tsize us) with c | c
    · have := (Nm.tsize_zero_iff a2.2.1).1 c
      have := a2.2.2.2.1
      have := q3.out
      omega
    · exact c
  have NR := hid (rnear_ok r s _ _ _ _ os us w2 (a1.argT q1.out.1) (a2.argT q2.out) (a1.tsT q1.out.1) (a2.tsT q2.out) hy)
  rw [a1.2.2.2.1, a2.2.2.2.1, ← RN.out] at NR
  clear a1 a2 b2 B1 SC hy
  go_wp2_with fail
  with_reducible refine NR.out.mono ?_
  rintro e w3 ⟨r3, o3, rfl, a3, b3⟩
  have B3 := hid (below_on B2.out b3)
  have vb : 0 ≤ V ∧ V ≤ A + 1 := by rw [RN.out]; exact Po.nearI_bd q4.out q3.out
  have vp : V < Nm.pw 4096 := by have := q1.out.2; omega
  have A3 := hid (a3.argT vp)
  have F : Hid (∀ xs E, InIs o3 10 false xs E → Po.RdT V xs) := fun xs E h => Po.rdt_in a3.2.1 a3.2.2.2.1 vb.1 (a3.tsT vp) h
  have DG := hid (sdigits_any r3 _ _ o3 w3 A3.out)
  clear a3 b3 B2 NR vb vp A3
  unfold InTold at DG
  go_wp2_with fail
  with_reducible refine DG.out.mono ?_
  rintro e w4 ⟨s4, xs, E, rfl, hs, hi, b4⟩
  have hsx := str_is hs
  subst hsx
  have G : Hid (∃ ys, Ending.returned (.string (strOfNums xs)) = .returned (.string (strOfNums ys)) ∧ Po.RdT V ys ∧ Below w.heap.size w w4) := ⟨xs, rfl, F.out _ _ hi, below_on B3.out b4⟩
  clear hs hi b4 F B3 DG
  go_wp2_with fail
  go_ret
  exact G.out
end Go.Proofs.YtaoaniigbooihaaGreatDoor

namespace Go.Proofs.YtaoaniigbooihaaGreatDoor
open Go Go.RowKit Go.Deep
namespace Po

theorem nr_one {u v A D : Int} (hD : 0 < D) (h : Fx.Nr u A D) (k : Fx.Nr v A D) : u = v := by
  have key : ∀ {u v : Int}, Fx.Nr u A D → Fx.Nr v A D → ¬ v + 1 ≤ u := by
    intro u v h k c
    have q : (v + 1) * D ≤ u * D := Int.mul_le_mul_of_nonneg_right c (Int.le_of_lt hD)
    rw [Int.add_mul, Int.one_mul] at q
    obtain ⟨h1, h2, h3⟩ := h
    obtain ⟨k1, k2, k3⟩ := k
    have e : u * D = (v + 1) * D := by rw [Int.add_mul, Int.one_mul]; omega
    have e2 := Int.eq_of_mul_eq_mul_right (by omega) e
    have a := h3 (.inl (by omega))
    have b := k3 (.inr (by omega))
    omega
  have a := key h k
  have b := key k h
  omega
theorem nr_nearI {A B : Int} (hB : 0 < B) : Fx.Nr (nearI A B) A B := by
  have e := Int.emod_add_mul_ediv A B
  have r0 := Int.emod_nonneg A (show B ≠ 0 by omega)
  have r1 := Int.emod_lt_of_pos A hB
  rw [Int.mul_comm] at e
  unfold nearI Fx.Nr
  generalize A % B = r at *
  generalize A / B = q at *
  split
  · rename_i c
    refine ⟨by omega, by omega, fun t => ?_⟩
    rcases t with t | t
    · omega
    · rcases c with c | c
      · omega
      · exact c.2
  · rename_i c
    rw [Int.add_mul, Int.one_mul]
    refine ⟨by omega, by omega, fun t => ?_⟩
    rcases t with t | t
    · have : q % 2 ≠ 0 := fun z => c (.inr ⟨by omega, z⟩)
      omega
    · omega
theorem dv_ext : ∀ {xs ys : List Int}, Digs xs → Digs ys → xs.length = ys.length → dv xs = dv ys → xs = ys
  | [], [], _, _, _, _ => rfl
  | [], _ :: _, _, _, h, _ => by simp at h
  | _ :: _, [], _, _, h, _ => by simp at h
  | x :: xs, y :: ys, hx, hy, hl, hv => by
    have hl' : xs.length = ys.length := by simpa using hl
    have dx : Digs xs := fun z hz => hx z (by simp [hz])
    have dy : Digs ys := fun z hz => hy z (by simp [hz])
    have bx := dv_bd dx
    have by_ := dv_bd dy
    rw [dv_cons, dv_cons, ← hl'] at hv
    rw [← hl'] at by_
    have e : x = y := by
      generalize (10 : Int) ^ xs.length = T at *
      rcases (show x = y ∨ x + 1 ≤ y ∨ y + 1 ≤ x by omega) with c | c | c
      · exact c
      · have q : (x - 48 + 1) * T ≤ (y - 48) * T := Int.mul_le_mul_of_nonneg_right (by omega) (by omega)
        rw [Int.add_mul, Int.one_mul] at q
        omega
      · have q : (y - 48 + 1) * T ≤ (x - 48) * T := Int.mul_le_mul_of_nonneg_right (by omega) (by omega)
        rw [Int.add_mul, Int.one_mul] at q
        omega
    subst e
    rw [dv_ext dx dy hl' (by omega)]

theorem rnd_W {d : Int} (hf : Ie.fnt d = true) (n : Nat) : rnd d (n : Int) = dv (Fx.W d n) := by
  have hD : (0 : Int) < 2 ^ Fx.dn d := Int.pow_pos (by omega)
  refine nr_one hD ?_ (Fx.near_W hf n)
  have e : rnd d (n : Int) = nearI (Fx.top d n) (2 ^ Fx.dn d) := by
    unfold rnd Fx.top Fx.dn
    rw [Int.toNat_natCast, show (-(n : Int)).toNat = 0 by omega, Int.pow_zero, Int.one_mul]
  rw [e]
  exact nr_nearI hD
theorem rdt_len {V : Int} {xs : List Int} (h : RdT V xs) {k : Nat} (hk : V < 10 ^ k) (k1 : 1 ≤ k) : xs.length ≤ k := by
  have b := (dv_bd h.digs).1
  rcases (show V = 0 ∨ 0 < V by have := h.val; omega) with c | c
  · rw [h.zero c]; simp; omega
  · obtain ⟨m, hm⟩ : ∃ m, xs.length = m + 1 := ⟨xs.length - 1, by have := List.length_pos_iff.2 h.ne; omega⟩
    have := Fx.head_low h.digs hm (h.head c)
    rw [h.val] at this
    have := Fx.p_lt (a := m) (b := k) (by omega)
    omega
theorem rdt_W {d : Int} {n : Nat} {xs : List Int} (hf : Ie.fnt d = true) (h : RdT (dv (Fx.W d n)) xs) : List.replicate (n + 1 - xs.length) 48 ++ xs = Fx.W d n := by
  have wl := Fx.W_len d n
  have wd := Fx.W_digs hf n
  have L : (List.replicate (n + 1 - xs.length) 48 ++ xs).length = (Fx.W d n).length := by
    rw [List.length_append, List.length_replicate]
    by_cases c : n + 1 < (Fx.W d n).length
    · have wh := Fx.W_head hf n c
      obtain ⟨m, hm⟩ : ∃ m, (Fx.W d n).length = m + 1 := ⟨(Fx.W d n).length - 1, by omega⟩
      have lo := Fx.head_low wd hm wh
      have pp := Fx.p_pos m
      have := Fx.len_eq h.digs wd h.ne (fun q => by rw [q] at c; simp at c) (h.head (by omega)) wh h.val
      omega
    · have b := (dv_bd wd).2
      rw [show (Fx.W d n).length = n + 1 by omega] at b
      have := rdt_len h b (by omega)
      omega
  refine dv_ext ?_ wd L ?_
  · intro x hx
    rcases List.mem_append.1 hx with q | q
    · have := List.eq_of_mem_replicate q; omega
    · exact h.digs x q
  · rw [dv_append, dv_zeros, Int.zero_mul, Int.zero_add]
    exact h.val

/-- The exponent of a double's first digit. -/
noncomputable def tK (d : Int) : Int := (Fx.X d).length - 1 + Fx.P d
theorem rnd_G {d : Int} (hf : Ie.fnt d = true) (hm : 0 < Ie.dm d) {n : Nat} : rnd d ((n : Int) - 1 - tK d) = dv (Fx.kp (Fx.X d) n) := by
  obtain ⟨m0, m1, e0, e1, _⟩ := Ie.fdec d (of_decide_eq_true hf)
  have q := Fx.ex_pow hm e0 (Fx.X_ex hf)
  have lo := (Fx.X_ex hf).lo
  have hx := (Fx.X_digs hf).1
  obtain ⟨a, ha⟩ : ∃ a : Nat, Fx.P d + 1074 = (a : Int) := ⟨(Fx.P d + 1074).toNat, by have := (Fx.X_room hf).2.2.1; omega⟩
  rw [show (Fx.P d + 1074).toNat = a by omega] at q
  unfold rnd
  obtain ⟨u, v, hu, hv, huv⟩ : ∃ u v : Nat, ((n : Int) - 1 - tK d).toNat = u ∧ (-((n : Int) - 1 - tK d)).toNat = v ∧ (u : Int) - v = n - (Fx.X d).length - Fx.P d := ⟨_, _, rfl, rfl, by unfold tK; omega⟩
  rw [hu, hv]
  have hB : (0 : Int) < 10 ^ v * 2 ^ (-(Ie.de d)).toNat := Int.mul_pos (Int.pow_pos (by omega)) (Int.pow_pos (by omega))
  have pa : (0 : Int) < 10 ^ a := Int.pow_pos (by omega)
  refine nr_one hB (nr_nearI hB) ?_
  rcases Nat.lt_or_ge n (Fx.X d).length with c | c
  · rw [Fx.kp_cut c, Fx.rd_dv hx (by omega)]
    obtain ⟨n1, n2, n3⟩ := Fx.rn_near hx n
    refine Fx.nr_of (N := dv (Fx.X d)) (T := 10 ^ ((Fx.X d).length - n)) (Int.pow_pos (by omega)) hB ?_ n1 n2 n3
    have ex : 1074 + v = u + ((Fx.X d).length - n) + a := by omega
    have e10 : (10 : Int) ^ 1074 * 10 ^ v = 10 ^ u * 10 ^ ((Fx.X d).length - n) * 10 ^ a := by rw [← Int.pow_add, ← Int.pow_add, ← Int.pow_add, ex]
    refine Int.eq_of_mul_eq_mul_right (a := 10 ^ a) (by omega) ?_
    generalize (10 : Int) ^ 1074 = z at *
    generalize (10 : Int) ^ v = pv at *
    generalize (10 : Int) ^ u = pu at *
    generalize (10 : Int) ^ ((Fx.X d).length - n) = pr at *
    generalize (10 : Int) ^ a = pa' at *
    generalize (2 : Int) ^ (-(Ie.de d)).toNat = t1 at *
    generalize (2 : Int) ^ (Ie.de d).toNat = t2 at *
    rw [show dv (Fx.X d) * (pv * t1) * pa' = dv (Fx.X d) * pa' * t1 * pv by ac_rfl, q, show Ie.dm d * t2 * z * pv = Ie.dm d * t2 * (z * pv) by ac_rfl, e10]
    ac_rfl
  · rw [Fx.kp_full c, dv_append, dv_zeros, List.length_replicate, Int.add_zero]
    apply Fx.nr_exact _ hB
    have ex : 1074 + (n - (Fx.X d).length) + v = u + a := by omega
    have e10 : (10 : Int) ^ 1074 * 10 ^ (n - (Fx.X d).length) * 10 ^ v = 10 ^ u * 10 ^ a := by rw [← Int.pow_add, ← Int.pow_add, ← Int.pow_add, ex]
    refine Int.eq_of_mul_eq_mul_right (a := 10 ^ a) (by omega) ?_
    generalize (10 : Int) ^ 1074 = z at *
    generalize (10 : Int) ^ v = pv at *
    generalize (10 : Int) ^ u = pu at *
    generalize (10 : Int) ^ (n - (Fx.X d).length) = pr at *
    generalize (10 : Int) ^ a = pa' at *
    generalize (2 : Int) ^ (-(Ie.de d)).toNat = t1 at *
    generalize (2 : Int) ^ (Ie.de d).toNat = t2 at *
    rw [show dv (Fx.X d) * pr * (pv * t1) * pa' = dv (Fx.X d) * pa' * t1 * (pr * pv) by ac_rfl, q, show Ie.dm d * t2 * z * (pr * pv) = Ie.dm d * t2 * (z * pr * pv) by ac_rfl, e10]
    ac_rfl
theorem rdt_G {d : Int} {n : Nat} {xs : List Int} (hf : Ie.fnt d = true) (hm : 0 < Ie.dm d) (h1 : 1 ≤ n) (h : RdT (dv (Fx.kp (Fx.X d) n)) xs) : xs = Fx.kp (Fx.X d) n := by
  have nm := (Fx.X_ex hf).nml hm
  have hx := nm.digs
  have kd : Digs (Fx.kp (Fx.X d) n) ∧ (Fx.kp (Fx.X d) n).getD 0 0 ≠ 48 ∧ Fx.kp (Fx.X d) n ≠ [] := by
    rcases Nat.lt_or_ge n (Fx.X d).length with c | c
    · rw [Fx.kp_cut c]
      refine ⟨Fx.rd_digs _ _, Fx.rd_head nm h1 (by omega), fun q => ?_⟩
      have := congrArg List.length q
      rw [Fx.rd_len, List.length_nil] at this
      split at this <;> omega
    · rw [Fx.kp_full c]
      have l1 := List.length_pos_iff.2 nm.ne
      refine ⟨fun x q => ?_, ?_, fun q => nm.ne (List.append_eq_nil_iff.1 q).1⟩
      · rcases List.mem_append.1 q with q | q
        · exact hx x q
        · have := List.eq_of_mem_replicate q; omega
      · have := nm.head
        rw [List.getD_eq_getElem?_getD, List.getElem?_append_left l1]
        rw [List.getD_eq_getElem?_getD] at this
        exact this
  obtain ⟨kd1, kd2, kd3⟩ := kd
  obtain ⟨m, hmm⟩ : ∃ m, (Fx.kp (Fx.X d) n).length = m + 1 := ⟨(Fx.kp (Fx.X d) n).length - 1, by have := List.length_pos_iff.2 kd3; omega⟩
  have lo := Fx.head_low kd1 hmm kd2
  have pp := Fx.p_pos m
  exact dv_ext h.digs kd1 (Fx.len_eq h.digs kd1 h.ne kd3 (h.head (by omega)) kd2 h.val) h.val
theorem atl_K {d : Int} (hf : Ie.fnt d = true) (hm : 0 < Ie.dm d) (k : Int) : atl (Ie.dm d) (Ie.de d) k = decide (k ≤ tK d) := by
  obtain ⟨m0, m1, e0, e1, _⟩ := Ie.fdec d (of_decide_eq_true hf)
  have nm := (Fx.X_ex hf).nml hm
  have q := Fx.ex_pow hm e0 (Fx.X_ex hf)
  obtain ⟨a, ha⟩ : ∃ a : Nat, Fx.P d + 1074 = (a : Int) := ⟨(Fx.P d + 1074).toNat, by have := (Fx.X_room hf).2.2.1; omega⟩
  rw [show (Fx.P d + 1074).toNat = a by omega] at q
  obtain ⟨l, hl⟩ := nm.len
  have lo := Fx.head_low nm.digs hl nm.head
  have hi := (dv_bd nm.digs).2
  rw [hl] at hi
  have p1 : (0 : Int) < 2 ^ (-(Ie.de d)).toNat := Int.pow_pos (by omega)
  have pz : (0 : Int) < 10 ^ 1074 := Fx.p_pos 1074
  have key : ∀ {c : Int}, (10 ^ k.toNat * 2 ^ (-(Ie.de d)).toNat ≤ Ie.dm d * 10 ^ (-k).toNat * 2 ^ (Ie.de d).toNat) ↔ (10 ^ k.toNat * 10 ^ 1074 ≤ dv (Fx.X d) * 10 ^ a * 10 ^ (-k).toNat) := by
    intro _
    have e1 : Ie.dm d * 10 ^ (-k).toNat * 2 ^ (Ie.de d).toNat * 10 ^ 1074 = dv (Fx.X d) * 10 ^ a * 10 ^ (-k).toNat * 2 ^ (-(Ie.de d)).toNat := by
      generalize (10 : Int) ^ 1074 = z at *
      rw [show Ie.dm d * 10 ^ (-k).toNat * 2 ^ (Ie.de d).toNat * z = Ie.dm d * 2 ^ (Ie.de d).toNat * z * 10 ^ (-k).toNat by ac_rfl, ← q]
      ac_rfl
    generalize (10 : Int) ^ 1074 = z at *
    generalize dv (Fx.X d) * 10 ^ a * 10 ^ (-k).toNat = R at *
    generalize Ie.dm d * 10 ^ (-k).toNat * 2 ^ (Ie.de d).toNat = S at *
    generalize (2 : Int) ^ (-(Ie.de d)).toNat = t at *
    generalize (10 : Int) ^ k.toNat = K at *
    constructor
    · intro c
      have := Int.mul_le_mul_of_nonneg_right c (Int.le_of_lt pz)
      rw [e1, Int.mul_right_comm] at this
      exact Int.le_of_mul_le_mul_right this p1
    · intro c
      have := Int.mul_le_mul_of_nonneg_right c (Int.le_of_lt p1)
      rw [← e1, Int.mul_right_comm] at this
      exact Int.le_of_mul_le_mul_right this pz
  unfold atl
  congr 1
  apply propext
  rw [key (c := 0)]
  unfold tK
  have pk := Fx.p_pos (a + (-k).toNat)
  constructor
  · intro c
    rcases (show k ≤ (Fx.X d).length - 1 + Fx.P d ∨ (Fx.X d).length + Fx.P d ≤ k by omega) with g | g
    · exact g
    · exfalso
      have h2 : dv (Fx.X d) * 10 ^ (a + (-k).toNat) < 10 ^ (l + 1) * 10 ^ (a + (-k).toNat) := Int.mul_lt_mul_of_pos_right hi pk
      rw [← Int.pow_add] at h2
      have h3 := Fx.p_le (a := l + 1 + (a + (-k).toNat)) (b := k.toNat + 1074) (by omega)
      rw [Int.pow_add 10 a, ← Int.mul_assoc] at h2
      rw [Int.pow_add 10 k.toNat] at h3
      omega
  · intro c
    have h2 : 10 ^ l * 10 ^ (a + (-k).toNat) ≤ dv (Fx.X d) * 10 ^ (a + (-k).toNat) := Int.mul_le_mul_of_nonneg_right lo (Int.le_of_lt pk)
    rw [← Int.pow_add] at h2
    have h3 := Fx.p_le (a := k.toNat + 1074) (b := l + (a + (-k).toNat)) (by omega)
    rw [Int.pow_add 10 a, ← Int.mul_assoc] at h2
    rw [Int.pow_add 10 k.toNat] at h3
    omega
end Po
end Go.Proofs.YtaoaniigbooihaaGreatDoor
