/-
  layer 2's reference: Plus.
-/
import Derived.Test.YthfechigdiefpaaQRef5
namespace Go.Proofs.Ythfechigdiefpaa
open Go.RowKit Go.Deep

theorem val_take_any (zs : List Int) (k : Nat) : Nm.val (zs.take (k + 1)) = Nm.val (zs.take k) + Nm.pw k * zs.getD k 0 := by
  by_cases h : k < zs.length
  · exact Nm.val_take_succ zs k h
  · rw [List.take_of_length_le (by omega), List.take_of_length_le (by omega), List.getD, List.getElem?_eq_none (by omega)]
    simp

theorem getD_out {zs : List Int} {k : Nat} (h : zs.length ≤ k) : zs.getD k 0 = 0 := by rw [List.getD, List.getElem?_eq_none h]; rfl

/-- A round of Plus. -/
theorem plus_next {g n : Nat} {w : World} {xs ys : List Int} {j : Nat} {c c' s : Int} {os : List Int} {wr : World} (h : MaInv g (n + 1) w (Nm.val (xs.take j) + Nm.val (ys.take j)) j c os wr) (hj : j < n) (hs : 0 ≤ s ∧ s < 18446744073709551616) (hc : 0 ≤ c' ∧ c' ≤ 1)
    (he : s + 18446744073709551616 * c' = xs.getD j 0 + ys.getD j 0 + c) : MaInv g (n + 1) w (Nm.val (xs.take (j + 1)) + Nm.val (ys.take (j + 1))) (j + 1) c' (os.set j s) (wr.setCell ⟨g, j, none⟩ (.int .u64 s)) := by
  have := h.step (by omega) (x := xs.getD j 0 + ys.getD j 0) (s := s) (c' := c') hs ⟨hc.1, by omega⟩ he
  have e : Nm.val (xs.take j) + Nm.val (ys.take j) + Nm.pw j * (xs.getD j 0 + ys.getD j 0) = Nm.val (xs.take (j + 1)) + Nm.val (ys.take (j + 1)) := by
    rw [val_take_any, val_take_any, Int.mul_add]
    omega
  rw [e] at this
  exact this

theorem wrap_over {x : Int} (h : 18446744073709551616 ≤ x) (h2 : x < 36893488147419103232) : IntKind.u64.wrap x = x - 18446744073709551616 := by rw [wrap_mod]; omega

/-- Short, its block under a name. -/
theorem short_some (p : Option Addr) (n cap : Nat) (zs : List Int) (w : World) (hn : zs.length = n) (hm : n ≤ 17592186044416) (h : Lies w p zs) (hz : Nm.Limbs zs) :
    Calls Try.prog 65 #[.slice p n cap] w fun e w' => ∃ r os, e = .returned (.slice r (List.length os) (List.length os)) ∧ os = Nm.trim zs ∧ Ans w.heap.size w' r os (Nm.val zs) ∧ Below w.heap.size w w' := by
  refine (short_any p n cap zs _ w hn hm h rfl).mono ?_
  rintro e w' ⟨rfl, o, d⟩
  exact ⟨_, Nm.trim zs, by rw [Nm.trim_length], rfl, o.ans hz (Nat.le_refl _), d⟩

set_option maxRecDepth 100000 in
set_option maxHeartbeats 4000000 in
theorem refPlus_any (p q : Option Addr) (L1 cap L2 cap' n : Nat) (xs ys : List Int) (w : World) (ha : Arg w p L1 cap xs) (hb : Arg w q L2 cap' ys) (h1 : L1 ≤ n) (h2 : L2 ≤ n) (hmx : (n = L1 ∧ L2 ≤ L1) ∨ (n = L2 ∧ L1 < L2)) (hn0 : 0 < n) (hnb : n ≤ 1000000) :
    Calls Try.prog 51 #[.slice p L1 cap, .slice q L2 cap'] w fun e w' => ∃ r os, e = .returned (.slice r (List.length os) (List.length os)) ∧ Ans w.heap.size w' r os (Nm.val xs + Nm.val ys) ∧ Below w.heap.size w w' := by
  obtain ⟨a1, a2, a3, a4, a5⟩ := ha
  obtain ⟨b1, b2, b3, b4, b5⟩ := hb
  have hn44 : n ≤ 17592186044416 := by omega
  have hmk := make64 (n + 1) (by omega) w
  have em : ((n + 1 : Nat) : Int) = (n : Int) + 1 := by omega
  rw [em] at hmk
  clear em
  have ho : Own (w.alloc (.cells (madeCells #[.int .u64 0] (n + 1)) 26)) w.heap.size (List.replicate (n + 1) 0) := by
    rw [made_zero]; exact Own.alloc w _
  have hb0 : Below w.heap.size w (w.alloc (.cells (madeCells #[.int .u64 0] (n + 1)) 26)) := (Below.refl _ _).alloc (Nat.le_refl _) _
  obtain ⟨W0, hW0⟩ : ∃ W0, w.alloc (.cells (madeCells #[.int .u64 0] (n + 1)) 26) = W0 := ⟨_, rfl⟩
  rw [hW0] at hmk ho hb0
  clear hW0
  have I0 : MaInv w.heap.size (n + 1) W0 (Nm.val (xs.take 0) + Nm.val (ys.take 0)) 0 0 (List.replicate (n + 1) 0) W0 :=
    ⟨⟨ho, by simp, Nm.Limbs.replicate _, by simp [Nm.val_replicate, Nm.val], Below.refl _ _, rfl⟩, by omega, fun i _ => getD_replicate _ _⟩
  have HI0 := hid I0
  have HB0 := hid hb0
  have A1 := hid a1
  have A4 := hid a4
  have A5 := hid a5
  have B1 := hid b1
  have B4 := hid b4
  have B5 := hid b5
  have fin : ∀ (c : Int) (os : List Int) (wr : World), 0 ≤ c → c ≤ 1 → MaInv w.heap.size (n + 1) W0 (Nm.val (xs.take n) + Nm.val (ys.take n)) n c os wr →
      Own (wr.setCell ⟨w.heap.size, n, none⟩ (.int .u64 c)) w.heap.size (os.set n c) ∧ (os.set n c).length = n + 1 ∧ Nm.Limbs (os.set n c) ∧ Nm.val (os.set n c) = Nm.val xs + Nm.val ys ∧ Below w.heap.size w (wr.setCell ⟨w.heap.size, n, none⟩ (.int .u64 c)) := by
    intro c os wr c0 c1 I
    obtain ⟨⟨i1, i2, i3, i4, i5, i6⟩, i7, i8⟩ := I
    refine ⟨i1.set n c, by simpa using i2, i3.set n c0 (by omega), ?_, (hb0.trans i5).setCell (p := ⟨w.heap.size, n, none⟩) (Nat.le_refl _) _⟩
    rw [Nm.val_set _ _ _ (by omega), i8 n (Nat.le_refl _), Int.sub_zero, i4, List.take_of_length_le (by omega), List.take_of_length_le (by omega)]
  have FIN := hid fin
  have hL1n : (L1 : Int) ≤ (n : Int) := by omega
  have hL2n : (L2 : Int) ≤ (n : Int) := by omega
  clear fin I0 ho hb0 a1 a4 a5 b1 b4 b5
  rcases hmx with ⟨hmx1, hmx2⟩ | ⟨hmx1, hmx2⟩
  · subst hmx1
    have hgt : ¬ (n : Int) < (L2 : Int) := by omega
    go_enter Try.func51, Try.ntmps51
    go_wp2_with fail
    go_loopw [7, 8] (fun cc i wr => ∃ (j : Nat) (c : Int) (os : List Int), j ≤ n ∧ i = .int .i64 j ∧ cc = .int .u64 c ∧ (0 ≤ c ∧ c ≤ 1) ∧ Hid (MaInv w.heap.size (n + 1) W0 (Nm.val (xs.take j) + Nm.val (ys.take j)) j c os wr)) (fun _ i _ => n - (intOf i).toNat)
    case atStart => exact ⟨0, 0, _, Nat.zero_le _, rfl, rfl, by omega, HI0.out⟩
    case round =>
      clear HI0 hmk
      obtain ⟨j, c, os, hj, rfl, rfl, ⟨c0, c1⟩, I⟩ := hrel
      by_cases hlt : j < n
      · obtain ⟨y0, hy0⟩ : ∃ y, wr.cell? ⟨w.heap.size, j, none⟩ = some (.int .u64 y) := ⟨_, I.out.1.1.cell j (by have := I.out.1.2.1; omega)⟩
        have hfr := I.out.1.1.free j
        have hBw := HB0.out.trans I.out.1.2.2.2.2.1
        have hjn : (j : Int) < (n : Int) := by omega
        have hjn1 : (j : Int) < (n : Int) + 1 := by omega
        by_cases hx : j < n
        · obtain ⟨b, off, hp, hbw, HC⟩ := A4.out.at (by have := A1.out; omega)
          subst hp
          obtain ⟨x, hxc, X⟩ : ∃ x, wr.cell? ⟨b, off + j, none⟩ = some (.int .u64 x) ∧ Hid (x = xs.getD j 0) := ⟨_, (hBw.cell (p := ⟨b, off + j, none⟩) hbw).trans (HC.out j (by have := A1.out; omega)), rfl⟩
          have hx0 := A5.out.at j
          rw [← X.out] at hx0
          obtain ⟨hx0, hx1⟩ := hx0
          have hxl : (j : Int) < (n : Int) := by omega
          by_cases hy : j < L2
          · obtain ⟨b', off', hq, hbw', HC'⟩ := B4.out.at (by have := B1.out; omega)
            subst hq
            obtain ⟨y, hyc, Y⟩ : ∃ y, wr.cell? ⟨b', off' + j, none⟩ = some (.int .u64 y) ∧ Hid (y = ys.getD j 0) := ⟨_, (hBw.cell (p := ⟨b', off' + j, none⟩) hbw').trans (HC'.out j (by have := B1.out; omega)), rfl⟩
            have hyy0 := B5.out.at j
            rw [← Y.out] at hyy0
            obtain ⟨hyy0, hyy1⟩ := hyy0
            have hyl : (j : Int) < (L2 : Int) := by omega
            have HBw := hid hBw
            clear hBw
            rcases (show x + y + c < 18446744073709551616 ∨ (x + y < 18446744073709551616 ∧ 18446744073709551616 ≤ x + y + c) ∨ 18446744073709551616 ≤ x + y by omega) with k | k | k
            · have N := hid (plus_next I.out (s := x + y + c) (c' := 0) hlt (by omega) (by omega) (by rw [← X.out, ← Y.out]; omega))
              have k1 : ¬ x + y < x := by omega
              have k2 : ¬ x + y + c < c := by omega
              clear I
              go_wp2
              go_roundw
              case rel => exact ⟨j + 1, 0, _, by omega, by go_num, rfl, by omega, N.out⟩
              case measure => simp [intOf]; omega
            · obtain ⟨k1, k2⟩ := k
              have N := hid (plus_next I.out (s := x + y + c - 18446744073709551616) (c' := 1) hlt (by omega) (by omega) (by rw [← X.out, ← Y.out]; omega))
              have k3 : ¬ x + y < x := by omega
              have r2 := wrap_over k2 (by omega)
              have k4 : x + y + c - 18446744073709551616 < c := by omega
              clear I
              go_wp2
              go_roundw
              case rel => exact ⟨j + 1, 1, _, by omega, by go_num, rfl, by omega, N.out⟩
              case measure => simp [intOf]; omega
            · have N := hid (plus_next I.out (s := x + y - 18446744073709551616 + c) (c' := 1) hlt (by omega) (by omega) (by rw [← X.out, ← Y.out]; omega))
              have r2 := wrap_over k (by omega)
              have k3 : x + y - 18446744073709551616 < x := by omega
              have k4 : ¬ x + y - 18446744073709551616 + c < c := by omega
              clear I
              go_wp2
              go_roundw
              case rel => exact ⟨j + 1, 1, _, by omega, by go_num, rfl, by omega, N.out⟩
              case measure => simp [intOf]; omega
          · have YZ := hid (getD_out (zs := ys) (k := j) (by have := B1.out; omega))
            have hyl : ¬ (j : Int) < (L2 : Int) := by omega
            clear hBw
            rcases (show x + c < 18446744073709551616 ∨ 18446744073709551616 ≤ x + c by omega) with k | k
            · have N := hid (plus_next I.out (s := x + c) (c' := 0) hlt (by omega) (by omega) (by rw [← X.out, YZ.out]; omega))
              have k2 : ¬ x + c < c := by omega
              clear I
              go_wp2
              go_roundw
              case rel => exact ⟨j + 1, 0, _, by omega, by go_num, rfl, by omega, N.out⟩
              case measure => simp [intOf]; omega
            · have N := hid (plus_next I.out (s := x + c - 18446744073709551616) (c' := 1) hlt (by omega) (by omega) (by rw [← X.out, YZ.out]; omega))
              have r2 := wrap_over k (by omega)
              have k4 : x + c - 18446744073709551616 < c := by omega
              clear I
              go_wp2
              go_roundw
              case rel => exact ⟨j + 1, 1, _, by omega, by go_num, rfl, by omega, N.out⟩
              case measure => simp [intOf]; omega
        · exact absurd hlt hx
      · have hjn : j = n := by omega
        subst hjn
        have F := hid (FIN.out c os wr c0 c1 I.out)
        obtain ⟨y0, hy0⟩ : ∃ y, wr.cell? ⟨w.heap.size, j, none⟩ = some (.int .u64 y) := ⟨_, I.out.1.1.cell j (by have := I.out.1.2.1; omega)⟩
        have hfr := I.out.1.1.free j
        clear I
        go_wp2_with fail
        refine (short_some (some ⟨w.heap.size, 0, none⟩) (j + 1) (j + 1) (os.set j c) _ F.out.2.1 (by omega) F.out.1.lies F.out.2.2.1).mono ?_
        rintro e w2 ⟨r, us, rfl, -, A2, d2⟩
        have G : Hid (Ans w.heap.size w2 r us (Nm.val xs + Nm.val ys) ∧ Below w.heap.size w w2) := by
          rw [← F.out.2.2.2.1]
          exact ⟨A2.up F.out.2.2.2.2.size, chain F.out.2.2.2.2 d2 (Nat.le_refl _)⟩
        clear A2 d2
        go_wp2_with fail
        go_ret
        exact ⟨r, us, rfl, G.out.1, G.out.2⟩
  · subst hmx1
    have hgt : (L1 : Int) < (n : Int) := by omega
    go_enter Try.func51, Try.ntmps51
    go_wp2_with fail
    go_loopw [7, 8] (fun cc i wr => ∃ (j : Nat) (c : Int) (os : List Int), j ≤ n ∧ i = .int .i64 j ∧ cc = .int .u64 c ∧ (0 ≤ c ∧ c ≤ 1) ∧ Hid (MaInv w.heap.size (n + 1) W0 (Nm.val (xs.take j) + Nm.val (ys.take j)) j c os wr)) (fun _ i _ => n - (intOf i).toNat)
    case atStart => exact ⟨0, 0, _, Nat.zero_le _, rfl, rfl, by omega, HI0.out⟩
    case round =>
      clear HI0 hmk
      obtain ⟨j, c, os, hj, rfl, rfl, ⟨c0, c1⟩, I⟩ := hrel
      by_cases hlt : j < n
      · obtain ⟨y0, hy0⟩ : ∃ y, wr.cell? ⟨w.heap.size, j, none⟩ = some (.int .u64 y) := ⟨_, I.out.1.1.cell j (by have := I.out.1.2.1; omega)⟩
        have hfr := I.out.1.1.free j
        have hBw := HB0.out.trans I.out.1.2.2.2.2.1
        have hjn : (j : Int) < (n : Int) := by omega
        have hjn1 : (j : Int) < (n : Int) + 1 := by omega
        by_cases hx : j < L1
        · obtain ⟨b, off, hp, hbw, HC⟩ := A4.out.at (by have := A1.out; omega)
          subst hp
          obtain ⟨x, hxc, X⟩ : ∃ x, wr.cell? ⟨b, off + j, none⟩ = some (.int .u64 x) ∧ Hid (x = xs.getD j 0) := ⟨_, (hBw.cell (p := ⟨b, off + j, none⟩) hbw).trans (HC.out j (by have := A1.out; omega)), rfl⟩
          have hx0 := A5.out.at j
          rw [← X.out] at hx0
          obtain ⟨hx0, hx1⟩ := hx0
          have hxl : (j : Int) < (L1 : Int) := by omega
          by_cases hy : j < n
          · obtain ⟨b', off', hq, hbw', HC'⟩ := B4.out.at (by have := B1.out; omega)
            subst hq
            obtain ⟨y, hyc, Y⟩ : ∃ y, wr.cell? ⟨b', off' + j, none⟩ = some (.int .u64 y) ∧ Hid (y = ys.getD j 0) := ⟨_, (hBw.cell (p := ⟨b', off' + j, none⟩) hbw').trans (HC'.out j (by have := B1.out; omega)), rfl⟩
            have hyy0 := B5.out.at j
            rw [← Y.out] at hyy0
            obtain ⟨hyy0, hyy1⟩ := hyy0
            have hyl : (j : Int) < (n : Int) := by omega
            have HBw := hid hBw
            clear hBw
            rcases (show x + y + c < 18446744073709551616 ∨ (x + y < 18446744073709551616 ∧ 18446744073709551616 ≤ x + y + c) ∨ 18446744073709551616 ≤ x + y by omega) with k | k | k
            · have N := hid (plus_next I.out (s := x + y + c) (c' := 0) hlt (by omega) (by omega) (by rw [← X.out, ← Y.out]; omega))
              have k1 : ¬ x + y < x := by omega
              have k2 : ¬ x + y + c < c := by omega
              clear I
              go_wp2
              go_roundw
              case rel => exact ⟨j + 1, 0, _, by omega, by go_num, rfl, by omega, N.out⟩
              case measure => simp [intOf]; omega
            · obtain ⟨k1, k2⟩ := k
              have N := hid (plus_next I.out (s := x + y + c - 18446744073709551616) (c' := 1) hlt (by omega) (by omega) (by rw [← X.out, ← Y.out]; omega))
              have k3 : ¬ x + y < x := by omega
              have r2 := wrap_over k2 (by omega)
              have k4 : x + y + c - 18446744073709551616 < c := by omega
              clear I
              go_wp2
              go_roundw
              case rel => exact ⟨j + 1, 1, _, by omega, by go_num, rfl, by omega, N.out⟩
              case measure => simp [intOf]; omega
            · have N := hid (plus_next I.out (s := x + y - 18446744073709551616 + c) (c' := 1) hlt (by omega) (by omega) (by rw [← X.out, ← Y.out]; omega))
              have r2 := wrap_over k (by omega)
              have k3 : x + y - 18446744073709551616 < x := by omega
              have k4 : ¬ x + y - 18446744073709551616 + c < c := by omega
              clear I
              go_wp2
              go_roundw
              case rel => exact ⟨j + 1, 1, _, by omega, by go_num, rfl, by omega, N.out⟩
              case measure => simp [intOf]; omega
          · exact absurd hlt hy
        · have XZ := hid (getD_out (zs := xs) (k := j) (by have := A1.out; omega))
          have hxl : ¬ (j : Int) < (L1 : Int) := by omega
          have hy : j < n := by omega
          obtain ⟨b', off', hq, hbw', HC'⟩ := B4.out.at (by have := B1.out; omega)
          subst hq
          obtain ⟨y, hyc, Y⟩ : ∃ y, wr.cell? ⟨b', off' + j, none⟩ = some (.int .u64 y) ∧ Hid (y = ys.getD j 0) := ⟨_, (hBw.cell (p := ⟨b', off' + j, none⟩) hbw').trans (HC'.out j (by have := B1.out; omega)), rfl⟩
          have hyy0 := B5.out.at j
          rw [← Y.out] at hyy0
          obtain ⟨hyy0, hyy1⟩ := hyy0
          have hyl : (j : Int) < (n : Int) := by omega
          have hy00 : ¬ y < 0 := by omega
          clear hBw
          rcases (show y + c < 18446744073709551616 ∨ 18446744073709551616 ≤ y + c by omega) with k | k
          · have N := hid (plus_next I.out (s := y + c) (c' := 0) hlt (by omega) (by omega) (by rw [XZ.out, ← Y.out]; omega))
            have k2 : ¬ y + c < c := by omega
            clear I
            go_wp2
            go_roundw
            case rel => exact ⟨j + 1, 0, _, by omega, by go_num, rfl, by omega, N.out⟩
            case measure => simp [intOf]; omega
          · have N := hid (plus_next I.out (s := y + c - 18446744073709551616) (c' := 1) hlt (by omega) (by omega) (by rw [XZ.out, ← Y.out]; omega))
            have r2 := wrap_over k (by omega)
            have k4 : y + c - 18446744073709551616 < c := by omega
            clear I
            go_wp2
            go_roundw
            case rel => exact ⟨j + 1, 1, _, by omega, by go_num, rfl, by omega, N.out⟩
            case measure => simp [intOf]; omega
      · have hjn : j = n := by omega
        subst hjn
        have F := hid (FIN.out c os wr c0 c1 I.out)
        obtain ⟨y0, hy0⟩ : ∃ y, wr.cell? ⟨w.heap.size, j, none⟩ = some (.int .u64 y) := ⟨_, I.out.1.1.cell j (by have := I.out.1.2.1; omega)⟩
        have hfr := I.out.1.1.free j
        clear I
        go_wp2_with fail
        refine (short_some (some ⟨w.heap.size, 0, none⟩) (j + 1) (j + 1) (os.set j c) _ F.out.2.1 (by omega) F.out.1.lies F.out.2.2.1).mono ?_
        rintro e w2 ⟨r, us, rfl, -, A2, d2⟩
        have G : Hid (Ans w.heap.size w2 r us (Nm.val xs + Nm.val ys) ∧ Below w.heap.size w w2) := by
          rw [← F.out.2.2.2.1]
          exact ⟨A2.up F.out.2.2.2.2.size, chain F.out.2.2.2.2 d2 (Nat.le_refl _)⟩
        clear A2 d2
        go_wp2_with fail
        go_ret
        exact ⟨r, us, rfl, G.out.1, G.out.2⟩
end Go.Proofs.Ythfechigdiefpaa
