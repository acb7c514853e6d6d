/-
  layer 2's reference: halfWords AND Times.
-/
import Derived.Test.YthfechigdiefpaaTimesNum
import Derived.Test.YthfechigdiefpaaQRef6
namespace Go.Proofs.Ythfechigdiefpaa
open Go.RowKit Go.Deep

/-- Behind j limbs of halfWords. -/
def HalfInv (g N : Nat) (w : World) (zs : List Int) (j : Nat) (hs : List Int) (wr : World) : Prop :=
  Own wr g hs ∧ hs.length = 2 * N ∧ Nm.Halves hs ∧ Nm.v32 hs = Nm.val (zs.take j) ∧ (∀ i, 2 * j ≤ i → hs.getD i 0 = 0) ∧ Below g w wr

theorem HalfInv.step {g N : Nat} {w : World} {zs : List Int} {j : Nat} {hs : List Int} {wr : World} {x : Int} (h : HalfInv g N w zs j hs wr) (hj : j < N) (hz : j < zs.length) (hx : x = zs.getD j 0) (x0 : 0 ≤ x) (x1 : x < 18446744073709551616) :
    HalfInv g N w zs (j + 1) ((hs.set (2 * j) (x % 4294967296)).set (2 * j + 1) (x / 4294967296)) ((wr.setCell ⟨g, 2 * j, none⟩ (.int .u64 (x % 4294967296))).setCell ⟨g, 2 * j + 1, none⟩ (.int .u64 (x / 4294967296))) := by
  obtain ⟨h1, h2, h3, h4, h5, h6⟩ := h
  have l1 : 2 * j < hs.length := by omega
  refine ⟨(h1.set _ _).set _ _, by simpa using h2, (h3.set _ (by omega) (by omega)).set _ (by omega) (by omega), ?_, fun i hi => ?_, (h6.setCell (p := ⟨g, 2 * j, none⟩) (Nat.le_refl _) _).setCell (p := ⟨g, 2 * j + 1, none⟩) (Nat.le_refl _) _⟩
  · rw [Nm.v32_set _ _ _ (by simp; omega), Nm.v32_set _ _ _ l1, h5 (2 * j) (by omega), Nm.getD_set _ _ _ _ l1, if_neg (by omega), h5 (2 * j + 1) (by omega), Int.sub_zero, Int.sub_zero, h4, Nm.val_take_succ zs j hz, ← hx]
    simp only [Nm.p32, Nm.p32_two]
    have e := Int.emod_add_mul_ediv x 4294967296
    have : Nm.pw j * x = Nm.pw j * (x % 4294967296) + 4294967296 * Nm.pw j * (x / 4294967296) := by
      conv => lhs; rw [← e]
      rw [Int.mul_add, Int.mul_left_comm, Int.mul_assoc]
    omega
  · rw [Nm.getD_set _ _ _ _ (by simp; omega), if_neg (by omega), Nm.getD_set _ _ _ _ l1, if_neg (by omega)]
    exact h5 i (by omega)

set_option maxRecDepth 100000 in
set_option maxHeartbeats 1000000 in
theorem halfWords_any (p : Option Addr) (n cap : Nat) (zs : List Int) (N : Nat) (w : World) (hn : zs.length = n) (hm : n ≤ 17592186044416) (h : Lies w p zs) (hz : Nm.Limbs zs) (hN : Nm.tsize zs = N) (hNb : N ≤ 1000000) :
    Calls Try.prog 69 #[.slice p n cap] w fun e w' => ∃ hs g, e = .returned (.slice (some ⟨g, 0, none⟩) (2 * N) (2 * N)) ∧ Hid (Own w' g hs ∧ hs.length = 2 * N ∧ Nm.Halves hs ∧ Nm.v32 hs = Nm.val zs ∧ w.heap.size ≤ g ∧ Below w.heap.size w w') := by
  have T := top_any p n cap zs w hn (by omega) h
  rw [hN] at T
  have HT := hid T
  have tl := Nm.tsize_le zs
  have hNn : N ≤ n := by omega
  have hmk := make64 (2 * N) (by omega) w
  have em : ((2 * N : Nat) : Int) = 2 * (N : Int) := by omega
  rw [em] at hmk
  clear em
  have ho : Own (w.alloc (.cells (madeCells #[.int .u64 0] (2 * N)) 26)) w.heap.size (List.replicate (2 * N) 0) := by
    rw [made_zero]; exact Own.alloc w _
  have hb0 : Below w.heap.size w (w.alloc (.cells (madeCells #[.int .u64 0] (2 * N)) 26)) := (Below.refl _ _).alloc (Nat.le_refl _) _
  obtain ⟨W0, hW0⟩ : ∃ W0, w.alloc (.cells (madeCells #[.int .u64 0] (2 * N)) 26) = W0 := ⟨_, rfl⟩
  rw [hW0] at hmk ho hb0
  have I0 : Hid (HalfInv w.heap.size N w zs 0 (List.replicate (2 * N) 0) W0) := ⟨ho, by simp, Nm.Halves.zeros _, by rw [Nm.v32_zeros]; simp [Nm.val], fun i _ => getD_replicate _ _, hb0⟩
  have TV : Hid (Nm.val (zs.take N) = Nm.val zs) := by rw [← hN]; exact Nm.val_trim zs
  have HN := hid hn
  have HL := hid h
  have HZ := hid hz
  clear hW0 ho hb0 T tl hN hn h hz
  by_cases h0 : N = 0
  · subst h0
    have hmk1 : (Instr.makeSlice 24 (.int .i64 0) (.int .i64 0)).run Try.prog w = .ok (.slice (some ⟨w.heap.size, 0, none⟩) 0 0) W0 := hmk
    have F : Hid (Own W0 w.heap.size (List.replicate 0 0) ∧ (List.replicate 0 (0 : Int)).length = 2 * 0 ∧ Nm.Halves (List.replicate 0 0) ∧ Nm.v32 (List.replicate 0 0) = Nm.val zs ∧ w.heap.size ≤ w.heap.size ∧ Below w.heap.size w W0) := by
      obtain ⟨i1, i2, i3, i4, i5, i6⟩ := I0.out
      exact ⟨i1, rfl, i3, by rw [← TV.out]; exact i4, Nat.le_refl _, i6⟩
    clear hmk I0
    go_enter Try.func69, Try.ntmps69
    go_wp2_with fail
    refine HT.out.mono ?_
    rintro e w' ⟨rfl, rfl⟩
    go_wp2_with fail
    refine wp_loop_rounds 1 ?_
    rw [rounds_succ]
    go_wp2_with fail
    go_ret
    exact ⟨_, _, rfl, F⟩
  · obtain ⟨b, off, rfl, hbw, HC⟩ := HL.out.at (by have := HN.out; omega)
    go_enter Try.func69, Try.ntmps69
    go_wp2_with fail
    refine HT.out.mono ?_
    rintro e w' ⟨rfl, rfl⟩
    go_wp2_with fail
    go_loopw [5] (fun i wr => ∃ (j : Nat) (hs : List Int), j ≤ N ∧ i = .int .i64 j ∧ Hid (HalfInv w'.heap.size N w' zs j hs wr)) (fun i _ => N - (intOf i).toNat)
    case atStart => exact ⟨0, _, Nat.zero_le _, rfl, I0.out⟩
    case round =>
      clear hmk I0
      obtain ⟨j, hs, hj, rfl, I⟩ := hrel
      by_cases hlt : j < N
      · obtain ⟨x, hx, X⟩ : ∃ x, wr.cell? ⟨b, off + j, none⟩ = some (.int .u64 x) ∧ Hid (x = zs.getD j 0) := ⟨_, (I.out.2.2.2.2.2.cell (p := ⟨b, off + j, none⟩) hbw).trans (HC.out j (by have := HN.out; omega)), rfl⟩
        have hx0 := HZ.out.at j
        rw [← X.out] at hx0
        obtain ⟨hx0, hx1⟩ := hx0
        have ST := hid (I.out.step hlt (by have := HN.out; omega) X.out hx0 hx1)
        obtain ⟨y1, hy1⟩ : ∃ y, wr.cell? ⟨w'.heap.size, 2 * j, none⟩ = some (.int .u64 y) := ⟨_, I.out.1.cell (2 * j) (by have := I.out.2.1; omega)⟩
        have hf1 := I.out.1.free (2 * j)
        have o2 := I.out.1.set (2 * j) (x % 4294967296)
        obtain ⟨y2, hy2⟩ : ∃ y, (wr.setCell ⟨w'.heap.size, 2 * j, none⟩ (.int .u64 (x % 4294967296))).cell? ⟨w'.heap.size, 2 * j + 1, none⟩ = some (.int .u64 y) := ⟨_, o2.cell (2 * j + 1) (by simp; have := I.out.2.1; omega)⟩
        have hf2 := o2.free (2 * j + 1)
        have hb2 : Below w'.heap.size wr (wr.setCell ⟨w'.heap.size, 2 * j, none⟩ (.int .u64 (x % 4294967296))) := (Below.refl _ _).setCell (p := ⟨w'.heap.size, 2 * j, none⟩) (Nat.le_refl _) _
        have hx2 : (wr.setCell ⟨w'.heap.size, 2 * j, none⟩ (.int .u64 (x % 4294967296))).cell? ⟨b, off + j, none⟩ = some (.int .u64 x) := by
          rw [hb2.cell (p := ⟨b, off + j, none⟩) hbw]
          exact hx
        have r1 := r_mask32 x hx0 hx1
        have hjn : (j : Int) < (n : Int) := by omega
        have hj2 : 2 * (j : Int) < 2 * (N : Int) := by omega
        have hj3 : 2 * (j : Int) + 1 < 2 * (N : Int) := by omega
        clear I o2 hb2
        go_wp2_with fail
        go_roundw
        case rel => exact ⟨j + 1, _, by omega, by go_num, ST.out⟩
        case measure => simp [intOf]; omega
      · have hjN : j = N := by omega
        subst hjN
        have F : Hid (Own wr w'.heap.size hs ∧ hs.length = 2 * j ∧ Nm.Halves hs ∧ Nm.v32 hs = Nm.val zs ∧ w'.heap.size ≤ w'.heap.size ∧ Below w'.heap.size w' wr) := by
          obtain ⟨i1, i2, i3, i4, i5, i6⟩ := I.out
          exact ⟨i1, i2, i3, by rw [← TV.out]; exact i4, Nat.le_refl _, i6⟩
        clear I
        go_wp2_with fail
        go_ret
        exact ⟨hs, _, rfl, F⟩
end Go.Proofs.Ythfechigdiefpaa
