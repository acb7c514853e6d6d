/-
  THE WALK OF MulAdd.
-/
import Derived.Test.YtbdilikdenhnkaaDoorBare
namespace Go.Proofs.YtbdilikdenhnkaaDoor
open Go.RowKit Go.Deep

/-- The limbs of one round. -/
theorem ma_step {x m c p l h s k : Int} (hp : l + 18446744073709551616 * h = p) (hl : 0 ≤ l ∧ l < 18446744073709551616) (hh : 0 ≤ h) (hx : 0 ≤ x ∧ x < 18446744073709551616) (hm : 0 ≤ m ∧ m < 18446744073709551616) (hxm : p = x * m)
    (hc : 0 ≤ c ∧ c < 18446744073709551616) (e1 : s = (l + c + 0) % 18446744073709551616) (e2 : k = (l + c + 0) / 18446744073709551616) :
    (0 ≤ s ∧ s < 18446744073709551616) ∧ (0 ≤ h + k ∧ h + k < 18446744073709551616) ∧ s + 18446744073709551616 * (h + k) = x * m + c := by
  have hb : x * m ≤ 18446744073709551615 * 18446744073709551615 := Int.mul_le_mul (by omega) (by omega) (by omega) (by omega)
  rw [← hxm] at hb ⊢
  clear hxm
  omega

set_option maxRecDepth 100000 in
set_option maxHeartbeats 1000000 in
/-- The loop of MulAdd, whatever the size of the answer. -/
theorem mulAdd_any (p : Option Addr) (n cap : Nat) (zs : List Int) (m c : Int) (w : World) (ha : Arg w p n cap zs) (tz : Nm.tsize zs ≤ 4096) (hm0 : 0 ≤ m) (hm1 : m < 18446744073709551616) (hc0 : 0 ≤ c) (hc1 : c < 18446744073709551616) :
    Calls Tryd.prog 33 #[.slice p n cap, .int .u64 m, .int .u64 c] w fun e w' =>
      (Nm.val zs * m + c < Nm.pw 4096 → ∃ r os, e = .returned (.tuple #[.slice r (List.length os) (List.length os), .int .i64 0]) ∧ Ans w.heap.size w' r os (Nm.val zs * m + c)) ∧
      (Nm.pw 4096 ≤ Nm.val zs * m + c → e = .returned (.tuple #[.slice none 0 0, .int .i64 2])) ∧ Below w.heap.size w w' := by
  obtain ⟨a1, a2, a3, a4, a5⟩ := ha
  obtain ⟨N, HN⟩ : ∃ N, Hid (Nm.tsize zs = N) := ⟨_, rfl⟩
  have T1 := limited_ok p n cap zs w a1 a2 (by omega) a4 tz
  rw [HN.out] at T1
  have hN : N ≤ 4096 := by rw [← HN.out]; exact tz
  have L1 := hid ((Nm.trim_length zs).trans HN.out)
  have hmk := make64 (N + 1) (by omega) w
  have em : ((N + 1 : Nat) : Int) = (N : Int) + 1 := by omega
  rw [em] at hmk
  clear em
  have ho : Own (w.alloc (.cells (madeCells #[.int .u64 0] (N + 1)) 32)) w.heap.size (List.replicate (N + 1) 0) := by
    rw [made_zero]; exact Own.alloc w _
  have hb0 : Below w.heap.size w (w.alloc (.cells (madeCells #[.int .u64 0] (N + 1)) 32)) := (Below.refl _ _).alloc (Nat.le_refl _) _
  obtain ⟨W0, hW0⟩ : ∃ W0, w.alloc (.cells (madeCells #[.int .u64 0] (N + 1)) 32) = W0 := ⟨_, rfl⟩
  have HB0 : Hid (Below w.heap.size w W0) := by rw [← hW0]; exact hb0
  have I0 : MaInv w.heap.size (N + 1) W0 (Nm.val ((Nm.trim zs).take 0) * m + c) 0 c (List.replicate (N + 1) 0) W0 := by
    rw [← hW0]
    exact ⟨⟨ho, by simp, Nm.Limbs.replicate _, by simp [Nm.val_replicate, Nm.val, Nm.pw], Below.refl _ _, rfl⟩, ⟨hc0, hc1⟩, fun i _ => getD_replicate _ _⟩
  have A5 := hid a5.trim
  have A4 := hid a4.trim
  have V := hid (Nm.val_trim zs)
  have HT := hid T1
  clear T1 tz ho hb0 a4 a5
  rw [hW0] at hmk
  clear hW0
  have fin : ∀ (os : List Int) (cc : Int) (wr : World), MaInv w.heap.size (N + 1) W0 (Nm.val (Nm.trim zs) * m + c) N cc os wr → Own (wr.setCell ⟨w.heap.size, N, none⟩ (.int .u64 cc)) w.heap.size (os.set N cc) ∧ (os.set N cc).length = N + 1 ∧ Nm.Limbs (os.set N cc) ∧ Nm.val (os.set N cc) = Nm.val zs * m + c ∧ Below w.heap.size w (wr.setCell ⟨w.heap.size, N, none⟩ (.int .u64 cc)) := by
    intro os cc wr I
    obtain ⟨⟨i1, i2, i3, i4, i5, i6⟩, i7, i8⟩ := I
    refine ⟨i1.set _ _, by simpa using i2, i3.set _ i7.1 i7.2, ?_, HB0.out.trans (i5.setCell (Nat.le_refl _) _)⟩
    rw [Nm.val_set _ _ _ (by omega), i8 N (Nat.le_refl _), Int.sub_zero, i4, V.out]
  have FIN := hid fin
  clear fin
  by_cases h0 : N = 0
  · subst h0
    have hx : Nm.trim zs = [] := List.eq_nil_of_length_eq_zero L1.out
    rw [show (Nm.trim zs).take 0 = Nm.trim zs by rw [hx]; rfl] at I0
    have F := FIN.out _ _ _ I0
    obtain ⟨y, hy⟩ : ∃ y, W0.cell? ⟨w.heap.size, 0, none⟩ = some (.int .u64 y) := ⟨_, I0.1.1.cell 0 (by simp)⟩
    have hfr := I0.1.1.free 0
    have HF := hid F
    clear F I0 hx
    have hmk1 : (Instr.makeSlice 22 (.int .i64 1) (.int .i64 1)).run Tryd.prog w = .ok (.slice (some ⟨w.heap.size, 0, none⟩) 1 1) W0 := hmk
    clear hmk
    go_enter Tryd.func33, Tryd.ntmps33
    go_wp2_with fail
    refine HT.out.mono ?_
    rintro e w' ⟨rfl, rfl⟩
    go_wp2_with fail
    refine wp_loop_rounds 1 ?_
    rw [rounds_succ]
    go_wp2_with fail
    obtain ⟨f1, f2, f3, f4, f5⟩ := HF.out
    by_cases hbig : Nm.val zs * m + c < Nm.pw 4096
    · refine (limited_own w'.heap.size (0 + 1) _ _ f2 (by omega) f1 f3 w'.heap.size (Nat.le_refl _) (by rw [f4]; exact hbig)).mono ?_
      rintro e w3 ⟨r, xs, rfl, hans, rfl⟩
      rw [f4] at hans
      have HA := hid hans
      have HB := hid hbig
      clear hans f1 f2 f3 f4 f5 hbig
      go_wp2_with fail
      go_ret2
      exact ⟨fun _ => ⟨r, xs, rfl, HA.out⟩, fun h => by have := HB.out; omega, HF.out.2.2.2.2⟩
    · refine (limited_own_big w'.heap.size (0 + 1) _ _ f2 (by omega) f1 f3 (by rw [f4]; omega)).mono ?_
      rintro e w3 ⟨rfl, rfl⟩
      have HB := hid hbig
      clear f1 f2 f3 f4 f5 hbig
      go_wp2_with fail
      go_ret2
      exact ⟨fun h => by have := HB.out; omega, fun _ => rfl, HF.out.2.2.2.2⟩
  · obtain ⟨b, off, rfl, hbw, HC⟩ := A4.out.at (by rw [L1.out]; omega)
    go_enter Tryd.func33, Tryd.ntmps33
    go_wp2_with fail
    refine HT.out.mono ?_
    rintro e w' ⟨rfl, rfl⟩
    go_wp2_with fail
    go_loopw [10, 31] (fun a i wr => ∃ (j : Nat) (cc : Int) (os : List Int), j ≤ N ∧ i = .int .i64 j ∧ a = .int .u64 cc ∧ MaInv w'.heap.size (N + 1) W0 (Nm.val ((Nm.trim zs).take j) * m + c) j cc os wr) (fun _ i _ => N - (intOf i).toNat)
    case atStart => exact ⟨0, c, _, Nat.zero_le _, rfl, rfl, I0⟩
    case round =>
      clear I0 hmk
      obtain ⟨j, cc, os, hj, rfl, rfl, I⟩ := hrel
      by_cases hlt : j < N
      · obtain ⟨x, hx, X⟩ : ∃ x, wr.cell? ⟨b, off + j, none⟩ = some (.int .u64 x) ∧ Hid (x = (Nm.trim zs).getD j 0) :=
          ⟨_, ((HB0.out.trans I.1.2.2.2.2.1).cell (p := ⟨b, off + j, none⟩) hbw).trans (HC.out j (by rw [L1.out]; exact hlt)), rfl⟩
        have hx0 := A5.out.at j
        rw [← X.out] at hx0
        obtain ⟨hx0, hx1⟩ := hx0
        obtain ⟨y, hyc⟩ : ∃ y, wr.cell? ⟨w'.heap.size, j, none⟩ = some (.int .u64 y) := ⟨_, I.1.1.cell j (by have := I.1.2.1; omega)⟩
        have hfr := I.1.1.free j
        obtain ⟨hcc0, hcc1⟩ := I.2.1
        go_wp2_with fail
        refine (mul64 x m hx0 hx1 hm0 hm1 _).mono ?_
        rintro e w2 ⟨h, l, rfl, ⟨hh0, hh1, hl0, hl1⟩, P1, _, rfl⟩
        obtain ⟨s1, S1⟩ : ∃ s, Hid (s = (l + cc + 0) % 18446744073709551616) := ⟨_, rfl⟩
        obtain ⟨k1, K1⟩ : ∃ c, Hid (c = (l + cc + 0) / 18446744073709551616) := ⟨_, rfl⟩
        have ST := hid (ma_step P1.out ⟨hl0, hl1⟩ hh0 ⟨hx0, hx1⟩ ⟨hm0, hm1⟩ rfl ⟨hcc0, hcc1⟩ S1.out K1.out)
        have hk1 : 0 ≤ k1 := by have := K1.out; omega
        have hkk : h + k1 < 18446744073709551616 := ST.out.2.1.2
        go_wp2_with (simp only [add64' l cc 0 s1 k1 hl0 hcc0 (Int.le_refl 0) (by decide) S1.out K1.out])
        go_roundw
        case rel =>
          have hst := I.step (by omega) (x := x * m) (s := s1) (c' := h + k1) ST.out.1 ST.out.2.1 ST.out.2.2
          refine ⟨j + 1, h + k1, os.set j s1, by omega, by go_num, rfl, ?_⟩
          have e : Nm.val ((Nm.trim zs).take (j + 1)) * m + c = Nm.val ((Nm.trim zs).take j) * m + c + Nm.pw j * (x * m) := by
            rw [Nm.val_take_succ _ j (by rw [L1.out]; exact hlt), ← X.out, Int.add_mul, Int.mul_assoc]
            omega
          rw [e]
          exact hst
        case measure => simp [intOf]; omega
      · have hjN : j = N := by omega
        subst hjN
        rw [List.take_of_length_le (by rw [L1.out]; omega)] at I
        have F := FIN.out _ _ _ I
        obtain ⟨y, hy⟩ : ∃ y, wr.cell? ⟨w'.heap.size, j, none⟩ = some (.int .u64 y) := ⟨_, I.1.1.cell j (by have := I.1.2.1; omega)⟩
        have hfr := I.1.1.free j
        have HF := hid F
        clear F I
        go_wp2_with fail
        obtain ⟨f1, f2, f3, f4, f5⟩ := HF.out
        by_cases hbig : Nm.val zs * m + c < Nm.pw 4096
        · refine (limited_own w'.heap.size (j + 1) _ _ f2 (by omega) f1 f3 w'.heap.size (Nat.le_refl _) (by rw [f4]; exact hbig)).mono ?_
          rintro e w3 ⟨r, xs, rfl, hans, rfl⟩
          rw [f4] at hans
          have HA := hid hans
          have HB := hid hbig
          clear hans f1 f2 f3 f4 f5 hbig
          go_wp2_with fail
          go_ret2
          exact ⟨fun _ => ⟨r, xs, rfl, HA.out⟩, fun h => by have := HB.out; omega, HF.out.2.2.2.2⟩
        · refine (limited_own_big w'.heap.size (j + 1) _ _ f2 (by omega) f1 f3 (by rw [f4]; omega)).mono ?_
          rintro e w3 ⟨rfl, rfl⟩
          have HB := hid hbig
          clear f1 f2 f3 f4 f5 hbig
          go_wp2_with fail
          go_ret2
          exact ⟨fun h => by have := HB.out; omega, fun _ => rfl, HF.out.2.2.2.2⟩

/-- Of an operand that is too big. -/
theorem mulAdd_big (p : Option Addr) (n cap : Nat) (zs : List Int) (m c : Int) (w : World) (ha : Arg w p n cap zs) (tz : 4096 < Nm.tsize zs) :
    Calls Tryd.prog 33 #[.slice p n cap, .int .u64 m, .int .u64 c] w fun e w' => e = .returned (.tuple #[.slice none 0 0, .int .i64 2]) ∧ w' = w := by
  obtain ⟨a1, a2, a3, a4, a5⟩ := ha
  have HT := hid (limited_big p n cap zs w a1 a2 (by omega) a4 tz)
  go_enter Tryd.func33, Tryd.ntmps33
  go_wp2_with fail
  refine HT.out.mono ?_
  rintro e w' ⟨rfl, rfl⟩
  go_wp2_with fail
  go_ret2
  exact ⟨rfl, rfl⟩
end Go.Proofs.YtbdilikdenhnkaaDoor
