/-
  limitedShift AND Shl.
-/
import Derived.Test.YtggiioipppbedaaGreatDoorBare
import Derived.Test.YtggiioipppbedaaGreatDoorShA
import Derived.Test.YtggiioipppbedaaGreatDoorBlenIs
namespace Go.Proofs.YtggiioipppbedaaGreatDoor
open Go.RowKit Go.Deep

theorem ret_two {p : Option Addr} {a b : Nat} (h : a = b) : Ending.returned (.tuple #[.slice p a a, .int .i64 0]) = .returned (.tuple #[.slice p b b, .int .i64 0]) := by rw [h]

theorem lshift_ok (p : Option Addr) (n cap : Nat) (zs : List Int) (k : Int) (w : World) (ha : Arg w p n cap zs) (tz : Nm.tsize zs ≤ 4096) (hk : 0 ≤ k) :
    Calls Tryz.prog 86 #[.slice p n cap, .int .i64 k] w fun e w' => e = .returned (.tuple #[.slice p (Nm.tsize zs) (Nm.tsize zs), .int .i64 0]) ∧ w' = w := by
  obtain ⟨a1, a2, a3, a4, a5⟩ := ha
  have HT := hid (limited_ok p n cap zs w a1 a2 (by omega) a4 tz)
  go_enter Tryz.func86, Tryz.ntmps86
  go_wp2_with fail
  refine HT.out.mono ?_
  rintro e w' ⟨rfl, rfl⟩
  go_wp2_with fail
  go_ret2
  exact ⟨rfl, rfl⟩

theorem lshift_neg (p : Option Addr) (n cap : Nat) (zs : List Int) (k : Int) (w : World) (ha : Arg w p n cap zs) (tz : Nm.tsize zs ≤ 4096) (hk : k < 0) :
    Calls Tryz.prog 86 #[.slice p n cap, .int .i64 k] w fun e w' => e = .returned (.tuple #[.slice none 0 0, .int .i64 1]) ∧ w' = w := by
  obtain ⟨a1, a2, a3, a4, a5⟩ := ha
  have HT := hid (limited_ok p n cap zs w a1 a2 (by omega) a4 tz)
  go_enter Tryz.func86, Tryz.ntmps86
  go_wp2_with fail
  refine HT.out.mono ?_
  rintro e w' ⟨rfl, rfl⟩
  go_wp2_with fail
  go_ret2
  exact ⟨rfl, rfl⟩

theorem bitLen_n (L : Nat) (p : Option Addr) (n cap : Nat) (zs : List Int) (w : World) (ha : Arg w p n cap zs) (hb : blen zs = (L : Int)) :
    Calls Tryz.prog 47 #[.slice p n cap] w fun e w' => e = .returned (.int .i64 (L : Int)) ∧ w' = w := by
  rw [← hb]
  exact bitLen_any p n cap zs w ha

theorem Arg.trim' {w : World} {p : Option Addr} {n cap : Nat} {zs : List Int} (h : Arg w p n cap zs) : Arg w p (Nm.tsize zs) (Nm.tsize zs) (Nm.trim zs) :=
  ⟨Nm.trim_length zs, Nat.le_refl _, by have := h.tl; have := h.2.1; have := h.2.2.1; omega, h.2.2.2.1.trim, h.2.2.2.2.trim⟩

theorem shl_neg (p : Option Addr) (n cap : Nat) (zs : List Int) (k : Int) (w : World) (ha : Arg w p n cap zs) (tz : Nm.tsize zs ≤ 4096) (hk : k < 0) :
    Calls Tryz.prog 73 #[.slice p n cap, .int .i64 k] w fun e w' => e = .returned (.tuple #[.slice none 0 0, .int .i64 1]) ∧ w' = w := by
  have HT := hid (lshift_neg p n cap zs k w ha tz hk)
  go_enter Tryz.func73, Tryz.ntmps73
  go_wp2_with fail
  refine HT.out.mono ?_
  rintro e w' ⟨rfl, rfl⟩
  go_wp2_with fail
  go_ret2
  exact ⟨rfl, rfl⟩

set_option maxRecDepth 100000 in
set_option maxHeartbeats 1000000 in
/-- What is too big anyway isn't worked out. -/
theorem shl_big (p : Option Addr) (n cap : Nat) (zs : List Int) (k : Int) (L : Nat) (w : World) (ha : Arg w p n cap zs) (tz : Nm.tsize zs ≤ 4096) (hk : 0 ≤ k) (hk1 : k ≤ 9223372036854775807) (hz : 0 < Nm.tsize zs) (hL : blen (Nm.trim zs) = (L : Int)) (hb : 262144 < (L : Int) + k) :
    Calls Tryz.prog 73 #[.slice p n cap, .int .i64 k] w fun e w' => e = .returned (.tuple #[.slice none 0 0, .int .i64 2]) ∧ w' = w := by
  have HT := hid (lshift_ok p n cap zs k w ha tz hk)
  have HB := hid (bitLen_n L p _ _ (Nm.trim zs) w ha.trim' hL)
  have hz' : ((Nm.tsize zs : Int) == 0) = false := by rw [beq_eq_false_iff_ne]; omega
  have hb' : 262144 - k < (L : Int) := by omega
  clear hL ha hb
  go_enter Tryz.func73, Tryz.ntmps73
  go_wp2_with fail
  refine HT.out.mono ?_
  rintro e w' ⟨rfl, rfl⟩
  go_wp2_with fail
  refine HB.out.mono ?_
  rintro e w' ⟨rfl, rfl⟩
  go_wp2_with fail
  go_ret2
  exact ⟨rfl, rfl⟩

theorem shl_zero (p : Option Addr) (n cap : Nat) (zs : List Int) (k : Int) (w : World) (ha : Arg w p n cap zs) (hk : 0 ≤ k) (hz : Nm.tsize zs = 0) :
    Calls Tryz.prog 73 #[.slice p n cap, .int .i64 k] w fun e w' => e = .returned (.tuple #[.slice none 0 0, .int .i64 0]) ∧ w' = w := by
  have HT := lshift_ok p n cap zs k w ha (by omega) hk
  rw [hz] at HT
  have H := hid HT
  clear HT hz ha
  go_enter Tryz.func73, Tryz.ntmps73
  go_wp2_with fail
  refine H.out.mono ?_
  rintro e w' ⟨rfl, rfl⟩
  go_wp2_with fail
  go_ret2
  exact ⟨rfl, rfl⟩

set_option maxRecDepth 100000 in
set_option maxHeartbeats 1000000 in
theorem shl_ok (p : Option Addr) (n cap : Nat) (zs : List Int) (kk : Int) (k : Nat) (L : Nat) (w : World) (ha : Arg w p n cap zs) (tz : Nm.tsize zs ≤ 4096) (hkk : kk = (k : Int)) (hz : 0 < Nm.tsize zs) (hL : blen (Nm.trim zs) = (L : Int)) (hb : L + k ≤ 262144) :
    Calls Tryz.prog 73 #[.slice p n cap, .int .i64 kk] w fun e w' => ∃ r os, e = .returned (.tuple #[.slice r (List.length os) (List.length os), .int .i64 0]) ∧ Ans w.heap.size w' r os (Nm.val zs * 2 ^ k) ∧ Below w.heap.size w w' := by
  have hk0 : 0 ≤ kk := by omega
  have T1 := lshift_ok p n cap zs kk w ha tz hk0
  have B1 := bitLen_n L p _ _ (Nm.trim zs) w ha.trim' hL
  obtain ⟨N, HN⟩ : ∃ N, Hid (Nm.tsize zs = N) := ⟨_, rfl⟩
  rw [HN.out] at T1 B1
  have HT := hid T1
  have HB := hid B1
  have hN0 : 0 < N := by rw [← HN.out]; exact hz
  have hN1 : N ≤ 4096 := by rw [← HN.out]; exact tz
  have hz' : ((N : Int) == 0) = false := by rw [beq_eq_false_iff_ne]; omega
  have hb1 : ¬ 262144 - kk < (L : Int) := by omega
  have hkb : kk ≤ 262144 := by omega
  obtain ⟨sk, hsk⟩ : ∃ sk, k / 64 = sk := ⟨_, rfl⟩
  obtain ⟨r, hr⟩ : ∃ r, k % 64 = r := ⟨_, rfl⟩
  have r1 : kk / 64 = (sk : Int) := by omega
  have r2 : kk % 64 = (r : Int) := by omega
  have hr63 : r ≤ 63 := by omega
  have hskb : sk ≤ 4096 := by omega
  have KE : Hid (k = 64 * sk + r) := by show _ = _; omega
  have L1 := hid ((Nm.trim_length zs).trans HN.out)
  have A5 := hid ha.2.2.2.2.trim
  obtain ⟨b, off, rfl, hbw, HC⟩ := ha.2.2.2.1.trim.at (by rw [L1.out]; exact hN0)
  have V := hid (Nm.val_trim zs)
  clear T1 B1 ha tz hz hL hkk hsk hr
  have hmk := make64 (sk + N + 1) (by omega) w
  have em : ((sk + N + 1 : Nat) : Int) = (sk : Int) + (N : Int) + 1 := by omega
  rw [em] at hmk
  clear em
  have ho : Own (w.alloc (.cells (madeCells #[.int .u64 0] (sk + N + 1)) 25)) w.heap.size (List.replicate (sk + N + 1) 0) := by
    rw [made_zero]; exact Own.alloc w _
  have hb0 : Below w.heap.size w (w.alloc (.cells (madeCells #[.int .u64 0] (sk + N + 1)) 25)) := (Below.refl _ _).alloc (Nat.le_refl _) _
  obtain ⟨W0, hW0⟩ : ∃ W0, w.alloc (.cells (madeCells #[.int .u64 0] (sk + N + 1)) 25) = W0 := ⟨_, rfl⟩
  have HB0 : Hid (Below w.heap.size w W0) := by rw [← hW0]; exact hb0
  have I0 : MaInv w.heap.size (sk + N + 1) W0 (Nm.pw sk * (Nm.val ((Nm.trim zs).take 0) * 2 ^ r)) (sk + 0) 0 (List.replicate (sk + N + 1) 0) W0 := by
    rw [← hW0]
    exact ⟨⟨ho, by simp, Nm.Limbs.replicate _, by simp [Nm.val_replicate, Nm.val], Below.refl _ _, rfl⟩, by omega, fun i _ => getD_replicate _ _⟩
  have P0 := Nm.two_pos r
  have HP0 := hid P0
  clear ho hb0 P0
  rw [hW0] at hmk
  clear hW0
  go_enter Tryz.func73, Tryz.ntmps73
  go_wp2_with fail
  refine HT.out.mono ?_
  rintro e w' ⟨rfl, rfl⟩
  go_wp2_with fail
  refine HB.out.mono ?_
  rintro e w' ⟨rfl, rfl⟩
  go_wp2_with fail
  go_loopw [10, 43] (fun a i wr => ∃ (j : Nat) (sp : Int) (os : List Int), j ≤ N ∧ i = .int .i64 j ∧ a = .int .u64 sp ∧ Hid (sp < 2 ^ r) ∧ MaInv w'.heap.size (sk + N + 1) W0 (Nm.pw sk * (Nm.val ((Nm.trim zs).take j) * 2 ^ r)) (sk + j) sp os wr) (fun _ i _ => N - (intOf i).toNat)
  case atStart => exact ⟨0, 0, _, Nat.zero_le _, rfl, rfl, HP0.out, I0⟩
  case round =>
    clear I0 hmk
    obtain ⟨j, sp, os, hj, rfl, rfl, SP, I⟩ := hrel
    by_cases hlt : j < N
    · obtain ⟨x, hx, X⟩ : ∃ x, wr.cell? ⟨b, off + j, none⟩ = some (.int .u64 x) ∧ Hid (x = (Nm.trim zs).getD j 0) :=
        ⟨_, ((HB0.out.trans I.1.2.2.2.2.1).cell (p := ⟨b, off + j, none⟩) hbw).trans (HC.out j (by rw [L1.out]; exact hlt)), rfl⟩
      have hx0 := A5.out.at j
      rw [← X.out] at hx0
      obtain ⟨hx0, hx1⟩ := hx0
      obtain ⟨y, hyc⟩ : ∃ y, wr.cell? ⟨w'.heap.size, sk + j, none⟩ = some (.int .u64 y) := ⟨_, I.1.1.cell (sk + j) (by have := I.1.2.1; omega)⟩
      have hfr := I.1.1.free (sk + j)
      obtain ⟨hs0, hs1⟩ := I.2.1
      obtain ⟨A, s, sp', u1, u2, u3, us, usp, E⟩ := Sh.up x sp r hr63 hx0 hx1 hs0 SP.out
      have usp1 := hid usp
      have hP64 : (2 : Int) ^ r ≤ 18446744073709551616 := by rw [← Nm.two_64]; exact Nm.two_mono (by omega)
      have I2 := I.step (by omega) (x := x * 2 ^ r) (s := s) (c' := sp') us ⟨usp.1, by omega⟩ E.out
      have T2 : Nm.pw sk * (Nm.val ((Nm.trim zs).take j) * 2 ^ r) + Nm.pw (sk + j) * (x * 2 ^ r) = Nm.pw sk * (Nm.val ((Nm.trim zs).take (j + 1)) * 2 ^ r) := by
        rw [Nm.val_take_succ _ j (by rw [L1.out]; exact hlt), ← X.out, Nm.pw_add, Int.add_mul, Int.mul_add, Int.mul_assoc, Int.mul_assoc]
      rw [T2] at I2
      clear I T2 hP64 us usp E
      go_wp2
      go_roundw
      case rel => exact ⟨j + 1, sp', _, by omega, by go_num, rfl, usp1.out.2, I2⟩
      case measure => simp [intOf]; omega
    · have hjN : j = N := by omega
      subst hjN
      rw [List.take_of_length_le (by rw [L1.out]; omega)] at I
      obtain ⟨⟨i1, i2, i3, i4, i5, i6⟩, i7, i8⟩ := I
      have O1 := hid (i1.set (sk + j) sp)
      have O2 : Hid ((os.set (sk + j) sp).length = sk + j + 1) := by rw [Hid]; simpa using i2
      have O3 := hid (i3.set (sk + j) i7.1 i7.2)
      have O4 : Hid (Nm.val (os.set (sk + j) sp) = Nm.val zs * 2 ^ k) := by
        rw [Hid, Nm.val_set _ _ _ (by omega), i8 (sk + j) (Nat.le_refl _), Int.sub_zero, i4, V.out, Nm.pw_two, Int.mul_left_comm, ← Nm.two_add, ← KE.out]
      have O5 := hid (HB0.out.trans (i5.setCell (p := ⟨w'.heap.size, sk + j, none⟩) (Nat.le_refl _) (.int .u64 sp)))
      obtain ⟨y, hy⟩ : ∃ y, wr.cell? ⟨w'.heap.size, sk + j, none⟩ = some (.int .u64 y) := ⟨_, i1.cell (sk + j) (by omega)⟩
      have hfr := i1.free (sk + j)
      clear i1 i2 i3 i4 i5 i6 i7 i8
      go_wp2_with fail
      refine (trimmed_any _ (sk + j + 1) (sk + j + 1) (os.set (sk + j) sp) _ O2.out (Nat.le_refl _) (by omega) O1.out.lies).mono ?_
      rintro e w3 ⟨rfl, rfl⟩
      go_wp2_with fail
      go_ret2
      refine ⟨some ⟨w'.heap.size, 0, none⟩, Nm.trim (os.set (sk + j) sp), ret_two (Nm.trim_length _).symm, ⟨O1.out.lies.trim, O3.out.trim, ?_, ?_, ?_⟩, O5.out⟩
      · rw [Nm.trim_trim, Nm.trim_length]
      · rw [Nm.val_trim, O4.out]
      · intro a h
        cases h
        exact ⟨Nat.le_refl _, fun _ o => O1.out.free o⟩
end Go.Proofs.YtggiioipppbedaaGreatDoor
