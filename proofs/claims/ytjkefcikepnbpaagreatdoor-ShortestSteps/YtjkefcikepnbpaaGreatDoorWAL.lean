/-
  Texts put together: QPowG, QPow5.
-/
import Derived.Test.YtjkefcikepnbpaaGreatDoorWAG
import Derived.Test.YtjkefcikepnbpaaGreatDoorWAA
namespace Go.Proofs.YtjkefcikepnbpaaGreatDoor
open Go.RowKit Go.Deep

theorem one_lt_pw : (1 : Int) < Nm.pw 4096 := by
  have h := Nm.pw_mono (show 1 ≤ 4096 by omega)
  have e : Nm.pw 1 = 18446744073709551616 := by simp [Nm.pw]
  rw [e] at h
  generalize Nm.pw 4096 = x at *
  omega

set_option maxRecDepth 100000 in
set_option maxHeartbeats 1000000 in
theorem pow_gives (p : Option Addr) (m cap : Nat) (zs : List Int) (A k : Int) (n : Nat) (w : World) (ha : Arg w p m cap zs) (tz : Nm.tsize zs ≤ 4096) (hA : Nm.val zs = A) (hk : k = (n : Int)) (hk1 : k ≤ 9223372036854775807) :
    Calls Tryz.prog 86 #[.slice p m cap, .int .i64 k] w fun e w' => Gives (A ^ n) w e w' := by
  obtain ⟨L, l1, l2, l3, _⟩ := blen_is zs ha.2.2.2.2
  obtain ⟨N, HN⟩ : ∃ N, Hid (Nm.tsize zs = N) := ⟨_, rfl⟩
  have hN : (N : Int) ≤ 4096 := by have := HN.out; omega
  have HB := hid (bitLen_isT L p m cap zs w ha l1)
  have HL := hid (limbs_isT p m cap zs N w ha HN.out)
  have hL : (L : Int) ≤ 262144 := by omega
  have A0 := (Nm.val_bd zs ha.2.2.2.2).1
  rw [hA] at A0 l2
  have HAs : Hid (A < Nm.pw 4096) := by show _ < _; rw [← hA]; exact (Nm.tsize_le_iff ha.2.2.2.2 4096).1 tz
  have HA := hid ha
  have HT := hid tz
  have HVA := hid hA
  have HL2 := hid l2
  clear ha tz l1 l2 l3 hA
  subst hk
  by_cases h0 : n = 0
  · subst h0
    have F := hid (fromUint_any 1 w (by omega) (by omega))
    go_enter Tryz.func86, Tryz.ntmps86
    go_wp2_with fail
    refine HB.out.mono ?_
    rintro e w' ⟨rfl, rfl⟩
    go_wp2_with fail
    refine HL.out.mono ?_
    rintro e w' ⟨rfl, rfl⟩
    go_wp2_with fail
    refine F.out.mono ?_
    rintro e w1 ⟨r, os, rfl, A1, hb1⟩
    have G : Hid (Gives (A ^ 0) w' (.returned (.tuple #[.slice r (List.length os) (List.length os), .int .i64 0])) w1) :=
      ⟨.inl ⟨by rw [Int.pow_zero]; exact one_lt_pw, r, os, rfl, by rw [Int.pow_zero]; exact A1⟩, hb1⟩
    clear A1 hb1
    go_wp2_with fail
    go_ret2
    exact G.out
  have hn0 : ((n : Int) == 0) = false := by rw [beq_eq_false_iff_ne]; omega
  by_cases hL2 : L < 2
  · have hL2' : (L : Int) < 2 := by omega
    have E : Hid (A ^ n = A) := by
      have h := HL2.out.1
      have hA2 : A < 2 := by
        have := Nm.two_mono (show L ≤ 1 by omega)
        omega
      show _ = _
      obtain ⟨n', rfl⟩ : ∃ n', n = n' + 1 := ⟨n - 1, by omega⟩
      rcases (show A = 0 ∨ A = 1 by omega) with rfl | rfl
      · rw [Int.pow_succ, Int.mul_zero]
      · rw [Int.one_pow]
    have TR := hid (trim_any p m cap zs w HA.out)
    go_enter Tryz.func86, Tryz.ntmps86
    go_wp2_with fail
    refine HB.out.mono ?_
    rintro e w' ⟨rfl, rfl⟩
    go_wp2_with fail
    refine HL.out.mono ?_
    rintro e w' ⟨rfl, rfl⟩
    go_wp2_with fail
    refine TR.out.mono ?_
    rintro e w1 ⟨r, os, rfl, -, A1, hb1⟩
    rw [HVA.out] at A1
    have G : Hid (Gives (A ^ n) w' (.returned (.tuple #[.slice r (List.length os) (List.length os), .int .i64 0])) w1) := by
      rw [E.out]
      exact ⟨.inl ⟨HAs.out, r, os, rfl, A1⟩, hb1⟩
    clear A1 hb1
    go_wp2_with fail
    go_ret2
    exact G.out
  have hL2' : (2 : Int) ≤ (L : Int) := by omega
  have hA2 : Hid (2 ^ (L - 1) ≤ A) := by
    have h1 := HL2.out.2.2
    have h2 : 0 < A := by
      rcases (show A = 0 ∨ 0 < A by omega) with h | h
      · have := HL2.out.2.1 h; omega
      · exact h
    exact (h1 h2).2
  have hA1 : Hid (1 ≤ A) := by
    have := Nm.two_pos (L - 1)
    have := hA2.out
    show _ ≤ _
    omega
  obtain ⟨c, hc⟩ : ∃ c, 262143 / ((L : Int) - 1) = c := ⟨_, rfl⟩
  have d1 := Int.emod_add_mul_ediv 262143 ((L : Int) - 1)
  have d2 := Int.emod_nonneg 262143 (show (L : Int) - 1 ≠ 0 by omega)
  have d3 := Int.emod_lt_of_pos 262143 (show 0 < (L : Int) - 1 by omega)
  have d4 : 0 ≤ c := by rw [← hc]; exact Int.ediv_nonneg (by omega) (by omega)
  rw [hc] at d1
  have hc2 : (262143 : Int).tdiv ((L : Int) - 1) = c := by rw [Int.tdiv_eq_ediv_of_nonneg (by omega)]; exact hc
  have hz : (((L : Int) - 1) == 0) = false := by rw [beq_eq_false_iff_ne]; omega
  have hc3 : c ≤ 262143 := by
    have e1 : 1 * c ≤ ((L : Int) - 1) * c := Int.mul_le_mul_of_nonneg_right (by omega) d4
    omega
  by_cases hb : c < (n : Int)
  · have G : Hid (Gives (A ^ n) w (.returned (.tuple #[.slice none 0 0, .int .i64 2])) w) := by
      refine ⟨.inr ⟨Pn.early hA2.out ?_, rfl⟩, Below.refl _ _⟩
      have e1 : ((L : Int) - 1) * (c + 1) ≤ ((L : Int) - 1) * (n : Int) := Int.mul_le_mul_of_nonneg_left (by omega) (by omega)
      rw [Int.mul_add, Int.mul_one] at e1
      have e2 : (((L - 1) * n : Nat) : Int) = ((L : Int) - 1) * (n : Int) := by rw [Int.natCast_mul, show ((L - 1 : Nat) : Int) = (L : Int) - 1 by omega]
      omega
    clear d1 d2 d3
    go_enter Tryz.func86, Tryz.ntmps86
    go_wp2_with fail
    refine HB.out.mono ?_
    rintro e w' ⟨rfl, rfl⟩
    go_wp2_with fail
    refine HL.out.mono ?_
    rintro e w' ⟨rfl, rfl⟩
    go_wp2_with fail
    go_ret2
    exact G.out
  · have hb' : (n : Int) ≤ c := by omega
    have P := hid (power_any p m cap zs A n w HA.out HT.out HVA.out hA1.out (by omega) (by omega))
    clear d1 d2 d3 hb
    go_enter Tryz.func86, Tryz.ntmps86
    go_wp2_with fail
    refine HB.out.mono ?_
    rintro e w' ⟨rfl, rfl⟩
    go_wp2_with fail
    refine HL.out.mono ?_
    rintro e w' ⟨rfl, rfl⟩
    go_wp2_with fail
    refine P.out.mono ?_
    rintro e w1 ⟨h | h, hb1⟩
    · obtain ⟨h1, r, os, rfl, A1⟩ := h
      have G : Hid (Gives (A ^ n) w' (.returned (.tuple #[.slice r (List.length os) (List.length os), .int .i64 0])) w1) := ⟨.inl ⟨h1, r, os, rfl, A1⟩, hb1⟩
      clear h1 A1 hb1
      go_wp2_with fail
      go_ret2
      exact G.out
    · obtain ⟨h1, rfl⟩ := h
      have G : Hid (Gives (A ^ n) w' (.returned (.tuple #[.slice none 0 0, .int .i64 2])) w1) := ⟨.inr ⟨h1, rfl⟩, hb1⟩
      clear h1 hb1
      go_wp2_with fail
      go_ret2
      exact G.out
end Go.Proofs.YtjkefcikepnbpaaGreatDoor

namespace Go.Proofs.YtjkefcikepnbpaaGreatDoor
open Go.RowKit Go.Deep

theorem pow5_gives (k : Int) (n : Nat) (w : World) (hk : k = (n : Int)) (hk1 : k ≤ 9223372036854775807) :
    Calls Tryz.prog 64 #[.int .i64 k] w fun e w' => Gives (5 ^ n) w e w' := by
  have hb : Below w.heap.size w (w.alloc (.cells #[.int .u64 5] 22)) := (Below.refl _ _).alloc (Nat.le_refl _) _
  have A : Arg (w.alloc (.cells #[.int .u64 5] 22)) (some ⟨w.heap.size, 0, none⟩) 1 1 [5] := ⟨rfl, Nat.le_refl _, by omega, (Own.alloc w [5]).lies, limb_one (by omega)⟩
  have P := hid (pow_gives _ 1 1 [5] 5 k n _ A (by simp [Nm.tsize]) (by simp [Nm.val]) hk hk1)
  have HB := hid hb
  clear hb A hk
  go_enter Tryz.func64, Tryz.ntmps64
  go_wp2_with fail
  refine P.out.mono ?_
  rintro e w1 ⟨h | h, hb1⟩
  · obtain ⟨h1, r, os, rfl, A1⟩ := h
    have G : Hid (Gives (5 ^ n) w (.returned (.tuple #[.slice r (List.length os) (List.length os), .int .i64 0])) w1) := ⟨.inl ⟨h1, r, os, rfl, A1.upT HB.out.size⟩, chain HB.out hb1 (Nat.le_refl _)⟩
    clear h1 A1 hb1
    go_wp2_with fail
    go_ret2
    exact G.out
  · obtain ⟨h1, rfl⟩ := h
    have G : Hid (Gives (5 ^ n) w (.returned (.tuple #[.slice none 0 0, .int .i64 2])) w1) := ⟨.inr ⟨h1, rfl⟩, chain HB.out hb1 (Nat.le_refl _)⟩
    clear h1 hb1
    go_wp2_with fail
    go_ret2
    exact G.out
end Go.Proofs.YtjkefcikepnbpaaGreatDoor
