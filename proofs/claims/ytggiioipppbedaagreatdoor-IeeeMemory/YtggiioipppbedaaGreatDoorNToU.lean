/-
  nat's ToUint.
-/
import Derived.Test.YtggiioipppbedaaGreatDoorWalk5a
namespace Go.Proofs.YtggiioipppbedaaGreatDoor
open Go.RowKit Go.Deep

/-- What ToUint answers: the limb, and whether it is one. -/
def toU (zs : List Int) : Int := if Nm.tsize zs = 1 then zs.getD 0 0 else 0

theorem ret_to {a b : Int} {c d : Bool} (h : a = b) (k : c = d) : Ending.returned (.tuple #[.int .u64 a, .bool c]) = .returned (.tuple #[.int .u64 b, .bool d]) := by rw [h, k]

theorem toUint_any (p : Option Addr) (n cap : Nat) (zs : List Int) (w : World) (ha : Arg w p n cap zs) :
    Calls Tryz.prog 72 #[.slice p n cap] w fun e w' => e = .returned (.tuple #[.int .u64 (toU zs), .bool (decide (Nm.tsize zs ≤ 1))]) ∧ w' = w := by
  obtain ⟨a1, a2, a3, a4, a5⟩ := ha
  have tl := Nm.tsize_le zs
  have S1 := trimmed_any p n cap zs w a1 a2 (by omega) a4
  rcases (show Nm.tsize zs = 0 ∨ Nm.tsize zs = 1 ∨ 1 < Nm.tsize zs by omega) with h | h | h
  · have E : Hid (0 = toU zs ∧ true = decide (Nm.tsize zs ≤ 1)) := by simp [Hid, toU, h]
    rw [h] at S1
    have HS := hid S1
    clear S1 h
    go_enter Tryz.func72, Tryz.ntmps72
    go_wp2_with fail
    refine HS.out.mono ?_
    rintro e w' ⟨rfl, rfl⟩
    go_wp2
    go_ret2
    exact ⟨ret_to E.out.1 E.out.2, rfl⟩
  · have E : Hid (zs.getD 0 0 = toU zs ∧ true = decide (Nm.tsize zs ≤ 1)) := by simp [Hid, toU, h]
    obtain ⟨b, off, rfl, hbw, HC⟩ := a4.at (by omega)
    have hc := HC.out 0 (by omega)
    rw [Nat.add_zero] at hc
    rw [h] at S1
    have HS := hid S1
    clear S1 h
    go_enter Tryz.func72, Tryz.ntmps72
    go_wp2_with fail
    refine HS.out.mono ?_
    rintro e w' ⟨rfl, rfl⟩
    go_wp2
    go_ret2
    exact ⟨ret_to E.out.1 E.out.2, rfl⟩
  · have E : Hid (0 = toU zs ∧ false = decide (Nm.tsize zs ≤ 1)) := by
      refine ⟨?_, ?_⟩
      · rw [toU, if_neg (by omega)]
      · simp; omega
    have h1 : ((Nm.tsize zs : Int) == 0) = false := by rw [beq_eq_false_iff_ne]; omega
    have h2 : ((Nm.tsize zs : Int) == 1) = false := by rw [beq_eq_false_iff_ne]; omega
    have HS := hid S1
    clear S1 h
    go_enter Tryz.func72, Tryz.ntmps72
    go_wp2_with fail
    refine HS.out.mono ?_
    rintro e w' ⟨rfl, rfl⟩
    go_wp2
    go_ret2
    exact ⟨ret_to E.out.1 E.out.2, rfl⟩

theorem toU_val {zs : List Int} (hl : Nm.Limbs zs) (hv : Nm.val zs < 18446744073709551616) : toU zs = Nm.val zs := by
  have h1 : Nm.tsize zs ≤ 1 := (Nm.tsize_le_iff hl 1).2 (by simpa [Nm.pw] using hv)
  by_cases h : Nm.tsize zs = 1
  · rw [toU, if_pos h, ← Nm.val_trim zs, Nm.trim, h]
    cases zs with
    | nil => simp [Nm.val]
    | cons z zs => simp [Nm.val]
  · have h0 : Nm.tsize zs = 0 := by omega
    rw [toU, if_neg h, ← Nm.val_trim zs, Nm.trim, h0]
    simp [Nm.val]
end Go.Proofs.YtggiioipppbedaaGreatDoor
