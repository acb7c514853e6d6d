import Derived.Test.YtggiioipppbedaaGreatDoorIShiftA
import Derived.Test.YtggiioipppbedaaGreatDoorLow
/-
  Low, whatever the number of bits.
-/
namespace Go.Proofs.YtggiioipppbedaaGreatDoor
open Go.RowKit Go.Deep

theorem low_any (p : Option Addr) (n cap : Nat) (zs : List Int) (kk : Int) (k : Nat) (w : World) (ha : Arg w p n cap zs) (tz : Nm.tsize zs ≤ 4096) (hkk : kk = (k : Int)) :
    Calls Tryz.prog 87 #[.slice p n cap, .int .i64 kk] w fun e w' => ∃ r os, e = .returned (.tuple #[.slice r (List.length os) (List.length os), .int .i64 0]) ∧ Ans w.heap.size w' r os (Nm.val zs % 2 ^ k) ∧ Below w.heap.size w w' := by
  obtain ⟨L, hL, BL, hl, _⟩ := blen_is zs ha.2.2.2.2
  have hv0 := (Nm.val_bd zs ha.2.2.2.2).1
  rw [← blen_trim_eq] at hL
  by_cases hb : k < L
  · exact low_ok p n cap zs kk k L w ha tz hkk hL hl hb
  · have hlt : Nm.val zs < 2 ^ k := by
      have := BL.1
      have := Nm.two_mono (show L ≤ k by omega)
      omega
    rw [Int.emod_eq_of_lt hv0 hlt]
    exact low_all p n cap zs kk L w ha tz (by omega) hL (by omega)
end Go.Proofs.YtggiioipppbedaaGreatDoor
