/-
  WHAT BitLen TELLS.
-/
import Derived.Test.YtmihjiiagpkciaaDoorBitLenW
import Derived.Test.YtmihjiiagpkciaaDoorNums
import Derived.Test.YtmihjiiagpkciaaDoorSmallA
import Derived.Laws.Bits64b
import Derived.Lib.ItoaNum
namespace Go.Proofs.YtmihjiiagpkciaaDoor
open Go.RowKit Go.Deep

/-- What BitLen tells. -/
theorem blen_is (zs : List Int) (hz : Nm.Limbs zs) : ∃ L : Nat, blen zs = (L : Int) ∧ Nm.BLen (Nm.val zs) L ∧ L ≤ 64 * Nm.tsize zs ∧ (0 < Nm.tsize zs → 64 * Nm.tsize zs < L + 64) := by
  by_cases h0 : Nm.tsize zs = 0
  · have hv := (Nm.tsize_zero_iff hz).1 h0
    exact ⟨0, by rw [blen, if_pos h0]; rfl, ⟨by rw [hv]; decide, fun _ => rfl, fun h => by omega⟩, by omega, fun h => by omega⟩
  · obtain ⟨t, ht⟩ : ∃ t, Nm.tsize zs = t + 1 := ⟨Nm.tsize zs - 1, by omega⟩
    have hx := hz.at t
    have hx0 := Nm.tsize_top zs (by omega)
    rw [show Nm.tsize zs - 1 = t by omega] at hx0
    obtain ⟨n, hn⟩ := Int.eq_ofNat_of_zero_le hx.1
    have hb := Lib.bitLenAux_bounds 64 n (by simpa using (show n < 18446744073709551616 by omega)) (by omega)
    rw [show Lib.bitLenAux 64 n = Lib.bitLen n from rfl] at hb
    have hs := bitLen_small n (by omega)
    obtain ⟨l, hl⟩ : ∃ l, Lib.bitLen n = l := ⟨_, rfl⟩
    rw [hl] at hb hs
    have e1 : ((2 ^ (l - 1) : Nat) : Int) = (2 : Int) ^ (l - 1) := by simp
    have e2 : ((2 ^ l : Nat) : Int) = (2 : Int) ^ l := by simp
    refine ⟨64 * t + l, ?_, Nm.blen_at zs t l hz ht hb.1 (by omega) (by omega), by omega, fun _ => by omega⟩
    rw [blen, if_neg h0, show Nm.tsize zs - 1 = t by omega, hn, Int.toNat_natCast, hl, ht]
    omega
end Go.Proofs.YtmihjiiagpkciaaDoor
