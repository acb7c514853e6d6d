/-
  quot's limbs.
-/
import Derived.Test.YtmihjiiagpkciaaDoorBlenIs
namespace Go.Proofs.YtmihjiiagpkciaaDoor
open Go.RowKit Go.Deep

theorem limbs_any (p : Option Addr) (n cap : Nat) (zs : List Int) (w : World) (ha : Arg w p n cap zs) :
    Calls Tryd.prog 31 #[.slice p n cap] w fun e w' => e = .returned (.int .i64 (Nm.tsize zs : Int)) ∧ w' = w := by
  obtain ⟨L, h1, _, h3, h4⟩ := blen_is zs ha.2.2.2.2
  have tl := Nm.tsize_le zs
  have hn := ha.1
  have hc := ha.2.2.1
  have hc' := ha.2.1
  have H := bitLen_any p n cap zs w ha
  rw [h1] at H
  have HB := hid H
  obtain ⟨N, HN⟩ : ∃ N, Hid (Nm.tsize zs = N) := ⟨_, rfl⟩
  rw [HN.out] at h3 h4 ⊢
  have hL : (L : Int) ≤ 1125899906842624000 := by have := HN.out; omega
  have hL0 : (0 : Int) ≤ (L : Int) := by omega
  have E : Hid (((L : Int) + 64 - 1) / 64 = (N : Int)) := by show _ = _; omega
  have E2 : Hid (((L : Int) + 64 - 1).tdiv 64 = (N : Int)) := by show _ = _; rw [Int.tdiv_eq_ediv_of_nonneg (by omega)]; exact E.out
  clear h1 h3 h4 H hn hc hc' tl ha
  go_enter Tryd.func31, Tryd.ntmps31
  go_wp2_with fail
  refine HB.out.mono ?_
  rintro e w' ⟨rfl, rfl⟩
  go_wp2_with fail
  go_ret
  exact ⟨ret_i64 (by first | exact E.out | exact E2.out), rfl⟩
end Go.Proofs.YtmihjiiagpkciaaDoor
