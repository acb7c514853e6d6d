/-
  layer 2's errs.
-/
import Derived.Test.YthfechigdiefpaaQLaw
namespace Go.Proofs.Ythfechigdiefpaa
open Go.RowKit Go.Deep

theorem errs_big (p q : Option Addr) (n cap m cap' : Nat) (zs ys : List Int) (w : World) (ha : Arg w p n cap zs) (hb : Arg w q m cap' ys) (h : 4096 < Nm.tsize zs ∨ 4096 < Nm.tsize ys) :
    Calls Try.prog 14 #[.slice p n cap, .slice q m cap'] w fun e w' => e = .returned (.int .i64 2) ∧ w' = w := by
  have hn := ha.2.1
  have hn' := ha.2.2.1
  have hm := hb.2.1
  have hm' := hb.2.2.1
  have L1 := hid (top_any p n cap zs w ha.1 (by omega) ha.2.2.2.1)
  have L2 := hid (top_any q m cap' ys w hb.1 (by omega) hb.2.2.2.1)
  by_cases h1 : 4096 < Nm.tsize zs
  · have h1' : (4096 : Int) < (Nm.tsize zs : Int) := by omega
    go_enter Try.func14, Try.ntmps14
    go_wp2_with fail
    refine L1.out.mono ?_
    rintro e w' ⟨rfl, rfl⟩
    go_wp2_with fail
    go_ret
    exact ⟨rfl, rfl⟩
  · have h1' : (Nm.tsize zs : Int) ≤ 4096 := by omega
    have h2' : (4096 : Int) < (Nm.tsize ys : Int) := by omega
    go_enter Try.func14, Try.ntmps14
    go_wp2_with fail
    refine L1.out.mono ?_
    rintro e w' ⟨rfl, rfl⟩
    go_wp2_with fail
    refine L2.out.mono ?_
    rintro e w' ⟨rfl, rfl⟩
    go_wp2_with fail
    go_ret
    exact ⟨rfl, rfl⟩

theorem errs_zero (p q : Option Addr) (n cap m cap' : Nat) (zs ys : List Int) (w : World) (ha : Arg w p n cap zs) (hb : Arg w q m cap' ys) (tz : Nm.tsize zs ≤ 4096) (ty : Nm.tsize ys = 0) :
    Calls Try.prog 14 #[.slice p n cap, .slice q m cap'] w fun e w' => e = .returned (.int .i64 4) ∧ w' = w := by
  have hn := ha.2.1
  have hn' := ha.2.2.1
  have hm := hb.2.1
  have hm' := hb.2.2.1
  have L1 := hid (top_any p n cap zs w ha.1 (by omega) ha.2.2.2.1)
  have L2 := top_any q m cap' ys w hb.1 (by omega) hb.2.2.2.1
  have h1' : (Nm.tsize zs : Int) ≤ 4096 := by omega
  rw [ty] at L2
  have HL2 := hid L2
  clear L2
  go_enter Try.func14, Try.ntmps14
  go_wp2_with fail
  refine L1.out.mono ?_
  rintro e w' ⟨rfl, rfl⟩
  go_wp2_with fail
  refine HL2.out.mono ?_
  rintro e w' ⟨rfl, rfl⟩
  go_wp2_with fail
  refine HL2.out.mono ?_
  rintro e w' ⟨rfl, rfl⟩
  go_wp2_with fail
  go_ret
  exact ⟨rfl, rfl⟩

theorem errs_ok (p q : Option Addr) (n cap m cap' : Nat) (zs ys : List Int) (w : World) (ha : Arg w p n cap zs) (hb : Arg w q m cap' ys) (tz : Nm.tsize zs ≤ 4096) (ty : Nm.tsize ys ≤ 4096) (hy : 0 < Nm.tsize ys) :
    Calls Try.prog 14 #[.slice p n cap, .slice q m cap'] w fun e w' => e = .returned (.int .i64 0) ∧ w' = w := by
  have hn := ha.2.1
  have hn' := ha.2.2.1
  have hm := hb.2.1
  have hm' := hb.2.2.1
  have L1 := hid (top_any p n cap zs w ha.1 (by omega) ha.2.2.2.1)
  have L2 := hid (top_any q m cap' ys w hb.1 (by omega) hb.2.2.2.1)
  have h1' : (Nm.tsize zs : Int) ≤ 4096 := by omega
  have h2' : (Nm.tsize ys : Int) ≤ 4096 := by omega
  have h3' : ((Nm.tsize ys : Int) == 0) = false := by rw [beq_eq_false_iff_ne]; omega
  go_enter Try.func14, Try.ntmps14
  go_wp2_with fail
  refine L1.out.mono ?_
  rintro e w' ⟨rfl, rfl⟩
  go_wp2_with fail
  refine L2.out.mono ?_
  rintro e w' ⟨rfl, rfl⟩
  go_wp2_with fail
  refine L2.out.mono ?_
  rintro e w' ⟨rfl, rfl⟩
  go_wp2_with fail
  go_ret
  exact ⟨rfl, rfl⟩
end Go.Proofs.Ythfechigdiefpaa
