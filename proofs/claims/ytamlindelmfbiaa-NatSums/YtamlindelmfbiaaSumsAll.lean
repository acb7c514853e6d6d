/-
  NatSums, whatever comes in.
-/
import Derived.Test.YtamlindelmfbiaaSums
namespace Go.Proofs.Ytamlindelmfbiaa
open Go.RowKit Go.Deep

set_option maxRecDepth 100000 in
set_option maxHeartbeats 1000000 in
theorem sums_long (p q : Option Addr) (n cap m cap' : Nat) (za zb : List Int) (w : World) (ha : Arg w p n cap za) (hb : Arg w q m cap' zb) (h : 4096 ≤ Nm.tsize za ∨ Nm.tsize za < 4096 ∧ 4096 ≤ Nm.tsize zb) :
    Calls Try.prog 4 #[.slice p n cap, .slice q m cap'] w fun e w' => e = .returned (.bool true) ∧ Below w.heap.size w w' := by
  have HA := hid ha
  have HB := hid hb
  have AL := hid ha.1
  have BL := hid hb.1
  have hn44 : n ≤ 17592186044416 := by have := ha.2.1; have := ha.2.2.1; omega
  have hm44 : m ≤ 17592186044416 := by have := hb.2.1; have := hb.2.2.1; omega
  clear ha hb
  rcases h with ta | ⟨ta, tb⟩
  · have ta' : (4096 : Int) ≤ (Nm.tsize za : Int) := by omega
    go_enter Try.func4, Try.ntmps4
    go_wp2_with fail
    refine (awake_any _).mono ?_
    rintro e w1 ⟨rfl, hb1⟩
    have D1 := hid hb1
    clear hb1
    go_wp2_with fail
    refine (size_any p n cap za _ AL.out (by omega) (HA.out.below D1.out (Nat.le_refl _)).2.2.2.1).mono ?_
    rintro e w2 ⟨rfl, rfl⟩
    go_wp2_with fail
    go_ret
    exact ⟨rfl, D1.out⟩
  · have ta' : ¬ (4096 : Int) ≤ (Nm.tsize za : Int) := by omega
    have tb' : (4096 : Int) ≤ (Nm.tsize zb : Int) := by omega
    go_enter Try.func4, Try.ntmps4
    go_wp2_with fail
    refine (awake_any _).mono ?_
    rintro e w1 ⟨rfl, hb1⟩
    have D1 := hid hb1
    clear hb1
    go_wp2_with fail
    refine (size_any p n cap za _ AL.out (by omega) (HA.out.below D1.out (Nat.le_refl _)).2.2.2.1).mono ?_
    rintro e w2 ⟨rfl, rfl⟩
    go_wp2_with fail
    refine (size_any q m cap' zb _ BL.out (by omega) (HB.out.below D1.out (Nat.le_refl _)).2.2.2.1).mono ?_
    rintro e w2 ⟨rfl, rfl⟩
    go_wp2_with fail
    go_ret
    exact ⟨rfl, D1.out⟩

theorem sums_any (p q : Option Addr) (n cap m cap' : Nat) (za zb : List Int) (w : World) (ha : Arg w p n cap za) (hb : Arg w q m cap' zb) :
    Calls Try.prog 4 #[.slice p n cap, .slice q m cap'] w fun e w' => e = .returned (.bool true) ∧ Below w.heap.size w w' := by
  by_cases h : Nm.tsize za < 4096 ∧ Nm.tsize zb < 4096
  · rcases Int.lt_trichotomy (Nm.val za) (Nm.val zb) with h1 | h1 | h1
    · exact sums_ok (-1) 10 0 p q n cap m cap' za zb w ha hb h.1 h.2 (.inl ⟨rfl, rfl, rfl, h1⟩)
    · exact sums_ok 0 0 0 p q n cap m cap' za zb w ha hb h.1 h.2 (.inr (.inl ⟨rfl, rfl, rfl, h1⟩))
    · exact sums_ok 1 0 10 p q n cap m cap' za zb w ha hb h.1 h.2 (.inr (.inr ⟨rfl, rfl, rfl, h1⟩))
  · exact sums_long p q n cap m cap' za zb w ha hb (by omega)
end Go.Proofs.Ytamlindelmfbiaa
