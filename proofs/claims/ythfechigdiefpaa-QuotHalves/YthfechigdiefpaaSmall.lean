/-
  WHAT THE LAWS' WALKS NEED BESIDES: calls whose answers are known by name.
-/
import Derived.Test.YthfechigdiefpaaWalk5
namespace Go.Proofs.Ythfechigdiefpaa
open Go.RowKit Go.Deep

theorem chain {B : Nat} {w w1 w2 : World} (h : Below B w w1) (k : Below w1.heap.size w1 w2) (hB : B ≤ w.heap.size) : Below B w w2 := h.trans (k.mono (by have := h.size; omega))

theorem cmp_is (c : Int) (p q : Option Addr) (n cap m cap' : Nat) (zs ys : List Int) (w : World) (ha : Arg w p n cap zs) (hb : Arg w q m cap' ys) (hc : cmpI (Nm.val zs) (Nm.val ys) = c) :
    Calls Try.prog 17 #[.slice p n cap, .slice q m cap'] w fun e w' => e = .returned (.int .i64 c) ∧ Below w.heap.size w w' := by
  rw [← hc]
  exact cmp_any p q n cap m cap' zs ys w ha hb

theorem Arg.tl {w : World} {p : Option Addr} {n cap : Nat} {zs : List Int} (h : Arg w p n cap zs) : Nm.tsize zs ≤ n := by have := Nm.tsize_le zs; have := h.1; omega

/-- The number of an answer's limbs, by the number itself. -/
theorem Ans.len {B : Nat} {w : World} {p : Option Addr} {ys zs : List Int} {n : Int} (h : Ans B w p ys n) (hz : Nm.Limbs zs) (hv : n = Nm.val zs) : ys.length = Nm.tsize zs := by
  rw [← h.2.2.1]
  exact Nm.tsize_congr h.2.1 hz (h.2.2.2.1.trans hv)
end Go.Proofs.Ythfechigdiefpaa
