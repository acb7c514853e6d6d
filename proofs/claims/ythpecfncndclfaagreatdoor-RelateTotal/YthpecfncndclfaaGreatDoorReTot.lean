/-
  abacuslaw18: isNaN, RelateTotal.
-/
import Derived.Test.YthpecfncndclfaaGreatDoorOpenValR
namespace Go.Proofs.YthpecfncndclfaaGreatDoor
open Go Go.RowKit Go.Deep Go.Shelf

/-- A value's box. -/
structure VBr (w : World) (k n : Int) (t : ByteArray) (W : World) : Prop where
  bel : Below w.heap.size w W
  box : Bx W w.heap.size 27 #[.int .i64 k, .int .u64 n, .string t]
theorem VBr.new (w : World) (k n : Int) (t : ByteArray) : VBr w k n t (w.alloc (.cells #[.int .i64 k, .int .u64 n, .string t] 27)) := ⟨alloc_b w _, Bx.new w _ _⟩
theorem VBr.on {w W W' : World} {k n : Int} {t : ByteArray} (h : VBr w k n t W) (b : Below W.heap.size W W') : VBr w k n t W' := ⟨below_on h.bel b, h.box.on b⟩
theorem VBr.cells {w W : World} {k n : Int} {t : ByteArray} (h : VBr w k n t W) : W.cell? ⟨w.heap.size, 0, none⟩ = some (.int .i64 k) ∧ W.cell? ⟨w.heap.size, 1, none⟩ = some (.int .u64 n) ∧ W.cell? ⟨w.heap.size, 2, none⟩ = some (.string t) := ⟨h.box.cell 0 _ rfl, h.box.cell 1 _ rfl, h.box.cell 2 _ rfl⟩

set_option maxRecDepth 100000 in
set_option maxHeartbeats 1000000 in
theorem risnan_any (k n : Int) (s : ByteArray) (w : World) (n0 : 0 ≤ n) (n1 : n < 18446744073709551616) (hk : k ≠ 2) :
    Calls Tryz.prog 14 #[.agg #[.int .i64 k, .int .u64 n, .string s]] w fun e w' => e = .returned (.bool (!Ie.okd (Re.nu k n))) ∧ Below w.heap.size w w' := by
  have NU : Hid (∀ W, Calls Tryz.prog 13 #[.agg #[.int .i64 k, .int .u64 n, .string s]] W fun e w' => e = .returned (.bool true) ∧ Below W.heap.size W w') := fun W => by have := vnumeric_any k n s W; rwa [decide_eq_true hk] at this
  have TN := hid (fun W => vtonum_any k n s W hk)
  have m0 : 0 ≤ Re.nu k n := by unfold Re.nu; split <;> omega
  have m1 : Re.nu k n < 18446744073709551616 := by unfold Re.nu; split <;> omega
  have B0 := hid (VBr.new w k n s)
  have E : Hid (decide (9218868437227405312 < (Re.nu k n) % 9223372036854775808) = !Ie.okd (Re.nu k n)) := by
    rw [Hid, Ie.okd]
    by_cases c : Re.nu k n % 9223372036854775808 ≤ 9218868437227405312
    · rw [decide_eq_true c, decide_eq_false (by omega)]; rfl
    · rw [decide_eq_false c, decide_eq_true (by omega)]; rfl
  have tm : (Re.nu k n).tmod 9223372036854775808 = Re.nu k n % 9223372036854775808 := Int.tmod_eq_emod_of_nonneg m0
  rw [← E.out]
  generalize Re.nu k n = X at *
  clear E hk n0 n1
  go_enter Tryz.func14, Tryz.ntmps14
  go_wp2_with fail
  generalize w.alloc (.cells #[.int .i64 k, .int .u64 n, .string s] 27) = wA at *
  refine (NU.out _).mono ?_
  rintro e w1 ⟨rfl, b1⟩
  have B1 := hid (B0.out.on b1)
  clear b1 B0 NU
  obtain ⟨c0, c1, c2⟩ := B1.out.cells
  go_wp2_with fail
  refine (TN.out _).mono ?_
  rintro e w2 ⟨rfl, b2⟩
  have F := hid (B1.out.on b2).bel
  clear b2 B1 TN c0 c1 c2
  go_wp2_with fail
  go_ret
  exact ⟨by simp, F.out⟩
end Go.Proofs.YthpecfncndclfaaGreatDoor
