/-
  THE ORDER OF NUMBERS; DRAWS; A SLICE WITH AN ELEMENT IN IT.
-/
import Derived.Test.YtmihjiiagpkciaaDoorWalk1
import Derived.Deep.QuietTactic
import Derived.BigQuiet
namespace Go.Proofs.YtmihjiiagpkciaaDoor
open Go.RowKit Go.Deep

/-- -1, 0 or 1. -/
def cmpI (x y : Int) : Int := if x < y then -1 else if x = y then 0 else 1

theorem cmpI_lt {x y : Int} (h : x < y) : cmpI x y = -1 := by rw [cmpI, if_pos h]
theorem cmpI_eq {x y : Int} (h : x = y) : cmpI x y = 0 := by rw [cmpI, if_neg (by omega), if_pos h]
theorem cmpI_gt {x y : Int} (h : y < x) : cmpI x y = 1 := by rw [cmpI, if_neg (by omega), if_neg (by omega)]

theorem below_drewN {B : Nat} {a w : World} (h : Below B a w) : ∀ n, Below B a (w.drewN n) := by
  intro n
  exact ⟨h.os, h.tape, h.output, h.size, h.block⟩

/-- A slice with an element in it has an address. -/
theorem Lies.at {w : World} {p : Option Addr} {zs : List Int} (h : Lies w p zs) (h0 : 0 < zs.length) :
    ∃ b off, p = some ⟨b, off, none⟩ ∧ b < w.heap.size ∧ Hid (∀ i, i < zs.length → w.cell? ⟨b, off + i, none⟩ = some (.int .u64 (zs.getD i 0))) := by
  rcases h with rfl | ⟨b, off, hp, h⟩
  · simp at h0
  · exact ⟨b, off, hp, cell_lt (h 0 h0), h⟩

theorem val_lt_of_tsize {zs ys : List Int} (hz : Nm.Limbs zs) (hy : Nm.Limbs ys) (h : Nm.tsize zs < Nm.tsize ys) : Nm.val zs < Nm.val ys := by
  have h1 := Nm.val_lt_tsize hz
  have h2 := Nm.val_ge_top hy (by omega)
  have h3 := Nm.pw_mono (show Nm.tsize zs ≤ Nm.tsize ys - 1 by omega)
  omega

theorem ret_bool {a b : Bool} (h : a = b) : Ending.returned (.bool a) = .returned (.bool b) := by rw [h]

theorem ret_i64 {a b : Int} (h : a = b) : Ending.returned (.int .i64 a) = .returned (.int .i64 b) := by rw [h]
end Go.Proofs.YtmihjiiagpkciaaDoor
