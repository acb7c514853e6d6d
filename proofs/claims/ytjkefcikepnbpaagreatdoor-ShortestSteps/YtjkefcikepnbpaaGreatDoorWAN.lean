/-
  Texts put together: VRead, VNumb.
-/
import Derived.Test.YtjkefcikepnbpaaGreatDoorWAB
import Derived.BigRegion
import Derived.Deep.Cut
import Derived.Test.YtjkefcikepnbpaaGreatDoorWAI
import Derived.Deep.RegionHeld3
namespace Go.Proofs.YtjkefcikepnbpaaGreatDoor
open Go Go.RowKit Go.Deep

end Go.Proofs.YtjkefcikepnbpaaGreatDoor

namespace Go.Proofs.YtjkefcikepnbpaaGreatDoor
open Go Go.RowKit Go.Deep




theorem Str.append {s t : ByteArray} {xs ys : List Int} (h : Str s xs) (k : Str t ys) : Str (s ++ t) (xs ++ ys) := by
  unfold Str at *
  rw [ByteArray.data_append, Array.toList_append, List.map_append, h, k]

/-- A literal's box and room for a Dec. -/
def LitBox (w w' : World) (neg : Bool) (A B : ByteArray) (sc en : Int) : Prop := Below w.heap.size w w' ∧ Row5 w' w.heap.size 87 (.bool neg) (.string A) (.string B) (.int .i64 sc) (.int .i64 en) ∧ Row3 w' (w.heap.size + 1) (.bool false) (.string ⟨#[]⟩) (.int .i64 0)
theorem LitBox.new (w : World) (neg : Bool) (A B : ByteArray) (sc en : Int) : LitBox w ((w.alloc (.cells #[.bool neg, .string A, .string B, .int .i64 sc, .int .i64 en] 87)).alloc (.cells #[.bool false, .string ⟨#[]⟩, .int .i64 0] 25)) neg A B sc en :=
  ⟨below_on (alloc_b _ _) (alloc_b _ _), heap_alloc2_old _ _ _, heap_alloc2_new _ _ _⟩
theorem LitBox.on {w w' w'' : World} {neg : Bool} {A B : ByteArray} {sc en : Int} (h : LitBox w w' neg A B sc en) (k : Below w'.heap.size w' w'') : LitBox w w'' neg A B sc en :=
  ⟨below_on h.1 k, h.2.1.below k h.2.1.lt, h.2.2.below k h.2.2.lt⟩
theorem LitBox.put {w w' : World} {neg : Bool} {A B : ByteArray} {sc en : Int} (h : LitBox w w' neg A B sc en) (x0 x1 x2 : Value) :
    Row3 (((w'.setCell ⟨w.heap.size + 1, 0, none⟩ x0).setCell ⟨w.heap.size + 1, 1, none⟩ x1).setCell ⟨w.heap.size + 1, 2, none⟩ x2) (w.heap.size + 1) x0 x1 x2 ∧ Below w.heap.size w (((w'.setCell ⟨w.heap.size + 1, 0, none⟩ x0).setCell ⟨w.heap.size + 1, 1, none⟩ x1).setCell ⟨w.heap.size + 1, 2, none⟩ x2) :=
  ⟨h.2.2.put _ _ _, set3_below h.1 (Nat.le_succ _)⟩



/-- Room for the answer; the literal in its box. -/
def NSt (w wx : World) (b : Nat) (neg : Bool) (A B : ByteArray) (sc en : Int) : Prop :=
  Below w.heap.size w wx ∧ Row3 wx w.heap.size (.bool false) (.string ⟨#[]⟩) (.int .i64 0) ∧ Row5 wx b 87 (.bool neg) (.string A) (.string B) (.int .i64 sc) (.int .i64 en)
theorem NSt.new {w w1 : World} (hB : Below (w.alloc (.cells #[.bool false, .string ⟨#[]⟩, .int .i64 0] 25)).heap.size (w.alloc (.cells #[.bool false, .string ⟨#[]⟩, .int .i64 0] 25)) w1) (neg : Bool) (A B : ByteArray) (sc en : Int) :
    NSt w (w1.alloc (.cells #[.bool neg, .string A, .string B, .int .i64 sc, .int .i64 en] 87)) w1.heap.size neg A B sc en := by
  have r := (Row3.new w (.bool false) (.string ⟨#[]⟩) (.int .i64 0)).below hB (Row3.new w _ _ _).lt
  exact ⟨below_on (below_on (alloc_b _ _) hB) (alloc_b _ _), r.below (alloc_b _ _) r.lt, heap_alloc_new _ _⟩
theorem NSt.on {w wx w' : World} {b : Nat} {neg : Bool} {A B : ByteArray} {sc en : Int} (h : NSt w wx b neg A B sc en) (k : Below wx.heap.size wx w') : NSt w w' b neg A B sc en :=
  ⟨below_on h.1 k, h.2.1.below k h.2.1.lt, h.2.2.below k h.2.2.lt⟩
theorem NSt.drew {w wx : World} {b : Nat} {neg : Bool} {A B : ByteArray} {sc en : Int} (h : NSt w wx b neg A B sc en) : NSt w wx.drew b neg A B sc en :=
  h.on (below_drewN (Below.refl _ _) 1)
theorem NSt.flat {w wx : World} {b : Nat} {neg : Bool} {A B : ByteArray} {sc en : Int} (h : NSt w wx b neg A B sc en) :
    (wx.cell? ⟨b, 0, none⟩ = some (.bool neg) ∧ wx.cell? ⟨b, 1, none⟩ = some (.string A) ∧ wx.cell? ⟨b, 2, none⟩ = some (.string B) ∧ wx.cell? ⟨b, 3, none⟩ = some (.int .i64 sc) ∧ wx.cell? ⟨b, 4, none⟩ = some (.int .i64 en)) ∧
    (wx.cell? ⟨w.heap.size, 0, none⟩ = some (.bool false) ∧ wx.cell? ⟨w.heap.size, 1, none⟩ = some (.string ⟨#[]⟩) ∧ wx.cell? ⟨w.heap.size, 2, none⟩ = some (.int .i64 0)) ∧
    (wx.frozen? ⟨w.heap.size, 0, none⟩ = false ∧ wx.frozen? ⟨w.heap.size, 1, none⟩ = false ∧ wx.frozen? ⟨w.heap.size, 2, none⟩ = false) :=
  ⟨h.2.2.cells.1, h.2.1.cells.1, h.2.1.cells.2⟩
theorem NSt.five {w wx : World} {b : Nat} {neg : Bool} {A B : ByteArray} {sc en : Int} (h : NSt w wx b neg A B sc en) : wx.cell? ⟨b, 0, none⟩ = some (.bool neg) ∧ wx.cell? ⟨b, 1, none⟩ = some (.string A) ∧ wx.cell? ⟨b, 2, none⟩ = some (.string B) ∧ wx.cell? ⟨b, 3, none⟩ = some (.int .i64 sc) ∧ wx.cell? ⟨b, 4, none⟩ = some (.int .i64 en) := h.2.2.cells.1
theorem NSt.put {w wx : World} {b : Nat} {neg : Bool} {A B : ByteArray} {sc en : Int} (h : NSt w wx b neg A B sc en) (x0 x1 x2 : Value) :
    Row3 (((wx.setCell ⟨w.heap.size, 0, none⟩ x0).setCell ⟨w.heap.size, 1, none⟩ x1).setCell ⟨w.heap.size, 2, none⟩ x2) w.heap.size x0 x1 x2 ∧ Below w.heap.size w (((wx.setCell ⟨w.heap.size, 0, none⟩ x0).setCell ⟨w.heap.size, 1, none⟩ x1).setCell ⟨w.heap.size, 2, none⟩ x2) :=
  ⟨h.2.1.put _ _ _, set3_below h.1 (Nat.le_refl _)⟩

end Go.Proofs.YtjkefcikepnbpaaGreatDoor
