/-
  A block's cells as a box (split of ReA).
-/
import Derived.Test.YtnobafmleellhabDoorVStr
namespace Go.Proofs.YtnobafmleellhabDoor
open Go Go.RowKit Go.Deep

/-- A block of cells that may be written. -/
def Bx (w : World) (b t : Nat) (c : Array Value) : Prop := w.heap[b]? = some (.cells c t (0, 0))
theorem Bx.new (w : World) (t : Nat) (c : Array Value) : Bx (w.alloc (.cells c t)) w.heap.size t c := heap_alloc_new w _
theorem Bx.below {B : Nat} {w w' : World} {b t : Nat} {c : Array Value} (h : Bx w b t c) (hB : Below B w w') (hb : b < B) : Bx w' b t c := by
  rw [Bx, hB.block b hb]; exact h
theorem Bx.lt {w : World} {b t : Nat} {c : Array Value} (h : Bx w b t c) : b < w.heap.size := by
  rcases Nat.lt_or_ge b w.heap.size with hl | hl
  · exact hl
  · simp [Bx, Array.getElem?_eq_none hl] at h
theorem Bx.on {w w' : World} {b t : Nat} {c : Array Value} (h : Bx w b t c) (hB : Below w.heap.size w w') : Bx w' b t c := h.below hB h.lt
theorem Bx.cell {w : World} {b t : Nat} {c : Array Value} (h : Bx w b t c) (i : Nat) (v : Value) (hi : c[i]? = some v) : w.cell? ⟨b, i, none⟩ = some v := by
  unfold Bx at h; simp [World.cell?, h, hi]
theorem Bx.free {w : World} {b t : Nat} {c : Array Value} (h : Bx w b t c) (i : Nat) : w.frozen? ⟨b, i, none⟩ = false := by
  unfold Bx at h; simp [World.frozen?, h]
theorem Bx.far {w : World} {b c o t : Nat} {v : Value} {cs : Array Value} (h : Bx w b t cs) (hc : c ≠ b) : Bx (w.setCell ⟨c, o, none⟩ v) b t cs := by
  unfold Bx at *
  simp only [World.setCell, Array.getElem?_modify]
  rw [if_neg hc]; exact h
theorem Bx.set {w : World} {b t : Nat} {cs : Array Value} (h : Bx w b t cs) (o : Nat) (v : Value) : Bx (w.setCell ⟨b, o, none⟩ v) b t (cs.setIfInBounds o v) := set1 h rfl
theorem Bx.put3 {w : World} {b t : Nat} {v0 v1 v2 : Value} (h : Bx w b t #[v0, v1, v2]) (u0 u1 u2 : Value) : Bx (((w.setCell ⟨b, 0, none⟩ u0).setCell ⟨b, 1, none⟩ u1).setCell ⟨b, 2, none⟩ u2) b t #[u0, u1, u2] :=
  ((h.set 0 u0).set 1 u1).set 2 u2
theorem bset3_below {B : Nat} {w w' : World} {b : Nat} {u0 u1 u2 : Value} (h : Below B w w') (hb : B ≤ b) : Below B w (((w'.setCell ⟨b, 0, none⟩ u0).setCell ⟨b, 1, none⟩ u1).setCell ⟨b, 2, none⟩ u2) :=
  ((h.setCell (p := ⟨b, 0, none⟩) hb u0).setCell (p := ⟨b, 1, none⟩) hb u1).setCell (p := ⟨b, 2, none⟩) hb u2
end Go.Proofs.YtnobafmleellhabDoor
