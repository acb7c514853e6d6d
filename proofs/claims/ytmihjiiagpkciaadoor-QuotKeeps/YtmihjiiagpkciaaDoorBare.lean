/-
  A BLOCK OF ZEROS, AND WHAT A LOOP HAS MADE OF IT.
-/
import Derived.Test.YtmihjiiagpkciaaDoorWalk2a
import Derived.Test.YtmihjiiagpkciaaDoorWalk5a
namespace Go.Proofs.YtmihjiiagpkciaaDoor
open Go.RowKit Go.Deep

/-- Behind j limbs of a * m + c: what is in the block, and the carry beyond, is T; from limb j on the block is 0. -/
def MaInv (g k : Nat) (w : World) (T : Int) (j : Nat) (c : Int) (os : List Int) (wr : World) : Prop :=
  AddInv g k w T j c os wr ∧ (0 ≤ c ∧ c < 18446744073709551616) ∧ ∀ i, j ≤ i → os.getD i 0 = 0

theorem MaInv.step {g k : Nat} {w : World} {T : Int} {j : Nat} {c : Int} {os : List Int} {wr : World} (h : MaInv g k w T j c os wr) (hj : j < k) {x s c' : Int}
    (hs0 : 0 ≤ s ∧ s < 18446744073709551616) (hc0 : 0 ≤ c' ∧ c' < 18446744073709551616) (hs : s + 18446744073709551616 * c' = x + c) :
    MaInv g k w (T + Nm.pw j * x) (j + 1) c' (os.set j s) (wr.setCell ⟨g, j, none⟩ (.int .u64 s)) := by
  obtain ⟨⟨h1, h2, h3, h4, h5, h6⟩, h7, h8⟩ := h
  have hz := h8 j (Nat.le_refl _)
  refine ⟨⟨h1.set j s, by simpa using h2, h3.set j hs0.1 hs0.2, Nm.add_step (by omega) (by omega) h4, h5.setCell (Nat.le_refl _) _, by simpa [World.setCell] using h6⟩, hc0, fun i hi => ?_⟩
  rw [Nm.getD_set _ _ _ _ (by omega), if_neg (by omega)]
  exact h8 i (by omega)

theorem getD_replicate (n i : Nat) : (List.replicate n (0 : Int)).getD i 0 = 0 := by
  simp only [List.getD, List.getElem?_replicate]
  split <;> rfl

/-- Below block g nothing has turned, and block g holds k limbs of T. -/
def Made (g k : Nat) (T : Int) (w w' : World) : Prop := ∃ os, Own w' g os ∧ os.length = k ∧ Nm.Limbs os ∧ Nm.val os = T ∧ Below g w w'

end Go.Proofs.YtmihjiiagpkciaaDoor
