/-
  abacuslaw18's RelateSorted, over values that are handed in.
-/
import Derived.Test.YthpecfncndclfaaGreatDoorReSoL
import Derived.Test.YthpecfncndclfaaGreatDoorOpenValR
namespace Go.Proofs.YthpecfncndclfaaGreatDoor
open Go Go.RowKit Go.Deep Go.Shelf

theorem rsorted_vals (p : Option Addr) (cap : Nat) (z : List Va.Vl) (k : Int) (w : World) (ht : Tab10 w) (hv : LV w p z) (hw : ∀ q ∈ z, VlW q) (hl : z.length ≤ 4398046511104) (hk : k ≤ 9223372036854775807) :
    Calls Tryz.prog 7 #[.slice p z.length cap, .int .i64 k] w fun e w' => e = .returned (.bool true) ∧ Below w.heap.size w w' := by
  have h := rsorted_law p cap (z.map fun q => ⟨q.k, q.n, strOfNums q.s⟩) k w ht (lv_re hv) (fun a ha => by
    obtain ⟨q, hq, rfl⟩ := List.mem_map.1 ha
    exact (hw q hq).2.1) (by rw [List.length_map]; omega) hk
  rw [List.length_map] at h
  exact h
end Go.Proofs.YthpecfncndclfaaGreatDoor
