/-
  THE CARD: the row is in the text before.
-/
import Derived.Test.YthpecfncndclfaaGreatDoorRelateSortedRow
import Derived.Test.YthpecfncndclfaaGreatDoorCards
import Derived.Test.YthpecfncndclfaaGreatDoorTie
import Derived.Test.YthpecfncndclfaaGreatDoorReSoV
import Derived.Test.YthpecfncndclfaaGreatDoorGG
import Derived.Test.YthpecfncndclfaaGreatDoorGH
import Derived.Lib.LaidCaseMet
import Derived.Deep.DeepWitnessRowRef
import Derived.WalkKit
import Derived.ProofKit
import Derived.OpenShut
import Derived.SizedLaws
import Derived.Deep.DeepHandedRow
import Derived.Lib.LaidTab
import Derived.SevenTiedAt
import Derived.Below
import Derived.ChangeMaps5
namespace Go.Proofs.YthpecfncndclfaaGreatDoor.relateSorted
open Go.ChangeShapes Go.WideShapes Go.ChangeAt Go.RowKit

theorem plain (f : FuncId) (fn : Func) (hf : Tryz.pinned.checked.prog.funcNamed Rows.relateSortedRow.func = some f) (hfn : Tryz.pinned.checked.prog.funcs[f]? = some fn) :
    true = Tryz.pinned.checked.prog.looks [] ∧ ∀ (j : Nat) t, fn.params[j]? = some t → Tryz.pinned.checked.prog.wantsStandIn t = false := by
  obtain rfl : f = 7 := Option.some.inj ((show Tryz.prog.funcNamed Rows.relateSortedRow.func = some 7 by kernel_rfl).symm.trans hf) |>.symm
  obtain rfl : fn = Tryz.f7 := (Option.some.inj (Tryz.func7.symm.trans hfn)).symm
  refine ⟨by kernel_rfl, fun j t ht => ?_⟩
  rw [Tryz.params7] at ht
  have hm : t = 43 ∨ t = 3 := by simpa using Array.mem_of_getElem? ht
  rcases hm with rfl | rfl
  · exact (show Tryz.prog.wantsStandIn 43 = false by kernel_rfl)
  · exact (show Tryz.prog.wantsStandIn 3 = false by kernel_rfl)
end Go.Proofs.YthpecfncndclfaaGreatDoor.relateSorted
namespace Go.Proofs.YthpecfncndclfaaGreatDoor
/-- THE CARD. -/
theorem relateSorted_card : Rows.RelateSortedCardSaid :=
  Claim7.holds_tied_plain_at .later [] _ _ _ _ relateSorted.said (fun _ h => by cases h) (by as_aux_lemma => kernel_rfl) (fun _ h => by cases h) relateSorted_row_tie rfl ⟨rfl, rfl⟩ (by as_aux_lemma => kernel_rfl) rfl relateSorted.plain (by as_aux_lemma => kernel_rfl)
#print axioms relateSorted_card
end Go.Proofs.YthpecfncndclfaaGreatDoor
