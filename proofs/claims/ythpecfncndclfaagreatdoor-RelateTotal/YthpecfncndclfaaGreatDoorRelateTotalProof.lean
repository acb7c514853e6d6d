/-
  THE CARD: the row is in the text before.
-/
import Derived.Test.YthpecfncndclfaaGreatDoorRelateTotalRow
import Derived.Test.YthpecfncndclfaaGreatDoorCards
import Derived.Test.YthpecfncndclfaaGreatDoorTie
import Derived.Test.YthpecfncndclfaaGreatDoorReTotL
import Derived.Test.YthpecfncndclfaaGreatDoorGG
import Derived.Test.YthpecfncndclfaaGreatDoorGH
import Derived.Lib.LaidCaseMet
import Derived.Deep.DeepWitnessRowRef
import Derived.WalkKit
import Derived.ProofKit
import Derived.OpenShut
import Derived.SizedLaws
import Derived.Deep.DeepHandedRow
import Derived.Lib.LaidTab
import Derived.SevenTiedAt
import Derived.Below
import Derived.ChangeMaps5
namespace Go.Proofs.YthpecfncndclfaaGreatDoor.relateTotal
open Go.ChangeShapes Go.WideShapes Go.ChangeAt Go.RowKit

theorem plain (f : FuncId) (fn : Func) (hf : Tryz.pinned.checked.prog.funcNamed Rows.relateTotalRow.func = some f) (hfn : Tryz.pinned.checked.prog.funcs[f]? = some fn) :
    true = Tryz.pinned.checked.prog.looks [] ∧ ∀ (j : Nat) t, fn.params[j]? = some t → Tryz.pinned.checked.prog.wantsStandIn t = false := by
  obtain rfl : f = 6 := Option.some.inj ((show Tryz.prog.funcNamed Rows.relateTotalRow.func = some 6 by kernel_rfl).symm.trans hf) |>.symm
  obtain rfl : fn = Tryz.f6 := (Option.some.inj (Tryz.func6.symm.trans hfn)).symm
  refine ⟨by kernel_rfl, fun j t ht => ?_⟩
  rw [Tryz.params6] at ht
  obtain rfl : t = 27 := by simpa using Array.mem_of_getElem? ht
  exact (show Tryz.prog.wantsStandIn 27 = false by kernel_rfl)
end Go.Proofs.YthpecfncndclfaaGreatDoor.relateTotal
namespace Go.Proofs.YthpecfncndclfaaGreatDoor
/-- THE CARD. -/
theorem relateTotal_card : Rows.RelateTotalCardSaid :=
  Claim7.holds_tied_plain_at .later [] _ _ _ _ relateTotal.said (fun _ h => by cases h) (by as_aux_lemma => kernel_rfl) (fun _ h => by cases h) relateTotal_row_tie rfl ⟨rfl, rfl⟩ (by as_aux_lemma => kernel_rfl) rfl relateTotal.plain (by as_aux_lemma => kernel_rfl)
#print axioms relateTotal_card
end Go.Proofs.YthpecfncndclfaaGreatDoor
