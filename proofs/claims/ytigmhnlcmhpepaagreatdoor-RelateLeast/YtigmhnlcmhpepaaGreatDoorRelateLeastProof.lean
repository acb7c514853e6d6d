/-
  THE CARD: the row is in the text before.
-/
import Derived.Test.YtigmhnlcmhpepaaGreatDoorRelateLeastRow
import Derived.Test.YtigmhnlcmhpepaaGreatDoorCards
import Derived.Test.YtigmhnlcmhpepaaGreatDoorTie
import Derived.Test.YtigmhnlcmhpepaaGreatDoorReLeV
import Derived.Test.YtigmhnlcmhpepaaGreatDoorGL
import Derived.Test.YtigmhnlcmhpepaaGreatDoorGG
import Derived.Test.YtigmhnlcmhpepaaGreatDoorGH
import Derived.Lib.LaidCaseMet
import Derived.Deep.DeepWitnessRowRef
import Derived.WalkKit
import Derived.ProofKit
import Derived.OpenShut
import Derived.SizedLaws
import Derived.Deep.DeepHandedRow
import Derived.Lib.LaidTab
import Derived.SevenTiedAt
import Derived.Below
import Derived.ChangeMaps5
namespace Go.Proofs.YtigmhnlcmhpepaaGreatDoor.relateLeast
open Go.ChangeShapes Go.WideShapes Go.ChangeAt Go.RowKit

theorem plain (f : FuncId) (fn : Func) (hf : Tryz.pinned.checked.prog.funcNamed Rows.relateLeastRow.func = some f) (hfn : Tryz.pinned.checked.prog.funcs[f]? = some fn) :
    true = Tryz.pinned.checked.prog.looks [] ∧ ∀ (j : Nat) t, fn.params[j]? = some t → Tryz.pinned.checked.prog.wantsStandIn t = false := by
  obtain rfl : f = 4 := Option.some.inj ((show Tryz.prog.funcNamed Rows.relateLeastRow.func = some 4 by kernel_rfl).symm.trans hf) |>.symm
  obtain rfl : fn = Tryz.f4 := (Option.some.inj (Tryz.func4.symm.trans hfn)).symm
  refine ⟨by kernel_rfl, fun j t ht => ?_⟩
  rw [Tryz.params4] at ht
  obtain rfl : t = 34 := by simpa using Array.mem_of_getElem? ht
  exact (show Tryz.prog.wantsStandIn 34 = false by kernel_rfl)
end Go.Proofs.YtigmhnlcmhpepaaGreatDoor.relateLeast
namespace Go.Proofs.YtigmhnlcmhpepaaGreatDoor
/-- THE CARD. -/
theorem relateLeast_card : Rows.RelateLeastCardSaid :=
  Claim7.holds_tied_plain_at .later [] _ _ _ _ relateLeast.said (fun _ h => by cases h) (by as_aux_lemma => kernel_rfl) (fun _ h => by cases h) relateLeast_row_tie rfl ⟨rfl, rfl⟩ (by as_aux_lemma => kernel_rfl) rfl relateLeast.plain (by as_aux_lemma => kernel_rfl)
#print axioms relateLeast_card
end Go.Proofs.YtigmhnlcmhpepaaGreatDoor
