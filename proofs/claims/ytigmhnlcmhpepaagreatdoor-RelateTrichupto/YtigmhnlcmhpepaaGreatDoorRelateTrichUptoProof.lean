/-
  THE CARD: the row is in the text before.
-/
import Derived.Test.YtigmhnlcmhpepaaGreatDoorWBG
import Derived.Test.YtigmhnlcmhpepaaGreatDoorCards
import Derived.Test.YtigmhnlcmhpepaaGreatDoorTie
import Derived.Test.YtigmhnlcmhpepaaGreatDoorWBE
import Derived.Test.YtigmhnlcmhpepaaGreatDoorWAD
import Derived.Test.YtigmhnlcmhpepaaGreatDoorWAG
import Derived.Test.YtigmhnlcmhpepaaGreatDoorGBulk
import Derived.Lib.LaidCaseMet
import Derived.Deep.DeepWitnessRowRef
import Derived.WalkKit
import Derived.ProofKit
import Derived.OpenShut
import Derived.SizedLaws
import Derived.Deep.DeepHandedRow
import Derived.Lib.LaidTab
import Derived.SevenTiedAt
import Derived.Below
import Derived.ChangeMaps5
namespace Go.Proofs.YtigmhnlcmhpepaaGreatDoor.relateTrich
open Go.ChangeShapes Go.WideShapes Go.ChangeAt Go.RowKit

theorem plain (f : FuncId) (fn : Func) (hf : Tryz.pinned.checked.prog.funcNamed Rows.relateTrichUptoRow.func = some f) (hfn : Tryz.pinned.checked.prog.funcs[f]? = some fn) :
    true = Tryz.pinned.checked.prog.looks [] ∧ ∀ (j : Nat) t, fn.params[j]? = some t → Tryz.pinned.checked.prog.wantsStandIn t = false := by
  obtain rfl : f = 3 := Option.some.inj ((show Tryz.prog.funcNamed Rows.relateTrichUptoRow.func = some 3 by kernel_rfl).symm.trans hf) |>.symm
  obtain rfl : fn = Tryz.f3 := (Option.some.inj (Tryz.func3.symm.trans hfn)).symm
  refine ⟨by kernel_rfl, fun j t ht => ?_⟩
  rw [Tryz.params3] at ht
  have hm : t = 24 ∨ t = 24 ∨ t = 9 := by simpa using Array.mem_of_getElem? ht
  rcases hm with rfl | rfl | rfl
  · exact (show Tryz.prog.wantsStandIn 24 = false by kernel_rfl)
  · exact (show Tryz.prog.wantsStandIn 24 = false by kernel_rfl)
  · exact (show Tryz.prog.wantsStandIn 9 = false by kernel_rfl)
end Go.Proofs.YtigmhnlcmhpepaaGreatDoor.relateTrich
namespace Go.Proofs.YtigmhnlcmhpepaaGreatDoor
/-- THE CARD. -/
theorem relateTrichUpto_card : Rows.RelateTrichUptoCardSaid :=
  Claim7.holds_tied_plain_at .later [] _ _ _ _ relateTrich.said (fun _ h => by cases h) (by as_aux_lemma => kernel_rfl) (fun _ h => by cases h) relateTrichUpto_row_tie rfl ⟨rfl, rfl⟩ (by as_aux_lemma => kernel_rfl) rfl relateTrich.plain (by as_aux_lemma => kernel_rfl)
#print axioms relateTrichUpto_card
end Go.Proofs.YtigmhnlcmhpepaaGreatDoor
