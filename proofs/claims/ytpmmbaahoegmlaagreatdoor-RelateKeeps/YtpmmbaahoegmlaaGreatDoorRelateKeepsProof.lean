/-
  THE CARD: the row is in the text before.
-/
import Derived.Test.YtpmmbaahoegmlaaGreatDoorRJ
import Derived.Test.YtpmmbaahoegmlaaGreatDoorCards
import Derived.Test.YtpmmbaahoegmlaaGreatDoorTie
import Derived.Test.YtpmmbaahoegmlaaGreatDoorRI
import Derived.Test.YtpmmbaahoegmlaaGreatDoorPoCase
import Derived.Lib.LaidCaseMet
import Derived.Deep.DeepWitnessRowRef
import Derived.WalkKit
import Derived.ProofKit
import Derived.OpenShut
import Derived.SizedLaws
import Derived.Deep.DeepHandedRow
import Derived.Lib.LaidTab
import Derived.SevenTiedAt
import Derived.Below
import Derived.ChangeMaps5
namespace Go.Proofs.YtpmmbaahoegmlaaGreatDoor.relateKeeps
open Go.ChangeShapes Go.WideShapes Go.ChangeAt Go.RowKit

theorem plain (f : FuncId) (fn : Func) (hf : Tryz.pinned.checked.prog.funcNamed Rows.relateKeepsRow.func = some f) (hfn : Tryz.pinned.checked.prog.funcs[f]? = some fn) :
    true = Tryz.pinned.checked.prog.looks [] ∧ ∀ (j : Nat) t, fn.params[j]? = some t → Tryz.pinned.checked.prog.wantsStandIn t = false := by
  obtain rfl : f = 3 := Option.some.inj ((show Tryz.prog.funcNamed Rows.relateKeepsRow.func = some 3 by kernel_rfl).symm.trans hf) |>.symm
  obtain rfl : fn = Tryz.f3 := (Option.some.inj (Tryz.func3.symm.trans hfn)).symm
  refine ⟨by kernel_rfl, fun j t ht => ?_⟩
  rw [Tryz.params3] at ht
  have hm : t = 22 ∨ t = 3 := by simpa using Array.mem_of_getElem? ht
  rcases hm with rfl | rfl
  · exact (show Tryz.prog.wantsStandIn 22 = false by kernel_rfl)
  · exact (show Tryz.prog.wantsStandIn 3 = false by kernel_rfl)
end Go.Proofs.YtpmmbaahoegmlaaGreatDoor.relateKeeps
namespace Go.Proofs.YtpmmbaahoegmlaaGreatDoor
/-- THE CARD. -/
theorem relateKeeps_card : Rows.RelateKeepsCardSaid :=
  Claim7.holds_tied_plain_at .later [] _ _ _ _ relateKeeps.said (fun _ h => by cases h) (by as_aux_lemma => kernel_rfl) (fun _ h => by cases h) relateKeeps_row_tie rfl ⟨rfl, rfl⟩ (by as_aux_lemma => kernel_rfl) rfl relateKeeps.plain (by as_aux_lemma => kernel_rfl)
#print axioms relateKeeps_card
end Go.Proofs.YtpmmbaahoegmlaaGreatDoor
