/-
  A witness's memory where unicode.CaseRanges is listed too.
-/
import Derived.Test.YtpmmbaahoegmlaaGreatDoorPoLay
import Derived.Test.YtpmmbaahoegmlaaGreatDoorRows
import Derived.Lib.LaidCaseMet
import Derived.Deep.DeepWitnessRowRef
namespace Go.Proofs.YtpmmbaahoegmlaaGreatDoor
open Go Go.RowKit Go.Deep Go.Shelf

theorem case_laid : Rows.laid_unicode_CaseRanges = Lib.caseData := by kernel_rfl

theorem laidVars_swap {P : Program} {w : World} {x y : String × DataW Unit} : ∀ {l : List (String × DataW Unit)} {ps : List MemPlace}, DataW.LaidVars P w (l ++ [y, x]) ps → ∃ qs, DataW.LaidVars P w (l ++ [x, y]) qs ∧ qs.Perm ps
  | [], ps, h => by
    obtain ⟨x1, x2⟩ := x
    obtain ⟨y1, y2⟩ := y
    obtain ⟨g, t, cs, fuel, p, q, h1, h2, h3, h4, ⟨g', t', cs', fuel', p', q', k1, k2, k3, k4, k5, rfl⟩, rfl⟩ := h
    have k5 : q' = [] := k5
    subst k5
    refine ⟨_, ⟨g', t', cs', fuel', p', _, k1, k2, k3, k4, ⟨g, t, cs, fuel, p, [], h1, h2, h3, h4, rfl, rfl⟩, rfl⟩, ?_⟩
    simp only [List.append_nil]
    exact List.perm_append_comm
  | (n, d) :: l, ps, h => by
    obtain ⟨g, t, cs, fuel, p, q, h1, h2, h3, h4, h5, rfl⟩ := h
    obtain ⟨qs, k1, k2⟩ := laidVars_swap h5
    exact ⟨_, ⟨g, t, cs, fuel, p, qs, h1, h2, h3, h4, k1, rfl⟩, List.Perm.append_left _ k2⟩
theorem laidMet_swap {P : Program} {w : World} {x y : String × DataW Unit} {l : List (String × DataW Unit)} (h : laidMet P (l ++ [y, x]) w) : laidMet P (l ++ [x, y]) w := by
  obtain ⟨ps, h1, h2, h3⟩ := h
  obtain ⟨qs, k1, k2⟩ := laidVars_swap h1
  exact ⟨qs, k1, (k2.nodup_iff).2 h2, fun b off hp => h3 b off (k2.mem_iff.1 hp)⟩
end Go.Proofs.YtpmmbaahoegmlaaGreatDoor
