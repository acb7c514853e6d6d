/-
  THE WALK OF Trim.
-/
import Derived.Test.YtmihjiiagpkciaaDoorWalk1
namespace Go.Proofs.YtmihjiiagpkciaaDoor
open Go.RowKit Go.Deep

/-- Trim: the trimmed list, in new memory. -/
theorem trim_any (p : Option Addr) (n cap : Nat) (zs : List Int) (w : World) (ha : Arg w p n cap zs) :
    Calls Tryd.prog 35 #[.slice p n cap] w fun e w' => ∃ r os, e = .returned (.slice r (List.length os) (List.length os)) ∧ os = Nm.trim zs ∧ Ans w.heap.size w' r os (Nm.val zs) ∧ Below w.heap.size w w' := by
  obtain ⟨a1, a2, a3, a4, a5⟩ := ha
  have tl := Nm.tsize_le zs
  go_enter Tryd.func35, Tryd.ntmps35
  go_wp2_with fail
  refine (trimmed_any p n cap zs _ a1 a2 (by omega) a4).mono ?_
  rintro e w' ⟨rfl, rfl⟩
  go_wp2_with fail
  refine (widened_any p (Nm.tsize zs) (Nm.tsize zs) 0 0 (Nm.trim zs) _ rfl (Nm.trim_length zs) (by omega) a4.trim).mono ?_
  rintro e w1 ⟨rfl, ho, hb1, hz1⟩
  have HO := hid ho
  have HB := hid hb1
  clear ho hb1 hz1 tl
  go_wp2
  go_ret
  refine ⟨some ⟨w'.heap.size, 0, none⟩, Nm.trim zs, ?_, rfl, ⟨?_, a5.trim, ?_, Nm.val_trim zs, ?_⟩, HB.out⟩
  · rw [Nm.trim_length]; rfl
  · have := HO.out
    simp only [List.replicate_zero, List.append_nil] at this
    exact this.lies
  · rw [Nm.trim_trim, Nm.trim_length]
  · intro a h
    cases h
    exact ⟨Nat.le_refl _, fun _ o => HO.out.free o⟩
end Go.Proofs.YtmihjiiagpkciaaDoor
