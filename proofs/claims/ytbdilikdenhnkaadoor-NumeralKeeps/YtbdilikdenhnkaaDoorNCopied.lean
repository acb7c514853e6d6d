/-
  layer 3's law: copied and trimmed.
-/
import Derived.Test.YtbdilikdenhnkaaDoorWalk1
namespace Go.Proofs.YtbdilikdenhnkaaDoor
open Go.RowKit Go.Deep

/-- copied: the same limbs in a block of its own. -/
theorem copied3_any (p : Option Addr) (n cap : Nat) (zs : List Int) (w : World) (ha : Arg w p n cap zs) :
    Calls Tryd.prog 6 #[.slice p n cap] w fun e w' => e = .returned (.slice (some ⟨w.heap.size, 0, none⟩) n n) ∧ Own w' w.heap.size zs ∧ Below w.heap.size w w' ∧ w'.heap.size = w.heap.size + 1 := by
  obtain ⟨a1, a2, a3, a4, a5⟩ := ha
  have hmk := make64 n (by omega) w
  have hb0 : Below w.heap.size w (w.alloc (.cells (madeCells #[.int .u64 0] n) 32)) := (Below.refl _ _).alloc (Nat.le_refl _) _
  have ho : Own (w.alloc (.cells (madeCells #[.int .u64 0] n) 32)) w.heap.size (List.replicate n 0) := by
    rw [made_zero]; exact Own.alloc w _
  obtain ⟨w1, hcp, ho1, hb1, hz1⟩ := copy64 w.heap.size n (List.replicate n 0) p n cap zs 3 _ (by simp) a1 (by omega) ho (a4.below hb0 (Nat.le_refl _))
  have E : Hid (Own w1 w.heap.size zs) := by
    have e : List.drop n (List.replicate n (0 : Int)) = [] := by simp
    rw [e, List.append_nil] at ho1
    exact ho1
  have F : Hid (Below w.heap.size w w1) := hb0.trans hb1
  have G : Hid (w1.heap.size = w.heap.size + 1) := hz1.trans (World.size_alloc _ _)
  clear hb0 ho ho1 hb1 hz1 a1 a4 a5
  go_enter Tryd.func6, Tryd.ntmps6
  go_wp2
  go_ret
  exact ⟨rfl, E.out, F.out, G.out⟩

theorem Own.arg {w : World} {g : Nat} {zs : List Int} (h : Own w g zs) (hl : Nm.Limbs zs) (hs : zs.length ≤ 17592186044000) : Arg w (some ⟨g, 0, none⟩) zs.length zs.length zs := ⟨rfl, Nat.le_refl _, hs, h.lies, hl⟩

end Go.Proofs.YtbdilikdenhnkaaDoor
