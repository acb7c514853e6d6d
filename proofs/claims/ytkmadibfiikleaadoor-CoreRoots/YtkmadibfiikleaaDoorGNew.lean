/-
  New, Copy, Reset of package gather.
-/
import Derived.Test.YtkmadibfiikleaaDoorGAcc
namespace Go.Proofs.YtkmadibfiikleaaDoor
open Go.RowKit Go.Deep

theorem zero_cells : Tryd.zeroCells79 = (head5 Ga.none ++ lb (List.replicate 67 0) ++ lb (List.replicate 67 0)).toArray := by kernel_rfl

theorem acc_size : (Tryd.prog.info? 79).map (·.size) = some 139 := by kernel_rfl

theorem Blk.setCells {g t : Nat} : ∀ (vs A B : List Value) (w : World), Blk w g t (A ++ B) → B.length = vs.length → Blk (w.setCells g A.length vs) g t (A ++ vs)
  | [], A, B, w, h, hl => by
    have : B = [] := List.eq_nil_of_length_eq_zero hl
    subst this
    exact h
  | v :: r, A, b :: B, w, h, hl => by
    have h1 := h.set A.length v
    rw [List.set_append_right _ _ (Nat.le_refl _), Nat.sub_self] at h1
    have h2 := Blk.setCells r (A ++ [v]) B (w.setCell ⟨g, A.length, none⟩ v) (by simpa using h1) (by simpa using hl)
    simpa [World.setCells] using h2

theorem Only.setCells {g : Nat} : ∀ (vs : List Value) (o : Nat) (w : World), Only g w (w.setCells g o vs)
  | [], _, w => Only.refl g w
  | v :: r, o, w => (Only.set (w := w) (g := g) o v).trans (Only.setCells r (o + 1) _)

theorem size_setCells {g : Nat} : ∀ (vs : List Value) (o : Nat) (w : World), (w.setCells g o vs).heap.size = w.heap.size
  | [], _, w => rfl
  | v :: r, o, w => by
    rw [World.setCells, size_setCells r]
    simp [World.setCell]

theorem none_at {w : World} {g : Nat} (h : Blk w g 79 (head5 Ga.none ++ lb (List.replicate 67 0) ++ lb (List.replicate 67 0))) : AccAt w g Ga.none :=
  ⟨_, _, h, ⟨by simp, by simp⟩, ⟨Nm.Limbs.replicate _, Nm.Limbs.replicate _⟩, ⟨Nm.val_replicate _, Nm.val_replicate _⟩, Ga.none_ok⟩

set_option maxRecDepth 100000 in
theorem new_any (w : World) :
    Calls Tryd.prog 32 #[] w fun e w' => e = .returned (.pointer (some ⟨w.heap.size, 0, none⟩)) ∧ AccAt w' w.heap.size Ga.none ∧ Below w.heap.size w w' := by
  have A : Hid (AccAt (w.alloc (.cells Tryd.zeroCells79 79)) w.heap.size Ga.none) := by
    rw [zero_cells]
    exact none_at (Blk.new w _ _)
  have B : Hid (Below w.heap.size w (w.alloc (.cells Tryd.zeroCells79 79))) := (Below.refl _ _).alloc (Nat.le_refl _) _
  go_enter Tryd.func32, Tryd.ntmps32
  go_wp2
  go_ret
  exact ⟨rfl, A.out, B.out⟩

theorem acc_one (s : Ga.St) (aa bb : List Int) : ∀ v ∈ head5 s ++ lb aa ++ lb bb, v.oneCell' = true := by
  intro v hv
  simp only [head5, lb, List.mem_append, List.mem_cons, List.mem_map, List.not_mem_nil, or_false] at hv
  rcases hv with (h | ⟨z, _, rfl⟩) | ⟨z, _, rfl⟩
  · rcases h with rfl | rfl | rfl | rfl | rfl <;> rfl
  · rfl
  · rfl

theorem acc_len (s : Ga.St) {aa bb : List Int} (h : aa.length = 67 ∧ bb.length = 67) : (head5 s ++ lb aa ++ lb bb).length = 139 := by
  simp [head5, lb_length, h.1, h.2]

end Go.Proofs.YtkmadibfiikleaaDoor
