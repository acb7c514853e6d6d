/-
  New, Copy, Reset of package gather.
-/
import Derived.Test.YtdolgbojbmioeaaDoorGAcc
namespace Go.Proofs.YtdolgbojbmioeaaDoor
open Go.RowKit Go.Deep

theorem zero_cells : Tryd.zeroCells48 = (head5 Ga.none ++ lb (List.replicate 67 0) ++ lb (List.replicate 67 0)).toArray := by kernel_rfl

theorem acc_size : (Tryd.prog.info? 48).map (·.size) = some 139 := by kernel_rfl

theorem Blk.setCells {g t : Nat} : ∀ (vs A B : List Value) (w : World), Blk w g t (A ++ B) → B.length = vs.length → Blk (w.setCells g A.length vs) g t (A ++ vs)
  | [], A, B, w, h, hl => by
    have : B = [] := List.eq_nil_of_length_eq_zero hl
    subst this
    exact h
  | v :: r, A, b :: B, w, h, hl => by
    have h1 := h.set A.length v
    rw [List.set_append_right _ _ (Nat.le_refl _), Nat.sub_self] at h1
    have h2 := Blk.setCells r (A ++ [v]) B (w.setCell ⟨g, A.length, none⟩ v) (by simpa using h1) (by simpa using hl)
    simpa [World.setCells] using h2

theorem Only.setCells {g : Nat} : ∀ (vs : List Value) (o : Nat) (w : World), Only g w (w.setCells g o vs)
  | [], _, w => Only.refl g w
  | v :: r, o, w => (Only.set (w := w) (g := g) o v).trans (Only.setCells r (o + 1) _)

theorem size_setCells {g : Nat} : ∀ (vs : List Value) (o : Nat) (w : World), (w.setCells g o vs).heap.size = w.heap.size
  | [], _, w => rfl
  | v :: r, o, w => by
    rw [World.setCells, size_setCells r]
    simp [World.setCell]

theorem none_at {w : World} {g : Nat} (h : Blk w g 48 (head5 Ga.none ++ lb (List.replicate 67 0) ++ lb (List.replicate 67 0))) : AccAt w g Ga.none :=
  ⟨_, _, h, ⟨by simp, by simp⟩, ⟨Nm.Limbs.replicate _, Nm.Limbs.replicate _⟩, ⟨Nm.val_replicate _, Nm.val_replicate _⟩, Ga.none_ok⟩

set_option maxRecDepth 100000 in
theorem new_any (w : World) :
    Calls Tryd.prog 8 #[] w fun e w' => e = .returned (.pointer (some ⟨w.heap.size, 0, none⟩)) ∧ AccAt w' w.heap.size Ga.none ∧ Below w.heap.size w w' := by
  have A : Hid (AccAt (w.alloc (.cells Tryd.zeroCells48 48)) w.heap.size Ga.none) := by
    rw [zero_cells]
    exact none_at (Blk.new w _ _)
  have B : Hid (Below w.heap.size w (w.alloc (.cells Tryd.zeroCells48 48))) := (Below.refl _ _).alloc (Nat.le_refl _) _
  go_enter Tryd.func8, Tryd.ntmps8
  go_wp2
  go_ret
  exact ⟨rfl, A.out, B.out⟩

theorem acc_one (s : Ga.St) (aa bb : List Int) : ∀ v ∈ head5 s ++ lb aa ++ lb bb, v.oneCell' = true := by
  intro v hv
  simp only [head5, lb, List.mem_append, List.mem_cons, List.mem_map, List.not_mem_nil, or_false] at hv
  rcases hv with (h | ⟨z, _, rfl⟩) | ⟨z, _, rfl⟩
  · rcases h with rfl | rfl | rfl | rfl | rfl <;> rfl
  · rfl
  · rfl

theorem acc_len (s : Ga.St) {aa bb : List Int} (h : aa.length = 67 ∧ bb.length = 67) : (head5 s ++ lb aa ++ lb bb).length = 139 := by
  simp [head5, lb_length, h.1, h.2]

set_option maxRecDepth 100000 in
set_option maxHeartbeats 1000000 in
theorem copy_any (g : Nat) (s : Ga.St) (w : World) (h : AccAt w g s) :
    Calls Tryd.prog 10 #[.pointer (some ⟨g, 0, none⟩)] w fun e w' => e = .returned (.pointer (some ⟨w.heap.size, 0, none⟩)) ∧ AccAt w' w.heap.size s ∧ Below w.heap.size w w' := by
  obtain ⟨aa, bb, hB, hl, hm, hv, ok⟩ := h
  obtain ⟨W1, hW1⟩ : ∃ W1, w.alloc (.cells Tryd.zeroCells48 48) = W1 := ⟨_, rfl⟩
  have B1 : Below w.heap.size w W1 := by rw [← hW1]; exact (Below.refl _ _).alloc (Nat.le_refl _) _
  have Z1 : Blk W1 w.heap.size 48 ([] ++ (head5 Ga.none ++ lb (List.replicate 67 0) ++ lb (List.replicate 67 0))) := by
    rw [← hW1, zero_cells]; exact Blk.new w _ _
  obtain ⟨cs, hcs⟩ : ∃ cs, head5 s ++ lb aa ++ lb bb = cs := ⟨_, rfl⟩
  have l1 : cs.length = 139 := by rw [← hcs]; exact acc_len s hl
  have o1 : ∀ v ∈ cs, v.oneCell' = true := by rw [← hcs]; exact acc_one s aa bb
  have Z2 := Blk.setCells cs [] _ W1 Z1 (by rw [l1]; simp [head5, lb_length])
  have O2 := Only.setCells (g := w.heap.size) cs 0 W1
  obtain ⟨W2, hW2⟩ : ∃ W2, W1.setCells w.heap.size 0 cs = W2 := ⟨_, rfl⟩
  have R : Hid (AccAt W2 w.heap.size s ∧ Below w.heap.size w W2) := by
    rw [← hW2]
    refine ⟨⟨aa, bb, ?_, hl, hm, hv, ok⟩, B1.trans (O2.below (Nat.le_refl _) B1.size)⟩
    rw [hcs]
    exact Z2
  have HC : Hid (w.rangeAt g 0 cs) := fun j v e => by rw [Nat.zero_add]; rw [hcs] at hB; exact hB.cell e
  have HI : Hid ((Tryd.prog.info? 48).map (·.size) = some cs.length) := by rw [Hid, l1]; exact acc_size
  have SC : (storeCells ⟨w.heap.size, 0, none⟩ cs).run Tryd.prog (w.alloc (.cells Tryd.zeroCells48 48)) = .ok () W2 := by
    rw [hW1, ← hW2]
    exact run_storeCells_cells (P := Tryd.prog) w.heap.size 0 cs 0 W1 (fun j hj => by
      rw [Nat.zero_add, Z1.cell (List.getElem?_eq_getElem (by rw [l1] at hj; simp [head5, lb_length]; omega))]
      rfl) (fun j _ => by rw [Nat.zero_add]; exact Z1.free j) o1
  have LN : cs.length = 139 := l1
  clear hB hl hm hv ok B1 Z1 hcs l1 o1 Z2 O2 hW2 hW1
  go_enter Tryd.func10, Tryd.ntmps10
  go_wp2
  refine wp_load_mid 48 (.tmp 7) rfl g 0 rfl cs _ HC.out Tryd.underlying48 rfl HI.out ?_
  go_at_K
  go_wp2
  go_ret
  exact ⟨rfl, R.out⟩
end Go.Proofs.YtdolgbojbmioeaaDoor
