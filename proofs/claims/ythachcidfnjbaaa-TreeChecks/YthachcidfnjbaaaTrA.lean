/-
  tree: nothing, callRule, ruleOf, within, isTarget (mktra.py).
-/
import Derived.Test.YthachcidfnjbaaaTrL
namespace Go.Proofs.Ythachcidfnjbaaa
open Go Go.RowKit Go.Deep

theorem tnoth_any (w : World) : Calls Try.prog 28 #[] w fun e w' => e = .returned (.agg (Tr.er Tr.nth)) ∧ Below w.heap.size w w' := by
  go_enter Try.func28, Try.ntmps28
  go_wp2_with fail
  refine bodyPost_ret (results_cell_row rfl _ _ w.heap.size 53 _ (0, 0) _ rfl (heap_alloc_new _ _) Try.underlying53 rfl (by kernel_rfl)) rfl ?_
  exact ⟨rfl, alloc_b _ _⟩
theorem twith_any (x l h : Int) (w : World) : Calls Try.prog 29 #[.int .i64 x, .int .i64 l, .int .i64 h] w fun e w' => e = .returned (.bool (decide (l ≤ x ∧ x ≤ h))) ∧ w' = w := by
  by_cases h1 : l ≤ x
  · by_cases h2 : x ≤ h
    · rw [decide_eq_true (⟨h1, h2⟩ : l ≤ x ∧ x ≤ h)]
      go_enter Try.func29, Try.ntmps29
      go_wp2_with fail
      go_ret
      exact ⟨rfl, rfl⟩
    · rw [decide_eq_false (fun q : l ≤ x ∧ x ≤ h => h2 q.2)]
      go_enter Try.func29, Try.ntmps29
      go_wp2_with fail
      go_ret
      exact ⟨rfl, rfl⟩
  · rw [decide_eq_false (fun q : l ≤ x ∧ x ≤ h => h1 q.1)]
    go_enter Try.func29, Try.ntmps29
    go_wp2_with fail
    go_ret
    exact ⟨rfl, rfl⟩
theorem tist_any (k : Int) (w : World) : Calls Try.prog 26 #[.int .i64 k] w fun e w' => e = .returned (.bool (decide (Tr.isT k))) ∧ w' = w := by
  have WI := hid (twith_any k 3 5)
  have e : decide (Tr.isT k) = decide ((3 : Int) ≤ k ∧ k ≤ 5) := decide_eq_decide.2 Iff.rfl
  rw [e]
  generalize decide ((3 : Int) ≤ k ∧ k ≤ 5) = q at *
  clear e
  go_enter Try.func26, Try.ntmps26
  go_wp2_with (go_at_call 29; refine (WI.out _).mono ?_; rintro e w2 ⟨rfl, rfl⟩)
  go_ret
  exact ⟨rfl, rfl⟩
set_option maxRecDepth 100000 in
set_option maxRecDepth 100000 in
set_option maxHeartbeats 8000000 in
set_option maxRecDepth 100000 in
set_option maxHeartbeats 8000000 in
theorem tcr_any (f : Int) (w : World) : Calls Try.prog 27 #[.int .i64 f] w fun e w' => e = .returned (.agg (Tr.er (Tr.cr f))) ∧ Below w.heap.size w w' := by
  by_cases h1 : f = 1
  · subst h1
    go_enter Try.func27, Try.ntmps27
    go_wp2_with fail
    refine bodyPost_ret (results_cell_row rfl _ _ w.heap.size 53 _ (0, 0) _ rfl (heap_alloc2_old _ _ _) Try.underlying53 rfl (by kernel_rfl)) rfl ?_
    exact ⟨rfl, alloc_b3 _ _ _⟩
  by_cases h2 : f = 2
  · subst h2
    go_enter Try.func27, Try.ntmps27
    go_wp2_with fail
    refine bodyPost_ret (results_cell_row rfl _ _ w.heap.size 53 _ (0, 0) _ rfl (heap_alloc2_old _ _ _) Try.underlying53 rfl (by kernel_rfl)) rfl ?_
    exact ⟨rfl, alloc_b3 _ _ _⟩
  by_cases h3 : f = 3
  · subst h3
    go_enter Try.func27, Try.ntmps27
    go_wp2_with fail
    refine bodyPost_ret (results_cell_row rfl _ _ w.heap.size 53 _ (0, 0) _ rfl (heap_alloc2_old _ _ _) Try.underlying53 rfl (by kernel_rfl)) rfl ?_
    exact ⟨rfl, alloc_b3 _ _ _⟩
  by_cases h4 : f = 4
  · subst h4
    go_enter Try.func27, Try.ntmps27
    go_wp2_with fail
    refine bodyPost_ret (results_cell_row rfl _ _ w.heap.size 53 _ (0, 0) _ rfl (heap_alloc2_old _ _ _) Try.underlying53 rfl (by kernel_rfl)) rfl ?_
    exact ⟨rfl, alloc_b3 _ _ _⟩
  by_cases h5 : f = 5
  · subst h5
    go_enter Try.func27, Try.ntmps27
    go_wp2_with fail
    refine bodyPost_ret (results_cell_row rfl _ _ w.heap.size 53 _ (0, 0) _ rfl (heap_alloc2_old _ _ _) Try.underlying53 rfl (by kernel_rfl)) rfl ?_
    exact ⟨rfl, alloc_b3 _ _ _⟩
  by_cases h6 : f = 6
  · subst h6
    go_enter Try.func27, Try.ntmps27
    go_wp2_with fail
    refine bodyPost_ret (results_cell_row rfl _ _ w.heap.size 53 _ (0, 0) _ rfl (heap_alloc2_old _ _ _) Try.underlying53 rfl (by kernel_rfl)) rfl ?_
    exact ⟨rfl, alloc_b3 _ _ _⟩
  by_cases h7 : f = 7
  · subst h7
    go_enter Try.func27, Try.ntmps27
    go_wp2_with fail
    refine bodyPost_ret (results_cell_row rfl _ _ w.heap.size 53 _ (0, 0) _ rfl (heap_alloc2_old _ _ _) Try.underlying53 rfl (by kernel_rfl)) rfl ?_
    exact ⟨rfl, alloc_b3 _ _ _⟩
  by_cases h8 : f = 8
  · subst h8
    go_enter Try.func27, Try.ntmps27
    go_wp2_with fail
    refine bodyPost_ret (results_cell_row rfl _ _ w.heap.size 53 _ (0, 0) _ rfl (heap_alloc2_old _ _ _) Try.underlying53 rfl (by kernel_rfl)) rfl ?_
    exact ⟨rfl, alloc_b3 _ _ _⟩
  by_cases h9 : f = 9
  · subst h9
    go_enter Try.func27, Try.ntmps27
    go_wp2_with fail
    refine bodyPost_ret (results_cell_row rfl _ _ w.heap.size 53 _ (0, 0) _ rfl (heap_alloc2_old _ _ _) Try.underlying53 rfl (by kernel_rfl)) rfl ?_
    exact ⟨rfl, alloc_b3 _ _ _⟩
  by_cases h10 : f = 10
  · subst h10
    go_enter Try.func27, Try.ntmps27
    go_wp2_with fail
    refine bodyPost_ret (results_cell_row rfl _ _ w.heap.size 53 _ (0, 0) _ rfl (heap_alloc2_old _ _ _) Try.underlying53 rfl (by kernel_rfl)) rfl ?_
    exact ⟨rfl, alloc_b3 _ _ _⟩
  by_cases h11 : f = 11
  · subst h11
    go_enter Try.func27, Try.ntmps27
    go_wp2_with fail
    refine bodyPost_ret (results_cell_row rfl _ _ w.heap.size 53 _ (0, 0) _ rfl (heap_alloc2_old _ _ _) Try.underlying53 rfl (by kernel_rfl)) rfl ?_
    exact ⟨rfl, alloc_b3 _ _ _⟩
  by_cases h12 : f = 12
  · subst h12
    go_enter Try.func27, Try.ntmps27
    go_wp2_with fail
    refine bodyPost_ret (results_cell_row rfl _ _ w.heap.size 53 _ (0, 0) _ rfl (heap_alloc2_old _ _ _) Try.underlying53 rfl (by kernel_rfl)) rfl ?_
    exact ⟨rfl, alloc_b3 _ _ _⟩
  by_cases h13 : f = 13
  · subst h13
    go_enter Try.func27, Try.ntmps27
    go_wp2_with fail
    refine bodyPost_ret (results_cell_row rfl _ _ w.heap.size 53 _ (0, 0) _ rfl (heap_alloc2_old _ _ _) Try.underlying53 rfl (by kernel_rfl)) rfl ?_
    exact ⟨rfl, alloc_b3 _ _ _⟩
  have e : Tr.cr f = Tr.nth := by unfold Tr.cr; simp only [h1, h2, h3, h4, h5, h6, h7, h8, h9, h10, h11, h12, h13, or_self, if_false]
  rw [e]
  clear e
  have NT := hid tnoth_any
  have R := hid (heap_alloc2_old w (.cells #[.int .i64 0, .int .i64 0, .int .i64 0, .int .i64 0, .bool false, .bool false, .int .i64 0] 53) (.cells #[.int .i64 13, .int .i64 0, .int .i64 0, .int .i64 0, .bool false, .bool false, .int .i64 0] 53))
  have B := hid (alloc_b3 w (.cells #[.int .i64 0, .int .i64 0, .int .i64 0, .int .i64 0, .bool false, .bool false, .int .i64 0] 53) (.cells #[.int .i64 13, .int .i64 0, .int .i64 0, .int .i64 0, .bool false, .bool false, .int .i64 0] 53))
  go_enter Try.func27, Try.ntmps27
  go_wp2_with (go_at_call 28; refine (NT.out _).mono ?_; rintro e w2 ⟨rfl, hB⟩; have R2 : Bx w2 w.heap.size 53 _ := Bx.on R.out hB; obtain ⟨⟨c0, c1, c2, c3, c4, c5, c6⟩, ⟨f0, f1, f2, f3, f4, f5, f6⟩⟩ := bx7 R2; have K := hid (And.intro R2 (below_on B.out hB)); clear hB R2; simp only [Tr.er, Tr.nth])
  refine bodyPost_ret (results_cell_row rfl _ _ w.heap.size 53 _ (0, 0) _ rfl (bx7_set K.out.1 _ _ _ _ _ _ _) Try.underlying53 rfl (by kernel_rfl)) rfl ?_
  exact ⟨rfl, set7_below K.out.2 (Nat.le_refl _)⟩
end Go.Proofs.Ythachcidfnjbaaa
