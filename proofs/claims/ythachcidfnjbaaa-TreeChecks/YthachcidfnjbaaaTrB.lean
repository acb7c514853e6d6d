/-
  tree: ruleOf (mktra.py).
-/
import Derived.Test.YthachcidfnjbaaaTrA
namespace Go.Proofs.Ythachcidfnjbaaa
open Go Go.RowKit Go.Deep

set_option maxRecDepth 100000 in
set_option maxHeartbeats 8000000 in
theorem tru_any (k p q n m : Int) (s : ByteArray) (w : World) : Calls Try.prog 24 #[.agg #[.int .i64 k, .int .i64 p, .int .i64 q, .int .i64 n, .int .u64 m, .string s]] w fun e w' => e = .returned (.agg (Tr.er (Tr.ru k p))) ∧ Below w.heap.size w w' := by
  by_cases h1 : k = 1
  · subst h1
    go_enter Try.func24, Try.ntmps24
    go_wp2_with fail
    refine bodyPost_ret (results_cell_row rfl _ _ (w.heap.size + 1) 53 _ (0, 0) _ rfl (tr_new2 _ _ _) Try.underlying53 rfl (by kernel_rfl)) rfl ?_
    exact ⟨rfl, alloc_b3 _ _ _⟩
  by_cases h2 : k = 2
  · subst h2
    go_enter Try.func24, Try.ntmps24
    go_wp2_with fail
    refine bodyPost_ret (results_cell_row rfl _ _ (w.heap.size + 1) 53 _ (0, 0) _ rfl (tr_new2 _ _ _) Try.underlying53 rfl (by kernel_rfl)) rfl ?_
    exact ⟨rfl, alloc_b3 _ _ _⟩
  by_cases h3 : k = 3
  · subst h3
    go_enter Try.func24, Try.ntmps24
    go_wp2_with fail
    refine bodyPost_ret (results_cell_row rfl _ _ (w.heap.size + 1) 53 _ (0, 0) _ rfl (tr_new2 _ _ _) Try.underlying53 rfl (by kernel_rfl)) rfl ?_
    exact ⟨rfl, alloc_b3 _ _ _⟩
  by_cases h4 : k = 4
  · subst h4
    go_enter Try.func24, Try.ntmps24
    go_wp2_with fail
    refine bodyPost_ret (results_cell_row rfl _ _ (w.heap.size + 1) 53 _ (0, 0) _ rfl (tr_new2 _ _ _) Try.underlying53 rfl (by kernel_rfl)) rfl ?_
    exact ⟨rfl, alloc_b3 _ _ _⟩
  by_cases h5 : k = 5
  · subst h5
    go_enter Try.func24, Try.ntmps24
    go_wp2_with fail
    refine bodyPost_ret (results_cell_row rfl _ _ (w.heap.size + 1) 53 _ (0, 0) _ rfl (tr_new2 _ _ _) Try.underlying53 rfl (by kernel_rfl)) rfl ?_
    exact ⟨rfl, alloc_b3 _ _ _⟩
  by_cases h6 : k = 6
  · subst h6
    go_enter Try.func24, Try.ntmps24
    go_wp2_with fail
    refine bodyPost_ret (results_cell_row rfl _ _ (w.heap.size + 1) 53 _ (0, 0) _ rfl (tr_new2 _ _ _) Try.underlying53 rfl (by kernel_rfl)) rfl ?_
    exact ⟨rfl, alloc_b3 _ _ _⟩
  by_cases h7 : k = 7
  · subst h7
    go_enter Try.func24, Try.ntmps24
    go_wp2_with fail
    refine bodyPost_ret (results_cell_row rfl _ _ (w.heap.size + 1) 53 _ (0, 0) _ rfl (tr_new2 _ _ _) Try.underlying53 rfl (by kernel_rfl)) rfl ?_
    exact ⟨rfl, alloc_b3 _ _ _⟩
  by_cases h8 : k = 8
  · subst h8
    go_enter Try.func24, Try.ntmps24
    go_wp2_with fail
    refine bodyPost_ret (results_cell_row rfl _ _ (w.heap.size + 1) 53 _ (0, 0) _ rfl (tr_new2 _ _ _) Try.underlying53 rfl (by kernel_rfl)) rfl ?_
    exact ⟨rfl, alloc_b3 _ _ _⟩
  by_cases h9 : k = 9
  · subst h9
    go_enter Try.func24, Try.ntmps24
    go_wp2_with fail
    refine bodyPost_ret (results_cell_row rfl _ _ (w.heap.size + 1) 53 _ (0, 0) _ rfl (tr_new2 _ _ _) Try.underlying53 rfl (by kernel_rfl)) rfl ?_
    exact ⟨rfl, alloc_b3 _ _ _⟩
  by_cases h10 : k = 10
  · subst h10
    go_enter Try.func24, Try.ntmps24
    go_wp2_with fail
    refine bodyPost_ret (results_cell_row rfl _ _ (w.heap.size + 1) 53 _ (0, 0) _ rfl (tr_new2 _ _ _) Try.underlying53 rfl (by kernel_rfl)) rfl ?_
    exact ⟨rfl, alloc_b3 _ _ _⟩
  by_cases h11 : k = 11
  · subst h11
    go_enter Try.func24, Try.ntmps24
    go_wp2_with fail
    refine bodyPost_ret (results_cell_row rfl _ _ (w.heap.size + 1) 53 _ (0, 0) _ rfl (tr_new2 _ _ _) Try.underlying53 rfl (by kernel_rfl)) rfl ?_
    exact ⟨rfl, alloc_b3 _ _ _⟩
  by_cases h12 : k = 12
  · subst h12
    go_enter Try.func24, Try.ntmps24
    go_wp2_with fail
    refine bodyPost_ret (results_cell_row rfl _ _ (w.heap.size + 1) 53 _ (0, 0) _ rfl (tr_new2 _ _ _) Try.underlying53 rfl (by kernel_rfl)) rfl ?_
    exact ⟨rfl, alloc_b3 _ _ _⟩
  by_cases h13 : k = 13
  · subst h13
    go_enter Try.func24, Try.ntmps24
    go_wp2_with fail
    refine bodyPost_ret (results_cell_row rfl _ _ (w.heap.size + 1) 53 _ (0, 0) _ rfl (tr_new2 _ _ _) Try.underlying53 rfl (by kernel_rfl)) rfl ?_
    exact ⟨rfl, alloc_b3 _ _ _⟩
  by_cases h14 : k = 14
  · subst h14
    go_enter Try.func24, Try.ntmps24
    go_wp2_with fail
    refine bodyPost_ret (results_cell_row rfl _ _ (w.heap.size + 1) 53 _ (0, 0) _ rfl (tr_new2 _ _ _) Try.underlying53 rfl (by kernel_rfl)) rfl ?_
    exact ⟨rfl, alloc_b3 _ _ _⟩
  by_cases h15 : k = 15
  · subst h15
    go_enter Try.func24, Try.ntmps24
    go_wp2_with fail
    refine bodyPost_ret (results_cell_row rfl _ _ (w.heap.size + 1) 53 _ (0, 0) _ rfl (tr_new2 _ _ _) Try.underlying53 rfl (by kernel_rfl)) rfl ?_
    exact ⟨rfl, alloc_b3 _ _ _⟩
  by_cases h16 : k = 16
  · subst h16
    go_enter Try.func24, Try.ntmps24
    go_wp2_with fail
    refine bodyPost_ret (results_cell_row rfl _ _ (w.heap.size + 1) 53 _ (0, 0) _ rfl (tr_new2 _ _ _) Try.underlying53 rfl (by kernel_rfl)) rfl ?_
    exact ⟨rfl, alloc_b3 _ _ _⟩
  by_cases h17 : k = 17
  · subst h17
    go_enter Try.func24, Try.ntmps24
    go_wp2_with fail
    refine bodyPost_ret (results_cell_row rfl _ _ (w.heap.size + 1) 53 _ (0, 0) _ rfl (tr_new2 _ _ _) Try.underlying53 rfl (by kernel_rfl)) rfl ?_
    exact ⟨rfl, alloc_b3 _ _ _⟩
  by_cases h18 : k = 18
  · subst h18
    go_enter Try.func24, Try.ntmps24
    go_wp2_with fail
    refine bodyPost_ret (results_cell_row rfl _ _ (w.heap.size + 1) 53 _ (0, 0) _ rfl (tr_new2 _ _ _) Try.underlying53 rfl (by kernel_rfl)) rfl ?_
    exact ⟨rfl, alloc_b3 _ _ _⟩
  by_cases h19 : k = 19
  · subst h19
    have e : Tr.ru 19 p = Tr.cr p := rfl
    rw [e]
    clear e
    have NT := hid (tcr_any p)
    generalize Tr.cr p = r at *
    have R := hid (tr_new2 w (.cells #[.int .i64 19, .int .i64 p, .int .i64 q, .int .i64 n, .int .u64 m, .string s] 34) (.cells #[.int .i64 0, .int .i64 0, .int .i64 0, .int .i64 0, .bool false, .bool false, .int .i64 0] 53))
    have B := hid (alloc_b3 w (.cells #[.int .i64 19, .int .i64 p, .int .i64 q, .int .i64 n, .int .u64 m, .string s] 34) (.cells #[.int .i64 0, .int .i64 0, .int .i64 0, .int .i64 0, .bool false, .bool false, .int .i64 0] 53))
    go_enter Try.func24, Try.ntmps24
    go_wp2_with (go_at_call 27; refine (NT.out _).mono ?_; rintro e w2 ⟨rfl, hB⟩; have R2 : Bx w2 (w.heap.size + 1) 53 _ := Bx.on R.out hB; obtain ⟨⟨c0, c1, c2, c3, c4, c5, c6⟩, ⟨f0, f1, f2, f3, f4, f5, f6⟩⟩ := bx7 R2; have K := hid (And.intro R2 (below_on B.out hB)); clear hB R2; simp only [Tr.er])
    refine bodyPost_ret (results_cell_row rfl _ _ (w.heap.size + 1) 53 _ (0, 0) _ rfl (bx7_set K.out.1 _ _ _ _ _ _ _) Try.underlying53 rfl (by kernel_rfl)) rfl ?_
    exact ⟨rfl, set7_below K.out.2 (by omega)⟩
  · have e : Tr.ru k p = Tr.nth := by unfold Tr.ru; simp only [h1, h2, h3, h4, h5, h6, h7, h8, h9, h10, h11, h12, h13, h14, h15, h16, h17, h18, h19, or_self, if_false]
    rw [e]
    clear e
    have NT := hid tnoth_any
    generalize Tr.nth = r at *
    have R := hid (tr_new2 w (.cells #[.int .i64 k, .int .i64 p, .int .i64 q, .int .i64 n, .int .u64 m, .string s] 34) (.cells #[.int .i64 0, .int .i64 0, .int .i64 0, .int .i64 0, .bool false, .bool false, .int .i64 0] 53))
    have B := hid (alloc_b3 w (.cells #[.int .i64 k, .int .i64 p, .int .i64 q, .int .i64 n, .int .u64 m, .string s] 34) (.cells #[.int .i64 0, .int .i64 0, .int .i64 0, .int .i64 0, .bool false, .bool false, .int .i64 0] 53))
    go_enter Try.func24, Try.ntmps24
    go_wp2_with (go_at_call 28; refine (NT.out _).mono ?_; rintro e w2 ⟨rfl, hB⟩; have R2 : Bx w2 (w.heap.size + 1) 53 _ := Bx.on R.out hB; obtain ⟨⟨c0, c1, c2, c3, c4, c5, c6⟩, ⟨f0, f1, f2, f3, f4, f5, f6⟩⟩ := bx7 R2; have K := hid (And.intro R2 (below_on B.out hB)); clear hB R2; simp only [Tr.er])
    refine bodyPost_ret (results_cell_row rfl _ _ (w.heap.size + 1) 53 _ (0, 0) _ rfl (bx7_set K.out.1 _ _ _ _ _ _ _) Try.underlying53 rfl (by kernel_rfl)) rfl ?_
    exact ⟨rfl, set7_below K.out.2 (by omega)⟩
end Go.Proofs.Ythachcidfnjbaaa
