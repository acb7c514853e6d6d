import Derived.Test.YtonnlimmjelldaaGreatDoorIDec
import Derived.Test.YtonnlimmjelldaaGreatDoorZPut

/-
  The document's put and Decode.
-/
namespace Go.Proofs.YtonnlimmjelldaaGreatDoor
open Go Go.RowKit Go.Deep

set_option maxRecDepth 100000 in
set_option maxHeartbeats 4000000 in
theorem zdecode_any (d : Int) (w : World) (h0 : 0 ≤ d) (h1 : d < 18446744073709551616) :
    Calls Tryz.prog 53 #[.int .u64 d] w fun e w' => e = .returned (partsOf (decide (9223372036854775808 ≤ d)) (Ie.cls d) (Ie.dm d) (Ie.de d)) ∧ Below w.heap.size w w' := by
  obtain ⟨f, hf⟩ : ∃ f, d / 4503599627370496 % 2048 = f := ⟨_, rfl⟩
  obtain ⟨y, hy⟩ : ∃ y, d % 4503599627370496 = y := ⟨_, rfl⟩
  obtain ⟨sv, hs⟩ : ∃ sv, d / 9223372036854775808 = sv := ⟨_, rfl⟩
  have hf' : Ie.fld d = f := hf
  have fb0 : 0 ≤ f := by omega
  have fb1 : f < 2048 := by omega
  have y0 : 0 ≤ y := by omega
  have y1 : y < 4503599627370496 := by omega
  have sc : (sv = 0 ∧ decide (9223372036854775808 ≤ d) = false) ∨ (sv = 1 ∧ decide (9223372036854775808 ≤ d) = true) := by
    rcases (show d < 9223372036854775808 ∨ 9223372036854775808 ≤ d by omega) with h | h
    · left; exact ⟨by omega, by simp; omega⟩
    · right; exact ⟨by omega, by simp; omega⟩
  have hc : Ie.cls d = if f = 0 then (if y = 0 then 0 else 1) else if f = 2047 then (if y = 0 then 3 else 4) else 2 := by rw [Ie.cls, hf', hy]
  have hm : Ie.dm d = if Ie.cls d = 2 then 4503599627370496 + y else if Ie.cls d = 1 ∨ Ie.cls d = 4 then y else 0 := by rw [Ie.dm, hy]
  have he : Ie.de d = if Ie.cls d = 2 then f - 1075 else if Ie.cls d = 1 then -1074 else 0 := by rw [Ie.de, hf']
  rcases sc with ⟨hv, sn⟩ | ⟨hv, sn⟩ <;> rw [sn] <;> rw [hv] at hs <;> clear hv sn
  · by_cases a : f = 0
    · subst a
      by_cases b : y = 0
      · subst b
        rw [if_pos rfl, if_pos rfl] at hc
        rw [hm, he, hc]
        show Calls _ _ _ _ fun e w' => e = .returned (partsOf _ 0 0 0) ∧ _
        go_enter Tryz.func53, Tryz.ntmps53
        go_wp2_with fail
        (try simp only [Exit.inBlock, Exit.then])
        refine bodyPost_ret (results_cell_row rfl _ _ w.heap.size 67 _ (0, 0) _ rfl (heap_alloc_new _ _) Tryz.underlying67 rfl (by kernel_rfl)) rfl ?_
        exact ⟨rfl, Below.alloc (Below.refl _ _) (Nat.le_refl _) _⟩
      · have b' : (y == 0) = false := by rw [beq_eq_false_iff_ne]; exact b
        rw [if_pos rfl, if_neg b] at hc
        rw [hm, he, hc]
        show Calls _ _ _ _ fun e w' => e = .returned (partsOf _ 1 y (-1074)) ∧ _
        go_enter Tryz.func53, Tryz.ntmps53
        go_wp2_with fail
        (try simp only [Exit.inBlock, Exit.then])
        refine bodyPost_ret (results_cell_row rfl _ _ w.heap.size 67 _ (0, 0) _ rfl (heap_alloc_new _ _) Tryz.underlying67 rfl (by kernel_rfl)) rfl ?_
        exact ⟨rfl, Below.alloc (Below.refl _ _) (Nat.le_refl _) _⟩
    · have a' : (f == 0) = false := by rw [beq_eq_false_iff_ne]; exact a
      have ap : 0 < f := by omega
      by_cases a2 : f = 2047
      · subst a2
        by_cases b : y = 0
        · subst b
          rw [if_neg a, if_pos rfl, if_pos rfl] at hc
          rw [hm, he, hc]
          show Calls _ _ _ _ fun e w' => e = .returned (partsOf _ 3 0 0) ∧ _
          go_enter Tryz.func53, Tryz.ntmps53
          go_wp2_with fail
          (try simp only [Exit.inBlock, Exit.then])
          refine bodyPost_ret (results_cell_row rfl _ _ w.heap.size 67 _ (0, 0) _ rfl (heap_alloc_new _ _) Tryz.underlying67 rfl (by kernel_rfl)) rfl ?_
          exact ⟨rfl, Below.alloc (Below.refl _ _) (Nat.le_refl _) _⟩
        · have b' : (y == 0) = false := by rw [beq_eq_false_iff_ne]; exact b
          rw [if_neg a, if_pos rfl, if_neg b] at hc
          rw [hm, he, hc]
          show Calls _ _ _ _ fun e w' => e = .returned (partsOf _ 4 y 0) ∧ _
          go_enter Tryz.func53, Tryz.ntmps53
          go_wp2_with fail
          (try simp only [Exit.inBlock, Exit.then])
          refine bodyPost_ret (results_cell_row rfl _ _ w.heap.size 67 _ (0, 0) _ rfl (heap_alloc_new _ _) Tryz.underlying67 rfl (by kernel_rfl)) rfl ?_
          exact ⟨rfl, Below.alloc (Below.refl _ _) (Nat.le_refl _) _⟩
      · have a2' : (f == 2047) = false := by rw [beq_eq_false_iff_ne]; exact a2
        rw [if_neg a, if_neg a2] at hc
        rw [hm, he, hc]
        show Calls _ _ _ _ fun e w' => e = .returned (partsOf _ 2 (4503599627370496 + y) (f - 1075)) ∧ _
        go_enter Tryz.func53, Tryz.ntmps53
        go_wp2_with fail
        (try simp only [Exit.inBlock, Exit.then])
        refine bodyPost_ret (results_cell_row rfl _ _ w.heap.size 67 _ (0, 0) _ rfl (heap_alloc_new _ _) Tryz.underlying67 rfl (by kernel_rfl)) rfl ?_
        exact ⟨rfl, Below.alloc (Below.refl _ _) (Nat.le_refl _) _⟩
  · by_cases a : f = 0
    · subst a
      by_cases b : y = 0
      · subst b
        rw [if_pos rfl, if_pos rfl] at hc
        rw [hm, he, hc]
        show Calls _ _ _ _ fun e w' => e = .returned (partsOf _ 0 0 0) ∧ _
        go_enter Tryz.func53, Tryz.ntmps53
        go_wp2_with fail
        (try simp only [Exit.inBlock, Exit.then])
        refine bodyPost_ret (results_cell_row rfl _ _ w.heap.size 67 _ (0, 0) _ rfl (heap_alloc_new _ _) Tryz.underlying67 rfl (by kernel_rfl)) rfl ?_
        exact ⟨rfl, Below.alloc (Below.refl _ _) (Nat.le_refl _) _⟩
      · have b' : (y == 0) = false := by rw [beq_eq_false_iff_ne]; exact b
        rw [if_pos rfl, if_neg b] at hc
        rw [hm, he, hc]
        show Calls _ _ _ _ fun e w' => e = .returned (partsOf _ 1 y (-1074)) ∧ _
        go_enter Tryz.func53, Tryz.ntmps53
        go_wp2_with fail
        (try simp only [Exit.inBlock, Exit.then])
        refine bodyPost_ret (results_cell_row rfl _ _ w.heap.size 67 _ (0, 0) _ rfl (heap_alloc_new _ _) Tryz.underlying67 rfl (by kernel_rfl)) rfl ?_
        exact ⟨rfl, Below.alloc (Below.refl _ _) (Nat.le_refl _) _⟩
    · have a' : (f == 0) = false := by rw [beq_eq_false_iff_ne]; exact a
      have ap : 0 < f := by omega
      by_cases a2 : f = 2047
      · subst a2
        by_cases b : y = 0
        · subst b
          rw [if_neg a, if_pos rfl, if_pos rfl] at hc
          rw [hm, he, hc]
          show Calls _ _ _ _ fun e w' => e = .returned (partsOf _ 3 0 0) ∧ _
          go_enter Tryz.func53, Tryz.ntmps53
          go_wp2_with fail
          (try simp only [Exit.inBlock, Exit.then])
          refine bodyPost_ret (results_cell_row rfl _ _ w.heap.size 67 _ (0, 0) _ rfl (heap_alloc_new _ _) Tryz.underlying67 rfl (by kernel_rfl)) rfl ?_
          exact ⟨rfl, Below.alloc (Below.refl _ _) (Nat.le_refl _) _⟩
        · have b' : (y == 0) = false := by rw [beq_eq_false_iff_ne]; exact b
          rw [if_neg a, if_pos rfl, if_neg b] at hc
          rw [hm, he, hc]
          show Calls _ _ _ _ fun e w' => e = .returned (partsOf _ 4 y 0) ∧ _
          go_enter Tryz.func53, Tryz.ntmps53
          go_wp2_with fail
          (try simp only [Exit.inBlock, Exit.then])
          refine bodyPost_ret (results_cell_row rfl _ _ w.heap.size 67 _ (0, 0) _ rfl (heap_alloc_new _ _) Tryz.underlying67 rfl (by kernel_rfl)) rfl ?_
          exact ⟨rfl, Below.alloc (Below.refl _ _) (Nat.le_refl _) _⟩
      · have a2' : (f == 2047) = false := by rw [beq_eq_false_iff_ne]; exact a2
        rw [if_neg a, if_neg a2] at hc
        rw [hm, he, hc]
        show Calls _ _ _ _ fun e w' => e = .returned (partsOf _ 2 (4503599627370496 + y) (f - 1075)) ∧ _
        go_enter Tryz.func53, Tryz.ntmps53
        go_wp2_with fail
        (try simp only [Exit.inBlock, Exit.then])
        refine bodyPost_ret (results_cell_row rfl _ _ w.heap.size 67 _ (0, 0) _ rfl (heap_alloc_new _ _) Tryz.underlying67 rfl (by kernel_rfl)) rfl ?_
        exact ⟨rfl, Below.alloc (Below.refl _ _) (Nat.le_refl _) _⟩
end Go.Proofs.YtonnlimmjelldaaGreatDoor
