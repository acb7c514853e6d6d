/-
  abacusref24: called, arity, filling, aim, Target (mktrh.py).
-/
import Derived.Test.YthachcidfnjbaaaTrF
namespace Go.Proofs.Ythachcidfnjbaaa
open Go Go.RowKit Go.Deep

namespace Tr
def ca (f : Int) : Int × Int :=
  if f = 1 ∨ f = 6 ∨ f = 7 ∨ f = 8 ∨ f = 9 then (1, 1) else if f = 2 then (2, 3) else if f = 3 ∨ f = 5 then (2, 2) else if f = 4 ∨ f = 12 then (1, 10000) else if f = 10 ∨ f = 11 then (3, 3) else if f = 13 then (0, 0) else (-1, -1)
def ar (k f : Int) : Int × Int :=
  if k = 1 ∨ k = 2 ∨ k = 3 then (0, 0) else if k = 4 ∨ k = 7 ∨ k = 8 ∨ k = 9 ∨ k = 18 then (1, 1) else if k = 5 ∨ k = 6 then (1, 10000) else if k = 10 ∨ k = 11 ∨ k = 12 ∨ k = 13 ∨ k = 14 ∨ k = 16 ∨ k = 17 then (2, 2) else if k = 15 then (3, 3) else if k = 19 then ca f else (-1, -1)
def fi (k f : Int) : Prop := k = 19 ∧ (f = 5 ∨ f = 13)
def am (k f : Int) : Int := if k = 16 ∨ k = 17 ∨ k = 18 then 0 else if k = 19 ∧ (f = 10 ∨ f = 11) then 2 else -1
instance (k f : Int) : Decidable (fi k f) := by unfold fi; exact inferInstance
end Tr

set_option maxRecDepth 100000 in
set_option maxHeartbeats 8000000 in
theorem rca_any (f : Int) (w : World) : Calls Try.prog 22 #[.int .i64 f] w fun e w' => e = .returned (.tuple #[.int .i64 (Tr.ca f).1, .int .i64 (Tr.ca f).2]) ∧ w' = w := by
  by_cases h1 : f = 1
  · subst h1
    go_enter Try.func22, Try.ntmps22
    go_wp2_with fail
    go_ret2
    exact ⟨rfl, rfl⟩
  by_cases h2 : f = 2
  · subst h2
    go_enter Try.func22, Try.ntmps22
    go_wp2_with fail
    go_ret2
    exact ⟨rfl, rfl⟩
  by_cases h3 : f = 3
  · subst h3
    go_enter Try.func22, Try.ntmps22
    go_wp2_with fail
    go_ret2
    exact ⟨rfl, rfl⟩
  by_cases h4 : f = 4
  · subst h4
    go_enter Try.func22, Try.ntmps22
    go_wp2_with fail
    go_ret2
    exact ⟨rfl, rfl⟩
  by_cases h5 : f = 5
  · subst h5
    go_enter Try.func22, Try.ntmps22
    go_wp2_with fail
    go_ret2
    exact ⟨rfl, rfl⟩
  by_cases h6 : f = 6
  · subst h6
    go_enter Try.func22, Try.ntmps22
    go_wp2_with fail
    go_ret2
    exact ⟨rfl, rfl⟩
  by_cases h7 : f = 7
  · subst h7
    go_enter Try.func22, Try.ntmps22
    go_wp2_with fail
    go_ret2
    exact ⟨rfl, rfl⟩
  by_cases h8 : f = 8
  · subst h8
    go_enter Try.func22, Try.ntmps22
    go_wp2_with fail
    go_ret2
    exact ⟨rfl, rfl⟩
  by_cases h9 : f = 9
  · subst h9
    go_enter Try.func22, Try.ntmps22
    go_wp2_with fail
    go_ret2
    exact ⟨rfl, rfl⟩
  by_cases h10 : f = 10
  · subst h10
    go_enter Try.func22, Try.ntmps22
    go_wp2_with fail
    go_ret2
    exact ⟨rfl, rfl⟩
  by_cases h11 : f = 11
  · subst h11
    go_enter Try.func22, Try.ntmps22
    go_wp2_with fail
    go_ret2
    exact ⟨rfl, rfl⟩
  by_cases h12 : f = 12
  · subst h12
    go_enter Try.func22, Try.ntmps22
    go_wp2_with fail
    go_ret2
    exact ⟨rfl, rfl⟩
  by_cases h13 : f = 13
  · subst h13
    go_enter Try.func22, Try.ntmps22
    go_wp2_with fail
    go_ret2
    exact ⟨rfl, rfl⟩
  have e : Tr.ca f = (-1, -1) := by unfold Tr.ca; simp only [h1, h2, h3, h4, h5, h6, h7, h8, h9, h10, h11, h12, h13, or_self, if_false]
  rw [e]
  clear e
  go_enter Try.func22, Try.ntmps22
  go_wp2_with fail
  go_ret2
  exact ⟨rfl, rfl⟩
set_option maxRecDepth 100000 in
set_option maxHeartbeats 8000000 in
theorem rar_any (k p q n m : Int) (s : ByteArray) (w : World) : Calls Try.prog 16 #[.agg #[.int .i64 k, .int .i64 p, .int .i64 q, .int .i64 n, .int .u64 m, .string s]] w fun e w' => e = .returned (.tuple #[.int .i64 (Tr.ar k p).1, .int .i64 (Tr.ar k p).2]) ∧ Below w.heap.size w w' := by
  by_cases h1 : k = 1
  · subst h1
    go_enter Try.func16, Try.ntmps16
    go_wp2_with fail
    go_ret2
    exact ⟨rfl, alloc_b _ _⟩
  by_cases h2 : k = 2
  · subst h2
    go_enter Try.func16, Try.ntmps16
    go_wp2_with fail
    go_ret2
    exact ⟨rfl, alloc_b _ _⟩
  by_cases h3 : k = 3
  · subst h3
    go_enter Try.func16, Try.ntmps16
    go_wp2_with fail
    go_ret2
    exact ⟨rfl, alloc_b _ _⟩
  by_cases h4 : k = 4
  · subst h4
    go_enter Try.func16, Try.ntmps16
    go_wp2_with fail
    go_ret2
    exact ⟨rfl, alloc_b _ _⟩
  by_cases h5 : k = 5
  · subst h5
    go_enter Try.func16, Try.ntmps16
    go_wp2_with fail
    go_ret2
    exact ⟨rfl, alloc_b _ _⟩
  by_cases h6 : k = 6
  · subst h6
    go_enter Try.func16, Try.ntmps16
    go_wp2_with fail
    go_ret2
    exact ⟨rfl, alloc_b _ _⟩
  by_cases h7 : k = 7
  · subst h7
    go_enter Try.func16, Try.ntmps16
    go_wp2_with fail
    go_ret2
    exact ⟨rfl, alloc_b _ _⟩
  by_cases h8 : k = 8
  · subst h8
    go_enter Try.func16, Try.ntmps16
    go_wp2_with fail
    go_ret2
    exact ⟨rfl, alloc_b _ _⟩
  by_cases h9 : k = 9
  · subst h9
    go_enter Try.func16, Try.ntmps16
    go_wp2_with fail
    go_ret2
    exact ⟨rfl, alloc_b _ _⟩
  by_cases h10 : k = 10
  · subst h10
    go_enter Try.func16, Try.ntmps16
    go_wp2_with fail
    go_ret2
    exact ⟨rfl, alloc_b _ _⟩
  by_cases h11 : k = 11
  · subst h11
    go_enter Try.func16, Try.ntmps16
    go_wp2_with fail
    go_ret2
    exact ⟨rfl, alloc_b _ _⟩
  by_cases h12 : k = 12
  · subst h12
    go_enter Try.func16, Try.ntmps16
    go_wp2_with fail
    go_ret2
    exact ⟨rfl, alloc_b _ _⟩
  by_cases h13 : k = 13
  · subst h13
    go_enter Try.func16, Try.ntmps16
    go_wp2_with fail
    go_ret2
    exact ⟨rfl, alloc_b _ _⟩
  by_cases h14 : k = 14
  · subst h14
    go_enter Try.func16, Try.ntmps16
    go_wp2_with fail
    go_ret2
    exact ⟨rfl, alloc_b _ _⟩
  by_cases h15 : k = 15
  · subst h15
    go_enter Try.func16, Try.ntmps16
    go_wp2_with fail
    go_ret2
    exact ⟨rfl, alloc_b _ _⟩
  by_cases h16 : k = 16
  · subst h16
    go_enter Try.func16, Try.ntmps16
    go_wp2_with fail
    go_ret2
    exact ⟨rfl, alloc_b _ _⟩
  by_cases h17 : k = 17
  · subst h17
    go_enter Try.func16, Try.ntmps16
    go_wp2_with fail
    go_ret2
    exact ⟨rfl, alloc_b _ _⟩
  by_cases h18 : k = 18
  · subst h18
    go_enter Try.func16, Try.ntmps16
    go_wp2_with fail
    go_ret2
    exact ⟨rfl, alloc_b _ _⟩
  by_cases h19 : k = 19
  · subst h19
    have e : Tr.ar 19 p = Tr.ca p := rfl
    rw [e]
    clear e
    have NT := hid (rca_any p)
    generalize Tr.ca p = r at *
    have B := hid (alloc_b w (.cells #[.int .i64 19, .int .i64 p, .int .i64 q, .int .i64 n, .int .u64 m, .string s] 34))
    go_enter Try.func16, Try.ntmps16
    go_wp2_with (go_at_call 22; refine (NT.out _).mono ?_; rintro e w2 ⟨rfl, rfl⟩)
    go_ret2
    exact ⟨rfl, B.out⟩
  · have e : Tr.ar k p = (-1, -1) := by unfold Tr.ar; simp only [h1, h2, h3, h4, h5, h6, h7, h8, h9, h10, h11, h12, h13, h14, h15, h16, h17, h18, h19, or_self, if_false]
    rw [e]
    clear e
    go_enter Try.func16, Try.ntmps16
    go_wp2_with fail
    go_ret2
    exact ⟨rfl, alloc_b _ _⟩
set_option maxRecDepth 100000 in
theorem rfi_any (k p q n m : Int) (s : ByteArray) (w : World) : Calls Try.prog 23 #[.agg #[.int .i64 k, .int .i64 p, .int .i64 q, .int .i64 n, .int .u64 m, .string s]] w fun e w' => e = .returned (.bool (decide (Tr.fi k p))) ∧ Below w.heap.size w w' := by
  by_cases h1 : k = 19
  · subst h1
    by_cases h2 : p = 5
    · subst h2
      rw [decide_eq_true (show Tr.fi 19 5 from ⟨rfl, .inl rfl⟩)]
      go_enter Try.func23, Try.ntmps23
      go_wp2_with fail
      go_ret
      exact ⟨rfl, alloc_b _ _⟩
    · by_cases h3 : p = 13
      · subst h3
        rw [decide_eq_true (show Tr.fi 19 13 from ⟨rfl, .inr rfl⟩)]
        go_enter Try.func23, Try.ntmps23
        go_wp2_with fail
        go_ret
        exact ⟨rfl, alloc_b _ _⟩
      · rw [decide_eq_false (show ¬ Tr.fi 19 p from fun z => by rcases z.2 with y | y; exact h2 y; exact h3 y)]
        have b2 := beq_false_of_ne h2
        have b3 := beq_false_of_ne h3
        go_enter Try.func23, Try.ntmps23
        go_wp2_with fail
        go_ret
        exact ⟨rfl, alloc_b _ _⟩
  · rw [decide_eq_false (show ¬ Tr.fi k p from fun z => h1 z.1)]
    have b1 := beq_false_of_ne h1
    go_enter Try.func23, Try.ntmps23
    go_wp2_with fail
    go_ret
    exact ⟨rfl, alloc_b _ _⟩
set_option maxRecDepth 100000 in
theorem rta_any (k p q n m : Int) (s : ByteArray) (w : World) : Calls Try.prog 19 #[.agg #[.int .i64 k, .int .i64 p, .int .i64 q, .int .i64 n, .int .u64 m, .string s]] w fun e w' => e = .returned (.bool (decide (Tr.isT k))) ∧ Below w.heap.size w w' := by
  by_cases h1 : k = 3
  · subst h1
    go_enter Try.func19, Try.ntmps19
    go_wp2_with fail
    go_ret
    exact ⟨rfl, alloc_b _ _⟩
  · by_cases h2 : k = 4
    · subst h2
      go_enter Try.func19, Try.ntmps19
      go_wp2_with fail
      go_ret
      exact ⟨rfl, alloc_b _ _⟩
    · by_cases h3 : k = 5
      · subst h3
        go_enter Try.func19, Try.ntmps19
        go_wp2_with fail
        go_ret
        exact ⟨rfl, alloc_b _ _⟩
      · rw [decide_eq_false (show ¬ Tr.isT k from fun z => by have := z.1; have := z.2; omega)]
        have b1 := beq_false_of_ne h1
        have b2 := beq_false_of_ne h2
        have b3 := beq_false_of_ne h3
        go_enter Try.func19, Try.ntmps19
        go_wp2_with fail
        go_ret
        exact ⟨rfl, alloc_b _ _⟩
set_option maxRecDepth 100000 in
set_option maxHeartbeats 2000000 in
theorem ram_any (k p q n m : Int) (s : ByteArray) (w : World) : Calls Try.prog 18 #[.agg #[.int .i64 k, .int .i64 p, .int .i64 q, .int .i64 n, .int .u64 m, .string s]] w fun e w' => e = .returned (.int .i64 (Tr.am k p)) ∧ Below w.heap.size w w' := by
  by_cases h1 : k = 16
  · subst h1
    go_enter Try.func18, Try.ntmps18
    go_wp2_with fail
    go_ret
    exact ⟨rfl, alloc_b _ _⟩
  · by_cases h2 : k = 17
    · subst h2
      go_enter Try.func18, Try.ntmps18
      go_wp2_with fail
      go_ret
      exact ⟨rfl, alloc_b _ _⟩
    · by_cases h3 : k = 18
      · subst h3
        go_enter Try.func18, Try.ntmps18
        go_wp2_with fail
        go_ret
        exact ⟨rfl, alloc_b _ _⟩
      · by_cases h4 : k = 19
        · subst h4
          by_cases h5 : p = 10
          · subst h5
            go_enter Try.func18, Try.ntmps18
            go_wp2_with fail
            go_ret
            exact ⟨rfl, alloc_b _ _⟩
          · by_cases h6 : p = 11
            · subst h6
              go_enter Try.func18, Try.ntmps18
              go_wp2_with fail
              go_ret
              exact ⟨rfl, alloc_b _ _⟩
            · have e : Tr.am 19 p = -1 := by unfold Tr.am; simp [h5, h6]
              rw [e]
              have b5 := beq_false_of_ne h5
              have b6 := beq_false_of_ne h6
              go_enter Try.func18, Try.ntmps18
              go_wp2_with fail
              go_ret
              exact ⟨rfl, alloc_b _ _⟩
        · have e : Tr.am k p = -1 := by unfold Tr.am; simp [h1, h2, h3, h4]
          rw [e]
          have b1 := beq_false_of_ne h1
          have b2 := beq_false_of_ne h2
          have b3 := beq_false_of_ne h3
          have b4 := beq_false_of_ne h4
          go_enter Try.func18, Try.ntmps18
          go_wp2_with fail
          go_ret
          exact ⟨rfl, alloc_b _ _⟩
end Go.Proofs.Ythachcidfnjbaaa
