/-
  Texts put together: NAsk1, NAsk2.
-/
import Derived.Test.YtffkopijfelacaaDoorRF
/-
  asked and wanted: kinds 1, 2, 3, 4 (made by mknask.py).
-/
namespace Go.Proofs.YtffkopijfelacaaDoor
open Go Go.RowKit Go.Deep

set_option maxRecDepth 100000 in
set_option maxHeartbeats 4000000 in
theorem nasked1 (p q : Option Addr) (n k cap cap' : Nat) (M C N : Int) (w : World) (v : Int)
    (H : ∀ wx : World, Below w.heap.size w wx → Calls Tryd.prog 28 #[.slice p n cap] wx fun r w' => ∃ pl os, r = .returned (.slice pl (List.length os) (List.length os)) ∧ LT wx w' pl os v ∧ Below wx.heap.size wx w') :
    Calls Tryd.prog 8 #[opOf1 1 (.slice p n cap) (.slice q k cap') M C N] w fun r w' => NTold ⟨v, 0, 0, false, 0⟩ w r w' := by
  simp only [opOf1, NTold, ansOf1]
  have H := hid H
  go_enter Tryd.func8, Tryd.ntmps8
  go_wp2_with fail
  refine (H.out _ (alloc3_belowN _ _ _ _)).mono ?_
  rintro r w' ⟨pl, os, rfl, ⟨hA, hL⟩, hw⟩
  have HA : Hid (Ans (w.heap.size + 3) w' pl os v) := by
    have e := hA
    simp at e
    exact e
  have HL := hid hL
  clear hA hL
  obtain ⟨g2, g3⟩ := mid_keptN hw
  obtain ⟨⟨a0, a1, a2, a3, a4⟩, af⟩ := row_cells5 g2
  obtain ⟨⟨b0, b1, b2, b3, b4⟩, bf⟩ := row_cells5 g3
  have af0 := af 0
  have bf0 := bf 0
  have af1 := af 1
  have bf1 := bf 1
  have af2 := af 2
  have bf2 := bf 2
  have af3 := af 3
  have bf3 := bf 3
  have af4 := af 4
  have bf4 := bf 4
  have HB := hid ((alloc3_belowN _ _ _ _).trans (hw.mono (alloc3_belowN _ _ _ _).size))
  have G2 := hid g2
  clear H hw g2 g3 af bf
  go_wp2_with fail
  (try simp only [Exit.inBlock, Exit.then])
  refine bodyPost_ret (results_cell_row rfl _ _ (w.heap.size + 1) 29 _ (0, 0) _ rfl (set_row5 (by repeat (first | (with_reducible exact G2.out) | (with_reducible refine set_farN ?_ (by omega))))) Tryd.underlying29 rfl (by kernel_rfl)) rfl ?_
  exact ⟨pl, os, rfl, ⟨Ans.upN (B := w.heap.size + 3) (by repeat (first | (with_reducible exact HA.out) | (with_reducible refine ans_setN ?_ (by omega) _))) (by omega), HL.out⟩, by repeat (first | (with_reducible exact HB.out) | (with_reducible refine set_belowN ?_ (by omega)))⟩

set_option maxRecDepth 100000 in
set_option maxHeartbeats 4000000 in
theorem nwanted1 (p q : Option Addr) (n k cap cap' : Nat) (M C N : Int) (w : World) (v : Int)
    (H : ∀ wx : World, Below w.heap.size w wx → Calls Tryd.prog 11 #[.slice p n cap] wx fun r w' => ∃ pl os, r = .returned (.slice pl (List.length os) (List.length os)) ∧ LT wx w' pl os v ∧ Below wx.heap.size wx w') :
    Calls Tryd.prog 5 #[opOf1 1 (.slice p n cap) (.slice q k cap') M C N] w fun r w' => NTold ⟨v, 0, 0, false, 0⟩ w r w' := by
  simp only [opOf1, NTold, ansOf1]
  have H := hid H
  go_enter Tryd.func5, Tryd.ntmps5
  go_wp2_with fail
  refine (H.out _ (alloc3_belowN _ _ _ _)).mono ?_
  rintro r w' ⟨pl, os, rfl, ⟨hA, hL⟩, hw⟩
  have HA : Hid (Ans (w.heap.size + 3) w' pl os v) := by
    have e := hA
    simp at e
    exact e
  have HL := hid hL
  clear hA hL
  obtain ⟨g2, g3⟩ := mid_keptN hw
  obtain ⟨⟨a0, a1, a2, a3, a4⟩, af⟩ := row_cells5 g2
  obtain ⟨⟨b0, b1, b2, b3, b4⟩, bf⟩ := row_cells5 g3
  have af0 := af 0
  have bf0 := bf 0
  have af1 := af 1
  have bf1 := bf 1
  have af2 := af 2
  have bf2 := bf 2
  have af3 := af 3
  have bf3 := bf 3
  have af4 := af 4
  have bf4 := bf 4
  have HB := hid ((alloc3_belowN _ _ _ _).trans (hw.mono (alloc3_belowN _ _ _ _).size))
  have G2 := hid g2
  clear H hw g2 g3 af bf
  go_wp2_with fail
  (try simp only [Exit.inBlock, Exit.then])
  refine bodyPost_ret (results_cell_row rfl _ _ (w.heap.size + 1) 29 _ (0, 0) _ rfl (set_row5 (by repeat (first | (with_reducible exact G2.out) | (with_reducible refine set_farN ?_ (by omega))))) Tryd.underlying29 rfl (by kernel_rfl)) rfl ?_
  exact ⟨pl, os, rfl, ⟨Ans.upN (B := w.heap.size + 3) (by repeat (first | (with_reducible exact HA.out) | (with_reducible refine ans_setN ?_ (by omega) _))) (by omega), HL.out⟩, by repeat (first | (with_reducible exact HB.out) | (with_reducible refine set_belowN ?_ (by omega)))⟩

set_option maxRecDepth 100000 in
set_option maxHeartbeats 4000000 in
theorem nasked2 (p q : Option Addr) (n k cap cap' : Nat) (M C N : Int) (w : World) (v : Int)
    (H : ∀ wx : World, Below w.heap.size w wx → Calls Tryd.prog 29 #[.int .u64 M] wx fun r w' => ∃ pl os, r = .returned (.slice pl (List.length os) (List.length os)) ∧ LT wx w' pl os v ∧ Below wx.heap.size wx w') :
    Calls Tryd.prog 8 #[opOf1 2 (.slice p n cap) (.slice q k cap') M C N] w fun r w' => NTold ⟨v, 0, 0, false, 0⟩ w r w' := by
  simp only [opOf1, NTold, ansOf1]
  have H := hid H
  go_enter Tryd.func8, Tryd.ntmps8
  go_wp2_with fail
  refine (H.out _ (alloc3_belowN _ _ _ _)).mono ?_
  rintro r w' ⟨pl, os, rfl, ⟨hA, hL⟩, hw⟩
  have HA : Hid (Ans (w.heap.size + 3) w' pl os v) := by
    have e := hA
    simp at e
    exact e
  have HL := hid hL
  clear hA hL
  obtain ⟨g2, g3⟩ := mid_keptN hw
  obtain ⟨⟨a0, a1, a2, a3, a4⟩, af⟩ := row_cells5 g2
  obtain ⟨⟨b0, b1, b2, b3, b4⟩, bf⟩ := row_cells5 g3
  have af0 := af 0
  have bf0 := bf 0
  have af1 := af 1
  have bf1 := bf 1
  have af2 := af 2
  have bf2 := bf 2
  have af3 := af 3
  have bf3 := bf 3
  have af4 := af 4
  have bf4 := bf 4
  have HB := hid ((alloc3_belowN _ _ _ _).trans (hw.mono (alloc3_belowN _ _ _ _).size))
  have G2 := hid g2
  clear H hw g2 g3 af bf
  go_wp2_with fail
  (try simp only [Exit.inBlock, Exit.then])
  refine bodyPost_ret (results_cell_row rfl _ _ (w.heap.size + 1) 29 _ (0, 0) _ rfl (set_row5 (by repeat (first | (with_reducible exact G2.out) | (with_reducible refine set_farN ?_ (by omega))))) Tryd.underlying29 rfl (by kernel_rfl)) rfl ?_
  exact ⟨pl, os, rfl, ⟨Ans.upN (B := w.heap.size + 3) (by repeat (first | (with_reducible exact HA.out) | (with_reducible refine ans_setN ?_ (by omega) _))) (by omega), HL.out⟩, by repeat (first | (with_reducible exact HB.out) | (with_reducible refine set_belowN ?_ (by omega)))⟩

set_option maxRecDepth 100000 in
set_option maxHeartbeats 4000000 in
theorem nwanted2 (p q : Option Addr) (n k cap cap' : Nat) (M C N : Int) (w : World) (v : Int)
    (H : ∀ wx : World, Below w.heap.size w wx → Calls Tryd.prog 12 #[.int .u64 M] wx fun r w' => ∃ pl os, r = .returned (.slice pl (List.length os) (List.length os)) ∧ LT wx w' pl os v ∧ Below wx.heap.size wx w') :
    Calls Tryd.prog 5 #[opOf1 2 (.slice p n cap) (.slice q k cap') M C N] w fun r w' => NTold ⟨v, 0, 0, false, 0⟩ w r w' := by
  simp only [opOf1, NTold, ansOf1]
  have H := hid H
  go_enter Tryd.func5, Tryd.ntmps5
  go_wp2_with fail
  refine (H.out _ (alloc3_belowN _ _ _ _)).mono ?_
  rintro r w' ⟨pl, os, rfl, ⟨hA, hL⟩, hw⟩
  have HA : Hid (Ans (w.heap.size + 3) w' pl os v) := by
    have e := hA
    simp at e
    exact e
  have HL := hid hL
  clear hA hL
  obtain ⟨g2, g3⟩ := mid_keptN hw
  obtain ⟨⟨a0, a1, a2, a3, a4⟩, af⟩ := row_cells5 g2
  obtain ⟨⟨b0, b1, b2, b3, b4⟩, bf⟩ := row_cells5 g3
  have af0 := af 0
  have bf0 := bf 0
  have af1 := af 1
  have bf1 := bf 1
  have af2 := af 2
  have bf2 := bf 2
  have af3 := af 3
  have bf3 := bf 3
  have af4 := af 4
  have bf4 := bf 4
  have HB := hid ((alloc3_belowN _ _ _ _).trans (hw.mono (alloc3_belowN _ _ _ _).size))
  have G2 := hid g2
  clear H hw g2 g3 af bf
  go_wp2_with fail
  (try simp only [Exit.inBlock, Exit.then])
  refine bodyPost_ret (results_cell_row rfl _ _ (w.heap.size + 1) 29 _ (0, 0) _ rfl (set_row5 (by repeat (first | (with_reducible exact G2.out) | (with_reducible refine set_farN ?_ (by omega))))) Tryd.underlying29 rfl (by kernel_rfl)) rfl ?_
  exact ⟨pl, os, rfl, ⟨Ans.upN (B := w.heap.size + 3) (by repeat (first | (with_reducible exact HA.out) | (with_reducible refine ans_setN ?_ (by omega) _))) (by omega), HL.out⟩, by repeat (first | (with_reducible exact HB.out) | (with_reducible refine set_belowN ?_ (by omega)))⟩

set_option maxRecDepth 100000 in
set_option maxHeartbeats 4000000 in
theorem nasked3 (p q : Option Addr) (n k cap cap' : Nat) (M C N : Int) (w : World) (U : Int) (B : Bool)
    (H : ∀ wx : World, Below w.heap.size w wx → Calls Tryd.prog 30 #[.slice p n cap] wx fun r w' => r = .returned (.tuple #[.int .u64 U, .bool B]) ∧ Below wx.heap.size wx w') :
    Calls Tryd.prog 8 #[opOf1 3 (.slice p n cap) (.slice q k cap') M C N] w fun r w' => NTold ⟨0, U, 0, B, 0⟩ w r w' := by
  simp only [opOf1, NTold, ansOf1]
  have H := hid H
  go_enter Tryd.func8, Tryd.ntmps8
  go_wp2_with fail
  refine (H.out _ (alloc3_belowN _ _ _ _)).mono ?_
  rintro r w' ⟨rfl, hw⟩
  obtain ⟨g2, g3⟩ := mid_keptN hw
  obtain ⟨⟨a0, a1, a2, a3, a4⟩, af⟩ := row_cells5 g2
  obtain ⟨⟨b0, b1, b2, b3, b4⟩, bf⟩ := row_cells5 g3
  have af0 := af 0
  have bf0 := bf 0
  have af1 := af 1
  have bf1 := bf 1
  have af2 := af 2
  have bf2 := bf 2
  have af3 := af 3
  have bf3 := bf 3
  have af4 := af 4
  have bf4 := bf 4
  have HB := hid ((alloc3_belowN _ _ _ _).trans (hw.mono (alloc3_belowN _ _ _ _).size))
  have G2 := hid g2
  clear H hw g2 g3 af bf
  go_wp2_with fail
  (try simp only [Exit.inBlock, Exit.then])
  refine bodyPost_ret (results_cell_row rfl _ _ (w.heap.size + 1) 29 _ (0, 0) _ rfl (set_row5 (by repeat (first | (with_reducible exact G2.out) | (with_reducible refine set_farN ?_ (by omega))))) Tryd.underlying29 rfl (by kernel_rfl)) rfl ?_
  exact ⟨none, [], rfl, lt_nil _ _, by repeat (first | (with_reducible exact HB.out) | (with_reducible refine set_belowN ?_ (by omega)))⟩

set_option maxRecDepth 100000 in
set_option maxHeartbeats 4000000 in
theorem nwanted3 (p q : Option Addr) (n k cap cap' : Nat) (M C N : Int) (w : World) (U : Int) (B : Bool)
    (H : ∀ wx : World, Below w.heap.size w wx → Calls Tryd.prog 13 #[.slice p n cap] wx fun r w' => r = .returned (.tuple #[.int .u64 U, .bool B]) ∧ Below wx.heap.size wx w') :
    Calls Tryd.prog 5 #[opOf1 3 (.slice p n cap) (.slice q k cap') M C N] w fun r w' => NTold ⟨0, U, 0, B, 0⟩ w r w' := by
  simp only [opOf1, NTold, ansOf1]
  have H := hid H
  go_enter Tryd.func5, Tryd.ntmps5
  go_wp2_with fail
  refine (H.out _ (alloc3_belowN _ _ _ _)).mono ?_
  rintro r w' ⟨rfl, hw⟩
  obtain ⟨g2, g3⟩ := mid_keptN hw
  obtain ⟨⟨a0, a1, a2, a3, a4⟩, af⟩ := row_cells5 g2
  obtain ⟨⟨b0, b1, b2, b3, b4⟩, bf⟩ := row_cells5 g3
  have af0 := af 0
  have bf0 := bf 0
  have af1 := af 1
  have bf1 := bf 1
  have af2 := af 2
  have bf2 := bf 2
  have af3 := af 3
  have bf3 := bf 3
  have af4 := af 4
  have bf4 := bf 4
  have HB := hid ((alloc3_belowN _ _ _ _).trans (hw.mono (alloc3_belowN _ _ _ _).size))
  have G2 := hid g2
  clear H hw g2 g3 af bf
  go_wp2_with fail
  (try simp only [Exit.inBlock, Exit.then])
  refine bodyPost_ret (results_cell_row rfl _ _ (w.heap.size + 1) 29 _ (0, 0) _ rfl (set_row5 (by repeat (first | (with_reducible exact G2.out) | (with_reducible refine set_farN ?_ (by omega))))) Tryd.underlying29 rfl (by kernel_rfl)) rfl ?_
  exact ⟨none, [], rfl, lt_nil _ _, by repeat (first | (with_reducible exact HB.out) | (with_reducible refine set_belowN ?_ (by omega)))⟩

set_option maxRecDepth 100000 in
set_option maxHeartbeats 4000000 in
theorem nasked4 (p q : Option Addr) (n k cap cap' : Nat) (M C N : Int) (w : World) (V : Int)
    (H : ∀ wx : World, Below w.heap.size w wx → Calls Tryd.prog 31 #[.slice p n cap] wx fun r w' => r = .returned (.int .i64 V) ∧ Below wx.heap.size wx w') :
    Calls Tryd.prog 8 #[opOf1 4 (.slice p n cap) (.slice q k cap') M C N] w fun r w' => NTold ⟨0, 0, V, false, 0⟩ w r w' := by
  simp only [opOf1, NTold, ansOf1]
  have H := hid H
  go_enter Tryd.func8, Tryd.ntmps8
  go_wp2_with fail
  refine (H.out _ (alloc3_belowN _ _ _ _)).mono ?_
  rintro r w' ⟨rfl, hw⟩
  obtain ⟨g2, g3⟩ := mid_keptN hw
  obtain ⟨⟨a0, a1, a2, a3, a4⟩, af⟩ := row_cells5 g2
  obtain ⟨⟨b0, b1, b2, b3, b4⟩, bf⟩ := row_cells5 g3
  have af0 := af 0
  have bf0 := bf 0
  have af1 := af 1
  have bf1 := bf 1
  have af2 := af 2
  have bf2 := bf 2
  have af3 := af 3
  have bf3 := bf 3
  have af4 := af 4
  have bf4 := bf 4
  have HB := hid ((alloc3_belowN _ _ _ _).trans (hw.mono (alloc3_belowN _ _ _ _).size))
  have G2 := hid g2
  clear H hw g2 g3 af bf
  go_wp2_with fail
  (try simp only [Exit.inBlock, Exit.then])
  refine bodyPost_ret (results_cell_row rfl _ _ (w.heap.size + 1) 29 _ (0, 0) _ rfl (set_row5 (by repeat (first | (with_reducible exact G2.out) | (with_reducible refine set_farN ?_ (by omega))))) Tryd.underlying29 rfl (by kernel_rfl)) rfl ?_
  exact ⟨none, [], rfl, lt_nil _ _, by repeat (first | (with_reducible exact HB.out) | (with_reducible refine set_belowN ?_ (by omega)))⟩

set_option maxRecDepth 100000 in
set_option maxHeartbeats 4000000 in
theorem nwanted4 (p q : Option Addr) (n k cap cap' : Nat) (M C N : Int) (w : World) (V : Int)
    (H : ∀ wx : World, Below w.heap.size w wx → Calls Tryd.prog 14 #[.slice p n cap] wx fun r w' => r = .returned (.int .i64 V) ∧ Below wx.heap.size wx w') :
    Calls Tryd.prog 5 #[opOf1 4 (.slice p n cap) (.slice q k cap') M C N] w fun r w' => NTold ⟨0, 0, V, false, 0⟩ w r w' := by
  simp only [opOf1, NTold, ansOf1]
  have H := hid H
  go_enter Tryd.func5, Tryd.ntmps5
  go_wp2_with fail
  refine (H.out _ (alloc3_belowN _ _ _ _)).mono ?_
  rintro r w' ⟨rfl, hw⟩
  obtain ⟨g2, g3⟩ := mid_keptN hw
  obtain ⟨⟨a0, a1, a2, a3, a4⟩, af⟩ := row_cells5 g2
  obtain ⟨⟨b0, b1, b2, b3, b4⟩, bf⟩ := row_cells5 g3
  have af0 := af 0
  have bf0 := bf 0
  have af1 := af 1
  have bf1 := bf 1
  have af2 := af 2
  have bf2 := bf 2
  have af3 := af 3
  have bf3 := bf 3
  have af4 := af 4
  have bf4 := bf 4
  have HB := hid ((alloc3_belowN _ _ _ _).trans (hw.mono (alloc3_belowN _ _ _ _).size))
  have G2 := hid g2
  clear H hw g2 g3 af bf
  go_wp2_with fail
  (try simp only [Exit.inBlock, Exit.then])
  refine bodyPost_ret (results_cell_row rfl _ _ (w.heap.size + 1) 29 _ (0, 0) _ rfl (set_row5 (by repeat (first | (with_reducible exact G2.out) | (with_reducible refine set_farN ?_ (by omega))))) Tryd.underlying29 rfl (by kernel_rfl)) rfl ?_
  exact ⟨none, [], rfl, lt_nil _ _, by repeat (first | (with_reducible exact HB.out) | (with_reducible refine set_belowN ?_ (by omega)))⟩

end Go.Proofs.YtffkopijfelacaaDoor

/-
  asked and wanted: kinds 5, 6, 7, 8 (made by mknask.py).
-/
namespace Go.Proofs.YtffkopijfelacaaDoor
open Go Go.RowKit Go.Deep

set_option maxRecDepth 100000 in
set_option maxHeartbeats 4000000 in
theorem nasked5 (p q : Option Addr) (n k cap cap' : Nat) (M C N : Int) (w : World) (V : Int)
    (H : ∀ wx : World, Below w.heap.size w wx → Calls Tryd.prog 32 #[.slice p n cap, .int .i64 N] wx fun r w' => r = .returned (.int .i64 V) ∧ Below wx.heap.size wx w') :
    Calls Tryd.prog 8 #[opOf1 5 (.slice p n cap) (.slice q k cap') M C N] w fun r w' => NTold ⟨0, 0, V, false, 0⟩ w r w' := by
  simp only [opOf1, NTold, ansOf1]
  have H := hid H
  go_enter Tryd.func8, Tryd.ntmps8
  go_wp2_with fail
  refine (H.out _ (alloc3_belowN _ _ _ _)).mono ?_
  rintro r w' ⟨rfl, hw⟩
  obtain ⟨g2, g3⟩ := mid_keptN hw
  obtain ⟨⟨a0, a1, a2, a3, a4⟩, af⟩ := row_cells5 g2
  obtain ⟨⟨b0, b1, b2, b3, b4⟩, bf⟩ := row_cells5 g3
  have af0 := af 0
  have bf0 := bf 0
  have af1 := af 1
  have bf1 := bf 1
  have af2 := af 2
  have bf2 := bf 2
  have af3 := af 3
  have bf3 := bf 3
  have af4 := af 4
  have bf4 := bf 4
  have HB := hid ((alloc3_belowN _ _ _ _).trans (hw.mono (alloc3_belowN _ _ _ _).size))
  have G2 := hid g2
  clear H hw g2 g3 af bf
  go_wp2_with fail
  (try simp only [Exit.inBlock, Exit.then])
  refine bodyPost_ret (results_cell_row rfl _ _ (w.heap.size + 1) 29 _ (0, 0) _ rfl (set_row5 (by repeat (first | (with_reducible exact G2.out) | (with_reducible refine set_farN ?_ (by omega))))) Tryd.underlying29 rfl (by kernel_rfl)) rfl ?_
  exact ⟨none, [], rfl, lt_nil _ _, by repeat (first | (with_reducible exact HB.out) | (with_reducible refine set_belowN ?_ (by omega)))⟩

set_option maxRecDepth 100000 in
set_option maxHeartbeats 4000000 in
theorem nwanted5 (p q : Option Addr) (n k cap cap' : Nat) (M C N : Int) (w : World) (V : Int)
    (H : ∀ wx : World, Below w.heap.size w wx → Calls Tryd.prog 15 #[.slice p n cap, .int .i64 N] wx fun r w' => r = .returned (.int .i64 V) ∧ Below wx.heap.size wx w') :
    Calls Tryd.prog 5 #[opOf1 5 (.slice p n cap) (.slice q k cap') M C N] w fun r w' => NTold ⟨0, 0, V, false, 0⟩ w r w' := by
  simp only [opOf1, NTold, ansOf1]
  have H := hid H
  go_enter Tryd.func5, Tryd.ntmps5
  go_wp2_with fail
  refine (H.out _ (alloc3_belowN _ _ _ _)).mono ?_
  rintro r w' ⟨rfl, hw⟩
  obtain ⟨g2, g3⟩ := mid_keptN hw
  obtain ⟨⟨a0, a1, a2, a3, a4⟩, af⟩ := row_cells5 g2
  obtain ⟨⟨b0, b1, b2, b3, b4⟩, bf⟩ := row_cells5 g3
  have af0 := af 0
  have bf0 := bf 0
  have af1 := af 1
  have bf1 := bf 1
  have af2 := af 2
  have bf2 := bf 2
  have af3 := af 3
  have bf3 := bf 3
  have af4 := af 4
  have bf4 := bf 4
  have HB := hid ((alloc3_belowN _ _ _ _).trans (hw.mono (alloc3_belowN _ _ _ _).size))
  have G2 := hid g2
  clear H hw g2 g3 af bf
  go_wp2_with fail
  (try simp only [Exit.inBlock, Exit.then])
  refine bodyPost_ret (results_cell_row rfl _ _ (w.heap.size + 1) 29 _ (0, 0) _ rfl (set_row5 (by repeat (first | (with_reducible exact G2.out) | (with_reducible refine set_farN ?_ (by omega))))) Tryd.underlying29 rfl (by kernel_rfl)) rfl ?_
  exact ⟨none, [], rfl, lt_nil _ _, by repeat (first | (with_reducible exact HB.out) | (with_reducible refine set_belowN ?_ (by omega)))⟩

set_option maxRecDepth 100000 in
set_option maxHeartbeats 4000000 in
theorem nasked6 (p q : Option Addr) (n k cap cap' : Nat) (M C N : Int) (w : World) (V : Int)
    (H : ∀ wx : World, Below w.heap.size w wx → Calls Tryd.prog 33 #[.slice p n cap] wx fun r w' => r = .returned (.int .i64 V) ∧ Below wx.heap.size wx w') :
    Calls Tryd.prog 8 #[opOf1 6 (.slice p n cap) (.slice q k cap') M C N] w fun r w' => NTold ⟨0, 0, V, false, 0⟩ w r w' := by
  simp only [opOf1, NTold, ansOf1]
  have H := hid H
  go_enter Tryd.func8, Tryd.ntmps8
  go_wp2_with fail
  refine (H.out _ (alloc3_belowN _ _ _ _)).mono ?_
  rintro r w' ⟨rfl, hw⟩
  obtain ⟨g2, g3⟩ := mid_keptN hw
  obtain ⟨⟨a0, a1, a2, a3, a4⟩, af⟩ := row_cells5 g2
  obtain ⟨⟨b0, b1, b2, b3, b4⟩, bf⟩ := row_cells5 g3
  have af0 := af 0
  have bf0 := bf 0
  have af1 := af 1
  have bf1 := bf 1
  have af2 := af 2
  have bf2 := bf 2
  have af3 := af 3
  have bf3 := bf 3
  have af4 := af 4
  have bf4 := bf 4
  have HB := hid ((alloc3_belowN _ _ _ _).trans (hw.mono (alloc3_belowN _ _ _ _).size))
  have G2 := hid g2
  clear H hw g2 g3 af bf
  go_wp2_with fail
  (try simp only [Exit.inBlock, Exit.then])
  refine bodyPost_ret (results_cell_row rfl _ _ (w.heap.size + 1) 29 _ (0, 0) _ rfl (set_row5 (by repeat (first | (with_reducible exact G2.out) | (with_reducible refine set_farN ?_ (by omega))))) Tryd.underlying29 rfl (by kernel_rfl)) rfl ?_
  exact ⟨none, [], rfl, lt_nil _ _, by repeat (first | (with_reducible exact HB.out) | (with_reducible refine set_belowN ?_ (by omega)))⟩

set_option maxRecDepth 100000 in
set_option maxHeartbeats 4000000 in
theorem nwanted6 (p q : Option Addr) (n k cap cap' : Nat) (M C N : Int) (w : World) (V : Int)
    (H : ∀ wx : World, Below w.heap.size w wx → Calls Tryd.prog 16 #[.slice p n cap] wx fun r w' => r = .returned (.int .i64 V) ∧ Below wx.heap.size wx w') :
    Calls Tryd.prog 5 #[opOf1 6 (.slice p n cap) (.slice q k cap') M C N] w fun r w' => NTold ⟨0, 0, V, false, 0⟩ w r w' := by
  simp only [opOf1, NTold, ansOf1]
  have H := hid H
  go_enter Tryd.func5, Tryd.ntmps5
  go_wp2_with fail
  refine (H.out _ (alloc3_belowN _ _ _ _)).mono ?_
  rintro r w' ⟨rfl, hw⟩
  obtain ⟨g2, g3⟩ := mid_keptN hw
  obtain ⟨⟨a0, a1, a2, a3, a4⟩, af⟩ := row_cells5 g2
  obtain ⟨⟨b0, b1, b2, b3, b4⟩, bf⟩ := row_cells5 g3
  have af0 := af 0
  have bf0 := bf 0
  have af1 := af 1
  have bf1 := bf 1
  have af2 := af 2
  have bf2 := bf 2
  have af3 := af 3
  have bf3 := bf 3
  have af4 := af 4
  have bf4 := bf 4
  have HB := hid ((alloc3_belowN _ _ _ _).trans (hw.mono (alloc3_belowN _ _ _ _).size))
  have G2 := hid g2
  clear H hw g2 g3 af bf
  go_wp2_with fail
  (try simp only [Exit.inBlock, Exit.then])
  refine bodyPost_ret (results_cell_row rfl _ _ (w.heap.size + 1) 29 _ (0, 0) _ rfl (set_row5 (by repeat (first | (with_reducible exact G2.out) | (with_reducible refine set_farN ?_ (by omega))))) Tryd.underlying29 rfl (by kernel_rfl)) rfl ?_
  exact ⟨none, [], rfl, lt_nil _ _, by repeat (first | (with_reducible exact HB.out) | (with_reducible refine set_belowN ?_ (by omega)))⟩

set_option maxRecDepth 100000 in
set_option maxHeartbeats 4000000 in
theorem nasked7 (p q : Option Addr) (n k cap cap' : Nat) (M C N : Int) (w : World) (V : Int)
    (H : ∀ wx : World, Below w.heap.size w wx → Calls Tryd.prog 34 #[.slice p n cap, .slice q k cap'] wx fun r w' => r = .returned (.int .i64 V) ∧ Below wx.heap.size wx w') :
    Calls Tryd.prog 8 #[opOf1 7 (.slice p n cap) (.slice q k cap') M C N] w fun r w' => NTold ⟨0, 0, V, false, 0⟩ w r w' := by
  simp only [opOf1, NTold, ansOf1]
  have H := hid H
  go_enter Tryd.func8, Tryd.ntmps8
  go_wp2_with fail
  refine (H.out _ (alloc3_belowN _ _ _ _)).mono ?_
  rintro r w' ⟨rfl, hw⟩
  obtain ⟨g2, g3⟩ := mid_keptN hw
  obtain ⟨⟨a0, a1, a2, a3, a4⟩, af⟩ := row_cells5 g2
  obtain ⟨⟨b0, b1, b2, b3, b4⟩, bf⟩ := row_cells5 g3
  have af0 := af 0
  have bf0 := bf 0
  have af1 := af 1
  have bf1 := bf 1
  have af2 := af 2
  have bf2 := bf 2
  have af3 := af 3
  have bf3 := bf 3
  have af4 := af 4
  have bf4 := bf 4
  have HB := hid ((alloc3_belowN _ _ _ _).trans (hw.mono (alloc3_belowN _ _ _ _).size))
  have G2 := hid g2
  clear H hw g2 g3 af bf
  go_wp2_with fail
  (try simp only [Exit.inBlock, Exit.then])
  refine bodyPost_ret (results_cell_row rfl _ _ (w.heap.size + 1) 29 _ (0, 0) _ rfl (set_row5 (by repeat (first | (with_reducible exact G2.out) | (with_reducible refine set_farN ?_ (by omega))))) Tryd.underlying29 rfl (by kernel_rfl)) rfl ?_
  exact ⟨none, [], rfl, lt_nil _ _, by repeat (first | (with_reducible exact HB.out) | (with_reducible refine set_belowN ?_ (by omega)))⟩

set_option maxRecDepth 100000 in
set_option maxHeartbeats 4000000 in
theorem nwanted7 (p q : Option Addr) (n k cap cap' : Nat) (M C N : Int) (w : World) (V : Int)
    (H : ∀ wx : World, Below w.heap.size w wx → Calls Tryd.prog 17 #[.slice p n cap, .slice q k cap'] wx fun r w' => r = .returned (.int .i64 V) ∧ Below wx.heap.size wx w') :
    Calls Tryd.prog 5 #[opOf1 7 (.slice p n cap) (.slice q k cap') M C N] w fun r w' => NTold ⟨0, 0, V, false, 0⟩ w r w' := by
  simp only [opOf1, NTold, ansOf1]
  have H := hid H
  go_enter Tryd.func5, Tryd.ntmps5
  go_wp2_with fail
  refine (H.out _ (alloc3_belowN _ _ _ _)).mono ?_
  rintro r w' ⟨rfl, hw⟩
  obtain ⟨g2, g3⟩ := mid_keptN hw
  obtain ⟨⟨a0, a1, a2, a3, a4⟩, af⟩ := row_cells5 g2
  obtain ⟨⟨b0, b1, b2, b3, b4⟩, bf⟩ := row_cells5 g3
  have af0 := af 0
  have bf0 := bf 0
  have af1 := af 1
  have bf1 := bf 1
  have af2 := af 2
  have bf2 := bf 2
  have af3 := af 3
  have bf3 := bf 3
  have af4 := af 4
  have bf4 := bf 4
  have HB := hid ((alloc3_belowN _ _ _ _).trans (hw.mono (alloc3_belowN _ _ _ _).size))
  have G2 := hid g2
  clear H hw g2 g3 af bf
  go_wp2_with fail
  (try simp only [Exit.inBlock, Exit.then])
  refine bodyPost_ret (results_cell_row rfl _ _ (w.heap.size + 1) 29 _ (0, 0) _ rfl (set_row5 (by repeat (first | (with_reducible exact G2.out) | (with_reducible refine set_farN ?_ (by omega))))) Tryd.underlying29 rfl (by kernel_rfl)) rfl ?_
  exact ⟨none, [], rfl, lt_nil _ _, by repeat (first | (with_reducible exact HB.out) | (with_reducible refine set_belowN ?_ (by omega)))⟩

set_option maxRecDepth 100000 in
set_option maxHeartbeats 4000000 in
theorem nasked8 (p q : Option Addr) (n k cap cap' : Nat) (M C N : Int) (w : World) (v E : Int)
    (H : ∀ wx : World, Below w.heap.size w wx → Calls Tryd.prog 9 #[.slice p n cap, .slice q k cap'] wx fun r w' => ∃ pl os, r = .returned (.tuple #[.slice pl (List.length os) (List.length os), .int .i64 E]) ∧ LT wx w' pl os v ∧ Below wx.heap.size wx w') :
    Calls Tryd.prog 8 #[opOf1 8 (.slice p n cap) (.slice q k cap') M C N] w fun r w' => NTold ⟨v, 0, 0, false, E⟩ w r w' := by
  simp only [opOf1, NTold, ansOf1]
  have H := hid H
  go_enter Tryd.func8, Tryd.ntmps8
  go_wp2_with fail
  refine (H.out _ (alloc3_belowN _ _ _ _)).mono ?_
  rintro r w' ⟨pl, os, rfl, ⟨hA, hL⟩, hw⟩
  have HA : Hid (Ans (w.heap.size + 3) w' pl os v) := by
    have e := hA
    simp at e
    exact e
  have HL := hid hL
  clear hA hL
  obtain ⟨g2, g3⟩ := mid_keptN hw
  obtain ⟨⟨a0, a1, a2, a3, a4⟩, af⟩ := row_cells5 g2
  obtain ⟨⟨b0, b1, b2, b3, b4⟩, bf⟩ := row_cells5 g3
  have af0 := af 0
  have bf0 := bf 0
  have af1 := af 1
  have bf1 := bf 1
  have af2 := af 2
  have bf2 := bf 2
  have af3 := af 3
  have bf3 := bf 3
  have af4 := af 4
  have bf4 := bf 4
  have HB := hid ((alloc3_belowN _ _ _ _).trans (hw.mono (alloc3_belowN _ _ _ _).size))
  have G2 := hid g2
  clear H hw g2 g3 af bf
  go_wp2_with fail
  (try simp only [Exit.inBlock, Exit.then])
  refine bodyPost_ret (results_cell_row rfl _ _ (w.heap.size + 1) 29 _ (0, 0) _ rfl (set_row5 (by repeat (first | (with_reducible exact G2.out) | (with_reducible refine set_farN ?_ (by omega))))) Tryd.underlying29 rfl (by kernel_rfl)) rfl ?_
  exact ⟨pl, os, rfl, ⟨Ans.upN (B := w.heap.size + 3) (by repeat (first | (with_reducible exact HA.out) | (with_reducible refine ans_setN ?_ (by omega) _))) (by omega), HL.out⟩, by repeat (first | (with_reducible exact HB.out) | (with_reducible refine set_belowN ?_ (by omega)))⟩

set_option maxRecDepth 100000 in
set_option maxHeartbeats 4000000 in
theorem nwanted8 (p q : Option Addr) (n k cap cap' : Nat) (M C N : Int) (w : World) (v E : Int)
    (H : ∀ wx : World, Below w.heap.size w wx → Calls Tryd.prog 18 #[.slice p n cap, .slice q k cap'] wx fun r w' => ∃ pl os, r = .returned (.tuple #[.slice pl (List.length os) (List.length os), .int .i64 E]) ∧ LT wx w' pl os v ∧ Below wx.heap.size wx w') :
    Calls Tryd.prog 5 #[opOf1 8 (.slice p n cap) (.slice q k cap') M C N] w fun r w' => NTold ⟨v, 0, 0, false, E⟩ w r w' := by
  simp only [opOf1, NTold, ansOf1]
  have H := hid H
  go_enter Tryd.func5, Tryd.ntmps5
  go_wp2_with fail
  refine (H.out _ (alloc3_belowN _ _ _ _)).mono ?_
  rintro r w' ⟨pl, os, rfl, ⟨hA, hL⟩, hw⟩
  have HA : Hid (Ans (w.heap.size + 3) w' pl os v) := by
    have e := hA
    simp at e
    exact e
  have HL := hid hL
  clear hA hL
  obtain ⟨g2, g3⟩ := mid_keptN hw
  obtain ⟨⟨a0, a1, a2, a3, a4⟩, af⟩ := row_cells5 g2
  obtain ⟨⟨b0, b1, b2, b3, b4⟩, bf⟩ := row_cells5 g3
  have af0 := af 0
  have bf0 := bf 0
  have af1 := af 1
  have bf1 := bf 1
  have af2 := af 2
  have bf2 := bf 2
  have af3 := af 3
  have bf3 := bf 3
  have af4 := af 4
  have bf4 := bf 4
  have HB := hid ((alloc3_belowN _ _ _ _).trans (hw.mono (alloc3_belowN _ _ _ _).size))
  have G2 := hid g2
  clear H hw g2 g3 af bf
  go_wp2_with fail
  (try simp only [Exit.inBlock, Exit.then])
  refine bodyPost_ret (results_cell_row rfl _ _ (w.heap.size + 1) 29 _ (0, 0) _ rfl (set_row5 (by repeat (first | (with_reducible exact G2.out) | (with_reducible refine set_farN ?_ (by omega))))) Tryd.underlying29 rfl (by kernel_rfl)) rfl ?_
  exact ⟨pl, os, rfl, ⟨Ans.upN (B := w.heap.size + 3) (by repeat (first | (with_reducible exact HA.out) | (with_reducible refine ans_setN ?_ (by omega) _))) (by omega), HL.out⟩, by repeat (first | (with_reducible exact HB.out) | (with_reducible refine set_belowN ?_ (by omega)))⟩

end Go.Proofs.YtffkopijfelacaaDoor
