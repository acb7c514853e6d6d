/-
  Texts put together: NAsk2, NAsk3, NAsk4, NAsk5, NOther.
-/
import Derived.Test.YtmglogncpfoldaaDoorRC
/-
  asked and wanted: kinds 5, 6, 7, 8 (made by mknask.py).
-/
namespace Go.Proofs.YtmglogncpfoldaaDoor
open Go Go.RowKit Go.Deep

set_option maxRecDepth 100000 in
set_option maxHeartbeats 4000000 in
theorem nasked5 (p q : Option Addr) (n k cap cap' : Nat) (M C N : Int) (w : World) (V : Int)
    (H : ∀ wx : World, Below w.heap.size w wx → Calls Tryd.prog 35 #[.slice p n cap, .int .i64 N] wx fun r w' => r = .returned (.int .i64 V) ∧ Below wx.heap.size wx w') :
    Calls Tryd.prog 9 #[opOf1 5 (.slice p n cap) (.slice q k cap') M C N] w fun r w' => NTold ⟨0, 0, V, false, 0⟩ w r w' := by
  simp only [opOf1, NTold, ansOf1]
  have H := hid H
  go_enter Tryd.func9, Tryd.ntmps9
  go_wp2_with fail
  refine (H.out _ (alloc3_belowN _ _ _ _)).mono ?_
  rintro r w' ⟨rfl, hw⟩
  obtain ⟨g2, g3⟩ := mid_keptN hw
  obtain ⟨⟨a0, a1, a2, a3, a4⟩, af⟩ := row_cells5 g2
  obtain ⟨⟨b0, b1, b2, b3, b4⟩, bf⟩ := row_cells5 g3
  have af0 := af 0
  have bf0 := bf 0
  have af1 := af 1
  have bf1 := bf 1
  have af2 := af 2
  have bf2 := bf 2
  have af3 := af 3
  have bf3 := bf 3
  have af4 := af 4
  have bf4 := bf 4
  have HB := hid ((alloc3_belowN _ _ _ _).trans (hw.mono (alloc3_belowN _ _ _ _).size))
  have G2 := hid g2
  clear H hw g2 g3 af bf
  go_wp2_with fail
  (try simp only [Exit.inBlock, Exit.then])
  refine bodyPost_ret (results_cell_row rfl _ _ (w.heap.size + 1) 34 _ (0, 0) _ rfl (set_row5 (by repeat (first | (with_reducible exact G2.out) | (with_reducible refine set_farN ?_ (by omega))))) Tryd.underlying34 rfl (by kernel_rfl)) rfl ?_
  exact ⟨none, [], rfl, lt_nil _ _, by repeat (first | (with_reducible exact HB.out) | (with_reducible refine set_belowN ?_ (by omega)))⟩

set_option maxRecDepth 100000 in
set_option maxHeartbeats 4000000 in
theorem nwanted5 (p q : Option Addr) (n k cap cap' : Nat) (M C N : Int) (w : World) (V : Int)
    (H : ∀ wx : World, Below w.heap.size w wx → Calls Tryd.prog 19 #[.slice p n cap, .int .i64 N] wx fun r w' => r = .returned (.int .i64 V) ∧ Below wx.heap.size wx w') :
    Calls Tryd.prog 8 #[opOf1 5 (.slice p n cap) (.slice q k cap') M C N] w fun r w' => NTold ⟨0, 0, V, false, 0⟩ w r w' := by
  simp only [opOf1, NTold, ansOf1]
  have H := hid H
  go_enter Tryd.func8, Tryd.ntmps8
  go_wp2_with fail
  refine (H.out _ (alloc3_belowN _ _ _ _)).mono ?_
  rintro r w' ⟨rfl, hw⟩
  obtain ⟨g2, g3⟩ := mid_keptN hw
  obtain ⟨⟨a0, a1, a2, a3, a4⟩, af⟩ := row_cells5 g2
  obtain ⟨⟨b0, b1, b2, b3, b4⟩, bf⟩ := row_cells5 g3
  have af0 := af 0
  have bf0 := bf 0
  have af1 := af 1
  have bf1 := bf 1
  have af2 := af 2
  have bf2 := bf 2
  have af3 := af 3
  have bf3 := bf 3
  have af4 := af 4
  have bf4 := bf 4
  have HB := hid ((alloc3_belowN _ _ _ _).trans (hw.mono (alloc3_belowN _ _ _ _).size))
  have G2 := hid g2
  clear H hw g2 g3 af bf
  go_wp2_with fail
  (try simp only [Exit.inBlock, Exit.then])
  refine bodyPost_ret (results_cell_row rfl _ _ (w.heap.size + 1) 34 _ (0, 0) _ rfl (set_row5 (by repeat (first | (with_reducible exact G2.out) | (with_reducible refine set_farN ?_ (by omega))))) Tryd.underlying34 rfl (by kernel_rfl)) rfl ?_
  exact ⟨none, [], rfl, lt_nil _ _, by repeat (first | (with_reducible exact HB.out) | (with_reducible refine set_belowN ?_ (by omega)))⟩

set_option maxRecDepth 100000 in
set_option maxHeartbeats 4000000 in
theorem nasked6 (p q : Option Addr) (n k cap cap' : Nat) (M C N : Int) (w : World) (V : Int)
    (H : ∀ wx : World, Below w.heap.size w wx → Calls Tryd.prog 36 #[.slice p n cap] wx fun r w' => r = .returned (.int .i64 V) ∧ Below wx.heap.size wx w') :
    Calls Tryd.prog 9 #[opOf1 6 (.slice p n cap) (.slice q k cap') M C N] w fun r w' => NTold ⟨0, 0, V, false, 0⟩ w r w' := by
  simp only [opOf1, NTold, ansOf1]
  have H := hid H
  go_enter Tryd.func9, Tryd.ntmps9
  go_wp2_with fail
  refine (H.out _ (alloc3_belowN _ _ _ _)).mono ?_
  rintro r w' ⟨rfl, hw⟩
  obtain ⟨g2, g3⟩ := mid_keptN hw
  obtain ⟨⟨a0, a1, a2, a3, a4⟩, af⟩ := row_cells5 g2
  obtain ⟨⟨b0, b1, b2, b3, b4⟩, bf⟩ := row_cells5 g3
  have af0 := af 0
  have bf0 := bf 0
  have af1 := af 1
  have bf1 := bf 1
  have af2 := af 2
  have bf2 := bf 2
  have af3 := af 3
  have bf3 := bf 3
  have af4 := af 4
  have bf4 := bf 4
  have HB := hid ((alloc3_belowN _ _ _ _).trans (hw.mono (alloc3_belowN _ _ _ _).size))
  have G2 := hid g2
  clear H hw g2 g3 af bf
  go_wp2_with fail
  (try simp only [Exit.inBlock, Exit.then])
  refine bodyPost_ret (results_cell_row rfl _ _ (w.heap.size + 1) 34 _ (0, 0) _ rfl (set_row5 (by repeat (first | (with_reducible exact G2.out) | (with_reducible refine set_farN ?_ (by omega))))) Tryd.underlying34 rfl (by kernel_rfl)) rfl ?_
  exact ⟨none, [], rfl, lt_nil _ _, by repeat (first | (with_reducible exact HB.out) | (with_reducible refine set_belowN ?_ (by omega)))⟩

set_option maxRecDepth 100000 in
set_option maxHeartbeats 4000000 in
theorem nwanted6 (p q : Option Addr) (n k cap cap' : Nat) (M C N : Int) (w : World) (V : Int)
    (H : ∀ wx : World, Below w.heap.size w wx → Calls Tryd.prog 20 #[.slice p n cap] wx fun r w' => r = .returned (.int .i64 V) ∧ Below wx.heap.size wx w') :
    Calls Tryd.prog 8 #[opOf1 6 (.slice p n cap) (.slice q k cap') M C N] w fun r w' => NTold ⟨0, 0, V, false, 0⟩ w r w' := by
  simp only [opOf1, NTold, ansOf1]
  have H := hid H
  go_enter Tryd.func8, Tryd.ntmps8
  go_wp2_with fail
  refine (H.out _ (alloc3_belowN _ _ _ _)).mono ?_
  rintro r w' ⟨rfl, hw⟩
  obtain ⟨g2, g3⟩ := mid_keptN hw
  obtain ⟨⟨a0, a1, a2, a3, a4⟩, af⟩ := row_cells5 g2
  obtain ⟨⟨b0, b1, b2, b3, b4⟩, bf⟩ := row_cells5 g3
  have af0 := af 0
  have bf0 := bf 0
  have af1 := af 1
  have bf1 := bf 1
  have af2 := af 2
  have bf2 := bf 2
  have af3 := af 3
  have bf3 := bf 3
  have af4 := af 4
  have bf4 := bf 4
  have HB := hid ((alloc3_belowN _ _ _ _).trans (hw.mono (alloc3_belowN _ _ _ _).size))
  have G2 := hid g2
  clear H hw g2 g3 af bf
  go_wp2_with fail
  (try simp only [Exit.inBlock, Exit.then])
  refine bodyPost_ret (results_cell_row rfl _ _ (w.heap.size + 1) 34 _ (0, 0) _ rfl (set_row5 (by repeat (first | (with_reducible exact G2.out) | (with_reducible refine set_farN ?_ (by omega))))) Tryd.underlying34 rfl (by kernel_rfl)) rfl ?_
  exact ⟨none, [], rfl, lt_nil _ _, by repeat (first | (with_reducible exact HB.out) | (with_reducible refine set_belowN ?_ (by omega)))⟩

set_option maxRecDepth 100000 in
set_option maxHeartbeats 4000000 in
theorem nasked7 (p q : Option Addr) (n k cap cap' : Nat) (M C N : Int) (w : World) (V : Int)
    (H : ∀ wx : World, Below w.heap.size w wx → Calls Tryd.prog 37 #[.slice p n cap, .slice q k cap'] wx fun r w' => r = .returned (.int .i64 V) ∧ Below wx.heap.size wx w') :
    Calls Tryd.prog 9 #[opOf1 7 (.slice p n cap) (.slice q k cap') M C N] w fun r w' => NTold ⟨0, 0, V, false, 0⟩ w r w' := by
  simp only [opOf1, NTold, ansOf1]
  have H := hid H
  go_enter Tryd.func9, Tryd.ntmps9
  go_wp2_with fail
  refine (H.out _ (alloc3_belowN _ _ _ _)).mono ?_
  rintro r w' ⟨rfl, hw⟩
  obtain ⟨g2, g3⟩ := mid_keptN hw
  obtain ⟨⟨a0, a1, a2, a3, a4⟩, af⟩ := row_cells5 g2
  obtain ⟨⟨b0, b1, b2, b3, b4⟩, bf⟩ := row_cells5 g3
  have af0 := af 0
  have bf0 := bf 0
  have af1 := af 1
  have bf1 := bf 1
  have af2 := af 2
  have bf2 := bf 2
  have af3 := af 3
  have bf3 := bf 3
  have af4 := af 4
  have bf4 := bf 4
  have HB := hid ((alloc3_belowN _ _ _ _).trans (hw.mono (alloc3_belowN _ _ _ _).size))
  have G2 := hid g2
  clear H hw g2 g3 af bf
  go_wp2_with fail
  (try simp only [Exit.inBlock, Exit.then])
  refine bodyPost_ret (results_cell_row rfl _ _ (w.heap.size + 1) 34 _ (0, 0) _ rfl (set_row5 (by repeat (first | (with_reducible exact G2.out) | (with_reducible refine set_farN ?_ (by omega))))) Tryd.underlying34 rfl (by kernel_rfl)) rfl ?_
  exact ⟨none, [], rfl, lt_nil _ _, by repeat (first | (with_reducible exact HB.out) | (with_reducible refine set_belowN ?_ (by omega)))⟩

set_option maxRecDepth 100000 in
set_option maxHeartbeats 4000000 in
theorem nwanted7 (p q : Option Addr) (n k cap cap' : Nat) (M C N : Int) (w : World) (V : Int)
    (H : ∀ wx : World, Below w.heap.size w wx → Calls Tryd.prog 21 #[.slice p n cap, .slice q k cap'] wx fun r w' => r = .returned (.int .i64 V) ∧ Below wx.heap.size wx w') :
    Calls Tryd.prog 8 #[opOf1 7 (.slice p n cap) (.slice q k cap') M C N] w fun r w' => NTold ⟨0, 0, V, false, 0⟩ w r w' := by
  simp only [opOf1, NTold, ansOf1]
  have H := hid H
  go_enter Tryd.func8, Tryd.ntmps8
  go_wp2_with fail
  refine (H.out _ (alloc3_belowN _ _ _ _)).mono ?_
  rintro r w' ⟨rfl, hw⟩
  obtain ⟨g2, g3⟩ := mid_keptN hw
  obtain ⟨⟨a0, a1, a2, a3, a4⟩, af⟩ := row_cells5 g2
  obtain ⟨⟨b0, b1, b2, b3, b4⟩, bf⟩ := row_cells5 g3
  have af0 := af 0
  have bf0 := bf 0
  have af1 := af 1
  have bf1 := bf 1
  have af2 := af 2
  have bf2 := bf 2
  have af3 := af 3
  have bf3 := bf 3
  have af4 := af 4
  have bf4 := bf 4
  have HB := hid ((alloc3_belowN _ _ _ _).trans (hw.mono (alloc3_belowN _ _ _ _).size))
  have G2 := hid g2
  clear H hw g2 g3 af bf
  go_wp2_with fail
  (try simp only [Exit.inBlock, Exit.then])
  refine bodyPost_ret (results_cell_row rfl _ _ (w.heap.size + 1) 34 _ (0, 0) _ rfl (set_row5 (by repeat (first | (with_reducible exact G2.out) | (with_reducible refine set_farN ?_ (by omega))))) Tryd.underlying34 rfl (by kernel_rfl)) rfl ?_
  exact ⟨none, [], rfl, lt_nil _ _, by repeat (first | (with_reducible exact HB.out) | (with_reducible refine set_belowN ?_ (by omega)))⟩

set_option maxRecDepth 100000 in
set_option maxHeartbeats 4000000 in
theorem nasked8 (p q : Option Addr) (n k cap cap' : Nat) (M C N : Int) (w : World) (v E : Int)
    (H : ∀ wx : World, Below w.heap.size w wx → Calls Tryd.prog 13 #[.slice p n cap, .slice q k cap'] wx fun r w' => ∃ pl os, r = .returned (.tuple #[.slice pl (List.length os) (List.length os), .int .i64 E]) ∧ LT wx w' pl os v ∧ Below wx.heap.size wx w') :
    Calls Tryd.prog 9 #[opOf1 8 (.slice p n cap) (.slice q k cap') M C N] w fun r w' => NTold ⟨v, 0, 0, false, E⟩ w r w' := by
  simp only [opOf1, NTold, ansOf1]
  have H := hid H
  go_enter Tryd.func9, Tryd.ntmps9
  go_wp2_with fail
  refine (H.out _ (alloc3_belowN _ _ _ _)).mono ?_
  rintro r w' ⟨pl, os, rfl, ⟨hA, hL⟩, hw⟩
  have HA : Hid (Ans (w.heap.size + 3) w' pl os v) := by
    have e := hA
    simp at e
    exact e
  have HL := hid hL
  clear hA hL
  obtain ⟨g2, g3⟩ := mid_keptN hw
  obtain ⟨⟨a0, a1, a2, a3, a4⟩, af⟩ := row_cells5 g2
  obtain ⟨⟨b0, b1, b2, b3, b4⟩, bf⟩ := row_cells5 g3
  have af0 := af 0
  have bf0 := bf 0
  have af1 := af 1
  have bf1 := bf 1
  have af2 := af 2
  have bf2 := bf 2
  have af3 := af 3
  have bf3 := bf 3
  have af4 := af 4
  have bf4 := bf 4
  have HB := hid ((alloc3_belowN _ _ _ _).trans (hw.mono (alloc3_belowN _ _ _ _).size))
  have G2 := hid g2
  clear H hw g2 g3 af bf
  go_wp2_with fail
  (try simp only [Exit.inBlock, Exit.then])
  refine bodyPost_ret (results_cell_row rfl _ _ (w.heap.size + 1) 34 _ (0, 0) _ rfl (set_row5 (by repeat (first | (with_reducible exact G2.out) | (with_reducible refine set_farN ?_ (by omega))))) Tryd.underlying34 rfl (by kernel_rfl)) rfl ?_
  exact ⟨pl, os, rfl, ⟨Ans.upN (B := w.heap.size + 3) (by repeat (first | (with_reducible exact HA.out) | (with_reducible refine ans_setN ?_ (by omega) _))) (by omega), HL.out⟩, by repeat (first | (with_reducible exact HB.out) | (with_reducible refine set_belowN ?_ (by omega)))⟩

set_option maxRecDepth 100000 in
set_option maxHeartbeats 4000000 in
theorem nwanted8 (p q : Option Addr) (n k cap cap' : Nat) (M C N : Int) (w : World) (v E : Int)
    (H : ∀ wx : World, Below w.heap.size w wx → Calls Tryd.prog 22 #[.slice p n cap, .slice q k cap'] wx fun r w' => ∃ pl os, r = .returned (.tuple #[.slice pl (List.length os) (List.length os), .int .i64 E]) ∧ LT wx w' pl os v ∧ Below wx.heap.size wx w') :
    Calls Tryd.prog 8 #[opOf1 8 (.slice p n cap) (.slice q k cap') M C N] w fun r w' => NTold ⟨v, 0, 0, false, E⟩ w r w' := by
  simp only [opOf1, NTold, ansOf1]
  have H := hid H
  go_enter Tryd.func8, Tryd.ntmps8
  go_wp2_with fail
  refine (H.out _ (alloc3_belowN _ _ _ _)).mono ?_
  rintro r w' ⟨pl, os, rfl, ⟨hA, hL⟩, hw⟩
  have HA : Hid (Ans (w.heap.size + 3) w' pl os v) := by
    have e := hA
    simp at e
    exact e
  have HL := hid hL
  clear hA hL
  obtain ⟨g2, g3⟩ := mid_keptN hw
  obtain ⟨⟨a0, a1, a2, a3, a4⟩, af⟩ := row_cells5 g2
  obtain ⟨⟨b0, b1, b2, b3, b4⟩, bf⟩ := row_cells5 g3
  have af0 := af 0
  have bf0 := bf 0
  have af1 := af 1
  have bf1 := bf 1
  have af2 := af 2
  have bf2 := bf 2
  have af3 := af 3
  have bf3 := bf 3
  have af4 := af 4
  have bf4 := bf 4
  have HB := hid ((alloc3_belowN _ _ _ _).trans (hw.mono (alloc3_belowN _ _ _ _).size))
  have G2 := hid g2
  clear H hw g2 g3 af bf
  go_wp2_with fail
  (try simp only [Exit.inBlock, Exit.then])
  refine bodyPost_ret (results_cell_row rfl _ _ (w.heap.size + 1) 34 _ (0, 0) _ rfl (set_row5 (by repeat (first | (with_reducible exact G2.out) | (with_reducible refine set_farN ?_ (by omega))))) Tryd.underlying34 rfl (by kernel_rfl)) rfl ?_
  exact ⟨pl, os, rfl, ⟨Ans.upN (B := w.heap.size + 3) (by repeat (first | (with_reducible exact HA.out) | (with_reducible refine ans_setN ?_ (by omega) _))) (by omega), HL.out⟩, by repeat (first | (with_reducible exact HB.out) | (with_reducible refine set_belowN ?_ (by omega)))⟩

end Go.Proofs.YtmglogncpfoldaaDoor

/-
  asked and wanted: kinds 9, 10, 11, 12 (made by mknask.py).
-/
namespace Go.Proofs.YtmglogncpfoldaaDoor
open Go Go.RowKit Go.Deep

set_option maxRecDepth 100000 in
set_option maxHeartbeats 4000000 in
theorem nasked9 (p q : Option Addr) (n k cap cap' : Nat) (M C N : Int) (w : World) (v E : Int)
    (H : ∀ wx : World, Below w.heap.size w wx → Calls Tryd.prog 38 #[.slice p n cap, .slice q k cap'] wx fun r w' => ∃ pl os, r = .returned (.tuple #[.slice pl (List.length os) (List.length os), .int .i64 E]) ∧ LT wx w' pl os v ∧ Below wx.heap.size wx w') :
    Calls Tryd.prog 9 #[opOf1 9 (.slice p n cap) (.slice q k cap') M C N] w fun r w' => NTold ⟨v, 0, 0, false, E⟩ w r w' := by
  simp only [opOf1, NTold, ansOf1]
  have H := hid H
  go_enter Tryd.func9, Tryd.ntmps9
  go_wp2_with fail
  refine (H.out _ (alloc3_belowN _ _ _ _)).mono ?_
  rintro r w' ⟨pl, os, rfl, ⟨hA, hL⟩, hw⟩
  have HA : Hid (Ans (w.heap.size + 3) w' pl os v) := by
    have e := hA
    simp at e
    exact e
  have HL := hid hL
  clear hA hL
  obtain ⟨g2, g3⟩ := mid_keptN hw
  obtain ⟨⟨a0, a1, a2, a3, a4⟩, af⟩ := row_cells5 g2
  obtain ⟨⟨b0, b1, b2, b3, b4⟩, bf⟩ := row_cells5 g3
  have af0 := af 0
  have bf0 := bf 0
  have af1 := af 1
  have bf1 := bf 1
  have af2 := af 2
  have bf2 := bf 2
  have af3 := af 3
  have bf3 := bf 3
  have af4 := af 4
  have bf4 := bf 4
  have HB := hid ((alloc3_belowN _ _ _ _).trans (hw.mono (alloc3_belowN _ _ _ _).size))
  have G2 := hid g2
  clear H hw g2 g3 af bf
  go_wp2_with fail
  (try simp only [Exit.inBlock, Exit.then])
  refine bodyPost_ret (results_cell_row rfl _ _ (w.heap.size + 1) 34 _ (0, 0) _ rfl (set_row5 (by repeat (first | (with_reducible exact G2.out) | (with_reducible refine set_farN ?_ (by omega))))) Tryd.underlying34 rfl (by kernel_rfl)) rfl ?_
  exact ⟨pl, os, rfl, ⟨Ans.upN (B := w.heap.size + 3) (by repeat (first | (with_reducible exact HA.out) | (with_reducible refine ans_setN ?_ (by omega) _))) (by omega), HL.out⟩, by repeat (first | (with_reducible exact HB.out) | (with_reducible refine set_belowN ?_ (by omega)))⟩

set_option maxRecDepth 100000 in
set_option maxHeartbeats 4000000 in
theorem nwanted9 (p q : Option Addr) (n k cap cap' : Nat) (M C N : Int) (w : World) (v E : Int)
    (H : ∀ wx : World, Below w.heap.size w wx → Calls Tryd.prog 23 #[.slice p n cap, .slice q k cap'] wx fun r w' => ∃ pl os, r = .returned (.tuple #[.slice pl (List.length os) (List.length os), .int .i64 E]) ∧ LT wx w' pl os v ∧ Below wx.heap.size wx w') :
    Calls Tryd.prog 8 #[opOf1 9 (.slice p n cap) (.slice q k cap') M C N] w fun r w' => NTold ⟨v, 0, 0, false, E⟩ w r w' := by
  simp only [opOf1, NTold, ansOf1]
  have H := hid H
  go_enter Tryd.func8, Tryd.ntmps8
  go_wp2_with fail
  refine (H.out _ (alloc3_belowN _ _ _ _)).mono ?_
  rintro r w' ⟨pl, os, rfl, ⟨hA, hL⟩, hw⟩
  have HA : Hid (Ans (w.heap.size + 3) w' pl os v) := by
    have e := hA
    simp at e
    exact e
  have HL := hid hL
  clear hA hL
  obtain ⟨g2, g3⟩ := mid_keptN hw
  obtain ⟨⟨a0, a1, a2, a3, a4⟩, af⟩ := row_cells5 g2
  obtain ⟨⟨b0, b1, b2, b3, b4⟩, bf⟩ := row_cells5 g3
  have af0 := af 0
  have bf0 := bf 0
  have af1 := af 1
  have bf1 := bf 1
  have af2 := af 2
  have bf2 := bf 2
  have af3 := af 3
  have bf3 := bf 3
  have af4 := af 4
  have bf4 := bf 4
  have HB := hid ((alloc3_belowN _ _ _ _).trans (hw.mono (alloc3_belowN _ _ _ _).size))
  have G2 := hid g2
  clear H hw g2 g3 af bf
  go_wp2_with fail
  (try simp only [Exit.inBlock, Exit.then])
  refine bodyPost_ret (results_cell_row rfl _ _ (w.heap.size + 1) 34 _ (0, 0) _ rfl (set_row5 (by repeat (first | (with_reducible exact G2.out) | (with_reducible refine set_farN ?_ (by omega))))) Tryd.underlying34 rfl (by kernel_rfl)) rfl ?_
  exact ⟨pl, os, rfl, ⟨Ans.upN (B := w.heap.size + 3) (by repeat (first | (with_reducible exact HA.out) | (with_reducible refine ans_setN ?_ (by omega) _))) (by omega), HL.out⟩, by repeat (first | (with_reducible exact HB.out) | (with_reducible refine set_belowN ?_ (by omega)))⟩

set_option maxRecDepth 100000 in
set_option maxHeartbeats 4000000 in
theorem nasked10 (p q : Option Addr) (n k cap cap' : Nat) (M C N : Int) (w : World) (v E : Int)
    (H : ∀ wx : World, Below w.heap.size w wx → Calls Tryd.prog 14 #[.slice p n cap, .slice q k cap'] wx fun r w' => ∃ pl os, r = .returned (.tuple #[.slice pl (List.length os) (List.length os), .int .i64 E]) ∧ LT wx w' pl os v ∧ Below wx.heap.size wx w') :
    Calls Tryd.prog 9 #[opOf1 10 (.slice p n cap) (.slice q k cap') M C N] w fun r w' => NTold ⟨v, 0, 0, false, E⟩ w r w' := by
  simp only [opOf1, NTold, ansOf1]
  have H := hid H
  go_enter Tryd.func9, Tryd.ntmps9
  go_wp2_with fail
  refine (H.out _ (alloc3_belowN _ _ _ _)).mono ?_
  rintro r w' ⟨pl, os, rfl, ⟨hA, hL⟩, hw⟩
  have HA : Hid (Ans (w.heap.size + 3) w' pl os v) := by
    have e := hA
    simp at e
    exact e
  have HL := hid hL
  clear hA hL
  obtain ⟨g2, g3⟩ := mid_keptN hw
  obtain ⟨⟨a0, a1, a2, a3, a4⟩, af⟩ := row_cells5 g2
  obtain ⟨⟨b0, b1, b2, b3, b4⟩, bf⟩ := row_cells5 g3
  have af0 := af 0
  have bf0 := bf 0
  have af1 := af 1
  have bf1 := bf 1
  have af2 := af 2
  have bf2 := bf 2
  have af3 := af 3
  have bf3 := bf 3
  have af4 := af 4
  have bf4 := bf 4
  have HB := hid ((alloc3_belowN _ _ _ _).trans (hw.mono (alloc3_belowN _ _ _ _).size))
  have G2 := hid g2
  clear H hw g2 g3 af bf
  go_wp2_with fail
  (try simp only [Exit.inBlock, Exit.then])
  refine bodyPost_ret (results_cell_row rfl _ _ (w.heap.size + 1) 34 _ (0, 0) _ rfl (set_row5 (by repeat (first | (with_reducible exact G2.out) | (with_reducible refine set_farN ?_ (by omega))))) Tryd.underlying34 rfl (by kernel_rfl)) rfl ?_
  exact ⟨pl, os, rfl, ⟨Ans.upN (B := w.heap.size + 3) (by repeat (first | (with_reducible exact HA.out) | (with_reducible refine ans_setN ?_ (by omega) _))) (by omega), HL.out⟩, by repeat (first | (with_reducible exact HB.out) | (with_reducible refine set_belowN ?_ (by omega)))⟩

set_option maxRecDepth 100000 in
set_option maxHeartbeats 4000000 in
theorem nwanted10 (p q : Option Addr) (n k cap cap' : Nat) (M C N : Int) (w : World) (v E : Int)
    (H : ∀ wx : World, Below w.heap.size w wx → Calls Tryd.prog 24 #[.slice p n cap, .slice q k cap'] wx fun r w' => ∃ pl os, r = .returned (.tuple #[.slice pl (List.length os) (List.length os), .int .i64 E]) ∧ LT wx w' pl os v ∧ Below wx.heap.size wx w') :
    Calls Tryd.prog 8 #[opOf1 10 (.slice p n cap) (.slice q k cap') M C N] w fun r w' => NTold ⟨v, 0, 0, false, E⟩ w r w' := by
  simp only [opOf1, NTold, ansOf1]
  have H := hid H
  go_enter Tryd.func8, Tryd.ntmps8
  go_wp2_with fail
  refine (H.out _ (alloc3_belowN _ _ _ _)).mono ?_
  rintro r w' ⟨pl, os, rfl, ⟨hA, hL⟩, hw⟩
  have HA : Hid (Ans (w.heap.size + 3) w' pl os v) := by
    have e := hA
    simp at e
    exact e
  have HL := hid hL
  clear hA hL
  obtain ⟨g2, g3⟩ := mid_keptN hw
  obtain ⟨⟨a0, a1, a2, a3, a4⟩, af⟩ := row_cells5 g2
  obtain ⟨⟨b0, b1, b2, b3, b4⟩, bf⟩ := row_cells5 g3
  have af0 := af 0
  have bf0 := bf 0
  have af1 := af 1
  have bf1 := bf 1
  have af2 := af 2
  have bf2 := bf 2
  have af3 := af 3
  have bf3 := bf 3
  have af4 := af 4
  have bf4 := bf 4
  have HB := hid ((alloc3_belowN _ _ _ _).trans (hw.mono (alloc3_belowN _ _ _ _).size))
  have G2 := hid g2
  clear H hw g2 g3 af bf
  go_wp2_with fail
  (try simp only [Exit.inBlock, Exit.then])
  refine bodyPost_ret (results_cell_row rfl _ _ (w.heap.size + 1) 34 _ (0, 0) _ rfl (set_row5 (by repeat (first | (with_reducible exact G2.out) | (with_reducible refine set_farN ?_ (by omega))))) Tryd.underlying34 rfl (by kernel_rfl)) rfl ?_
  exact ⟨pl, os, rfl, ⟨Ans.upN (B := w.heap.size + 3) (by repeat (first | (with_reducible exact HA.out) | (with_reducible refine ans_setN ?_ (by omega) _))) (by omega), HL.out⟩, by repeat (first | (with_reducible exact HB.out) | (with_reducible refine set_belowN ?_ (by omega)))⟩

set_option maxRecDepth 100000 in
set_option maxHeartbeats 4000000 in
theorem nasked11 (p q : Option Addr) (n k cap cap' : Nat) (M C N : Int) (w : World) (v E : Int)
    (H : ∀ wx : World, Below w.heap.size w wx → Calls Tryd.prog 39 #[.slice p n cap, .int .u64 M, .int .u64 C] wx fun r w' => ∃ pl os, r = .returned (.tuple #[.slice pl (List.length os) (List.length os), .int .i64 E]) ∧ LT wx w' pl os v ∧ Below wx.heap.size wx w') :
    Calls Tryd.prog 9 #[opOf1 11 (.slice p n cap) (.slice q k cap') M C N] w fun r w' => NTold ⟨v, 0, 0, false, E⟩ w r w' := by
  simp only [opOf1, NTold, ansOf1]
  have H := hid H
  go_enter Tryd.func9, Tryd.ntmps9
  go_wp2_with fail
  refine (H.out _ (alloc3_belowN _ _ _ _)).mono ?_
  rintro r w' ⟨pl, os, rfl, ⟨hA, hL⟩, hw⟩
  have HA : Hid (Ans (w.heap.size + 3) w' pl os v) := by
    have e := hA
    simp at e
    exact e
  have HL := hid hL
  clear hA hL
  obtain ⟨g2, g3⟩ := mid_keptN hw
  obtain ⟨⟨a0, a1, a2, a3, a4⟩, af⟩ := row_cells5 g2
  obtain ⟨⟨b0, b1, b2, b3, b4⟩, bf⟩ := row_cells5 g3
  have af0 := af 0
  have bf0 := bf 0
  have af1 := af 1
  have bf1 := bf 1
  have af2 := af 2
  have bf2 := bf 2
  have af3 := af 3
  have bf3 := bf 3
  have af4 := af 4
  have bf4 := bf 4
  have HB := hid ((alloc3_belowN _ _ _ _).trans (hw.mono (alloc3_belowN _ _ _ _).size))
  have G2 := hid g2
  clear H hw g2 g3 af bf
  go_wp2_with fail
  (try simp only [Exit.inBlock, Exit.then])
  refine bodyPost_ret (results_cell_row rfl _ _ (w.heap.size + 1) 34 _ (0, 0) _ rfl (set_row5 (by repeat (first | (with_reducible exact G2.out) | (with_reducible refine set_farN ?_ (by omega))))) Tryd.underlying34 rfl (by kernel_rfl)) rfl ?_
  exact ⟨pl, os, rfl, ⟨Ans.upN (B := w.heap.size + 3) (by repeat (first | (with_reducible exact HA.out) | (with_reducible refine ans_setN ?_ (by omega) _))) (by omega), HL.out⟩, by repeat (first | (with_reducible exact HB.out) | (with_reducible refine set_belowN ?_ (by omega)))⟩

set_option maxRecDepth 100000 in
set_option maxHeartbeats 4000000 in
theorem nwanted11 (p q : Option Addr) (n k cap cap' : Nat) (M C N : Int) (w : World) (v E : Int)
    (H : ∀ wx : World, Below w.heap.size w wx → Calls Tryd.prog 25 #[.slice p n cap, .int .u64 M, .int .u64 C] wx fun r w' => ∃ pl os, r = .returned (.tuple #[.slice pl (List.length os) (List.length os), .int .i64 E]) ∧ LT wx w' pl os v ∧ Below wx.heap.size wx w') :
    Calls Tryd.prog 8 #[opOf1 11 (.slice p n cap) (.slice q k cap') M C N] w fun r w' => NTold ⟨v, 0, 0, false, E⟩ w r w' := by
  simp only [opOf1, NTold, ansOf1]
  have H := hid H
  go_enter Tryd.func8, Tryd.ntmps8
  go_wp2_with fail
  refine (H.out _ (alloc3_belowN _ _ _ _)).mono ?_
  rintro r w' ⟨pl, os, rfl, ⟨hA, hL⟩, hw⟩
  have HA : Hid (Ans (w.heap.size + 3) w' pl os v) := by
    have e := hA
    simp at e
    exact e
  have HL := hid hL
  clear hA hL
  obtain ⟨g2, g3⟩ := mid_keptN hw
  obtain ⟨⟨a0, a1, a2, a3, a4⟩, af⟩ := row_cells5 g2
  obtain ⟨⟨b0, b1, b2, b3, b4⟩, bf⟩ := row_cells5 g3
  have af0 := af 0
  have bf0 := bf 0
  have af1 := af 1
  have bf1 := bf 1
  have af2 := af 2
  have bf2 := bf 2
  have af3 := af 3
  have bf3 := bf 3
  have af4 := af 4
  have bf4 := bf 4
  have HB := hid ((alloc3_belowN _ _ _ _).trans (hw.mono (alloc3_belowN _ _ _ _).size))
  have G2 := hid g2
  clear H hw g2 g3 af bf
  go_wp2_with fail
  (try simp only [Exit.inBlock, Exit.then])
  refine bodyPost_ret (results_cell_row rfl _ _ (w.heap.size + 1) 34 _ (0, 0) _ rfl (set_row5 (by repeat (first | (with_reducible exact G2.out) | (with_reducible refine set_farN ?_ (by omega))))) Tryd.underlying34 rfl (by kernel_rfl)) rfl ?_
  exact ⟨pl, os, rfl, ⟨Ans.upN (B := w.heap.size + 3) (by repeat (first | (with_reducible exact HA.out) | (with_reducible refine ans_setN ?_ (by omega) _))) (by omega), HL.out⟩, by repeat (first | (with_reducible exact HB.out) | (with_reducible refine set_belowN ?_ (by omega)))⟩

set_option maxRecDepth 100000 in
set_option maxHeartbeats 4000000 in
theorem nasked12 (p q : Option Addr) (n k cap cap' : Nat) (M C N : Int) (w : World) (v U E : Int)
    (H : ∀ wx : World, Below w.heap.size w wx → Calls Tryd.prog 40 #[.slice p n cap, .int .u64 M] wx fun r w' => ∃ pl os, r = .returned (.tuple #[.slice pl (List.length os) (List.length os), .int .u64 U, .int .i64 E]) ∧ LT wx w' pl os v ∧ Below wx.heap.size wx w') :
    Calls Tryd.prog 9 #[opOf1 12 (.slice p n cap) (.slice q k cap') M C N] w fun r w' => NTold ⟨v, U, 0, false, E⟩ w r w' := by
  simp only [opOf1, NTold, ansOf1]
  have H := hid H
  go_enter Tryd.func9, Tryd.ntmps9
  go_wp2_with fail
  refine (H.out _ (alloc3_belowN _ _ _ _)).mono ?_
  rintro r w' ⟨pl, os, rfl, ⟨hA, hL⟩, hw⟩
  have HA : Hid (Ans (w.heap.size + 3) w' pl os v) := by
    have e := hA
    simp at e
    exact e
  have HL := hid hL
  clear hA hL
  obtain ⟨g2, g3⟩ := mid_keptN hw
  obtain ⟨⟨a0, a1, a2, a3, a4⟩, af⟩ := row_cells5 g2
  obtain ⟨⟨b0, b1, b2, b3, b4⟩, bf⟩ := row_cells5 g3
  have af0 := af 0
  have bf0 := bf 0
  have af1 := af 1
  have bf1 := bf 1
  have af2 := af 2
  have bf2 := bf 2
  have af3 := af 3
  have bf3 := bf 3
  have af4 := af 4
  have bf4 := bf 4
  have HB := hid ((alloc3_belowN _ _ _ _).trans (hw.mono (alloc3_belowN _ _ _ _).size))
  have G2 := hid g2
  clear H hw g2 g3 af bf
  go_wp2_with fail
  (try simp only [Exit.inBlock, Exit.then])
  refine bodyPost_ret (results_cell_row rfl _ _ (w.heap.size + 1) 34 _ (0, 0) _ rfl (set_row5 (by repeat (first | (with_reducible exact G2.out) | (with_reducible refine set_farN ?_ (by omega))))) Tryd.underlying34 rfl (by kernel_rfl)) rfl ?_
  exact ⟨pl, os, rfl, ⟨Ans.upN (B := w.heap.size + 3) (by repeat (first | (with_reducible exact HA.out) | (with_reducible refine ans_setN ?_ (by omega) _))) (by omega), HL.out⟩, by repeat (first | (with_reducible exact HB.out) | (with_reducible refine set_belowN ?_ (by omega)))⟩

set_option maxRecDepth 100000 in
set_option maxHeartbeats 4000000 in
theorem nwanted12 (p q : Option Addr) (n k cap cap' : Nat) (M C N : Int) (w : World) (v U E : Int)
    (H : ∀ wx : World, Below w.heap.size w wx → Calls Tryd.prog 26 #[.slice p n cap, .int .u64 M] wx fun r w' => ∃ pl os, r = .returned (.tuple #[.slice pl (List.length os) (List.length os), .int .u64 U, .int .i64 E]) ∧ LT wx w' pl os v ∧ Below wx.heap.size wx w') :
    Calls Tryd.prog 8 #[opOf1 12 (.slice p n cap) (.slice q k cap') M C N] w fun r w' => NTold ⟨v, U, 0, false, E⟩ w r w' := by
  simp only [opOf1, NTold, ansOf1]
  have H := hid H
  go_enter Tryd.func8, Tryd.ntmps8
  go_wp2_with fail
  refine (H.out _ (alloc3_belowN _ _ _ _)).mono ?_
  rintro r w' ⟨pl, os, rfl, ⟨hA, hL⟩, hw⟩
  have HA : Hid (Ans (w.heap.size + 3) w' pl os v) := by
    have e := hA
    simp at e
    exact e
  have HL := hid hL
  clear hA hL
  obtain ⟨g2, g3⟩ := mid_keptN hw
  obtain ⟨⟨a0, a1, a2, a3, a4⟩, af⟩ := row_cells5 g2
  obtain ⟨⟨b0, b1, b2, b3, b4⟩, bf⟩ := row_cells5 g3
  have af0 := af 0
  have bf0 := bf 0
  have af1 := af 1
  have bf1 := bf 1
  have af2 := af 2
  have bf2 := bf 2
  have af3 := af 3
  have bf3 := bf 3
  have af4 := af 4
  have bf4 := bf 4
  have HB := hid ((alloc3_belowN _ _ _ _).trans (hw.mono (alloc3_belowN _ _ _ _).size))
  have G2 := hid g2
  clear H hw g2 g3 af bf
  go_wp2_with fail
  (try simp only [Exit.inBlock, Exit.then])
  refine bodyPost_ret (results_cell_row rfl _ _ (w.heap.size + 1) 34 _ (0, 0) _ rfl (set_row5 (by repeat (first | (with_reducible exact G2.out) | (with_reducible refine set_farN ?_ (by omega))))) Tryd.underlying34 rfl (by kernel_rfl)) rfl ?_
  exact ⟨pl, os, rfl, ⟨Ans.upN (B := w.heap.size + 3) (by repeat (first | (with_reducible exact HA.out) | (with_reducible refine ans_setN ?_ (by omega) _))) (by omega), HL.out⟩, by repeat (first | (with_reducible exact HB.out) | (with_reducible refine set_belowN ?_ (by omega)))⟩

end Go.Proofs.YtmglogncpfoldaaDoor

/-
  asked and wanted: kinds 13, 14, 16 (made by mknask.py).
-/
namespace Go.Proofs.YtmglogncpfoldaaDoor
open Go Go.RowKit Go.Deep

set_option maxRecDepth 100000 in
set_option maxHeartbeats 4000000 in
theorem nasked13 (p q : Option Addr) (n k cap cap' : Nat) (M C N : Int) (w : World) (v E : Int)
    (H : ∀ wx : World, Below w.heap.size w wx → Calls Tryd.prog 41 #[.slice p n cap, .int .i64 N] wx fun r w' => ∃ pl os, r = .returned (.tuple #[.slice pl (List.length os) (List.length os), .int .i64 E]) ∧ LT wx w' pl os v ∧ Below wx.heap.size wx w') :
    Calls Tryd.prog 9 #[opOf1 13 (.slice p n cap) (.slice q k cap') M C N] w fun r w' => NTold ⟨v, 0, 0, false, E⟩ w r w' := by
  simp only [opOf1, NTold, ansOf1]
  have H := hid H
  go_enter Tryd.func9, Tryd.ntmps9
  go_wp2_with fail
  refine (H.out _ (alloc3_belowN _ _ _ _)).mono ?_
  rintro r w' ⟨pl, os, rfl, ⟨hA, hL⟩, hw⟩
  have HA : Hid (Ans (w.heap.size + 3) w' pl os v) := by
    have e := hA
    simp at e
    exact e
  have HL := hid hL
  clear hA hL
  obtain ⟨g2, g3⟩ := mid_keptN hw
  obtain ⟨⟨a0, a1, a2, a3, a4⟩, af⟩ := row_cells5 g2
  obtain ⟨⟨b0, b1, b2, b3, b4⟩, bf⟩ := row_cells5 g3
  have af0 := af 0
  have bf0 := bf 0
  have af1 := af 1
  have bf1 := bf 1
  have af2 := af 2
  have bf2 := bf 2
  have af3 := af 3
  have bf3 := bf 3
  have af4 := af 4
  have bf4 := bf 4
  have HB := hid ((alloc3_belowN _ _ _ _).trans (hw.mono (alloc3_belowN _ _ _ _).size))
  have G2 := hid g2
  clear H hw g2 g3 af bf
  go_wp2_with fail
  (try simp only [Exit.inBlock, Exit.then])
  refine bodyPost_ret (results_cell_row rfl _ _ (w.heap.size + 1) 34 _ (0, 0) _ rfl (set_row5 (by repeat (first | (with_reducible exact G2.out) | (with_reducible refine set_farN ?_ (by omega))))) Tryd.underlying34 rfl (by kernel_rfl)) rfl ?_
  exact ⟨pl, os, rfl, ⟨Ans.upN (B := w.heap.size + 3) (by repeat (first | (with_reducible exact HA.out) | (with_reducible refine ans_setN ?_ (by omega) _))) (by omega), HL.out⟩, by repeat (first | (with_reducible exact HB.out) | (with_reducible refine set_belowN ?_ (by omega)))⟩

set_option maxRecDepth 100000 in
set_option maxHeartbeats 4000000 in
theorem nwanted13 (p q : Option Addr) (n k cap cap' : Nat) (M C N : Int) (w : World) (v E : Int)
    (H : ∀ wx : World, Below w.heap.size w wx → Calls Tryd.prog 27 #[.slice p n cap, .int .i64 N] wx fun r w' => ∃ pl os, r = .returned (.tuple #[.slice pl (List.length os) (List.length os), .int .i64 E]) ∧ LT wx w' pl os v ∧ Below wx.heap.size wx w') :
    Calls Tryd.prog 8 #[opOf1 13 (.slice p n cap) (.slice q k cap') M C N] w fun r w' => NTold ⟨v, 0, 0, false, E⟩ w r w' := by
  simp only [opOf1, NTold, ansOf1]
  have H := hid H
  go_enter Tryd.func8, Tryd.ntmps8
  go_wp2_with fail
  refine (H.out _ (alloc3_belowN _ _ _ _)).mono ?_
  rintro r w' ⟨pl, os, rfl, ⟨hA, hL⟩, hw⟩
  have HA : Hid (Ans (w.heap.size + 3) w' pl os v) := by
    have e := hA
    simp at e
    exact e
  have HL := hid hL
  clear hA hL
  obtain ⟨g2, g3⟩ := mid_keptN hw
  obtain ⟨⟨a0, a1, a2, a3, a4⟩, af⟩ := row_cells5 g2
  obtain ⟨⟨b0, b1, b2, b3, b4⟩, bf⟩ := row_cells5 g3
  have af0 := af 0
  have bf0 := bf 0
  have af1 := af 1
  have bf1 := bf 1
  have af2 := af 2
  have bf2 := bf 2
  have af3 := af 3
  have bf3 := bf 3
  have af4 := af 4
  have bf4 := bf 4
  have HB := hid ((alloc3_belowN _ _ _ _).trans (hw.mono (alloc3_belowN _ _ _ _).size))
  have G2 := hid g2
  clear H hw g2 g3 af bf
  go_wp2_with fail
  (try simp only [Exit.inBlock, Exit.then])
  refine bodyPost_ret (results_cell_row rfl _ _ (w.heap.size + 1) 34 _ (0, 0) _ rfl (set_row5 (by repeat (first | (with_reducible exact G2.out) | (with_reducible refine set_farN ?_ (by omega))))) Tryd.underlying34 rfl (by kernel_rfl)) rfl ?_
  exact ⟨pl, os, rfl, ⟨Ans.upN (B := w.heap.size + 3) (by repeat (first | (with_reducible exact HA.out) | (with_reducible refine ans_setN ?_ (by omega) _))) (by omega), HL.out⟩, by repeat (first | (with_reducible exact HB.out) | (with_reducible refine set_belowN ?_ (by omega)))⟩

set_option maxRecDepth 100000 in
set_option maxHeartbeats 4000000 in
theorem nasked14 (p q : Option Addr) (n k cap cap' : Nat) (M C N : Int) (w : World) (v : Int) (B : Bool) (E : Int)
    (H : ∀ wx : World, Below w.heap.size w wx → Calls Tryd.prog 42 #[.slice p n cap, .int .i64 N] wx fun r w' => ∃ pl os, r = .returned (.tuple #[.slice pl (List.length os) (List.length os), .bool B, .int .i64 E]) ∧ LT wx w' pl os v ∧ Below wx.heap.size wx w') :
    Calls Tryd.prog 9 #[opOf1 14 (.slice p n cap) (.slice q k cap') M C N] w fun r w' => NTold ⟨v, 0, 0, B, E⟩ w r w' := by
  simp only [opOf1, NTold, ansOf1]
  have H := hid H
  go_enter Tryd.func9, Tryd.ntmps9
  go_wp2_with fail
  refine (H.out _ (alloc3_belowN _ _ _ _)).mono ?_
  rintro r w' ⟨pl, os, rfl, ⟨hA, hL⟩, hw⟩
  have HA : Hid (Ans (w.heap.size + 3) w' pl os v) := by
    have e := hA
    simp at e
    exact e
  have HL := hid hL
  clear hA hL
  obtain ⟨g2, g3⟩ := mid_keptN hw
  obtain ⟨⟨a0, a1, a2, a3, a4⟩, af⟩ := row_cells5 g2
  obtain ⟨⟨b0, b1, b2, b3, b4⟩, bf⟩ := row_cells5 g3
  have af0 := af 0
  have bf0 := bf 0
  have af1 := af 1
  have bf1 := bf 1
  have af2 := af 2
  have bf2 := bf 2
  have af3 := af 3
  have bf3 := bf 3
  have af4 := af 4
  have bf4 := bf 4
  have HB := hid ((alloc3_belowN _ _ _ _).trans (hw.mono (alloc3_belowN _ _ _ _).size))
  have G2 := hid g2
  clear H hw g2 g3 af bf
  go_wp2_with fail
  (try simp only [Exit.inBlock, Exit.then])
  refine bodyPost_ret (results_cell_row rfl _ _ (w.heap.size + 1) 34 _ (0, 0) _ rfl (set_row5 (by repeat (first | (with_reducible exact G2.out) | (with_reducible refine set_farN ?_ (by omega))))) Tryd.underlying34 rfl (by kernel_rfl)) rfl ?_
  exact ⟨pl, os, rfl, ⟨Ans.upN (B := w.heap.size + 3) (by repeat (first | (with_reducible exact HA.out) | (with_reducible refine ans_setN ?_ (by omega) _))) (by omega), HL.out⟩, by repeat (first | (with_reducible exact HB.out) | (with_reducible refine set_belowN ?_ (by omega)))⟩

set_option maxRecDepth 100000 in
set_option maxHeartbeats 4000000 in
theorem nwanted14 (p q : Option Addr) (n k cap cap' : Nat) (M C N : Int) (w : World) (v : Int) (B : Bool) (E : Int)
    (H : ∀ wx : World, Below w.heap.size w wx → Calls Tryd.prog 28 #[.slice p n cap, .int .i64 N] wx fun r w' => ∃ pl os, r = .returned (.tuple #[.slice pl (List.length os) (List.length os), .bool B, .int .i64 E]) ∧ LT wx w' pl os v ∧ Below wx.heap.size wx w') :
    Calls Tryd.prog 8 #[opOf1 14 (.slice p n cap) (.slice q k cap') M C N] w fun r w' => NTold ⟨v, 0, 0, B, E⟩ w r w' := by
  simp only [opOf1, NTold, ansOf1]
  have H := hid H
  go_enter Tryd.func8, Tryd.ntmps8
  go_wp2_with fail
  refine (H.out _ (alloc3_belowN _ _ _ _)).mono ?_
  rintro r w' ⟨pl, os, rfl, ⟨hA, hL⟩, hw⟩
  have HA : Hid (Ans (w.heap.size + 3) w' pl os v) := by
    have e := hA
    simp at e
    exact e
  have HL := hid hL
  clear hA hL
  obtain ⟨g2, g3⟩ := mid_keptN hw
  obtain ⟨⟨a0, a1, a2, a3, a4⟩, af⟩ := row_cells5 g2
  obtain ⟨⟨b0, b1, b2, b3, b4⟩, bf⟩ := row_cells5 g3
  have af0 := af 0
  have bf0 := bf 0
  have af1 := af 1
  have bf1 := bf 1
  have af2 := af 2
  have bf2 := bf 2
  have af3 := af 3
  have bf3 := bf 3
  have af4 := af 4
  have bf4 := bf 4
  have HB := hid ((alloc3_belowN _ _ _ _).trans (hw.mono (alloc3_belowN _ _ _ _).size))
  have G2 := hid g2
  clear H hw g2 g3 af bf
  go_wp2_with fail
  (try simp only [Exit.inBlock, Exit.then])
  refine bodyPost_ret (results_cell_row rfl _ _ (w.heap.size + 1) 34 _ (0, 0) _ rfl (set_row5 (by repeat (first | (with_reducible exact G2.out) | (with_reducible refine set_farN ?_ (by omega))))) Tryd.underlying34 rfl (by kernel_rfl)) rfl ?_
  exact ⟨pl, os, rfl, ⟨Ans.upN (B := w.heap.size + 3) (by repeat (first | (with_reducible exact HA.out) | (with_reducible refine ans_setN ?_ (by omega) _))) (by omega), HL.out⟩, by repeat (first | (with_reducible exact HB.out) | (with_reducible refine set_belowN ?_ (by omega)))⟩

set_option maxRecDepth 100000 in
set_option maxHeartbeats 4000000 in
theorem nasked16 (p q : Option Addr) (n k cap cap' : Nat) (M C N : Int) (w : World) (v E : Int)
    (H : ∀ wx : World, Below w.heap.size w wx → Calls Tryd.prog 44 #[.slice p n cap, .int .i64 N] wx fun r w' => ∃ pl os, r = .returned (.tuple #[.slice pl (List.length os) (List.length os), .int .i64 E]) ∧ LT wx w' pl os v ∧ Below wx.heap.size wx w') :
    Calls Tryd.prog 9 #[opOf1 16 (.slice p n cap) (.slice q k cap') M C N] w fun r w' => NTold ⟨v, 0, 0, false, E⟩ w r w' := by
  simp only [opOf1, NTold, ansOf1]
  have H := hid H
  go_enter Tryd.func9, Tryd.ntmps9
  go_wp2_with fail
  refine (H.out _ (alloc3_belowN _ _ _ _)).mono ?_
  rintro r w' ⟨pl, os, rfl, ⟨hA, hL⟩, hw⟩
  have HA : Hid (Ans (w.heap.size + 3) w' pl os v) := by
    have e := hA
    simp at e
    exact e
  have HL := hid hL
  clear hA hL
  obtain ⟨g2, g3⟩ := mid_keptN hw
  obtain ⟨⟨a0, a1, a2, a3, a4⟩, af⟩ := row_cells5 g2
  obtain ⟨⟨b0, b1, b2, b3, b4⟩, bf⟩ := row_cells5 g3
  have af0 := af 0
  have bf0 := bf 0
  have af1 := af 1
  have bf1 := bf 1
  have af2 := af 2
  have bf2 := bf 2
  have af3 := af 3
  have bf3 := bf 3
  have af4 := af 4
  have bf4 := bf 4
  have HB := hid ((alloc3_belowN _ _ _ _).trans (hw.mono (alloc3_belowN _ _ _ _).size))
  have G2 := hid g2
  clear H hw g2 g3 af bf
  go_wp2_with fail
  (try simp only [Exit.inBlock, Exit.then])
  refine bodyPost_ret (results_cell_row rfl _ _ (w.heap.size + 1) 34 _ (0, 0) _ rfl (set_row5 (by repeat (first | (with_reducible exact G2.out) | (with_reducible refine set_farN ?_ (by omega))))) Tryd.underlying34 rfl (by kernel_rfl)) rfl ?_
  exact ⟨pl, os, rfl, ⟨Ans.upN (B := w.heap.size + 3) (by repeat (first | (with_reducible exact HA.out) | (with_reducible refine ans_setN ?_ (by omega) _))) (by omega), HL.out⟩, by repeat (first | (with_reducible exact HB.out) | (with_reducible refine set_belowN ?_ (by omega)))⟩

set_option maxRecDepth 100000 in
set_option maxHeartbeats 4000000 in
theorem nwanted16 (p q : Option Addr) (n k cap cap' : Nat) (M C N : Int) (w : World) (v E : Int)
    (H : ∀ wx : World, Below w.heap.size w wx → Calls Tryd.prog 30 #[.slice p n cap, .int .i64 N] wx fun r w' => ∃ pl os, r = .returned (.tuple #[.slice pl (List.length os) (List.length os), .int .i64 E]) ∧ LT wx w' pl os v ∧ Below wx.heap.size wx w') :
    Calls Tryd.prog 8 #[opOf1 16 (.slice p n cap) (.slice q k cap') M C N] w fun r w' => NTold ⟨v, 0, 0, false, E⟩ w r w' := by
  simp only [opOf1, NTold, ansOf1]
  have H := hid H
  go_enter Tryd.func8, Tryd.ntmps8
  go_wp2_with fail
  refine (H.out _ (alloc3_belowN _ _ _ _)).mono ?_
  rintro r w' ⟨pl, os, rfl, ⟨hA, hL⟩, hw⟩
  have HA : Hid (Ans (w.heap.size + 3) w' pl os v) := by
    have e := hA
    simp at e
    exact e
  have HL := hid hL
  clear hA hL
  obtain ⟨g2, g3⟩ := mid_keptN hw
  obtain ⟨⟨a0, a1, a2, a3, a4⟩, af⟩ := row_cells5 g2
  obtain ⟨⟨b0, b1, b2, b3, b4⟩, bf⟩ := row_cells5 g3
  have af0 := af 0
  have bf0 := bf 0
  have af1 := af 1
  have bf1 := bf 1
  have af2 := af 2
  have bf2 := bf 2
  have af3 := af 3
  have bf3 := bf 3
  have af4 := af 4
  have bf4 := bf 4
  have HB := hid ((alloc3_belowN _ _ _ _).trans (hw.mono (alloc3_belowN _ _ _ _).size))
  have G2 := hid g2
  clear H hw g2 g3 af bf
  go_wp2_with fail
  (try simp only [Exit.inBlock, Exit.then])
  refine bodyPost_ret (results_cell_row rfl _ _ (w.heap.size + 1) 34 _ (0, 0) _ rfl (set_row5 (by repeat (first | (with_reducible exact G2.out) | (with_reducible refine set_farN ?_ (by omega))))) Tryd.underlying34 rfl (by kernel_rfl)) rfl ?_
  exact ⟨pl, os, rfl, ⟨Ans.upN (B := w.heap.size + 3) (by repeat (first | (with_reducible exact HA.out) | (with_reducible refine ans_setN ?_ (by omega) _))) (by omega), HL.out⟩, by repeat (first | (with_reducible exact HB.out) | (with_reducible refine set_belowN ?_ (by omega)))⟩

end Go.Proofs.YtmglogncpfoldaaDoor

/-
  asked and wanted: kinds 15 (made by mknask.py).
-/
namespace Go.Proofs.YtmglogncpfoldaaDoor
open Go Go.RowKit Go.Deep

set_option maxRecDepth 100000 in
set_option maxHeartbeats 4000000 in
theorem nasked15 (p q : Option Addr) (n k cap cap' : Nat) (M C N : Int) (w : World) (v E : Int)
    (H : ∀ (wx : World) (g : Nat), Below w.heap.size w wx → wx.heap[g]? = some (.cells #[.slice p n cap, .slice q k cap', .slice p n cap] 27 (0, 0)) → Calls Tryd.prog 43 #[.slice (some ⟨g, 0, none⟩) 3 3] wx fun r w' => ∃ pl os, r = .returned (.tuple #[.slice pl (List.length os) (List.length os), .int .i64 E]) ∧ LT wx w' pl os v ∧ Below wx.heap.size wx w') :
    Calls Tryd.prog 9 #[opOf1 15 (.slice p n cap) (.slice q k cap') M C N] w fun r w' => NTold ⟨v, 0, 0, false, E⟩ w r w' := by
  simp only [opOf1, NTold, ansOf1]
  have H := hid H
  go_enter Tryd.func9, Tryd.ntmps9
  go_wp2_with fail
  refine (H.out _ _ (alloc4_belowN _ _ _ _ _) (heap4N _ _ _ _ _ _)).mono ?_
  rintro r w' ⟨pl, os, rfl, ⟨hA, hL⟩, hw⟩
  have HA : Hid (Ans (w.heap.size + 3) w' pl os v) := by
    have e := hA
    simp at e
    exact e.upN (by omega)
  have HL := hid hL
  clear hA hL
  replace hw := below3of4 hw
  obtain ⟨g2, g3⟩ := mid_keptN hw
  obtain ⟨⟨a0, a1, a2, a3, a4⟩, af⟩ := row_cells5 g2
  obtain ⟨⟨b0, b1, b2, b3, b4⟩, bf⟩ := row_cells5 g3
  have af0 := af 0
  have bf0 := bf 0
  have af1 := af 1
  have bf1 := bf 1
  have af2 := af 2
  have bf2 := bf 2
  have af3 := af 3
  have bf3 := bf 3
  have af4 := af 4
  have bf4 := bf 4
  have HB := hid ((alloc3_belowN _ _ _ _).trans (hw.mono (alloc3_belowN _ _ _ _).size))
  have G2 := hid g2
  clear H hw g2 g3 af bf
  go_wp2_with fail
  (try simp only [Exit.inBlock, Exit.then])
  refine bodyPost_ret (results_cell_row rfl _ _ (w.heap.size + 1) 34 _ (0, 0) _ rfl (set_row5 (by repeat (first | (with_reducible exact G2.out) | (with_reducible refine set_farN ?_ (by omega))))) Tryd.underlying34 rfl (by kernel_rfl)) rfl ?_
  exact ⟨pl, os, rfl, ⟨Ans.upN (B := w.heap.size + 3) (by repeat (first | (with_reducible exact HA.out) | (with_reducible refine ans_setN ?_ (by omega) _))) (by omega), HL.out⟩, by repeat (first | (with_reducible exact HB.out) | (with_reducible refine set_belowN ?_ (by omega)))⟩

set_option maxRecDepth 100000 in
set_option maxHeartbeats 4000000 in
theorem nwanted15 (p q : Option Addr) (n k cap cap' : Nat) (M C N : Int) (w : World) (v E : Int)
    (H : ∀ (wx : World) (g : Nat), Below w.heap.size w wx → wx.heap[g]? = some (.cells #[.slice p n cap, .slice q k cap', .slice p n cap] 27 (0, 0)) → Calls Tryd.prog 29 #[.slice (some ⟨g, 0, none⟩) 3 3] wx fun r w' => ∃ pl os, r = .returned (.tuple #[.slice pl (List.length os) (List.length os), .int .i64 E]) ∧ LT wx w' pl os v ∧ Below wx.heap.size wx w') :
    Calls Tryd.prog 8 #[opOf1 15 (.slice p n cap) (.slice q k cap') M C N] w fun r w' => NTold ⟨v, 0, 0, false, E⟩ w r w' := by
  simp only [opOf1, NTold, ansOf1]
  have H := hid H
  go_enter Tryd.func8, Tryd.ntmps8
  go_wp2_with fail
  refine (H.out _ _ (alloc4_belowN _ _ _ _ _) (heap4N _ _ _ _ _ _)).mono ?_
  rintro r w' ⟨pl, os, rfl, ⟨hA, hL⟩, hw⟩
  have HA : Hid (Ans (w.heap.size + 3) w' pl os v) := by
    have e := hA
    simp at e
    exact e.upN (by omega)
  have HL := hid hL
  clear hA hL
  replace hw := below3of4 hw
  obtain ⟨g2, g3⟩ := mid_keptN hw
  obtain ⟨⟨a0, a1, a2, a3, a4⟩, af⟩ := row_cells5 g2
  obtain ⟨⟨b0, b1, b2, b3, b4⟩, bf⟩ := row_cells5 g3
  have af0 := af 0
  have bf0 := bf 0
  have af1 := af 1
  have bf1 := bf 1
  have af2 := af 2
  have bf2 := bf 2
  have af3 := af 3
  have bf3 := bf 3
  have af4 := af 4
  have bf4 := bf 4
  have HB := hid ((alloc3_belowN _ _ _ _).trans (hw.mono (alloc3_belowN _ _ _ _).size))
  have G2 := hid g2
  clear H hw g2 g3 af bf
  go_wp2_with fail
  (try simp only [Exit.inBlock, Exit.then])
  refine bodyPost_ret (results_cell_row rfl _ _ (w.heap.size + 1) 34 _ (0, 0) _ rfl (set_row5 (by repeat (first | (with_reducible exact G2.out) | (with_reducible refine set_farN ?_ (by omega))))) Tryd.underlying34 rfl (by kernel_rfl)) rfl ?_
  exact ⟨pl, os, rfl, ⟨Ans.upN (B := w.heap.size + 3) (by repeat (first | (with_reducible exact HA.out) | (with_reducible refine ans_setN ?_ (by omega) _))) (by omega), HL.out⟩, by repeat (first | (with_reducible exact HB.out) | (with_reducible refine set_belowN ?_ (by omega)))⟩

end Go.Proofs.YtmglogncpfoldaaDoor

/-
  asked and wanted: a kind that is none (made by mknask.py).
-/
namespace Go.Proofs.YtmglogncpfoldaaDoor
open Go Go.RowKit Go.Deep

set_option maxRecDepth 100000 in
set_option maxHeartbeats 4000000 in
theorem nasked_other (kd : Int) (p q : Option Addr) (n k cap cap' : Nat) (M C N : Int) (w : World) (hk : kd < 1 ∨ 16 < kd) :
    Calls Tryd.prog 9 #[opOf1 kd (.slice p n cap) (.slice q k cap') M C N] w fun r w' => NTold ⟨0, 0, 0, false, 0⟩ w r w' := by
  simp only [opOf1, NTold, ansOf1]
  have k1 : (kd == 1) = false := by rw [beq_eq_false_iff_ne]; omega
  have k2 : (kd == 2) = false := by rw [beq_eq_false_iff_ne]; omega
  have k3 : (kd == 3) = false := by rw [beq_eq_false_iff_ne]; omega
  have k4 : (kd == 4) = false := by rw [beq_eq_false_iff_ne]; omega
  have k5 : (kd == 5) = false := by rw [beq_eq_false_iff_ne]; omega
  have k6 : (kd == 6) = false := by rw [beq_eq_false_iff_ne]; omega
  have k7 : (kd == 7) = false := by rw [beq_eq_false_iff_ne]; omega
  have k8 : (kd == 8) = false := by rw [beq_eq_false_iff_ne]; omega
  have k9 : (kd == 9) = false := by rw [beq_eq_false_iff_ne]; omega
  have k10 : (kd == 10) = false := by rw [beq_eq_false_iff_ne]; omega
  have k11 : (kd == 11) = false := by rw [beq_eq_false_iff_ne]; omega
  have k12 : (kd == 12) = false := by rw [beq_eq_false_iff_ne]; omega
  have k13 : (kd == 13) = false := by rw [beq_eq_false_iff_ne]; omega
  have k14 : (kd == 14) = false := by rw [beq_eq_false_iff_ne]; omega
  have k15 : (kd == 15) = false := by rw [beq_eq_false_iff_ne]; omega
  have k16 : (kd == 16) = false := by rw [beq_eq_false_iff_ne]; omega
  clear hk
  go_enter Tryd.func9, Tryd.ntmps9
  go_wp2_with fail
  (try simp only [Exit.inBlock, Exit.then])
  refine bodyPost_ret (results_cell_row rfl _ _ (w.heap.size + 1) 34 _ (0, 0) _ rfl (heap_mid _ _ _ _ _) Tryd.underlying34 rfl (by kernel_rfl)) rfl ?_
  exact ⟨none, [], rfl, lt_nil _ _, alloc3_belowN _ _ _ _⟩

set_option maxRecDepth 100000 in
set_option maxHeartbeats 4000000 in
theorem nwanted_other (kd : Int) (p q : Option Addr) (n k cap cap' : Nat) (M C N : Int) (w : World) (hk : kd < 1 ∨ 16 < kd) :
    Calls Tryd.prog 8 #[opOf1 kd (.slice p n cap) (.slice q k cap') M C N] w fun r w' => NTold ⟨0, 0, 0, false, 0⟩ w r w' := by
  simp only [opOf1, NTold, ansOf1]
  have k1 : (kd == 1) = false := by rw [beq_eq_false_iff_ne]; omega
  have k2 : (kd == 2) = false := by rw [beq_eq_false_iff_ne]; omega
  have k3 : (kd == 3) = false := by rw [beq_eq_false_iff_ne]; omega
  have k4 : (kd == 4) = false := by rw [beq_eq_false_iff_ne]; omega
  have k5 : (kd == 5) = false := by rw [beq_eq_false_iff_ne]; omega
  have k6 : (kd == 6) = false := by rw [beq_eq_false_iff_ne]; omega
  have k7 : (kd == 7) = false := by rw [beq_eq_false_iff_ne]; omega
  have k8 : (kd == 8) = false := by rw [beq_eq_false_iff_ne]; omega
  have k9 : (kd == 9) = false := by rw [beq_eq_false_iff_ne]; omega
  have k10 : (kd == 10) = false := by rw [beq_eq_false_iff_ne]; omega
  have k11 : (kd == 11) = false := by rw [beq_eq_false_iff_ne]; omega
  have k12 : (kd == 12) = false := by rw [beq_eq_false_iff_ne]; omega
  have k13 : (kd == 13) = false := by rw [beq_eq_false_iff_ne]; omega
  have k14 : (kd == 14) = false := by rw [beq_eq_false_iff_ne]; omega
  have k15 : (kd == 15) = false := by rw [beq_eq_false_iff_ne]; omega
  have k16 : (kd == 16) = false := by rw [beq_eq_false_iff_ne]; omega
  clear hk
  go_enter Tryd.func8, Tryd.ntmps8
  go_wp2_with fail
  (try simp only [Exit.inBlock, Exit.then])
  refine bodyPost_ret (results_cell_row rfl _ _ (w.heap.size + 1) 34 _ (0, 0) _ rfl (heap_mid _ _ _ _ _) Tryd.underlying34 rfl (by kernel_rfl)) rfl ?_
  exact ⟨none, [], rfl, lt_nil _ _, alloc3_belowN _ _ _ _⟩

end Go.Proofs.YtmglogncpfoldaaDoor
