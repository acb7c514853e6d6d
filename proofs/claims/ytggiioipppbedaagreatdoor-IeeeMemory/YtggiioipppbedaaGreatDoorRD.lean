/-
  Texts put together: EAsk3, EAsk4, EAsk5, EAsk6, EBoth.
-/
import Derived.Test.YtggiioipppbedaaGreatDoorRC
/-
  asked and wanted: kinds 7 to 9 (made by mkeask.py).
-/
namespace Go.Proofs.YtggiioipppbedaaGreatDoor
open Go Go.RowKit Go.Deep

set_option maxRecDepth 100000 in
set_option maxHeartbeats 4000000 in
theorem easked7 (X Y I : Int) (pn : Bool) (pc pm px : Int) (neg : Bool) (p q : Option Addr) (n k cap cap' : Nat) (ex : Int) (more : Bool) (w : World) (Q : Int → Prop)
    (H : ∀ wx : World, Below w.heap.size w wx → Calls Tryz.prog 37 #[.int .u64 X, .int .u64 Y] wx fun r w' => ∃ V : Int, r = .returned (.int .i64 V) ∧ Q V ∧ Below wx.heap.size wx w') :
    Calls Tryz.prog 8 #[opOf 7 X Y I pn pc pm px neg (.slice p n cap) (.slice q k cap') ex more] w fun r w' => ∃ V : Int, r = .returned (ansOf 0 V 0 false false 0 0 0 (.slice none 0 0) 0) ∧ Q V ∧ Below w.heap.size w w' := by
  simp only [opOf, ansOf]
  have H := hid H
  go_enter Tryz.func8, Tryz.ntmps8
  go_wp2_with fail
  refine (H.out _ (alloc3_below _ _ _ _)).mono ?_
  rintro r w' ⟨V, rfl, hQ, hw⟩
  obtain ⟨g2, g3⟩ := mid_kept hw
  obtain ⟨⟨a0, a1, a2, a3, a4, a5, a6, a7, a8, a9⟩, af⟩ := row_cells g2
  obtain ⟨⟨b0, b1, b2, b3, b4, b5, b6, b7, b8, b9⟩, bf⟩ := row_cells g3
  have af0 := af 0
  have bf0 := bf 0
  have af1 := af 1
  have bf1 := bf 1
  have af2 := af 2
  have bf2 := bf 2
  have af3 := af 3
  have bf3 := bf 3
  have af4 := af 4
  have bf4 := bf 4
  have af5 := af 5
  have bf5 := bf 5
  have af6 := af 6
  have bf6 := bf 6
  have af7 := af 7
  have bf7 := bf 7
  have af8 := af 8
  have bf8 := bf 8
  have af9 := af 9
  have bf9 := bf 9
  have HB := hid ((alloc3_below _ _ _ _).trans (hw.mono (alloc3_below _ _ _ _).size))
  have G2 := hid g2
  have HQ := hid hQ
  clear H hw g2 g3 af bf hQ
  go_wp2_with fail
  (try simp only [Exit.inBlock, Exit.then])
  refine bodyPost_ret (results_cell_row rfl _ _ (w.heap.size + 1) 34 _ (0, 0) _ rfl (set_row10 (by repeat (first | (with_reducible exact G2.out) | (with_reducible refine set_far ?_ (by omega))))) Tryz.underlying34 rfl (by kernel_rfl)) rfl ?_
  exact ⟨V, rfl, HQ.out, by repeat (first | (with_reducible exact HB.out) | (with_reducible refine set_below ?_ (by omega)))⟩

set_option maxRecDepth 100000 in
set_option maxHeartbeats 4000000 in
theorem ewanted7 (X Y I : Int) (pn : Bool) (pc pm px : Int) (neg : Bool) (p q : Option Addr) (n k cap cap' : Nat) (ex : Int) (more : Bool) (w : World) (Q : Int → Prop)
    (H : ∀ wx : World, Below w.heap.size w wx → Calls Tryz.prog 20 #[.int .u64 X, .int .u64 Y] wx fun r w' => ∃ V : Int, r = .returned (.int .i64 V) ∧ Q V ∧ Below wx.heap.size wx w') :
    Calls Tryz.prog 7 #[opOf 7 X Y I pn pc pm px neg (.slice p n cap) (.slice q k cap') ex more] w fun r w' => ∃ V : Int, r = .returned (ansOf 0 V 0 false false 0 0 0 (.slice none 0 0) 0) ∧ Q V ∧ Below w.heap.size w w' := by
  simp only [opOf, ansOf]
  have H := hid H
  go_enter Tryz.func7, Tryz.ntmps7
  go_wp2_with fail
  refine (H.out _ (alloc3_below _ _ _ _)).mono ?_
  rintro r w' ⟨V, rfl, hQ, hw⟩
  obtain ⟨g2, g3⟩ := mid_kept hw
  obtain ⟨⟨a0, a1, a2, a3, a4, a5, a6, a7, a8, a9⟩, af⟩ := row_cells g2
  obtain ⟨⟨b0, b1, b2, b3, b4, b5, b6, b7, b8, b9⟩, bf⟩ := row_cells g3
  have af0 := af 0
  have bf0 := bf 0
  have af1 := af 1
  have bf1 := bf 1
  have af2 := af 2
  have bf2 := bf 2
  have af3 := af 3
  have bf3 := bf 3
  have af4 := af 4
  have bf4 := bf 4
  have af5 := af 5
  have bf5 := bf 5
  have af6 := af 6
  have bf6 := bf 6
  have af7 := af 7
  have bf7 := bf 7
  have af8 := af 8
  have bf8 := bf 8
  have af9 := af 9
  have bf9 := bf 9
  have HB := hid ((alloc3_below _ _ _ _).trans (hw.mono (alloc3_below _ _ _ _).size))
  have G2 := hid g2
  have HQ := hid hQ
  clear H hw g2 g3 af bf hQ
  go_wp2_with fail
  (try simp only [Exit.inBlock, Exit.then])
  refine bodyPost_ret (results_cell_row rfl _ _ (w.heap.size + 1) 34 _ (0, 0) _ rfl (set_row10 (by repeat (first | (with_reducible exact G2.out) | (with_reducible refine set_far ?_ (by omega))))) Tryz.underlying34 rfl (by kernel_rfl)) rfl ?_
  exact ⟨V, rfl, HQ.out, by repeat (first | (with_reducible exact HB.out) | (with_reducible refine set_below ?_ (by omega)))⟩

set_option maxRecDepth 100000 in
set_option maxHeartbeats 4000000 in
theorem easked8 (X Y I : Int) (pn : Bool) (pc pm px : Int) (neg : Bool) (p q : Option Addr) (n k cap cap' : Nat) (ex : Int) (more : Bool) (w : World) (Q : Int → Bool → Prop)
    (H : ∀ wx : World, Below w.heap.size w wx → Calls Tryz.prog 38 #[.int .u64 X] wx fun r w' => ∃ (V : Int) (B : Bool), r = .returned (.tuple #[.int .i64 V, .bool B]) ∧ Q V B ∧ Below wx.heap.size wx w') :
    Calls Tryz.prog 8 #[opOf 8 X Y I pn pc pm px neg (.slice p n cap) (.slice q k cap') ex more] w fun r w' => ∃ (V : Int) (B : Bool), r = .returned (ansOf 0 0 V B false 0 0 0 (.slice none 0 0) 0) ∧ Q V B ∧ Below w.heap.size w w' := by
  simp only [opOf, ansOf]
  have H := hid H
  go_enter Tryz.func8, Tryz.ntmps8
  go_wp2_with fail
  refine (H.out _ (alloc3_below _ _ _ _)).mono ?_
  rintro r w' ⟨V, B, rfl, hQ, hw⟩
  obtain ⟨g2, g3⟩ := mid_kept hw
  obtain ⟨⟨a0, a1, a2, a3, a4, a5, a6, a7, a8, a9⟩, af⟩ := row_cells g2
  obtain ⟨⟨b0, b1, b2, b3, b4, b5, b6, b7, b8, b9⟩, bf⟩ := row_cells g3
  have af0 := af 0
  have bf0 := bf 0
  have af1 := af 1
  have bf1 := bf 1
  have af2 := af 2
  have bf2 := bf 2
  have af3 := af 3
  have bf3 := bf 3
  have af4 := af 4
  have bf4 := bf 4
  have af5 := af 5
  have bf5 := bf 5
  have af6 := af 6
  have bf6 := bf 6
  have af7 := af 7
  have bf7 := bf 7
  have af8 := af 8
  have bf8 := bf 8
  have af9 := af 9
  have bf9 := bf 9
  have HB := hid ((alloc3_below _ _ _ _).trans (hw.mono (alloc3_below _ _ _ _).size))
  have G2 := hid g2
  have HQ := hid hQ
  clear H hw g2 g3 af bf hQ
  go_wp2_with fail
  (try simp only [Exit.inBlock, Exit.then])
  refine bodyPost_ret (results_cell_row rfl _ _ (w.heap.size + 1) 34 _ (0, 0) _ rfl (set_row10 (by repeat (first | (with_reducible exact G2.out) | (with_reducible refine set_far ?_ (by omega))))) Tryz.underlying34 rfl (by kernel_rfl)) rfl ?_
  exact ⟨V, B, rfl, HQ.out, by repeat (first | (with_reducible exact HB.out) | (with_reducible refine set_below ?_ (by omega)))⟩

set_option maxRecDepth 100000 in
set_option maxHeartbeats 4000000 in
theorem ewanted8 (X Y I : Int) (pn : Bool) (pc pm px : Int) (neg : Bool) (p q : Option Addr) (n k cap cap' : Nat) (ex : Int) (more : Bool) (w : World) (Q : Int → Bool → Prop)
    (H : ∀ wx : World, Below w.heap.size w wx → Calls Tryz.prog 21 #[.int .u64 X] wx fun r w' => ∃ (V : Int) (B : Bool), r = .returned (.tuple #[.int .i64 V, .bool B]) ∧ Q V B ∧ Below wx.heap.size wx w') :
    Calls Tryz.prog 7 #[opOf 8 X Y I pn pc pm px neg (.slice p n cap) (.slice q k cap') ex more] w fun r w' => ∃ (V : Int) (B : Bool), r = .returned (ansOf 0 0 V B false 0 0 0 (.slice none 0 0) 0) ∧ Q V B ∧ Below w.heap.size w w' := by
  simp only [opOf, ansOf]
  have H := hid H
  go_enter Tryz.func7, Tryz.ntmps7
  go_wp2_with fail
  refine (H.out _ (alloc3_below _ _ _ _)).mono ?_
  rintro r w' ⟨V, B, rfl, hQ, hw⟩
  obtain ⟨g2, g3⟩ := mid_kept hw
  obtain ⟨⟨a0, a1, a2, a3, a4, a5, a6, a7, a8, a9⟩, af⟩ := row_cells g2
  obtain ⟨⟨b0, b1, b2, b3, b4, b5, b6, b7, b8, b9⟩, bf⟩ := row_cells g3
  have af0 := af 0
  have bf0 := bf 0
  have af1 := af 1
  have bf1 := bf 1
  have af2 := af 2
  have bf2 := bf 2
  have af3 := af 3
  have bf3 := bf 3
  have af4 := af 4
  have bf4 := bf 4
  have af5 := af 5
  have bf5 := bf 5
  have af6 := af 6
  have bf6 := bf 6
  have af7 := af 7
  have bf7 := bf 7
  have af8 := af 8
  have bf8 := bf 8
  have af9 := af 9
  have bf9 := bf 9
  have HB := hid ((alloc3_below _ _ _ _).trans (hw.mono (alloc3_below _ _ _ _).size))
  have G2 := hid g2
  have HQ := hid hQ
  clear H hw g2 g3 af bf hQ
  go_wp2_with fail
  (try simp only [Exit.inBlock, Exit.then])
  refine bodyPost_ret (results_cell_row rfl _ _ (w.heap.size + 1) 34 _ (0, 0) _ rfl (set_row10 (by repeat (first | (with_reducible exact G2.out) | (with_reducible refine set_far ?_ (by omega))))) Tryz.underlying34 rfl (by kernel_rfl)) rfl ?_
  exact ⟨V, B, rfl, HQ.out, by repeat (first | (with_reducible exact HB.out) | (with_reducible refine set_below ?_ (by omega)))⟩

set_option maxRecDepth 100000 in
set_option maxHeartbeats 4000000 in
theorem easked9 (X Y I : Int) (pn : Bool) (pc pm px : Int) (neg : Bool) (p q : Option Addr) (n k cap cap' : Nat) (ex : Int) (more : Bool) (w : World) (Q : Int → Bool → Prop)
    (H : ∀ wx : World, Below w.heap.size w wx → Calls Tryz.prog 39 #[.int .i64 I] wx fun r w' => ∃ (U : Int) (B : Bool), r = .returned (.tuple #[.int .u64 U, .bool B]) ∧ Q U B ∧ Below wx.heap.size wx w') :
    Calls Tryz.prog 8 #[opOf 9 X Y I pn pc pm px neg (.slice p n cap) (.slice q k cap') ex more] w fun r w' => ∃ (U : Int) (B : Bool), r = .returned (ansOf U 0 0 B false 0 0 0 (.slice none 0 0) 0) ∧ Q U B ∧ Below w.heap.size w w' := by
  simp only [opOf, ansOf]
  have H := hid H
  go_enter Tryz.func8, Tryz.ntmps8
  go_wp2_with fail
  refine (H.out _ (alloc3_below _ _ _ _)).mono ?_
  rintro r w' ⟨U, B, rfl, hQ, hw⟩
  obtain ⟨g2, g3⟩ := mid_kept hw
  obtain ⟨⟨a0, a1, a2, a3, a4, a5, a6, a7, a8, a9⟩, af⟩ := row_cells g2
  obtain ⟨⟨b0, b1, b2, b3, b4, b5, b6, b7, b8, b9⟩, bf⟩ := row_cells g3
  have af0 := af 0
  have bf0 := bf 0
  have af1 := af 1
  have bf1 := bf 1
  have af2 := af 2
  have bf2 := bf 2
  have af3 := af 3
  have bf3 := bf 3
  have af4 := af 4
  have bf4 := bf 4
  have af5 := af 5
  have bf5 := bf 5
  have af6 := af 6
  have bf6 := bf 6
  have af7 := af 7
  have bf7 := bf 7
  have af8 := af 8
  have bf8 := bf 8
  have af9 := af 9
  have bf9 := bf 9
  have HB := hid ((alloc3_below _ _ _ _).trans (hw.mono (alloc3_below _ _ _ _).size))
  have G2 := hid g2
  have HQ := hid hQ
  clear H hw g2 g3 af bf hQ
  go_wp2_with fail
  (try simp only [Exit.inBlock, Exit.then])
  refine bodyPost_ret (results_cell_row rfl _ _ (w.heap.size + 1) 34 _ (0, 0) _ rfl (set_row10 (by repeat (first | (with_reducible exact G2.out) | (with_reducible refine set_far ?_ (by omega))))) Tryz.underlying34 rfl (by kernel_rfl)) rfl ?_
  exact ⟨U, B, rfl, HQ.out, by repeat (first | (with_reducible exact HB.out) | (with_reducible refine set_below ?_ (by omega)))⟩

set_option maxRecDepth 100000 in
set_option maxHeartbeats 4000000 in
theorem ewanted9 (X Y I : Int) (pn : Bool) (pc pm px : Int) (neg : Bool) (p q : Option Addr) (n k cap cap' : Nat) (ex : Int) (more : Bool) (w : World) (Q : Int → Bool → Prop)
    (H : ∀ wx : World, Below w.heap.size w wx → Calls Tryz.prog 22 #[.int .i64 I] wx fun r w' => ∃ (U : Int) (B : Bool), r = .returned (.tuple #[.int .u64 U, .bool B]) ∧ Q U B ∧ Below wx.heap.size wx w') :
    Calls Tryz.prog 7 #[opOf 9 X Y I pn pc pm px neg (.slice p n cap) (.slice q k cap') ex more] w fun r w' => ∃ (U : Int) (B : Bool), r = .returned (ansOf U 0 0 B false 0 0 0 (.slice none 0 0) 0) ∧ Q U B ∧ Below w.heap.size w w' := by
  simp only [opOf, ansOf]
  have H := hid H
  go_enter Tryz.func7, Tryz.ntmps7
  go_wp2_with fail
  refine (H.out _ (alloc3_below _ _ _ _)).mono ?_
  rintro r w' ⟨U, B, rfl, hQ, hw⟩
  obtain ⟨g2, g3⟩ := mid_kept hw
  obtain ⟨⟨a0, a1, a2, a3, a4, a5, a6, a7, a8, a9⟩, af⟩ := row_cells g2
  obtain ⟨⟨b0, b1, b2, b3, b4, b5, b6, b7, b8, b9⟩, bf⟩ := row_cells g3
  have af0 := af 0
  have bf0 := bf 0
  have af1 := af 1
  have bf1 := bf 1
  have af2 := af 2
  have bf2 := bf 2
  have af3 := af 3
  have bf3 := bf 3
  have af4 := af 4
  have bf4 := bf 4
  have af5 := af 5
  have bf5 := bf 5
  have af6 := af 6
  have bf6 := bf 6
  have af7 := af 7
  have bf7 := bf 7
  have af8 := af 8
  have bf8 := bf 8
  have af9 := af 9
  have bf9 := bf 9
  have HB := hid ((alloc3_below _ _ _ _).trans (hw.mono (alloc3_below _ _ _ _).size))
  have G2 := hid g2
  have HQ := hid hQ
  clear H hw g2 g3 af bf hQ
  go_wp2_with fail
  (try simp only [Exit.inBlock, Exit.then])
  refine bodyPost_ret (results_cell_row rfl _ _ (w.heap.size + 1) 34 _ (0, 0) _ rfl (set_row10 (by repeat (first | (with_reducible exact G2.out) | (with_reducible refine set_far ?_ (by omega))))) Tryz.underlying34 rfl (by kernel_rfl)) rfl ?_
  exact ⟨U, B, rfl, HQ.out, by repeat (first | (with_reducible exact HB.out) | (with_reducible refine set_below ?_ (by omega)))⟩

end Go.Proofs.YtggiioipppbedaaGreatDoor

/-
  asked and wanted: kinds 10 to 12 (made by mkeask.py).
-/
namespace Go.Proofs.YtggiioipppbedaaGreatDoor
open Go Go.RowKit Go.Deep

set_option maxRecDepth 100000 in
set_option maxHeartbeats 4000000 in
theorem easked10 (X Y I : Int) (pn : Bool) (pc pm px : Int) (neg : Bool) (p q : Option Addr) (n k cap cap' : Nat) (ex : Int) (more : Bool) (w : World) (Q : Int → Prop)
    (H : ∀ wx : World, Below w.heap.size w wx → Calls Tryz.prog 13 #[.int .u64 X] wx fun r w' => ∃ U : Int, r = .returned (.int .u64 U) ∧ Q U ∧ Below wx.heap.size wx w') :
    Calls Tryz.prog 8 #[opOf 10 X Y I pn pc pm px neg (.slice p n cap) (.slice q k cap') ex more] w fun r w' => ∃ U : Int, r = .returned (ansOf U 0 0 false false 0 0 0 (.slice none 0 0) 0) ∧ Q U ∧ Below w.heap.size w w' := by
  simp only [opOf, ansOf]
  have H := hid H
  go_enter Tryz.func8, Tryz.ntmps8
  go_wp2_with fail
  refine (H.out _ (alloc3_below _ _ _ _)).mono ?_
  rintro r w' ⟨U, rfl, hQ, hw⟩
  obtain ⟨g2, g3⟩ := mid_kept hw
  obtain ⟨⟨a0, a1, a2, a3, a4, a5, a6, a7, a8, a9⟩, af⟩ := row_cells g2
  obtain ⟨⟨b0, b1, b2, b3, b4, b5, b6, b7, b8, b9⟩, bf⟩ := row_cells g3
  have af0 := af 0
  have bf0 := bf 0
  have af1 := af 1
  have bf1 := bf 1
  have af2 := af 2
  have bf2 := bf 2
  have af3 := af 3
  have bf3 := bf 3
  have af4 := af 4
  have bf4 := bf 4
  have af5 := af 5
  have bf5 := bf 5
  have af6 := af 6
  have bf6 := bf 6
  have af7 := af 7
  have bf7 := bf 7
  have af8 := af 8
  have bf8 := bf 8
  have af9 := af 9
  have bf9 := bf 9
  have HB := hid ((alloc3_below _ _ _ _).trans (hw.mono (alloc3_below _ _ _ _).size))
  have G2 := hid g2
  have HQ := hid hQ
  clear H hw g2 g3 af bf hQ
  go_wp2_with fail
  (try simp only [Exit.inBlock, Exit.then])
  refine bodyPost_ret (results_cell_row rfl _ _ (w.heap.size + 1) 34 _ (0, 0) _ rfl (set_row10 (by repeat (first | (with_reducible exact G2.out) | (with_reducible refine set_far ?_ (by omega))))) Tryz.underlying34 rfl (by kernel_rfl)) rfl ?_
  exact ⟨U, rfl, HQ.out, by repeat (first | (with_reducible exact HB.out) | (with_reducible refine set_below ?_ (by omega)))⟩

set_option maxRecDepth 100000 in
set_option maxHeartbeats 4000000 in
theorem ewanted10 (X Y I : Int) (pn : Bool) (pc pm px : Int) (neg : Bool) (p q : Option Addr) (n k cap cap' : Nat) (ex : Int) (more : Bool) (w : World) (Q : Int → Prop)
    (H : ∀ wx : World, Below w.heap.size w wx → Calls Tryz.prog 23 #[.int .u64 X] wx fun r w' => ∃ U : Int, r = .returned (.int .u64 U) ∧ Q U ∧ Below wx.heap.size wx w') :
    Calls Tryz.prog 7 #[opOf 10 X Y I pn pc pm px neg (.slice p n cap) (.slice q k cap') ex more] w fun r w' => ∃ U : Int, r = .returned (ansOf U 0 0 false false 0 0 0 (.slice none 0 0) 0) ∧ Q U ∧ Below w.heap.size w w' := by
  simp only [opOf, ansOf]
  have H := hid H
  go_enter Tryz.func7, Tryz.ntmps7
  go_wp2_with fail
  refine (H.out _ (alloc3_below _ _ _ _)).mono ?_
  rintro r w' ⟨U, rfl, hQ, hw⟩
  obtain ⟨g2, g3⟩ := mid_kept hw
  obtain ⟨⟨a0, a1, a2, a3, a4, a5, a6, a7, a8, a9⟩, af⟩ := row_cells g2
  obtain ⟨⟨b0, b1, b2, b3, b4, b5, b6, b7, b8, b9⟩, bf⟩ := row_cells g3
  have af0 := af 0
  have bf0 := bf 0
  have af1 := af 1
  have bf1 := bf 1
  have af2 := af 2
  have bf2 := bf 2
  have af3 := af 3
  have bf3 := bf 3
  have af4 := af 4
  have bf4 := bf 4
  have af5 := af 5
  have bf5 := bf 5
  have af6 := af 6
  have bf6 := bf 6
  have af7 := af 7
  have bf7 := bf 7
  have af8 := af 8
  have bf8 := bf 8
  have af9 := af 9
  have bf9 := bf 9
  have HB := hid ((alloc3_below _ _ _ _).trans (hw.mono (alloc3_below _ _ _ _).size))
  have G2 := hid g2
  have HQ := hid hQ
  clear H hw g2 g3 af bf hQ
  go_wp2_with fail
  (try simp only [Exit.inBlock, Exit.then])
  refine bodyPost_ret (results_cell_row rfl _ _ (w.heap.size + 1) 34 _ (0, 0) _ rfl (set_row10 (by repeat (first | (with_reducible exact G2.out) | (with_reducible refine set_far ?_ (by omega))))) Tryz.underlying34 rfl (by kernel_rfl)) rfl ?_
  exact ⟨U, rfl, HQ.out, by repeat (first | (with_reducible exact HB.out) | (with_reducible refine set_below ?_ (by omega)))⟩

set_option maxRecDepth 100000 in
set_option maxHeartbeats 4000000 in
theorem easked11 (X Y I : Int) (pn : Bool) (pc pm px : Int) (neg : Bool) (p q : Option Addr) (n k cap cap' : Nat) (ex : Int) (more : Bool) (w : World) (Q : Int → Prop)
    (H : ∀ wx : World, Below w.heap.size w wx → Calls Tryz.prog 40 #[.int .u64 X] wx fun r w' => ∃ U : Int, r = .returned (.int .u64 U) ∧ Q U ∧ Below wx.heap.size wx w') :
    Calls Tryz.prog 8 #[opOf 11 X Y I pn pc pm px neg (.slice p n cap) (.slice q k cap') ex more] w fun r w' => ∃ U : Int, r = .returned (ansOf U 0 0 false false 0 0 0 (.slice none 0 0) 0) ∧ Q U ∧ Below w.heap.size w w' := by
  simp only [opOf, ansOf]
  have H := hid H
  go_enter Tryz.func8, Tryz.ntmps8
  go_wp2_with fail
  refine (H.out _ (alloc3_below _ _ _ _)).mono ?_
  rintro r w' ⟨U, rfl, hQ, hw⟩
  obtain ⟨g2, g3⟩ := mid_kept hw
  obtain ⟨⟨a0, a1, a2, a3, a4, a5, a6, a7, a8, a9⟩, af⟩ := row_cells g2
  obtain ⟨⟨b0, b1, b2, b3, b4, b5, b6, b7, b8, b9⟩, bf⟩ := row_cells g3
  have af0 := af 0
  have bf0 := bf 0
  have af1 := af 1
  have bf1 := bf 1
  have af2 := af 2
  have bf2 := bf 2
  have af3 := af 3
  have bf3 := bf 3
  have af4 := af 4
  have bf4 := bf 4
  have af5 := af 5
  have bf5 := bf 5
  have af6 := af 6
  have bf6 := bf 6
  have af7 := af 7
  have bf7 := bf 7
  have af8 := af 8
  have bf8 := bf 8
  have af9 := af 9
  have bf9 := bf 9
  have HB := hid ((alloc3_below _ _ _ _).trans (hw.mono (alloc3_below _ _ _ _).size))
  have G2 := hid g2
  have HQ := hid hQ
  clear H hw g2 g3 af bf hQ
  go_wp2_with fail
  (try simp only [Exit.inBlock, Exit.then])
  refine bodyPost_ret (results_cell_row rfl _ _ (w.heap.size + 1) 34 _ (0, 0) _ rfl (set_row10 (by repeat (first | (with_reducible exact G2.out) | (with_reducible refine set_far ?_ (by omega))))) Tryz.underlying34 rfl (by kernel_rfl)) rfl ?_
  exact ⟨U, rfl, HQ.out, by repeat (first | (with_reducible exact HB.out) | (with_reducible refine set_below ?_ (by omega)))⟩

set_option maxRecDepth 100000 in
set_option maxHeartbeats 4000000 in
theorem ewanted11 (X Y I : Int) (pn : Bool) (pc pm px : Int) (neg : Bool) (p q : Option Addr) (n k cap cap' : Nat) (ex : Int) (more : Bool) (w : World) (Q : Int → Prop)
    (H : ∀ wx : World, Below w.heap.size w wx → Calls Tryz.prog 24 #[.int .u64 X] wx fun r w' => ∃ U : Int, r = .returned (.int .u64 U) ∧ Q U ∧ Below wx.heap.size wx w') :
    Calls Tryz.prog 7 #[opOf 11 X Y I pn pc pm px neg (.slice p n cap) (.slice q k cap') ex more] w fun r w' => ∃ U : Int, r = .returned (ansOf U 0 0 false false 0 0 0 (.slice none 0 0) 0) ∧ Q U ∧ Below w.heap.size w w' := by
  simp only [opOf, ansOf]
  have H := hid H
  go_enter Tryz.func7, Tryz.ntmps7
  go_wp2_with fail
  refine (H.out _ (alloc3_below _ _ _ _)).mono ?_
  rintro r w' ⟨U, rfl, hQ, hw⟩
  obtain ⟨g2, g3⟩ := mid_kept hw
  obtain ⟨⟨a0, a1, a2, a3, a4, a5, a6, a7, a8, a9⟩, af⟩ := row_cells g2
  obtain ⟨⟨b0, b1, b2, b3, b4, b5, b6, b7, b8, b9⟩, bf⟩ := row_cells g3
  have af0 := af 0
  have bf0 := bf 0
  have af1 := af 1
  have bf1 := bf 1
  have af2 := af 2
  have bf2 := bf 2
  have af3 := af 3
  have bf3 := bf 3
  have af4 := af 4
  have bf4 := bf 4
  have af5 := af 5
  have bf5 := bf 5
  have af6 := af 6
  have bf6 := bf 6
  have af7 := af 7
  have bf7 := bf 7
  have af8 := af 8
  have bf8 := bf 8
  have af9 := af 9
  have bf9 := bf 9
  have HB := hid ((alloc3_below _ _ _ _).trans (hw.mono (alloc3_below _ _ _ _).size))
  have G2 := hid g2
  have HQ := hid hQ
  clear H hw g2 g3 af bf hQ
  go_wp2_with fail
  (try simp only [Exit.inBlock, Exit.then])
  refine bodyPost_ret (results_cell_row rfl _ _ (w.heap.size + 1) 34 _ (0, 0) _ rfl (set_row10 (by repeat (first | (with_reducible exact G2.out) | (with_reducible refine set_far ?_ (by omega))))) Tryz.underlying34 rfl (by kernel_rfl)) rfl ?_
  exact ⟨U, rfl, HQ.out, by repeat (first | (with_reducible exact HB.out) | (with_reducible refine set_below ?_ (by omega)))⟩

set_option maxRecDepth 100000 in
set_option maxHeartbeats 4000000 in
theorem easked12 (X Y I : Int) (pn : Bool) (pc pm px : Int) (neg : Bool) (p q : Option Addr) (n k cap cap' : Nat) (ex : Int) (more : Bool) (w : World) (Q : Bool → Prop)
    (H : ∀ wx : World, Below w.heap.size w wx → Calls Tryz.prog 41 #[.int .u64 X] wx fun r w' => ∃ B : Bool, r = .returned (.bool B) ∧ Q B ∧ Below wx.heap.size wx w') :
    Calls Tryz.prog 8 #[opOf 12 X Y I pn pc pm px neg (.slice p n cap) (.slice q k cap') ex more] w fun r w' => ∃ B : Bool, r = .returned (ansOf 0 0 0 B false 0 0 0 (.slice none 0 0) 0) ∧ Q B ∧ Below w.heap.size w w' := by
  simp only [opOf, ansOf]
  have H := hid H
  go_enter Tryz.func8, Tryz.ntmps8
  go_wp2_with fail
  refine (H.out _ (alloc3_below _ _ _ _)).mono ?_
  rintro r w' ⟨B, rfl, hQ, hw⟩
  obtain ⟨g2, g3⟩ := mid_kept hw
  obtain ⟨⟨a0, a1, a2, a3, a4, a5, a6, a7, a8, a9⟩, af⟩ := row_cells g2
  obtain ⟨⟨b0, b1, b2, b3, b4, b5, b6, b7, b8, b9⟩, bf⟩ := row_cells g3
  have af0 := af 0
  have bf0 := bf 0
  have af1 := af 1
  have bf1 := bf 1
  have af2 := af 2
  have bf2 := bf 2
  have af3 := af 3
  have bf3 := bf 3
  have af4 := af 4
  have bf4 := bf 4
  have af5 := af 5
  have bf5 := bf 5
  have af6 := af 6
  have bf6 := bf 6
  have af7 := af 7
  have bf7 := bf 7
  have af8 := af 8
  have bf8 := bf 8
  have af9 := af 9
  have bf9 := bf 9
  have HB := hid ((alloc3_below _ _ _ _).trans (hw.mono (alloc3_below _ _ _ _).size))
  have G2 := hid g2
  have HQ := hid hQ
  clear H hw g2 g3 af bf hQ
  go_wp2_with fail
  (try simp only [Exit.inBlock, Exit.then])
  refine bodyPost_ret (results_cell_row rfl _ _ (w.heap.size + 1) 34 _ (0, 0) _ rfl (set_row10 (by repeat (first | (with_reducible exact G2.out) | (with_reducible refine set_far ?_ (by omega))))) Tryz.underlying34 rfl (by kernel_rfl)) rfl ?_
  exact ⟨B, rfl, HQ.out, by repeat (first | (with_reducible exact HB.out) | (with_reducible refine set_below ?_ (by omega)))⟩

set_option maxRecDepth 100000 in
set_option maxHeartbeats 4000000 in
theorem ewanted12 (X Y I : Int) (pn : Bool) (pc pm px : Int) (neg : Bool) (p q : Option Addr) (n k cap cap' : Nat) (ex : Int) (more : Bool) (w : World) (Q : Bool → Prop)
    (H : ∀ wx : World, Below w.heap.size w wx → Calls Tryz.prog 25 #[.int .u64 X] wx fun r w' => ∃ B : Bool, r = .returned (.bool B) ∧ Q B ∧ Below wx.heap.size wx w') :
    Calls Tryz.prog 7 #[opOf 12 X Y I pn pc pm px neg (.slice p n cap) (.slice q k cap') ex more] w fun r w' => ∃ B : Bool, r = .returned (ansOf 0 0 0 B false 0 0 0 (.slice none 0 0) 0) ∧ Q B ∧ Below w.heap.size w w' := by
  simp only [opOf, ansOf]
  have H := hid H
  go_enter Tryz.func7, Tryz.ntmps7
  go_wp2_with fail
  refine (H.out _ (alloc3_below _ _ _ _)).mono ?_
  rintro r w' ⟨B, rfl, hQ, hw⟩
  obtain ⟨g2, g3⟩ := mid_kept hw
  obtain ⟨⟨a0, a1, a2, a3, a4, a5, a6, a7, a8, a9⟩, af⟩ := row_cells g2
  obtain ⟨⟨b0, b1, b2, b3, b4, b5, b6, b7, b8, b9⟩, bf⟩ := row_cells g3
  have af0 := af 0
  have bf0 := bf 0
  have af1 := af 1
  have bf1 := bf 1
  have af2 := af 2
  have bf2 := bf 2
  have af3 := af 3
  have bf3 := bf 3
  have af4 := af 4
  have bf4 := bf 4
  have af5 := af 5
  have bf5 := bf 5
  have af6 := af 6
  have bf6 := bf 6
  have af7 := af 7
  have bf7 := bf 7
  have af8 := af 8
  have bf8 := bf 8
  have af9 := af 9
  have bf9 := bf 9
  have HB := hid ((alloc3_below _ _ _ _).trans (hw.mono (alloc3_below _ _ _ _).size))
  have G2 := hid g2
  have HQ := hid hQ
  clear H hw g2 g3 af bf hQ
  go_wp2_with fail
  (try simp only [Exit.inBlock, Exit.then])
  refine bodyPost_ret (results_cell_row rfl _ _ (w.heap.size + 1) 34 _ (0, 0) _ rfl (set_row10 (by repeat (first | (with_reducible exact G2.out) | (with_reducible refine set_far ?_ (by omega))))) Tryz.underlying34 rfl (by kernel_rfl)) rfl ?_
  exact ⟨B, rfl, HQ.out, by repeat (first | (with_reducible exact HB.out) | (with_reducible refine set_below ?_ (by omega)))⟩

end Go.Proofs.YtggiioipppbedaaGreatDoor

/-
  asked and wanted: kinds 13 to 15 (made by mkeask.py).
-/
namespace Go.Proofs.YtggiioipppbedaaGreatDoor
open Go Go.RowKit Go.Deep

set_option maxRecDepth 100000 in
set_option maxHeartbeats 4000000 in
theorem easked13 (X Y I : Int) (pn : Bool) (pc pm px : Int) (neg : Bool) (p q : Option Addr) (n k cap cap' : Nat) (ex : Int) (more : Bool) (w : World) (Q : Int → Prop)
    (H : ∀ wx : World, Below w.heap.size w wx → Calls Tryz.prog 42 #[.int .i64 I] wx fun r w' => ∃ U : Int, r = .returned (.int .u64 U) ∧ Q U ∧ Below wx.heap.size wx w') :
    Calls Tryz.prog 8 #[opOf 13 X Y I pn pc pm px neg (.slice p n cap) (.slice q k cap') ex more] w fun r w' => ∃ U : Int, r = .returned (ansOf U 0 0 false false 0 0 0 (.slice none 0 0) 0) ∧ Q U ∧ Below w.heap.size w w' := by
  simp only [opOf, ansOf]
  have H := hid H
  go_enter Tryz.func8, Tryz.ntmps8
  go_wp2_with fail
  refine (H.out _ (alloc3_below _ _ _ _)).mono ?_
  rintro r w' ⟨U, rfl, hQ, hw⟩
  obtain ⟨g2, g3⟩ := mid_kept hw
  obtain ⟨⟨a0, a1, a2, a3, a4, a5, a6, a7, a8, a9⟩, af⟩ := row_cells g2
  obtain ⟨⟨b0, b1, b2, b3, b4, b5, b6, b7, b8, b9⟩, bf⟩ := row_cells g3
  have af0 := af 0
  have bf0 := bf 0
  have af1 := af 1
  have bf1 := bf 1
  have af2 := af 2
  have bf2 := bf 2
  have af3 := af 3
  have bf3 := bf 3
  have af4 := af 4
  have bf4 := bf 4
  have af5 := af 5
  have bf5 := bf 5
  have af6 := af 6
  have bf6 := bf 6
  have af7 := af 7
  have bf7 := bf 7
  have af8 := af 8
  have bf8 := bf 8
  have af9 := af 9
  have bf9 := bf 9
  have HB := hid ((alloc3_below _ _ _ _).trans (hw.mono (alloc3_below _ _ _ _).size))
  have G2 := hid g2
  have HQ := hid hQ
  clear H hw g2 g3 af bf hQ
  go_wp2_with fail
  (try simp only [Exit.inBlock, Exit.then])
  refine bodyPost_ret (results_cell_row rfl _ _ (w.heap.size + 1) 34 _ (0, 0) _ rfl (set_row10 (by repeat (first | (with_reducible exact G2.out) | (with_reducible refine set_far ?_ (by omega))))) Tryz.underlying34 rfl (by kernel_rfl)) rfl ?_
  exact ⟨U, rfl, HQ.out, by repeat (first | (with_reducible exact HB.out) | (with_reducible refine set_below ?_ (by omega)))⟩

set_option maxRecDepth 100000 in
set_option maxHeartbeats 4000000 in
theorem ewanted13 (X Y I : Int) (pn : Bool) (pc pm px : Int) (neg : Bool) (p q : Option Addr) (n k cap cap' : Nat) (ex : Int) (more : Bool) (w : World) (Q : Int → Prop)
    (H : ∀ wx : World, Below w.heap.size w wx → Calls Tryz.prog 26 #[.int .i64 I] wx fun r w' => ∃ U : Int, r = .returned (.int .u64 U) ∧ Q U ∧ Below wx.heap.size wx w') :
    Calls Tryz.prog 7 #[opOf 13 X Y I pn pc pm px neg (.slice p n cap) (.slice q k cap') ex more] w fun r w' => ∃ U : Int, r = .returned (ansOf U 0 0 false false 0 0 0 (.slice none 0 0) 0) ∧ Q U ∧ Below w.heap.size w w' := by
  simp only [opOf, ansOf]
  have H := hid H
  go_enter Tryz.func7, Tryz.ntmps7
  go_wp2_with fail
  refine (H.out _ (alloc3_below _ _ _ _)).mono ?_
  rintro r w' ⟨U, rfl, hQ, hw⟩
  obtain ⟨g2, g3⟩ := mid_kept hw
  obtain ⟨⟨a0, a1, a2, a3, a4, a5, a6, a7, a8, a9⟩, af⟩ := row_cells g2
  obtain ⟨⟨b0, b1, b2, b3, b4, b5, b6, b7, b8, b9⟩, bf⟩ := row_cells g3
  have af0 := af 0
  have bf0 := bf 0
  have af1 := af 1
  have bf1 := bf 1
  have af2 := af 2
  have bf2 := bf 2
  have af3 := af 3
  have bf3 := bf 3
  have af4 := af 4
  have bf4 := bf 4
  have af5 := af 5
  have bf5 := bf 5
  have af6 := af 6
  have bf6 := bf 6
  have af7 := af 7
  have bf7 := bf 7
  have af8 := af 8
  have bf8 := bf 8
  have af9 := af 9
  have bf9 := bf 9
  have HB := hid ((alloc3_below _ _ _ _).trans (hw.mono (alloc3_below _ _ _ _).size))
  have G2 := hid g2
  have HQ := hid hQ
  clear H hw g2 g3 af bf hQ
  go_wp2_with fail
  (try simp only [Exit.inBlock, Exit.then])
  refine bodyPost_ret (results_cell_row rfl _ _ (w.heap.size + 1) 34 _ (0, 0) _ rfl (set_row10 (by repeat (first | (with_reducible exact G2.out) | (with_reducible refine set_far ?_ (by omega))))) Tryz.underlying34 rfl (by kernel_rfl)) rfl ?_
  exact ⟨U, rfl, HQ.out, by repeat (first | (with_reducible exact HB.out) | (with_reducible refine set_below ?_ (by omega)))⟩

set_option maxRecDepth 100000 in
set_option maxHeartbeats 4000000 in
theorem easked14 (X Y I : Int) (pn : Bool) (pc pm px : Int) (neg : Bool) (p q : Option Addr) (n k cap cap' : Nat) (ex : Int) (more : Bool) (w : World) (Q : Int → Prop)
    (H : ∀ wx : World, Below w.heap.size w wx → Calls Tryz.prog 43 #[.int .u64 X] wx fun r w' => ∃ U : Int, r = .returned (.int .u64 U) ∧ Q U ∧ Below wx.heap.size wx w') :
    Calls Tryz.prog 8 #[opOf 14 X Y I pn pc pm px neg (.slice p n cap) (.slice q k cap') ex more] w fun r w' => ∃ U : Int, r = .returned (ansOf U 0 0 false false 0 0 0 (.slice none 0 0) 0) ∧ Q U ∧ Below w.heap.size w w' := by
  simp only [opOf, ansOf]
  have H := hid H
  go_enter Tryz.func8, Tryz.ntmps8
  go_wp2_with fail
  refine (H.out _ (alloc3_below _ _ _ _)).mono ?_
  rintro r w' ⟨U, rfl, hQ, hw⟩
  obtain ⟨g2, g3⟩ := mid_kept hw
  obtain ⟨⟨a0, a1, a2, a3, a4, a5, a6, a7, a8, a9⟩, af⟩ := row_cells g2
  obtain ⟨⟨b0, b1, b2, b3, b4, b5, b6, b7, b8, b9⟩, bf⟩ := row_cells g3
  have af0 := af 0
  have bf0 := bf 0
  have af1 := af 1
  have bf1 := bf 1
  have af2 := af 2
  have bf2 := bf 2
  have af3 := af 3
  have bf3 := bf 3
  have af4 := af 4
  have bf4 := bf 4
  have af5 := af 5
  have bf5 := bf 5
  have af6 := af 6
  have bf6 := bf 6
  have af7 := af 7
  have bf7 := bf 7
  have af8 := af 8
  have bf8 := bf 8
  have af9 := af 9
  have bf9 := bf 9
  have HB := hid ((alloc3_below _ _ _ _).trans (hw.mono (alloc3_below _ _ _ _).size))
  have G2 := hid g2
  have HQ := hid hQ
  clear H hw g2 g3 af bf hQ
  go_wp2_with fail
  (try simp only [Exit.inBlock, Exit.then])
  refine bodyPost_ret (results_cell_row rfl _ _ (w.heap.size + 1) 34 _ (0, 0) _ rfl (set_row10 (by repeat (first | (with_reducible exact G2.out) | (with_reducible refine set_far ?_ (by omega))))) Tryz.underlying34 rfl (by kernel_rfl)) rfl ?_
  exact ⟨U, rfl, HQ.out, by repeat (first | (with_reducible exact HB.out) | (with_reducible refine set_below ?_ (by omega)))⟩

set_option maxRecDepth 100000 in
set_option maxHeartbeats 4000000 in
theorem ewanted14 (X Y I : Int) (pn : Bool) (pc pm px : Int) (neg : Bool) (p q : Option Addr) (n k cap cap' : Nat) (ex : Int) (more : Bool) (w : World) (Q : Int → Prop)
    (H : ∀ wx : World, Below w.heap.size w wx → Calls Tryz.prog 27 #[.int .u64 X] wx fun r w' => ∃ U : Int, r = .returned (.int .u64 U) ∧ Q U ∧ Below wx.heap.size wx w') :
    Calls Tryz.prog 7 #[opOf 14 X Y I pn pc pm px neg (.slice p n cap) (.slice q k cap') ex more] w fun r w' => ∃ U : Int, r = .returned (ansOf U 0 0 false false 0 0 0 (.slice none 0 0) 0) ∧ Q U ∧ Below w.heap.size w w' := by
  simp only [opOf, ansOf]
  have H := hid H
  go_enter Tryz.func7, Tryz.ntmps7
  go_wp2_with fail
  refine (H.out _ (alloc3_below _ _ _ _)).mono ?_
  rintro r w' ⟨U, rfl, hQ, hw⟩
  obtain ⟨g2, g3⟩ := mid_kept hw
  obtain ⟨⟨a0, a1, a2, a3, a4, a5, a6, a7, a8, a9⟩, af⟩ := row_cells g2
  obtain ⟨⟨b0, b1, b2, b3, b4, b5, b6, b7, b8, b9⟩, bf⟩ := row_cells g3
  have af0 := af 0
  have bf0 := bf 0
  have af1 := af 1
  have bf1 := bf 1
  have af2 := af 2
  have bf2 := bf 2
  have af3 := af 3
  have bf3 := bf 3
  have af4 := af 4
  have bf4 := bf 4
  have af5 := af 5
  have bf5 := bf 5
  have af6 := af 6
  have bf6 := bf 6
  have af7 := af 7
  have bf7 := bf 7
  have af8 := af 8
  have bf8 := bf 8
  have af9 := af 9
  have bf9 := bf 9
  have HB := hid ((alloc3_below _ _ _ _).trans (hw.mono (alloc3_below _ _ _ _).size))
  have G2 := hid g2
  have HQ := hid hQ
  clear H hw g2 g3 af bf hQ
  go_wp2_with fail
  (try simp only [Exit.inBlock, Exit.then])
  refine bodyPost_ret (results_cell_row rfl _ _ (w.heap.size + 1) 34 _ (0, 0) _ rfl (set_row10 (by repeat (first | (with_reducible exact G2.out) | (with_reducible refine set_far ?_ (by omega))))) Tryz.underlying34 rfl (by kernel_rfl)) rfl ?_
  exact ⟨U, rfl, HQ.out, by repeat (first | (with_reducible exact HB.out) | (with_reducible refine set_below ?_ (by omega)))⟩

set_option maxRecDepth 100000 in
set_option maxHeartbeats 4000000 in
theorem easked15 (X Y I : Int) (pn : Bool) (pc pm px : Int) (neg : Bool) (p q : Option Addr) (n k cap cap' : Nat) (ex : Int) (more : Bool) (w : World) (Q : Int → Int → Prop)
    (H : ∀ wx : World, Below w.heap.size w wx → Calls Tryz.prog 44 #[.int .u64 X] wx fun r w' => ∃ V E : Int, r = .returned (.tuple #[.int .i64 V, .int .i64 E]) ∧ Q V E ∧ Below wx.heap.size wx w') :
    Calls Tryz.prog 8 #[opOf 15 X Y I pn pc pm px neg (.slice p n cap) (.slice q k cap') ex more] w fun r w' => ∃ V E : Int, r = .returned (ansOf 0 0 V false false 0 0 0 (.slice none 0 0) E) ∧ Q V E ∧ Below w.heap.size w w' := by
  simp only [opOf, ansOf]
  have H := hid H
  go_enter Tryz.func8, Tryz.ntmps8
  go_wp2_with fail
  refine (H.out _ (alloc3_below _ _ _ _)).mono ?_
  rintro r w' ⟨V, E, rfl, hQ, hw⟩
  obtain ⟨g2, g3⟩ := mid_kept hw
  obtain ⟨⟨a0, a1, a2, a3, a4, a5, a6, a7, a8, a9⟩, af⟩ := row_cells g2
  obtain ⟨⟨b0, b1, b2, b3, b4, b5, b6, b7, b8, b9⟩, bf⟩ := row_cells g3
  have af0 := af 0
  have bf0 := bf 0
  have af1 := af 1
  have bf1 := bf 1
  have af2 := af 2
  have bf2 := bf 2
  have af3 := af 3
  have bf3 := bf 3
  have af4 := af 4
  have bf4 := bf 4
  have af5 := af 5
  have bf5 := bf 5
  have af6 := af 6
  have bf6 := bf 6
  have af7 := af 7
  have bf7 := bf 7
  have af8 := af 8
  have bf8 := bf 8
  have af9 := af 9
  have bf9 := bf 9
  have HB := hid ((alloc3_below _ _ _ _).trans (hw.mono (alloc3_below _ _ _ _).size))
  have G2 := hid g2
  have HQ := hid hQ
  clear H hw g2 g3 af bf hQ
  go_wp2_with fail
  (try simp only [Exit.inBlock, Exit.then])
  refine bodyPost_ret (results_cell_row rfl _ _ (w.heap.size + 1) 34 _ (0, 0) _ rfl (set_row10 (by repeat (first | (with_reducible exact G2.out) | (with_reducible refine set_far ?_ (by omega))))) Tryz.underlying34 rfl (by kernel_rfl)) rfl ?_
  exact ⟨V, E, rfl, HQ.out, by repeat (first | (with_reducible exact HB.out) | (with_reducible refine set_below ?_ (by omega)))⟩

set_option maxRecDepth 100000 in
set_option maxHeartbeats 4000000 in
theorem ewanted15 (X Y I : Int) (pn : Bool) (pc pm px : Int) (neg : Bool) (p q : Option Addr) (n k cap cap' : Nat) (ex : Int) (more : Bool) (w : World) (Q : Int → Int → Prop)
    (H : ∀ wx : World, Below w.heap.size w wx → Calls Tryz.prog 28 #[.int .u64 X] wx fun r w' => ∃ V E : Int, r = .returned (.tuple #[.int .i64 V, .int .i64 E]) ∧ Q V E ∧ Below wx.heap.size wx w') :
    Calls Tryz.prog 7 #[opOf 15 X Y I pn pc pm px neg (.slice p n cap) (.slice q k cap') ex more] w fun r w' => ∃ V E : Int, r = .returned (ansOf 0 0 V false false 0 0 0 (.slice none 0 0) E) ∧ Q V E ∧ Below w.heap.size w w' := by
  simp only [opOf, ansOf]
  have H := hid H
  go_enter Tryz.func7, Tryz.ntmps7
  go_wp2_with fail
  refine (H.out _ (alloc3_below _ _ _ _)).mono ?_
  rintro r w' ⟨V, E, rfl, hQ, hw⟩
  obtain ⟨g2, g3⟩ := mid_kept hw
  obtain ⟨⟨a0, a1, a2, a3, a4, a5, a6, a7, a8, a9⟩, af⟩ := row_cells g2
  obtain ⟨⟨b0, b1, b2, b3, b4, b5, b6, b7, b8, b9⟩, bf⟩ := row_cells g3
  have af0 := af 0
  have bf0 := bf 0
  have af1 := af 1
  have bf1 := bf 1
  have af2 := af 2
  have bf2 := bf 2
  have af3 := af 3
  have bf3 := bf 3
  have af4 := af 4
  have bf4 := bf 4
  have af5 := af 5
  have bf5 := bf 5
  have af6 := af 6
  have bf6 := bf 6
  have af7 := af 7
  have bf7 := bf 7
  have af8 := af 8
  have bf8 := bf 8
  have af9 := af 9
  have bf9 := bf 9
  have HB := hid ((alloc3_below _ _ _ _).trans (hw.mono (alloc3_below _ _ _ _).size))
  have G2 := hid g2
  have HQ := hid hQ
  clear H hw g2 g3 af bf hQ
  go_wp2_with fail
  (try simp only [Exit.inBlock, Exit.then])
  refine bodyPost_ret (results_cell_row rfl _ _ (w.heap.size + 1) 34 _ (0, 0) _ rfl (set_row10 (by repeat (first | (with_reducible exact G2.out) | (with_reducible refine set_far ?_ (by omega))))) Tryz.underlying34 rfl (by kernel_rfl)) rfl ?_
  exact ⟨V, E, rfl, HQ.out, by repeat (first | (with_reducible exact HB.out) | (with_reducible refine set_below ?_ (by omega)))⟩

end Go.Proofs.YtggiioipppbedaaGreatDoor

/-
  asked and wanted: kinds 16 to 18 (made by mkeask.py).
-/
namespace Go.Proofs.YtggiioipppbedaaGreatDoor
open Go Go.RowKit Go.Deep

set_option maxRecDepth 100000 in
set_option maxHeartbeats 4000000 in
theorem easked16 (X Y I : Int) (pn : Bool) (pc pm px : Int) (neg : Bool) (p q : Option Addr) (n k cap cap' : Nat) (ex : Int) (more : Bool) (w : World) (Q : Bool → Int → Int → Prop)
    (H : ∀ wx : World, Below w.heap.size w wx → Calls Tryz.prog 45 #[.int .u64 X] wx fun r w' => ∃ (B : Bool) (E v : Int) (pl : Option Addr) (os : List Int), r = .returned (.tuple #[.bool B, .slice pl (List.length os) (List.length os), .int .i64 E]) ∧ Q B E v ∧ Ans wx.heap.size w' pl os v ∧ Below wx.heap.size wx w') :
    Calls Tryz.prog 8 #[opOf 16 X Y I pn pc pm px neg (.slice p n cap) (.slice q k cap') ex more] w fun r w' => ∃ (B : Bool) (E v : Int) (pl : Option Addr) (os : List Int), r = .returned (ansOf 0 0 0 B false 0 0 0 (.slice pl (List.length os) (List.length os)) E) ∧ Q B E v ∧ Ans w.heap.size w' pl os v ∧ Below w.heap.size w w' := by
  simp only [opOf, ansOf]
  have H := hid H
  go_enter Tryz.func8, Tryz.ntmps8
  go_wp2_with fail
  refine (H.out _ (alloc3_below _ _ _ _)).mono ?_
  rintro r w' ⟨B, E, v, pl, os, rfl, hQ, hA, hw⟩
  have HA : Hid (Ans (w.heap.size + 3) w' pl os v) := by
    have e := hA
    simp at e
    exact e
  clear hA
  obtain ⟨g2, g3⟩ := mid_kept hw
  obtain ⟨⟨a0, a1, a2, a3, a4, a5, a6, a7, a8, a9⟩, af⟩ := row_cells g2
  obtain ⟨⟨b0, b1, b2, b3, b4, b5, b6, b7, b8, b9⟩, bf⟩ := row_cells g3
  have af0 := af 0
  have bf0 := bf 0
  have af1 := af 1
  have bf1 := bf 1
  have af2 := af 2
  have bf2 := bf 2
  have af3 := af 3
  have bf3 := bf 3
  have af4 := af 4
  have bf4 := bf 4
  have af5 := af 5
  have bf5 := bf 5
  have af6 := af 6
  have bf6 := bf 6
  have af7 := af 7
  have bf7 := bf 7
  have af8 := af 8
  have bf8 := bf 8
  have af9 := af 9
  have bf9 := bf 9
  have HB := hid ((alloc3_below _ _ _ _).trans (hw.mono (alloc3_below _ _ _ _).size))
  have G2 := hid g2
  have HQ := hid hQ
  clear H hw g2 g3 af bf hQ
  go_wp2_with fail
  (try simp only [Exit.inBlock, Exit.then])
  refine bodyPost_ret (results_cell_row rfl _ _ (w.heap.size + 1) 34 _ (0, 0) _ rfl (set_row10 (by repeat (first | (with_reducible exact G2.out) | (with_reducible refine set_far ?_ (by omega))))) Tryz.underlying34 rfl (by kernel_rfl)) rfl ?_
  exact ⟨B, E, v, pl, os, rfl, HQ.out, Ans.upE (B := w.heap.size + 3) (by repeat (first | (with_reducible exact HA.out) | (with_reducible refine Ans.setF ?_ (by omega) _))) (by omega), by repeat (first | (with_reducible exact HB.out) | (with_reducible refine set_below ?_ (by omega)))⟩

set_option maxRecDepth 100000 in
set_option maxHeartbeats 4000000 in
theorem ewanted16 (X Y I : Int) (pn : Bool) (pc pm px : Int) (neg : Bool) (p q : Option Addr) (n k cap cap' : Nat) (ex : Int) (more : Bool) (w : World) (Q : Bool → Int → Int → Prop)
    (H : ∀ wx : World, Below w.heap.size w wx → Calls Tryz.prog 29 #[.int .u64 X] wx fun r w' => ∃ (B : Bool) (E v : Int) (pl : Option Addr) (os : List Int), r = .returned (.tuple #[.bool B, .slice pl (List.length os) (List.length os), .int .i64 E]) ∧ Q B E v ∧ Ans wx.heap.size w' pl os v ∧ Below wx.heap.size wx w') :
    Calls Tryz.prog 7 #[opOf 16 X Y I pn pc pm px neg (.slice p n cap) (.slice q k cap') ex more] w fun r w' => ∃ (B : Bool) (E v : Int) (pl : Option Addr) (os : List Int), r = .returned (ansOf 0 0 0 B false 0 0 0 (.slice pl (List.length os) (List.length os)) E) ∧ Q B E v ∧ Ans w.heap.size w' pl os v ∧ Below w.heap.size w w' := by
  simp only [opOf, ansOf]
  have H := hid H
  go_enter Tryz.func7, Tryz.ntmps7
  go_wp2_with fail
  refine (H.out _ (alloc3_below _ _ _ _)).mono ?_
  rintro r w' ⟨B, E, v, pl, os, rfl, hQ, hA, hw⟩
  have HA : Hid (Ans (w.heap.size + 3) w' pl os v) := by
    have e := hA
    simp at e
    exact e
  clear hA
  obtain ⟨g2, g3⟩ := mid_kept hw
  obtain ⟨⟨a0, a1, a2, a3, a4, a5, a6, a7, a8, a9⟩, af⟩ := row_cells g2
  obtain ⟨⟨b0, b1, b2, b3, b4, b5, b6, b7, b8, b9⟩, bf⟩ := row_cells g3
  have af0 := af 0
  have bf0 := bf 0
  have af1 := af 1
  have bf1 := bf 1
  have af2 := af 2
  have bf2 := bf 2
  have af3 := af 3
  have bf3 := bf 3
  have af4 := af 4
  have bf4 := bf 4
  have af5 := af 5
  have bf5 := bf 5
  have af6 := af 6
  have bf6 := bf 6
  have af7 := af 7
  have bf7 := bf 7
  have af8 := af 8
  have bf8 := bf 8
  have af9 := af 9
  have bf9 := bf 9
  have HB := hid ((alloc3_below _ _ _ _).trans (hw.mono (alloc3_below _ _ _ _).size))
  have G2 := hid g2
  have HQ := hid hQ
  clear H hw g2 g3 af bf hQ
  go_wp2_with fail
  (try simp only [Exit.inBlock, Exit.then])
  refine bodyPost_ret (results_cell_row rfl _ _ (w.heap.size + 1) 34 _ (0, 0) _ rfl (set_row10 (by repeat (first | (with_reducible exact G2.out) | (with_reducible refine set_far ?_ (by omega))))) Tryz.underlying34 rfl (by kernel_rfl)) rfl ?_
  exact ⟨B, E, v, pl, os, rfl, HQ.out, Ans.upE (B := w.heap.size + 3) (by repeat (first | (with_reducible exact HA.out) | (with_reducible refine Ans.setF ?_ (by omega) _))) (by omega), by repeat (first | (with_reducible exact HB.out) | (with_reducible refine set_below ?_ (by omega)))⟩

set_option maxRecDepth 100000 in
set_option maxHeartbeats 4000000 in
theorem easked17 (X Y I : Int) (pn : Bool) (pc pm px : Int) (neg : Bool) (p q : Option Addr) (n k cap cap' : Nat) (ex : Int) (more : Bool) (w : World) (Q : Int → Int → Prop)
    (H : ∀ wx : World, Below w.heap.size w wx → Calls Tryz.prog 46 #[.bool neg, .slice p n cap, .int .i64 ex, .bool more] wx fun r w' => ∃ U E : Int, r = .returned (.tuple #[.int .u64 U, .int .i64 E]) ∧ Q U E ∧ Below wx.heap.size wx w') :
    Calls Tryz.prog 8 #[opOf 17 X Y I pn pc pm px neg (.slice p n cap) (.slice q k cap') ex more] w fun r w' => ∃ U E : Int, r = .returned (ansOf U 0 0 false false 0 0 0 (.slice none 0 0) E) ∧ Q U E ∧ Below w.heap.size w w' := by
  simp only [opOf, ansOf]
  have H := hid H
  go_enter Tryz.func8, Tryz.ntmps8
  go_wp2_with fail
  refine (H.out _ (alloc3_below _ _ _ _)).mono ?_
  rintro r w' ⟨U, E, rfl, hQ, hw⟩
  obtain ⟨g2, g3⟩ := mid_kept hw
  obtain ⟨⟨a0, a1, a2, a3, a4, a5, a6, a7, a8, a9⟩, af⟩ := row_cells g2
  obtain ⟨⟨b0, b1, b2, b3, b4, b5, b6, b7, b8, b9⟩, bf⟩ := row_cells g3
  have af0 := af 0
  have bf0 := bf 0
  have af1 := af 1
  have bf1 := bf 1
  have af2 := af 2
  have bf2 := bf 2
  have af3 := af 3
  have bf3 := bf 3
  have af4 := af 4
  have bf4 := bf 4
  have af5 := af 5
  have bf5 := bf 5
  have af6 := af 6
  have bf6 := bf 6
  have af7 := af 7
  have bf7 := bf 7
  have af8 := af 8
  have bf8 := bf 8
  have af9 := af 9
  have bf9 := bf 9
  have HB := hid ((alloc3_below _ _ _ _).trans (hw.mono (alloc3_below _ _ _ _).size))
  have G2 := hid g2
  have HQ := hid hQ
  clear H hw g2 g3 af bf hQ
  go_wp2_with fail
  (try simp only [Exit.inBlock, Exit.then])
  refine bodyPost_ret (results_cell_row rfl _ _ (w.heap.size + 1) 34 _ (0, 0) _ rfl (set_row10 (by repeat (first | (with_reducible exact G2.out) | (with_reducible refine set_far ?_ (by omega))))) Tryz.underlying34 rfl (by kernel_rfl)) rfl ?_
  exact ⟨U, E, rfl, HQ.out, by repeat (first | (with_reducible exact HB.out) | (with_reducible refine set_below ?_ (by omega)))⟩

set_option maxRecDepth 100000 in
set_option maxHeartbeats 4000000 in
theorem ewanted17 (X Y I : Int) (pn : Bool) (pc pm px : Int) (neg : Bool) (p q : Option Addr) (n k cap cap' : Nat) (ex : Int) (more : Bool) (w : World) (Q : Int → Int → Prop)
    (H : ∀ wx : World, Below w.heap.size w wx → Calls Tryz.prog 30 #[.bool neg, .slice p n cap, .int .i64 ex, .bool more] wx fun r w' => ∃ U E : Int, r = .returned (.tuple #[.int .u64 U, .int .i64 E]) ∧ Q U E ∧ Below wx.heap.size wx w') :
    Calls Tryz.prog 7 #[opOf 17 X Y I pn pc pm px neg (.slice p n cap) (.slice q k cap') ex more] w fun r w' => ∃ U E : Int, r = .returned (ansOf U 0 0 false false 0 0 0 (.slice none 0 0) E) ∧ Q U E ∧ Below w.heap.size w w' := by
  simp only [opOf, ansOf]
  have H := hid H
  go_enter Tryz.func7, Tryz.ntmps7
  go_wp2_with fail
  refine (H.out _ (alloc3_below _ _ _ _)).mono ?_
  rintro r w' ⟨U, E, rfl, hQ, hw⟩
  obtain ⟨g2, g3⟩ := mid_kept hw
  obtain ⟨⟨a0, a1, a2, a3, a4, a5, a6, a7, a8, a9⟩, af⟩ := row_cells g2
  obtain ⟨⟨b0, b1, b2, b3, b4, b5, b6, b7, b8, b9⟩, bf⟩ := row_cells g3
  have af0 := af 0
  have bf0 := bf 0
  have af1 := af 1
  have bf1 := bf 1
  have af2 := af 2
  have bf2 := bf 2
  have af3 := af 3
  have bf3 := bf 3
  have af4 := af 4
  have bf4 := bf 4
  have af5 := af 5
  have bf5 := bf 5
  have af6 := af 6
  have bf6 := bf 6
  have af7 := af 7
  have bf7 := bf 7
  have af8 := af 8
  have bf8 := bf 8
  have af9 := af 9
  have bf9 := bf 9
  have HB := hid ((alloc3_below _ _ _ _).trans (hw.mono (alloc3_below _ _ _ _).size))
  have G2 := hid g2
  have HQ := hid hQ
  clear H hw g2 g3 af bf hQ
  go_wp2_with fail
  (try simp only [Exit.inBlock, Exit.then])
  refine bodyPost_ret (results_cell_row rfl _ _ (w.heap.size + 1) 34 _ (0, 0) _ rfl (set_row10 (by repeat (first | (with_reducible exact G2.out) | (with_reducible refine set_far ?_ (by omega))))) Tryz.underlying34 rfl (by kernel_rfl)) rfl ?_
  exact ⟨U, E, rfl, HQ.out, by repeat (first | (with_reducible exact HB.out) | (with_reducible refine set_below ?_ (by omega)))⟩

set_option maxRecDepth 100000 in
set_option maxHeartbeats 4000000 in
theorem easked18 (X Y I : Int) (pn : Bool) (pc pm px : Int) (neg : Bool) (p q : Option Addr) (n k cap cap' : Nat) (ex : Int) (more : Bool) (w : World) (Q : Int → Int → Prop)
    (H : ∀ wx : World, Below w.heap.size w wx → Calls Tryz.prog 11 #[.bool neg, .slice p n cap, .slice q k cap', .int .i64 ex] wx fun r w' => ∃ U E : Int, r = .returned (.tuple #[.int .u64 U, .int .i64 E]) ∧ Q U E ∧ Below wx.heap.size wx w') :
    Calls Tryz.prog 8 #[opOf 18 X Y I pn pc pm px neg (.slice p n cap) (.slice q k cap') ex more] w fun r w' => ∃ U E : Int, r = .returned (ansOf U 0 0 false false 0 0 0 (.slice none 0 0) E) ∧ Q U E ∧ Below w.heap.size w w' := by
  simp only [opOf, ansOf]
  have H := hid H
  go_enter Tryz.func8, Tryz.ntmps8
  go_wp2_with fail
  refine (H.out _ (alloc3_below _ _ _ _)).mono ?_
  rintro r w' ⟨U, E, rfl, hQ, hw⟩
  obtain ⟨g2, g3⟩ := mid_kept hw
  obtain ⟨⟨a0, a1, a2, a3, a4, a5, a6, a7, a8, a9⟩, af⟩ := row_cells g2
  obtain ⟨⟨b0, b1, b2, b3, b4, b5, b6, b7, b8, b9⟩, bf⟩ := row_cells g3
  have af0 := af 0
  have bf0 := bf 0
  have af1 := af 1
  have bf1 := bf 1
  have af2 := af 2
  have bf2 := bf 2
  have af3 := af 3
  have bf3 := bf 3
  have af4 := af 4
  have bf4 := bf 4
  have af5 := af 5
  have bf5 := bf 5
  have af6 := af 6
  have bf6 := bf 6
  have af7 := af 7
  have bf7 := bf 7
  have af8 := af 8
  have bf8 := bf 8
  have af9 := af 9
  have bf9 := bf 9
  have HB := hid ((alloc3_below _ _ _ _).trans (hw.mono (alloc3_below _ _ _ _).size))
  have G2 := hid g2
  have HQ := hid hQ
  clear H hw g2 g3 af bf hQ
  go_wp2_with fail
  (try simp only [Exit.inBlock, Exit.then])
  refine bodyPost_ret (results_cell_row rfl _ _ (w.heap.size + 1) 34 _ (0, 0) _ rfl (set_row10 (by repeat (first | (with_reducible exact G2.out) | (with_reducible refine set_far ?_ (by omega))))) Tryz.underlying34 rfl (by kernel_rfl)) rfl ?_
  exact ⟨U, E, rfl, HQ.out, by repeat (first | (with_reducible exact HB.out) | (with_reducible refine set_below ?_ (by omega)))⟩

set_option maxRecDepth 100000 in
set_option maxHeartbeats 4000000 in
theorem ewanted18 (X Y I : Int) (pn : Bool) (pc pm px : Int) (neg : Bool) (p q : Option Addr) (n k cap cap' : Nat) (ex : Int) (more : Bool) (w : World) (Q : Int → Int → Prop)
    (H : ∀ wx : World, Below w.heap.size w wx → Calls Tryz.prog 31 #[.bool neg, .slice p n cap, .slice q k cap', .int .i64 ex] wx fun r w' => ∃ U E : Int, r = .returned (.tuple #[.int .u64 U, .int .i64 E]) ∧ Q U E ∧ Below wx.heap.size wx w') :
    Calls Tryz.prog 7 #[opOf 18 X Y I pn pc pm px neg (.slice p n cap) (.slice q k cap') ex more] w fun r w' => ∃ U E : Int, r = .returned (ansOf U 0 0 false false 0 0 0 (.slice none 0 0) E) ∧ Q U E ∧ Below w.heap.size w w' := by
  simp only [opOf, ansOf]
  have H := hid H
  go_enter Tryz.func7, Tryz.ntmps7
  go_wp2_with fail
  refine (H.out _ (alloc3_below _ _ _ _)).mono ?_
  rintro r w' ⟨U, E, rfl, hQ, hw⟩
  obtain ⟨g2, g3⟩ := mid_kept hw
  obtain ⟨⟨a0, a1, a2, a3, a4, a5, a6, a7, a8, a9⟩, af⟩ := row_cells g2
  obtain ⟨⟨b0, b1, b2, b3, b4, b5, b6, b7, b8, b9⟩, bf⟩ := row_cells g3
  have af0 := af 0
  have bf0 := bf 0
  have af1 := af 1
  have bf1 := bf 1
  have af2 := af 2
  have bf2 := bf 2
  have af3 := af 3
  have bf3 := bf 3
  have af4 := af 4
  have bf4 := bf 4
  have af5 := af 5
  have bf5 := bf 5
  have af6 := af 6
  have bf6 := bf 6
  have af7 := af 7
  have bf7 := bf 7
  have af8 := af 8
  have bf8 := bf 8
  have af9 := af 9
  have bf9 := bf 9
  have HB := hid ((alloc3_below _ _ _ _).trans (hw.mono (alloc3_below _ _ _ _).size))
  have G2 := hid g2
  have HQ := hid hQ
  clear H hw g2 g3 af bf hQ
  go_wp2_with fail
  (try simp only [Exit.inBlock, Exit.then])
  refine bodyPost_ret (results_cell_row rfl _ _ (w.heap.size + 1) 34 _ (0, 0) _ rfl (set_row10 (by repeat (first | (with_reducible exact G2.out) | (with_reducible refine set_far ?_ (by omega))))) Tryz.underlying34 rfl (by kernel_rfl)) rfl ?_
  exact ⟨U, E, rfl, HQ.out, by repeat (first | (with_reducible exact HB.out) | (with_reducible refine set_below ?_ (by omega)))⟩

end Go.Proofs.YtggiioipppbedaaGreatDoor

/-
  Each kind: both sides tell one answer (made by mkeask.py).
-/
namespace Go.Proofs.YtggiioipppbedaaGreatDoor
open Go Go.RowKit Go.Deep

/-- EBth sides of a call. -/
def EBth (kd X Y I : Int) (pn : Bool) (pc pm px : Int) (neg : Bool) (n k : Nat) (ex : Int) (more : Bool) (zN zD : List Int) : Prop :=
  ∃ Q : AV → Prop, (∀ a b, Q a → Q b → a = b) ∧
    (∀ wx p q cap cap', Tab wx → Arg wx p n cap zN → Arg wx q k cap' zD → Calls Tryz.prog 7 #[opOf kd X Y I pn pc pm px neg (.slice p n cap) (.slice q k cap') ex more] wx fun r w' => AnsTold Q wx r w') ∧
    (∀ wx p' q' c1 c2, Tab wx → Arg wx p' n c1 zN → Arg wx q' k c2 zD → Calls Tryz.prog 8 #[opOf kd X Y I pn pc pm px neg (.slice p' n c1) (.slice q' k c2) ex more] wx fun r w' => AnsTold Q wx r w')

theorem both1 (X Y I : Int) (pn : Bool) (pc pm px : Int) (neg : Bool) (n k : Nat) (ex : Int) (more : Bool) (zN zD : List Int) (Q : Bool → Int → Int → Int → Prop) (one : ∀ (a : Bool) (c m x : Int) (a' : Bool) (c' m' x' : Int), Q a c m x → Q a' c' m' x' → a = a' ∧ c = c' ∧ m = m' ∧ x = x')
    (HW : ∀ (wx : World) (p q : Option Addr) (cap cap' : Nat), Tab wx → Arg wx p n cap zN → Arg wx q k cap' zD → Calls Tryz.prog 14 #[.int .u64 X] wx fun r w' => ∃ (a : Bool) (c m x : Int), r = .returned (partsOf a c m x) ∧ Q a c m x ∧ Below wx.heap.size wx w')
    (HA : ∀ (wx : World) (p' q' : Option Addr) (c1 c2 : Nat), Tab wx → Arg wx p' n c1 zN → Arg wx q' k c2 zD → Calls Tryz.prog 12 #[.int .u64 X] wx fun r w' => ∃ (a : Bool) (c m x : Int), r = .returned (partsOf a c m x) ∧ Q a c m x ∧ Below wx.heap.size wx w') :
    EBth 1 X Y I pn pc pm px neg n k ex more zN zD := by
  refine ⟨fun a9 => ∃ (a : Bool) (c m x : Int), Q a c m x ∧ a9 = (⟨0, 0, 0, false, a, c, m, x, 0, []⟩ : AV), ?_, ?_, ?_⟩
  · rintro a9 b9 ⟨a, c, m, x, h, rfl⟩ ⟨a', c', m', x', h', rfl⟩
    obtain ⟨rfl, rfl, rfl, rfl⟩ := one a c m x a' c' m' x' h h'
    rfl
  · intro wx p q cap cap' hT cN cD
    refine (ewanted1 X Y I pn pc pm px neg p q n k cap cap' ex more wx Q (fun wy hy => HW wy p q cap cap' (hT.below hy) (cN.below hy (Nat.le_refl _)) (cD.below hy (Nat.le_refl _)))).mono ?_
    rintro r w' ⟨a, c, m, x, rfl, hQ, hw⟩
    exact ⟨⟨0, 0, 0, false, a, c, m, x, 0, []⟩, none, rfl, ⟨a, c, m, x, hQ, rfl⟩, lim_nil, ls_nil _ _, hw⟩
  · intro wx p' q' c1 c2 hT aN aD
    refine (easked1 X Y I pn pc pm px neg p' q' n k c1 c2 ex more wx Q (fun wy hy => HA wy p' q' c1 c2 (hT.below hy) (aN.below hy (Nat.le_refl _)) (aD.below hy (Nat.le_refl _)))).mono ?_
    rintro r w' ⟨a, c, m, x, rfl, hQ, hw⟩
    exact ⟨⟨0, 0, 0, false, a, c, m, x, 0, []⟩, none, rfl, ⟨a, c, m, x, hQ, rfl⟩, lim_nil, ls_nil _ _, hw⟩

theorem both2 (X Y I : Int) (pn : Bool) (pc pm px : Int) (neg : Bool) (n k : Nat) (ex : Int) (more : Bool) (zN zD : List Int) (Q : Int → Int → Prop) (one : ∀ (U E : Int) (U' E' : Int), Q U E → Q U' E' → U = U' ∧ E = E')
    (HW : ∀ (wx : World) (p q : Option Addr) (cap cap' : Nat), Tab wx → Arg wx p n cap zN → Arg wx q k cap' zD → Calls Tryz.prog 15 #[partsOf pn pc pm px] wx fun r w' => ∃ U E : Int, r = .returned (.tuple #[.int .u64 U, .int .i64 E]) ∧ Q U E ∧ Below wx.heap.size wx w')
    (HA : ∀ (wx : World) (p' q' : Option Addr) (c1 c2 : Nat), Tab wx → Arg wx p' n c1 zN → Arg wx q' k c2 zD → Calls Tryz.prog 32 #[partsOf pn pc pm px] wx fun r w' => ∃ U E : Int, r = .returned (.tuple #[.int .u64 U, .int .i64 E]) ∧ Q U E ∧ Below wx.heap.size wx w') :
    EBth 2 X Y I pn pc pm px neg n k ex more zN zD := by
  refine ⟨fun a9 => ∃ U E : Int, Q U E ∧ a9 = (⟨U, 0, 0, false, false, 0, 0, 0, E, []⟩ : AV), ?_, ?_, ?_⟩
  · rintro a9 b9 ⟨U, E, h, rfl⟩ ⟨U', E', h', rfl⟩
    obtain ⟨rfl, rfl⟩ := one U E U' E' h h'
    rfl
  · intro wx p q cap cap' hT cN cD
    refine (ewanted2 X Y I pn pc pm px neg p q n k cap cap' ex more wx Q (fun wy hy => HW wy p q cap cap' (hT.below hy) (cN.below hy (Nat.le_refl _)) (cD.below hy (Nat.le_refl _)))).mono ?_
    rintro r w' ⟨U, E, rfl, hQ, hw⟩
    exact ⟨⟨U, 0, 0, false, false, 0, 0, 0, E, []⟩, none, rfl, ⟨U, E, hQ, rfl⟩, lim_nil, ls_nil _ _, hw⟩
  · intro wx p' q' c1 c2 hT aN aD
    refine (easked2 X Y I pn pc pm px neg p' q' n k c1 c2 ex more wx Q (fun wy hy => HA wy p' q' c1 c2 (hT.below hy) (aN.below hy (Nat.le_refl _)) (aD.below hy (Nat.le_refl _)))).mono ?_
    rintro r w' ⟨U, E, rfl, hQ, hw⟩
    exact ⟨⟨U, 0, 0, false, false, 0, 0, 0, E, []⟩, none, rfl, ⟨U, E, hQ, rfl⟩, lim_nil, ls_nil _ _, hw⟩

theorem both3 (X Y I : Int) (pn : Bool) (pc pm px : Int) (neg : Bool) (n k : Nat) (ex : Int) (more : Bool) (zN zD : List Int) (Q : Int → Prop) (one : ∀ (V : Int) (V' : Int), Q V → Q V' → V = V')
    (HW : ∀ (wx : World) (p q : Option Addr) (cap cap' : Nat), Tab wx → Arg wx p n cap zN → Arg wx q k cap' zD → Calls Tryz.prog 16 #[.int .u64 X] wx fun r w' => ∃ V : Int, r = .returned (.int .i64 V) ∧ Q V ∧ Below wx.heap.size wx w')
    (HA : ∀ (wx : World) (p' q' : Option Addr) (c1 c2 : Nat), Tab wx → Arg wx p' n c1 zN → Arg wx q' k c2 zD → Calls Tryz.prog 33 #[.int .u64 X] wx fun r w' => ∃ V : Int, r = .returned (.int .i64 V) ∧ Q V ∧ Below wx.heap.size wx w') :
    EBth 3 X Y I pn pc pm px neg n k ex more zN zD := by
  refine ⟨fun a9 => ∃ V : Int, Q V ∧ a9 = (⟨0, V, 0, false, false, 0, 0, 0, 0, []⟩ : AV), ?_, ?_, ?_⟩
  · rintro a9 b9 ⟨V, h, rfl⟩ ⟨V', h', rfl⟩
    obtain rfl := one V V' h h'
    rfl
  · intro wx p q cap cap' hT cN cD
    refine (ewanted3 X Y I pn pc pm px neg p q n k cap cap' ex more wx Q (fun wy hy => HW wy p q cap cap' (hT.below hy) (cN.below hy (Nat.le_refl _)) (cD.below hy (Nat.le_refl _)))).mono ?_
    rintro r w' ⟨V, rfl, hQ, hw⟩
    exact ⟨⟨0, V, 0, false, false, 0, 0, 0, 0, []⟩, none, rfl, ⟨V, hQ, rfl⟩, lim_nil, ls_nil _ _, hw⟩
  · intro wx p' q' c1 c2 hT aN aD
    refine (easked3 X Y I pn pc pm px neg p' q' n k c1 c2 ex more wx Q (fun wy hy => HA wy p' q' c1 c2 (hT.below hy) (aN.below hy (Nat.le_refl _)) (aD.below hy (Nat.le_refl _)))).mono ?_
    rintro r w' ⟨V, rfl, hQ, hw⟩
    exact ⟨⟨0, V, 0, false, false, 0, 0, 0, 0, []⟩, none, rfl, ⟨V, hQ, rfl⟩, lim_nil, ls_nil _ _, hw⟩

theorem both4 (X Y I : Int) (pn : Bool) (pc pm px : Int) (neg : Bool) (n k : Nat) (ex : Int) (more : Bool) (zN zD : List Int) (Q : Int → Prop) (one : ∀ (U : Int) (U' : Int), Q U → Q U' → U = U')
    (HW : ∀ (wx : World) (p q : Option Addr) (cap cap' : Nat), Tab wx → Arg wx p n cap zN → Arg wx q k cap' zD → Calls Tryz.prog 17 #[.int .u64 X] wx fun r w' => ∃ U : Int, r = .returned (.int .u64 U) ∧ Q U ∧ Below wx.heap.size wx w')
    (HA : ∀ (wx : World) (p' q' : Option Addr) (c1 c2 : Nat), Tab wx → Arg wx p' n c1 zN → Arg wx q' k c2 zD → Calls Tryz.prog 34 #[.int .u64 X] wx fun r w' => ∃ U : Int, r = .returned (.int .u64 U) ∧ Q U ∧ Below wx.heap.size wx w') :
    EBth 4 X Y I pn pc pm px neg n k ex more zN zD := by
  refine ⟨fun a9 => ∃ U : Int, Q U ∧ a9 = (⟨U, 0, 0, false, false, 0, 0, 0, 0, []⟩ : AV), ?_, ?_, ?_⟩
  · rintro a9 b9 ⟨U, h, rfl⟩ ⟨U', h', rfl⟩
    obtain rfl := one U U' h h'
    rfl
  · intro wx p q cap cap' hT cN cD
    refine (ewanted4 X Y I pn pc pm px neg p q n k cap cap' ex more wx Q (fun wy hy => HW wy p q cap cap' (hT.below hy) (cN.below hy (Nat.le_refl _)) (cD.below hy (Nat.le_refl _)))).mono ?_
    rintro r w' ⟨U, rfl, hQ, hw⟩
    exact ⟨⟨U, 0, 0, false, false, 0, 0, 0, 0, []⟩, none, rfl, ⟨U, hQ, rfl⟩, lim_nil, ls_nil _ _, hw⟩
  · intro wx p' q' c1 c2 hT aN aD
    refine (easked4 X Y I pn pc pm px neg p' q' n k c1 c2 ex more wx Q (fun wy hy => HA wy p' q' c1 c2 (hT.below hy) (aN.below hy (Nat.le_refl _)) (aD.below hy (Nat.le_refl _)))).mono ?_
    rintro r w' ⟨U, rfl, hQ, hw⟩
    exact ⟨⟨U, 0, 0, false, false, 0, 0, 0, 0, []⟩, none, rfl, ⟨U, hQ, rfl⟩, lim_nil, ls_nil _ _, hw⟩

theorem both5 (X Y I : Int) (pn : Bool) (pc pm px : Int) (neg : Bool) (n k : Nat) (ex : Int) (more : Bool) (zN zD : List Int) (Q : Int → Prop) (one : ∀ (U : Int) (U' : Int), Q U → Q U' → U = U')
    (HW : ∀ (wx : World) (p q : Option Addr) (cap cap' : Nat), Tab wx → Arg wx p n cap zN → Arg wx q k cap' zD → Calls Tryz.prog 18 #[.int .u64 X] wx fun r w' => ∃ U : Int, r = .returned (.int .u64 U) ∧ Q U ∧ Below wx.heap.size wx w')
    (HA : ∀ (wx : World) (p' q' : Option Addr) (c1 c2 : Nat), Tab wx → Arg wx p' n c1 zN → Arg wx q' k c2 zD → Calls Tryz.prog 35 #[.int .u64 X] wx fun r w' => ∃ U : Int, r = .returned (.int .u64 U) ∧ Q U ∧ Below wx.heap.size wx w') :
    EBth 5 X Y I pn pc pm px neg n k ex more zN zD := by
  refine ⟨fun a9 => ∃ U : Int, Q U ∧ a9 = (⟨U, 0, 0, false, false, 0, 0, 0, 0, []⟩ : AV), ?_, ?_, ?_⟩
  · rintro a9 b9 ⟨U, h, rfl⟩ ⟨U', h', rfl⟩
    obtain rfl := one U U' h h'
    rfl
  · intro wx p q cap cap' hT cN cD
    refine (ewanted5 X Y I pn pc pm px neg p q n k cap cap' ex more wx Q (fun wy hy => HW wy p q cap cap' (hT.below hy) (cN.below hy (Nat.le_refl _)) (cD.below hy (Nat.le_refl _)))).mono ?_
    rintro r w' ⟨U, rfl, hQ, hw⟩
    exact ⟨⟨U, 0, 0, false, false, 0, 0, 0, 0, []⟩, none, rfl, ⟨U, hQ, rfl⟩, lim_nil, ls_nil _ _, hw⟩
  · intro wx p' q' c1 c2 hT aN aD
    refine (easked5 X Y I pn pc pm px neg p' q' n k c1 c2 ex more wx Q (fun wy hy => HA wy p' q' c1 c2 (hT.below hy) (aN.below hy (Nat.le_refl _)) (aD.below hy (Nat.le_refl _)))).mono ?_
    rintro r w' ⟨U, rfl, hQ, hw⟩
    exact ⟨⟨U, 0, 0, false, false, 0, 0, 0, 0, []⟩, none, rfl, ⟨U, hQ, rfl⟩, lim_nil, ls_nil _ _, hw⟩

theorem both6 (X Y I : Int) (pn : Bool) (pc pm px : Int) (neg : Bool) (n k : Nat) (ex : Int) (more : Bool) (zN zD : List Int) (Q : Int → Bool → Prop) (one : ∀ (V : Int) (B : Bool) (V' : Int) (B' : Bool), Q V B → Q V' B' → V = V' ∧ B = B')
    (HW : ∀ (wx : World) (p q : Option Addr) (cap cap' : Nat), Tab wx → Arg wx p n cap zN → Arg wx q k cap' zD → Calls Tryz.prog 19 #[.int .u64 X, .int .u64 Y] wx fun r w' => ∃ (V : Int) (B : Bool), r = .returned (.tuple #[.int .i64 V, .bool B]) ∧ Q V B ∧ Below wx.heap.size wx w')
    (HA : ∀ (wx : World) (p' q' : Option Addr) (c1 c2 : Nat), Tab wx → Arg wx p' n c1 zN → Arg wx q' k c2 zD → Calls Tryz.prog 36 #[.int .u64 X, .int .u64 Y] wx fun r w' => ∃ (V : Int) (B : Bool), r = .returned (.tuple #[.int .i64 V, .bool B]) ∧ Q V B ∧ Below wx.heap.size wx w') :
    EBth 6 X Y I pn pc pm px neg n k ex more zN zD := by
  refine ⟨fun a9 => ∃ (V : Int) (B : Bool), Q V B ∧ a9 = (⟨0, V, 0, B, false, 0, 0, 0, 0, []⟩ : AV), ?_, ?_, ?_⟩
  · rintro a9 b9 ⟨V, B, h, rfl⟩ ⟨V', B', h', rfl⟩
    obtain ⟨rfl, rfl⟩ := one V B V' B' h h'
    rfl
  · intro wx p q cap cap' hT cN cD
    refine (ewanted6 X Y I pn pc pm px neg p q n k cap cap' ex more wx Q (fun wy hy => HW wy p q cap cap' (hT.below hy) (cN.below hy (Nat.le_refl _)) (cD.below hy (Nat.le_refl _)))).mono ?_
    rintro r w' ⟨V, B, rfl, hQ, hw⟩
    exact ⟨⟨0, V, 0, B, false, 0, 0, 0, 0, []⟩, none, rfl, ⟨V, B, hQ, rfl⟩, lim_nil, ls_nil _ _, hw⟩
  · intro wx p' q' c1 c2 hT aN aD
    refine (easked6 X Y I pn pc pm px neg p' q' n k c1 c2 ex more wx Q (fun wy hy => HA wy p' q' c1 c2 (hT.below hy) (aN.below hy (Nat.le_refl _)) (aD.below hy (Nat.le_refl _)))).mono ?_
    rintro r w' ⟨V, B, rfl, hQ, hw⟩
    exact ⟨⟨0, V, 0, B, false, 0, 0, 0, 0, []⟩, none, rfl, ⟨V, B, hQ, rfl⟩, lim_nil, ls_nil _ _, hw⟩

theorem both7 (X Y I : Int) (pn : Bool) (pc pm px : Int) (neg : Bool) (n k : Nat) (ex : Int) (more : Bool) (zN zD : List Int) (Q : Int → Prop) (one : ∀ (V : Int) (V' : Int), Q V → Q V' → V = V')
    (HW : ∀ (wx : World) (p q : Option Addr) (cap cap' : Nat), Tab wx → Arg wx p n cap zN → Arg wx q k cap' zD → Calls Tryz.prog 20 #[.int .u64 X, .int .u64 Y] wx fun r w' => ∃ V : Int, r = .returned (.int .i64 V) ∧ Q V ∧ Below wx.heap.size wx w')
    (HA : ∀ (wx : World) (p' q' : Option Addr) (c1 c2 : Nat), Tab wx → Arg wx p' n c1 zN → Arg wx q' k c2 zD → Calls Tryz.prog 37 #[.int .u64 X, .int .u64 Y] wx fun r w' => ∃ V : Int, r = .returned (.int .i64 V) ∧ Q V ∧ Below wx.heap.size wx w') :
    EBth 7 X Y I pn pc pm px neg n k ex more zN zD := by
  refine ⟨fun a9 => ∃ V : Int, Q V ∧ a9 = (⟨0, V, 0, false, false, 0, 0, 0, 0, []⟩ : AV), ?_, ?_, ?_⟩
  · rintro a9 b9 ⟨V, h, rfl⟩ ⟨V', h', rfl⟩
    obtain rfl := one V V' h h'
    rfl
  · intro wx p q cap cap' hT cN cD
    refine (ewanted7 X Y I pn pc pm px neg p q n k cap cap' ex more wx Q (fun wy hy => HW wy p q cap cap' (hT.below hy) (cN.below hy (Nat.le_refl _)) (cD.below hy (Nat.le_refl _)))).mono ?_
    rintro r w' ⟨V, rfl, hQ, hw⟩
    exact ⟨⟨0, V, 0, false, false, 0, 0, 0, 0, []⟩, none, rfl, ⟨V, hQ, rfl⟩, lim_nil, ls_nil _ _, hw⟩
  · intro wx p' q' c1 c2 hT aN aD
    refine (easked7 X Y I pn pc pm px neg p' q' n k c1 c2 ex more wx Q (fun wy hy => HA wy p' q' c1 c2 (hT.below hy) (aN.below hy (Nat.le_refl _)) (aD.below hy (Nat.le_refl _)))).mono ?_
    rintro r w' ⟨V, rfl, hQ, hw⟩
    exact ⟨⟨0, V, 0, false, false, 0, 0, 0, 0, []⟩, none, rfl, ⟨V, hQ, rfl⟩, lim_nil, ls_nil _ _, hw⟩

theorem both8 (X Y I : Int) (pn : Bool) (pc pm px : Int) (neg : Bool) (n k : Nat) (ex : Int) (more : Bool) (zN zD : List Int) (Q : Int → Bool → Prop) (one : ∀ (V : Int) (B : Bool) (V' : Int) (B' : Bool), Q V B → Q V' B' → V = V' ∧ B = B')
    (HW : ∀ (wx : World) (p q : Option Addr) (cap cap' : Nat), Tab wx → Arg wx p n cap zN → Arg wx q k cap' zD → Calls Tryz.prog 21 #[.int .u64 X] wx fun r w' => ∃ (V : Int) (B : Bool), r = .returned (.tuple #[.int .i64 V, .bool B]) ∧ Q V B ∧ Below wx.heap.size wx w')
    (HA : ∀ (wx : World) (p' q' : Option Addr) (c1 c2 : Nat), Tab wx → Arg wx p' n c1 zN → Arg wx q' k c2 zD → Calls Tryz.prog 38 #[.int .u64 X] wx fun r w' => ∃ (V : Int) (B : Bool), r = .returned (.tuple #[.int .i64 V, .bool B]) ∧ Q V B ∧ Below wx.heap.size wx w') :
    EBth 8 X Y I pn pc pm px neg n k ex more zN zD := by
  refine ⟨fun a9 => ∃ (V : Int) (B : Bool), Q V B ∧ a9 = (⟨0, 0, V, B, false, 0, 0, 0, 0, []⟩ : AV), ?_, ?_, ?_⟩
  · rintro a9 b9 ⟨V, B, h, rfl⟩ ⟨V', B', h', rfl⟩
    obtain ⟨rfl, rfl⟩ := one V B V' B' h h'
    rfl
  · intro wx p q cap cap' hT cN cD
    refine (ewanted8 X Y I pn pc pm px neg p q n k cap cap' ex more wx Q (fun wy hy => HW wy p q cap cap' (hT.below hy) (cN.below hy (Nat.le_refl _)) (cD.below hy (Nat.le_refl _)))).mono ?_
    rintro r w' ⟨V, B, rfl, hQ, hw⟩
    exact ⟨⟨0, 0, V, B, false, 0, 0, 0, 0, []⟩, none, rfl, ⟨V, B, hQ, rfl⟩, lim_nil, ls_nil _ _, hw⟩
  · intro wx p' q' c1 c2 hT aN aD
    refine (easked8 X Y I pn pc pm px neg p' q' n k c1 c2 ex more wx Q (fun wy hy => HA wy p' q' c1 c2 (hT.below hy) (aN.below hy (Nat.le_refl _)) (aD.below hy (Nat.le_refl _)))).mono ?_
    rintro r w' ⟨V, B, rfl, hQ, hw⟩
    exact ⟨⟨0, 0, V, B, false, 0, 0, 0, 0, []⟩, none, rfl, ⟨V, B, hQ, rfl⟩, lim_nil, ls_nil _ _, hw⟩

theorem both9 (X Y I : Int) (pn : Bool) (pc pm px : Int) (neg : Bool) (n k : Nat) (ex : Int) (more : Bool) (zN zD : List Int) (Q : Int → Bool → Prop) (one : ∀ (U : Int) (B : Bool) (U' : Int) (B' : Bool), Q U B → Q U' B' → U = U' ∧ B = B')
    (HW : ∀ (wx : World) (p q : Option Addr) (cap cap' : Nat), Tab wx → Arg wx p n cap zN → Arg wx q k cap' zD → Calls Tryz.prog 22 #[.int .i64 I] wx fun r w' => ∃ (U : Int) (B : Bool), r = .returned (.tuple #[.int .u64 U, .bool B]) ∧ Q U B ∧ Below wx.heap.size wx w')
    (HA : ∀ (wx : World) (p' q' : Option Addr) (c1 c2 : Nat), Tab wx → Arg wx p' n c1 zN → Arg wx q' k c2 zD → Calls Tryz.prog 39 #[.int .i64 I] wx fun r w' => ∃ (U : Int) (B : Bool), r = .returned (.tuple #[.int .u64 U, .bool B]) ∧ Q U B ∧ Below wx.heap.size wx w') :
    EBth 9 X Y I pn pc pm px neg n k ex more zN zD := by
  refine ⟨fun a9 => ∃ (U : Int) (B : Bool), Q U B ∧ a9 = (⟨U, 0, 0, B, false, 0, 0, 0, 0, []⟩ : AV), ?_, ?_, ?_⟩
  · rintro a9 b9 ⟨U, B, h, rfl⟩ ⟨U', B', h', rfl⟩
    obtain ⟨rfl, rfl⟩ := one U B U' B' h h'
    rfl
  · intro wx p q cap cap' hT cN cD
    refine (ewanted9 X Y I pn pc pm px neg p q n k cap cap' ex more wx Q (fun wy hy => HW wy p q cap cap' (hT.below hy) (cN.below hy (Nat.le_refl _)) (cD.below hy (Nat.le_refl _)))).mono ?_
    rintro r w' ⟨U, B, rfl, hQ, hw⟩
    exact ⟨⟨U, 0, 0, B, false, 0, 0, 0, 0, []⟩, none, rfl, ⟨U, B, hQ, rfl⟩, lim_nil, ls_nil _ _, hw⟩
  · intro wx p' q' c1 c2 hT aN aD
    refine (easked9 X Y I pn pc pm px neg p' q' n k c1 c2 ex more wx Q (fun wy hy => HA wy p' q' c1 c2 (hT.below hy) (aN.below hy (Nat.le_refl _)) (aD.below hy (Nat.le_refl _)))).mono ?_
    rintro r w' ⟨U, B, rfl, hQ, hw⟩
    exact ⟨⟨U, 0, 0, B, false, 0, 0, 0, 0, []⟩, none, rfl, ⟨U, B, hQ, rfl⟩, lim_nil, ls_nil _ _, hw⟩

theorem both10 (X Y I : Int) (pn : Bool) (pc pm px : Int) (neg : Bool) (n k : Nat) (ex : Int) (more : Bool) (zN zD : List Int) (Q : Int → Prop) (one : ∀ (U : Int) (U' : Int), Q U → Q U' → U = U')
    (HW : ∀ (wx : World) (p q : Option Addr) (cap cap' : Nat), Tab wx → Arg wx p n cap zN → Arg wx q k cap' zD → Calls Tryz.prog 23 #[.int .u64 X] wx fun r w' => ∃ U : Int, r = .returned (.int .u64 U) ∧ Q U ∧ Below wx.heap.size wx w')
    (HA : ∀ (wx : World) (p' q' : Option Addr) (c1 c2 : Nat), Tab wx → Arg wx p' n c1 zN → Arg wx q' k c2 zD → Calls Tryz.prog 13 #[.int .u64 X] wx fun r w' => ∃ U : Int, r = .returned (.int .u64 U) ∧ Q U ∧ Below wx.heap.size wx w') :
    EBth 10 X Y I pn pc pm px neg n k ex more zN zD := by
  refine ⟨fun a9 => ∃ U : Int, Q U ∧ a9 = (⟨U, 0, 0, false, false, 0, 0, 0, 0, []⟩ : AV), ?_, ?_, ?_⟩
  · rintro a9 b9 ⟨U, h, rfl⟩ ⟨U', h', rfl⟩
    obtain rfl := one U U' h h'
    rfl
  · intro wx p q cap cap' hT cN cD
    refine (ewanted10 X Y I pn pc pm px neg p q n k cap cap' ex more wx Q (fun wy hy => HW wy p q cap cap' (hT.below hy) (cN.below hy (Nat.le_refl _)) (cD.below hy (Nat.le_refl _)))).mono ?_
    rintro r w' ⟨U, rfl, hQ, hw⟩
    exact ⟨⟨U, 0, 0, false, false, 0, 0, 0, 0, []⟩, none, rfl, ⟨U, hQ, rfl⟩, lim_nil, ls_nil _ _, hw⟩
  · intro wx p' q' c1 c2 hT aN aD
    refine (easked10 X Y I pn pc pm px neg p' q' n k c1 c2 ex more wx Q (fun wy hy => HA wy p' q' c1 c2 (hT.below hy) (aN.below hy (Nat.le_refl _)) (aD.below hy (Nat.le_refl _)))).mono ?_
    rintro r w' ⟨U, rfl, hQ, hw⟩
    exact ⟨⟨U, 0, 0, false, false, 0, 0, 0, 0, []⟩, none, rfl, ⟨U, hQ, rfl⟩, lim_nil, ls_nil _ _, hw⟩

theorem both11 (X Y I : Int) (pn : Bool) (pc pm px : Int) (neg : Bool) (n k : Nat) (ex : Int) (more : Bool) (zN zD : List Int) (Q : Int → Prop) (one : ∀ (U : Int) (U' : Int), Q U → Q U' → U = U')
    (HW : ∀ (wx : World) (p q : Option Addr) (cap cap' : Nat), Tab wx → Arg wx p n cap zN → Arg wx q k cap' zD → Calls Tryz.prog 24 #[.int .u64 X] wx fun r w' => ∃ U : Int, r = .returned (.int .u64 U) ∧ Q U ∧ Below wx.heap.size wx w')
    (HA : ∀ (wx : World) (p' q' : Option Addr) (c1 c2 : Nat), Tab wx → Arg wx p' n c1 zN → Arg wx q' k c2 zD → Calls Tryz.prog 40 #[.int .u64 X] wx fun r w' => ∃ U : Int, r = .returned (.int .u64 U) ∧ Q U ∧ Below wx.heap.size wx w') :
    EBth 11 X Y I pn pc pm px neg n k ex more zN zD := by
  refine ⟨fun a9 => ∃ U : Int, Q U ∧ a9 = (⟨U, 0, 0, false, false, 0, 0, 0, 0, []⟩ : AV), ?_, ?_, ?_⟩
  · rintro a9 b9 ⟨U, h, rfl⟩ ⟨U', h', rfl⟩
    obtain rfl := one U U' h h'
    rfl
  · intro wx p q cap cap' hT cN cD
    refine (ewanted11 X Y I pn pc pm px neg p q n k cap cap' ex more wx Q (fun wy hy => HW wy p q cap cap' (hT.below hy) (cN.below hy (Nat.le_refl _)) (cD.below hy (Nat.le_refl _)))).mono ?_
    rintro r w' ⟨U, rfl, hQ, hw⟩
    exact ⟨⟨U, 0, 0, false, false, 0, 0, 0, 0, []⟩, none, rfl, ⟨U, hQ, rfl⟩, lim_nil, ls_nil _ _, hw⟩
  · intro wx p' q' c1 c2 hT aN aD
    refine (easked11 X Y I pn pc pm px neg p' q' n k c1 c2 ex more wx Q (fun wy hy => HA wy p' q' c1 c2 (hT.below hy) (aN.below hy (Nat.le_refl _)) (aD.below hy (Nat.le_refl _)))).mono ?_
    rintro r w' ⟨U, rfl, hQ, hw⟩
    exact ⟨⟨U, 0, 0, false, false, 0, 0, 0, 0, []⟩, none, rfl, ⟨U, hQ, rfl⟩, lim_nil, ls_nil _ _, hw⟩

theorem both12 (X Y I : Int) (pn : Bool) (pc pm px : Int) (neg : Bool) (n k : Nat) (ex : Int) (more : Bool) (zN zD : List Int) (Q : Bool → Prop) (one : ∀ (B : Bool) (B' : Bool), Q B → Q B' → B = B')
    (HW : ∀ (wx : World) (p q : Option Addr) (cap cap' : Nat), Tab wx → Arg wx p n cap zN → Arg wx q k cap' zD → Calls Tryz.prog 25 #[.int .u64 X] wx fun r w' => ∃ B : Bool, r = .returned (.bool B) ∧ Q B ∧ Below wx.heap.size wx w')
    (HA : ∀ (wx : World) (p' q' : Option Addr) (c1 c2 : Nat), Tab wx → Arg wx p' n c1 zN → Arg wx q' k c2 zD → Calls Tryz.prog 41 #[.int .u64 X] wx fun r w' => ∃ B : Bool, r = .returned (.bool B) ∧ Q B ∧ Below wx.heap.size wx w') :
    EBth 12 X Y I pn pc pm px neg n k ex more zN zD := by
  refine ⟨fun a9 => ∃ B : Bool, Q B ∧ a9 = (⟨0, 0, 0, B, false, 0, 0, 0, 0, []⟩ : AV), ?_, ?_, ?_⟩
  · rintro a9 b9 ⟨B, h, rfl⟩ ⟨B', h', rfl⟩
    obtain rfl := one B B' h h'
    rfl
  · intro wx p q cap cap' hT cN cD
    refine (ewanted12 X Y I pn pc pm px neg p q n k cap cap' ex more wx Q (fun wy hy => HW wy p q cap cap' (hT.below hy) (cN.below hy (Nat.le_refl _)) (cD.below hy (Nat.le_refl _)))).mono ?_
    rintro r w' ⟨B, rfl, hQ, hw⟩
    exact ⟨⟨0, 0, 0, B, false, 0, 0, 0, 0, []⟩, none, rfl, ⟨B, hQ, rfl⟩, lim_nil, ls_nil _ _, hw⟩
  · intro wx p' q' c1 c2 hT aN aD
    refine (easked12 X Y I pn pc pm px neg p' q' n k c1 c2 ex more wx Q (fun wy hy => HA wy p' q' c1 c2 (hT.below hy) (aN.below hy (Nat.le_refl _)) (aD.below hy (Nat.le_refl _)))).mono ?_
    rintro r w' ⟨B, rfl, hQ, hw⟩
    exact ⟨⟨0, 0, 0, B, false, 0, 0, 0, 0, []⟩, none, rfl, ⟨B, hQ, rfl⟩, lim_nil, ls_nil _ _, hw⟩

theorem both13 (X Y I : Int) (pn : Bool) (pc pm px : Int) (neg : Bool) (n k : Nat) (ex : Int) (more : Bool) (zN zD : List Int) (Q : Int → Prop) (one : ∀ (U : Int) (U' : Int), Q U → Q U' → U = U')
    (HW : ∀ (wx : World) (p q : Option Addr) (cap cap' : Nat), Tab wx → Arg wx p n cap zN → Arg wx q k cap' zD → Calls Tryz.prog 26 #[.int .i64 I] wx fun r w' => ∃ U : Int, r = .returned (.int .u64 U) ∧ Q U ∧ Below wx.heap.size wx w')
    (HA : ∀ (wx : World) (p' q' : Option Addr) (c1 c2 : Nat), Tab wx → Arg wx p' n c1 zN → Arg wx q' k c2 zD → Calls Tryz.prog 42 #[.int .i64 I] wx fun r w' => ∃ U : Int, r = .returned (.int .u64 U) ∧ Q U ∧ Below wx.heap.size wx w') :
    EBth 13 X Y I pn pc pm px neg n k ex more zN zD := by
  refine ⟨fun a9 => ∃ U : Int, Q U ∧ a9 = (⟨U, 0, 0, false, false, 0, 0, 0, 0, []⟩ : AV), ?_, ?_, ?_⟩
  · rintro a9 b9 ⟨U, h, rfl⟩ ⟨U', h', rfl⟩
    obtain rfl := one U U' h h'
    rfl
  · intro wx p q cap cap' hT cN cD
    refine (ewanted13 X Y I pn pc pm px neg p q n k cap cap' ex more wx Q (fun wy hy => HW wy p q cap cap' (hT.below hy) (cN.below hy (Nat.le_refl _)) (cD.below hy (Nat.le_refl _)))).mono ?_
    rintro r w' ⟨U, rfl, hQ, hw⟩
    exact ⟨⟨U, 0, 0, false, false, 0, 0, 0, 0, []⟩, none, rfl, ⟨U, hQ, rfl⟩, lim_nil, ls_nil _ _, hw⟩
  · intro wx p' q' c1 c2 hT aN aD
    refine (easked13 X Y I pn pc pm px neg p' q' n k c1 c2 ex more wx Q (fun wy hy => HA wy p' q' c1 c2 (hT.below hy) (aN.below hy (Nat.le_refl _)) (aD.below hy (Nat.le_refl _)))).mono ?_
    rintro r w' ⟨U, rfl, hQ, hw⟩
    exact ⟨⟨U, 0, 0, false, false, 0, 0, 0, 0, []⟩, none, rfl, ⟨U, hQ, rfl⟩, lim_nil, ls_nil _ _, hw⟩

theorem both14 (X Y I : Int) (pn : Bool) (pc pm px : Int) (neg : Bool) (n k : Nat) (ex : Int) (more : Bool) (zN zD : List Int) (Q : Int → Prop) (one : ∀ (U : Int) (U' : Int), Q U → Q U' → U = U')
    (HW : ∀ (wx : World) (p q : Option Addr) (cap cap' : Nat), Tab wx → Arg wx p n cap zN → Arg wx q k cap' zD → Calls Tryz.prog 27 #[.int .u64 X] wx fun r w' => ∃ U : Int, r = .returned (.int .u64 U) ∧ Q U ∧ Below wx.heap.size wx w')
    (HA : ∀ (wx : World) (p' q' : Option Addr) (c1 c2 : Nat), Tab wx → Arg wx p' n c1 zN → Arg wx q' k c2 zD → Calls Tryz.prog 43 #[.int .u64 X] wx fun r w' => ∃ U : Int, r = .returned (.int .u64 U) ∧ Q U ∧ Below wx.heap.size wx w') :
    EBth 14 X Y I pn pc pm px neg n k ex more zN zD := by
  refine ⟨fun a9 => ∃ U : Int, Q U ∧ a9 = (⟨U, 0, 0, false, false, 0, 0, 0, 0, []⟩ : AV), ?_, ?_, ?_⟩
  · rintro a9 b9 ⟨U, h, rfl⟩ ⟨U', h', rfl⟩
    obtain rfl := one U U' h h'
    rfl
  · intro wx p q cap cap' hT cN cD
    refine (ewanted14 X Y I pn pc pm px neg p q n k cap cap' ex more wx Q (fun wy hy => HW wy p q cap cap' (hT.below hy) (cN.below hy (Nat.le_refl _)) (cD.below hy (Nat.le_refl _)))).mono ?_
    rintro r w' ⟨U, rfl, hQ, hw⟩
    exact ⟨⟨U, 0, 0, false, false, 0, 0, 0, 0, []⟩, none, rfl, ⟨U, hQ, rfl⟩, lim_nil, ls_nil _ _, hw⟩
  · intro wx p' q' c1 c2 hT aN aD
    refine (easked14 X Y I pn pc pm px neg p' q' n k c1 c2 ex more wx Q (fun wy hy => HA wy p' q' c1 c2 (hT.below hy) (aN.below hy (Nat.le_refl _)) (aD.below hy (Nat.le_refl _)))).mono ?_
    rintro r w' ⟨U, rfl, hQ, hw⟩
    exact ⟨⟨U, 0, 0, false, false, 0, 0, 0, 0, []⟩, none, rfl, ⟨U, hQ, rfl⟩, lim_nil, ls_nil _ _, hw⟩

theorem both15 (X Y I : Int) (pn : Bool) (pc pm px : Int) (neg : Bool) (n k : Nat) (ex : Int) (more : Bool) (zN zD : List Int) (Q : Int → Int → Prop) (one : ∀ (V E : Int) (V' E' : Int), Q V E → Q V' E' → V = V' ∧ E = E')
    (HW : ∀ (wx : World) (p q : Option Addr) (cap cap' : Nat), Tab wx → Arg wx p n cap zN → Arg wx q k cap' zD → Calls Tryz.prog 28 #[.int .u64 X] wx fun r w' => ∃ V E : Int, r = .returned (.tuple #[.int .i64 V, .int .i64 E]) ∧ Q V E ∧ Below wx.heap.size wx w')
    (HA : ∀ (wx : World) (p' q' : Option Addr) (c1 c2 : Nat), Tab wx → Arg wx p' n c1 zN → Arg wx q' k c2 zD → Calls Tryz.prog 44 #[.int .u64 X] wx fun r w' => ∃ V E : Int, r = .returned (.tuple #[.int .i64 V, .int .i64 E]) ∧ Q V E ∧ Below wx.heap.size wx w') :
    EBth 15 X Y I pn pc pm px neg n k ex more zN zD := by
  refine ⟨fun a9 => ∃ V E : Int, Q V E ∧ a9 = (⟨0, 0, V, false, false, 0, 0, 0, E, []⟩ : AV), ?_, ?_, ?_⟩
  · rintro a9 b9 ⟨V, E, h, rfl⟩ ⟨V', E', h', rfl⟩
    obtain ⟨rfl, rfl⟩ := one V E V' E' h h'
    rfl
  · intro wx p q cap cap' hT cN cD
    refine (ewanted15 X Y I pn pc pm px neg p q n k cap cap' ex more wx Q (fun wy hy => HW wy p q cap cap' (hT.below hy) (cN.below hy (Nat.le_refl _)) (cD.below hy (Nat.le_refl _)))).mono ?_
    rintro r w' ⟨V, E, rfl, hQ, hw⟩
    exact ⟨⟨0, 0, V, false, false, 0, 0, 0, E, []⟩, none, rfl, ⟨V, E, hQ, rfl⟩, lim_nil, ls_nil _ _, hw⟩
  · intro wx p' q' c1 c2 hT aN aD
    refine (easked15 X Y I pn pc pm px neg p' q' n k c1 c2 ex more wx Q (fun wy hy => HA wy p' q' c1 c2 (hT.below hy) (aN.below hy (Nat.le_refl _)) (aD.below hy (Nat.le_refl _)))).mono ?_
    rintro r w' ⟨V, E, rfl, hQ, hw⟩
    exact ⟨⟨0, 0, V, false, false, 0, 0, 0, E, []⟩, none, rfl, ⟨V, E, hQ, rfl⟩, lim_nil, ls_nil _ _, hw⟩

theorem both17 (X Y I : Int) (pn : Bool) (pc pm px : Int) (neg : Bool) (n k : Nat) (ex : Int) (more : Bool) (zN zD : List Int) (Q : Int → Int → Prop) (one : ∀ (U E : Int) (U' E' : Int), Q U E → Q U' E' → U = U' ∧ E = E')
    (HW : ∀ (wx : World) (p q : Option Addr) (cap cap' : Nat), Tab wx → Arg wx p n cap zN → Arg wx q k cap' zD → Calls Tryz.prog 30 #[.bool neg, .slice p n cap, .int .i64 ex, .bool more] wx fun r w' => ∃ U E : Int, r = .returned (.tuple #[.int .u64 U, .int .i64 E]) ∧ Q U E ∧ Below wx.heap.size wx w')
    (HA : ∀ (wx : World) (p' q' : Option Addr) (c1 c2 : Nat), Tab wx → Arg wx p' n c1 zN → Arg wx q' k c2 zD → Calls Tryz.prog 46 #[.bool neg, .slice p' n c1, .int .i64 ex, .bool more] wx fun r w' => ∃ U E : Int, r = .returned (.tuple #[.int .u64 U, .int .i64 E]) ∧ Q U E ∧ Below wx.heap.size wx w') :
    EBth 17 X Y I pn pc pm px neg n k ex more zN zD := by
  refine ⟨fun a9 => ∃ U E : Int, Q U E ∧ a9 = (⟨U, 0, 0, false, false, 0, 0, 0, E, []⟩ : AV), ?_, ?_, ?_⟩
  · rintro a9 b9 ⟨U, E, h, rfl⟩ ⟨U', E', h', rfl⟩
    obtain ⟨rfl, rfl⟩ := one U E U' E' h h'
    rfl
  · intro wx p q cap cap' hT cN cD
    refine (ewanted17 X Y I pn pc pm px neg p q n k cap cap' ex more wx Q (fun wy hy => HW wy p q cap cap' (hT.below hy) (cN.below hy (Nat.le_refl _)) (cD.below hy (Nat.le_refl _)))).mono ?_
    rintro r w' ⟨U, E, rfl, hQ, hw⟩
    exact ⟨⟨U, 0, 0, false, false, 0, 0, 0, E, []⟩, none, rfl, ⟨U, E, hQ, rfl⟩, lim_nil, ls_nil _ _, hw⟩
  · intro wx p' q' c1 c2 hT aN aD
    refine (easked17 X Y I pn pc pm px neg p' q' n k c1 c2 ex more wx Q (fun wy hy => HA wy p' q' c1 c2 (hT.below hy) (aN.below hy (Nat.le_refl _)) (aD.below hy (Nat.le_refl _)))).mono ?_
    rintro r w' ⟨U, E, rfl, hQ, hw⟩
    exact ⟨⟨U, 0, 0, false, false, 0, 0, 0, E, []⟩, none, rfl, ⟨U, E, hQ, rfl⟩, lim_nil, ls_nil _ _, hw⟩

theorem both18 (X Y I : Int) (pn : Bool) (pc pm px : Int) (neg : Bool) (n k : Nat) (ex : Int) (more : Bool) (zN zD : List Int) (Q : Int → Int → Prop) (one : ∀ (U E : Int) (U' E' : Int), Q U E → Q U' E' → U = U' ∧ E = E')
    (HW : ∀ (wx : World) (p q : Option Addr) (cap cap' : Nat), Tab wx → Arg wx p n cap zN → Arg wx q k cap' zD → Calls Tryz.prog 31 #[.bool neg, .slice p n cap, .slice q k cap', .int .i64 ex] wx fun r w' => ∃ U E : Int, r = .returned (.tuple #[.int .u64 U, .int .i64 E]) ∧ Q U E ∧ Below wx.heap.size wx w')
    (HA : ∀ (wx : World) (p' q' : Option Addr) (c1 c2 : Nat), Tab wx → Arg wx p' n c1 zN → Arg wx q' k c2 zD → Calls Tryz.prog 11 #[.bool neg, .slice p' n c1, .slice q' k c2, .int .i64 ex] wx fun r w' => ∃ U E : Int, r = .returned (.tuple #[.int .u64 U, .int .i64 E]) ∧ Q U E ∧ Below wx.heap.size wx w') :
    EBth 18 X Y I pn pc pm px neg n k ex more zN zD := by
  refine ⟨fun a9 => ∃ U E : Int, Q U E ∧ a9 = (⟨U, 0, 0, false, false, 0, 0, 0, E, []⟩ : AV), ?_, ?_, ?_⟩
  · rintro a9 b9 ⟨U, E, h, rfl⟩ ⟨U', E', h', rfl⟩
    obtain ⟨rfl, rfl⟩ := one U E U' E' h h'
    rfl
  · intro wx p q cap cap' hT cN cD
    refine (ewanted18 X Y I pn pc pm px neg p q n k cap cap' ex more wx Q (fun wy hy => HW wy p q cap cap' (hT.below hy) (cN.below hy (Nat.le_refl _)) (cD.below hy (Nat.le_refl _)))).mono ?_
    rintro r w' ⟨U, E, rfl, hQ, hw⟩
    exact ⟨⟨U, 0, 0, false, false, 0, 0, 0, E, []⟩, none, rfl, ⟨U, E, hQ, rfl⟩, lim_nil, ls_nil _ _, hw⟩
  · intro wx p' q' c1 c2 hT aN aD
    refine (easked18 X Y I pn pc pm px neg p' q' n k c1 c2 ex more wx Q (fun wy hy => HA wy p' q' c1 c2 (hT.below hy) (aN.below hy (Nat.le_refl _)) (aD.below hy (Nat.le_refl _)))).mono ?_
    rintro r w' ⟨U, E, rfl, hQ, hw⟩
    exact ⟨⟨U, 0, 0, false, false, 0, 0, 0, E, []⟩, none, rfl, ⟨U, E, hQ, rfl⟩, lim_nil, ls_nil _ _, hw⟩

theorem both16 (X Y I : Int) (pn : Bool) (pc pm px : Int) (neg : Bool) (n k : Nat) (ex : Int) (more : Bool) (zN zD : List Int) (Q : Bool → Int → Int → Prop) (one : ∀ (B : Bool) (E v : Int) (B' : Bool) (E' v' : Int), Q B E v → Q B' E' v' → B = B' ∧ E = E' ∧ v = v')
    (HW : ∀ (wx : World) (p q : Option Addr) (cap cap' : Nat), Tab wx → Arg wx p n cap zN → Arg wx q k cap' zD → Calls Tryz.prog 29 #[.int .u64 X] wx fun r w' => ∃ (B : Bool) (E v : Int) (pl : Option Addr) (os : List Int), r = .returned (.tuple #[.bool B, .slice pl (List.length os) (List.length os), .int .i64 E]) ∧ Q B E v ∧ Ans wx.heap.size w' pl os v ∧ Below wx.heap.size wx w')
    (HA : ∀ wx : World, Tab wx → Calls Tryz.prog 45 #[.int .u64 X] wx fun r w' => ∃ (B : Bool) (E v : Int) (pl : Option Addr) (os : List Int), r = .returned (.tuple #[.bool B, .slice pl (List.length os) (List.length os), .int .i64 E]) ∧ Q B E v ∧ Ans wx.heap.size w' pl os v ∧ Below wx.heap.size wx w')
    (fit : ∀ B E v, Q B E v → v < Nm.pw 4096) :
    EBth 16 X Y I pn pc pm px neg n k ex more zN zD := by
  refine ⟨fun a9 => ∃ (B : Bool) (E v : Int) (os : List Int), Q B E v ∧ Nm.Limbs os ∧ Nm.tsize os = os.length ∧ Nm.val os = v ∧ a9 = (⟨0, 0, 0, B, false, 0, 0, 0, E, os⟩ : AV), ?_, ?_, ?_⟩
  · rintro a9 b9 ⟨B, E, v, os, h, l1, t1, v1, rfl⟩ ⟨B', E', v', os', h', l2, t2, v2, rfl⟩
    obtain ⟨rfl, rfl, rfl⟩ := one B E v B' E' v' h h'
    have e : os = os' := Nm.canon l1 l2 t1 t2 (v1.trans v2.symm)
    rw [e]
  · intro wx p q cap cap' hT cN cD
    refine (ewanted16 X Y I pn pc pm px neg p q n k cap cap' ex more wx Q (fun wy hy => HW wy p q cap cap' (hT.below hy) (cN.below hy (Nat.le_refl _)) (cD.below hy (Nat.le_refl _)))).mono ?_
    rintro r w' ⟨B, E, v, pl, os, rfl, hQ, A, hw⟩
    exact ⟨⟨0, 0, 0, B, false, 0, 0, 0, E, os⟩, pl, rfl, ⟨B, E, v, os, hQ, A.2.1, A.2.2.1, A.2.2.2.1, rfl⟩, ⟨A.2.1, show os.length ≤ 17592186044000 by have := A.small (fit B E v hQ); omega⟩, A.ls, hw⟩
  · intro wx p' q' c1 c2 hT aN aD
    refine (easked16 X Y I pn pc pm px neg p' q' n k c1 c2 ex more wx Q (fun wy hy => HA wy (hT.below hy))).mono ?_
    rintro r w' ⟨B, E, v, pl, os, rfl, hQ, A, hw⟩
    exact ⟨⟨0, 0, 0, B, false, 0, 0, 0, E, os⟩, pl, rfl, ⟨B, E, v, os, hQ, A.2.1, A.2.2.1, A.2.2.2.1, rfl⟩, ⟨A.2.1, show os.length ≤ 17592186044000 by have := A.small (fit B E v hQ); omega⟩, A.ls, hw⟩
end Go.Proofs.YtggiioipppbedaaGreatDoor
