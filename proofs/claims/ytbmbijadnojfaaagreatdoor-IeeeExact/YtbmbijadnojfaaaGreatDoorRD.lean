/-
  Texts put together: EAsk3, EAsk4, EAsk5, EAsk6.
-/
import Derived.Test.YtbmbijadnojfaaaGreatDoorRC
/-
  asked and wanted: kinds 7 to 9 (made by mkeask.py).
-/
namespace Go.Proofs.YtbmbijadnojfaaaGreatDoor
open Go Go.RowKit Go.Deep

set_option maxRecDepth 100000 in
set_option maxHeartbeats 4000000 in
theorem easked7 (X Y I : Int) (pn : Bool) (pc pm px : Int) (neg : Bool) (p q : Option Addr) (n k cap cap' : Nat) (ex : Int) (more : Bool) (w : World) (Q : Int → Prop)
    (H : ∀ wx : World, Below w.heap.size w wx → Calls Tryz.prog 36 #[.int .u64 X, .int .u64 Y] wx fun r w' => ∃ V : Int, r = .returned (.int .i64 V) ∧ Q V ∧ Below wx.heap.size wx w') :
    Calls Tryz.prog 8 #[opOf 7 X Y I pn pc pm px neg (.slice p n cap) (.slice q k cap') ex more] w fun r w' => ∃ V : Int, r = .returned (ansOf 0 V 0 false false 0 0 0 (.slice none 0 0) 0) ∧ Q V ∧ Below w.heap.size w w' := by
  simp only [opOf, ansOf]
  have H := hid H
  go_enter Tryz.func8, Tryz.ntmps8
  go_wp2_with fail
  refine (H.out _ (alloc3_below _ _ _ _)).mono ?_
  rintro r w' ⟨V, rfl, hQ, hw⟩
  obtain ⟨g2, g3⟩ := mid_kept hw
  obtain ⟨⟨a0, a1, a2, a3, a4, a5, a6, a7, a8, a9⟩, af⟩ := row_cells g2
  obtain ⟨⟨b0, b1, b2, b3, b4, b5, b6, b7, b8, b9⟩, bf⟩ := row_cells g3
  have af0 := af 0
  have bf0 := bf 0
  have af1 := af 1
  have bf1 := bf 1
  have af2 := af 2
  have bf2 := bf 2
  have af3 := af 3
  have bf3 := bf 3
  have af4 := af 4
  have bf4 := bf 4
  have af5 := af 5
  have bf5 := bf 5
  have af6 := af 6
  have bf6 := bf 6
  have af7 := af 7
  have bf7 := bf 7
  have af8 := af 8
  have bf8 := bf 8
  have af9 := af 9
  have bf9 := bf 9
  have HB := hid ((alloc3_below _ _ _ _).trans (hw.mono (alloc3_below _ _ _ _).size))
  have G2 := hid g2
  have HQ := hid hQ
  clear H hw g2 g3 af bf hQ
  go_wp2_with fail
  (try simp only [Exit.inBlock, Exit.then])
  refine bodyPost_ret (results_cell_row rfl _ _ (w.heap.size + 1) 31 _ (0, 0) _ rfl (set_row10 (by repeat (first | (with_reducible exact G2.out) | (with_reducible refine set_far ?_ (by omega))))) Tryz.underlying31 rfl (by kernel_rfl)) rfl ?_
  exact ⟨V, rfl, HQ.out, by repeat (first | (with_reducible exact HB.out) | (with_reducible refine set_below ?_ (by omega)))⟩

set_option maxRecDepth 100000 in
set_option maxHeartbeats 4000000 in
theorem ewanted7 (X Y I : Int) (pn : Bool) (pc pm px : Int) (neg : Bool) (p q : Option Addr) (n k cap cap' : Nat) (ex : Int) (more : Bool) (w : World) (Q : Int → Prop)
    (H : ∀ wx : World, Below w.heap.size w wx → Calls Tryz.prog 18 #[.int .u64 X, .int .u64 Y] wx fun r w' => ∃ V : Int, r = .returned (.int .i64 V) ∧ Q V ∧ Below wx.heap.size wx w') :
    Calls Tryz.prog 5 #[opOf 7 X Y I pn pc pm px neg (.slice p n cap) (.slice q k cap') ex more] w fun r w' => ∃ V : Int, r = .returned (ansOf 0 V 0 false false 0 0 0 (.slice none 0 0) 0) ∧ Q V ∧ Below w.heap.size w w' := by
  simp only [opOf, ansOf]
  have H := hid H
  go_enter Tryz.func5, Tryz.ntmps5
  go_wp2_with fail
  refine (H.out _ (alloc3_below _ _ _ _)).mono ?_
  rintro r w' ⟨V, rfl, hQ, hw⟩
  obtain ⟨g2, g3⟩ := mid_kept hw
  obtain ⟨⟨a0, a1, a2, a3, a4, a5, a6, a7, a8, a9⟩, af⟩ := row_cells g2
  obtain ⟨⟨b0, b1, b2, b3, b4, b5, b6, b7, b8, b9⟩, bf⟩ := row_cells g3
  have af0 := af 0
  have bf0 := bf 0
  have af1 := af 1
  have bf1 := bf 1
  have af2 := af 2
  have bf2 := bf 2
  have af3 := af 3
  have bf3 := bf 3
  have af4 := af 4
  have bf4 := bf 4
  have af5 := af 5
  have bf5 := bf 5
  have af6 := af 6
  have bf6 := bf 6
  have af7 := af 7
  have bf7 := bf 7
  have af8 := af 8
  have bf8 := bf 8
  have af9 := af 9
  have bf9 := bf 9
  have HB := hid ((alloc3_below _ _ _ _).trans (hw.mono (alloc3_below _ _ _ _).size))
  have G2 := hid g2
  have HQ := hid hQ
  clear H hw g2 g3 af bf hQ
  go_wp2_with fail
  (try simp only [Exit.inBlock, Exit.then])
  refine bodyPost_ret (results_cell_row rfl _ _ (w.heap.size + 1) 31 _ (0, 0) _ rfl (set_row10 (by repeat (first | (with_reducible exact G2.out) | (with_reducible refine set_far ?_ (by omega))))) Tryz.underlying31 rfl (by kernel_rfl)) rfl ?_
  exact ⟨V, rfl, HQ.out, by repeat (first | (with_reducible exact HB.out) | (with_reducible refine set_below ?_ (by omega)))⟩

set_option maxRecDepth 100000 in
set_option maxHeartbeats 4000000 in
theorem easked8 (X Y I : Int) (pn : Bool) (pc pm px : Int) (neg : Bool) (p q : Option Addr) (n k cap cap' : Nat) (ex : Int) (more : Bool) (w : World) (Q : Int → Bool → Prop)
    (H : ∀ wx : World, Below w.heap.size w wx → Calls Tryz.prog 37 #[.int .u64 X] wx fun r w' => ∃ (V : Int) (B : Bool), r = .returned (.tuple #[.int .i64 V, .bool B]) ∧ Q V B ∧ Below wx.heap.size wx w') :
    Calls Tryz.prog 8 #[opOf 8 X Y I pn pc pm px neg (.slice p n cap) (.slice q k cap') ex more] w fun r w' => ∃ (V : Int) (B : Bool), r = .returned (ansOf 0 0 V B false 0 0 0 (.slice none 0 0) 0) ∧ Q V B ∧ Below w.heap.size w w' := by
  simp only [opOf, ansOf]
  have H := hid H
  go_enter Tryz.func8, Tryz.ntmps8
  go_wp2_with fail
  refine (H.out _ (alloc3_below _ _ _ _)).mono ?_
  rintro r w' ⟨V, B, rfl, hQ, hw⟩
  obtain ⟨g2, g3⟩ := mid_kept hw
  obtain ⟨⟨a0, a1, a2, a3, a4, a5, a6, a7, a8, a9⟩, af⟩ := row_cells g2
  obtain ⟨⟨b0, b1, b2, b3, b4, b5, b6, b7, b8, b9⟩, bf⟩ := row_cells g3
  have af0 := af 0
  have bf0 := bf 0
  have af1 := af 1
  have bf1 := bf 1
  have af2 := af 2
  have bf2 := bf 2
  have af3 := af 3
  have bf3 := bf 3
  have af4 := af 4
  have bf4 := bf 4
  have af5 := af 5
  have bf5 := bf 5
  have af6 := af 6
  have bf6 := bf 6
  have af7 := af 7
  have bf7 := bf 7
  have af8 := af 8
  have bf8 := bf 8
  have af9 := af 9
  have bf9 := bf 9
  have HB := hid ((alloc3_below _ _ _ _).trans (hw.mono (alloc3_below _ _ _ _).size))
  have G2 := hid g2
  have HQ := hid hQ
  clear H hw g2 g3 af bf hQ
  go_wp2_with fail
  (try simp only [Exit.inBlock, Exit.then])
  refine bodyPost_ret (results_cell_row rfl _ _ (w.heap.size + 1) 31 _ (0, 0) _ rfl (set_row10 (by repeat (first | (with_reducible exact G2.out) | (with_reducible refine set_far ?_ (by omega))))) Tryz.underlying31 rfl (by kernel_rfl)) rfl ?_
  exact ⟨V, B, rfl, HQ.out, by repeat (first | (with_reducible exact HB.out) | (with_reducible refine set_below ?_ (by omega)))⟩

set_option maxRecDepth 100000 in
set_option maxHeartbeats 4000000 in
theorem ewanted8 (X Y I : Int) (pn : Bool) (pc pm px : Int) (neg : Bool) (p q : Option Addr) (n k cap cap' : Nat) (ex : Int) (more : Bool) (w : World) (Q : Int → Bool → Prop)
    (H : ∀ wx : World, Below w.heap.size w wx → Calls Tryz.prog 19 #[.int .u64 X] wx fun r w' => ∃ (V : Int) (B : Bool), r = .returned (.tuple #[.int .i64 V, .bool B]) ∧ Q V B ∧ Below wx.heap.size wx w') :
    Calls Tryz.prog 5 #[opOf 8 X Y I pn pc pm px neg (.slice p n cap) (.slice q k cap') ex more] w fun r w' => ∃ (V : Int) (B : Bool), r = .returned (ansOf 0 0 V B false 0 0 0 (.slice none 0 0) 0) ∧ Q V B ∧ Below w.heap.size w w' := by
  simp only [opOf, ansOf]
  have H := hid H
  go_enter Tryz.func5, Tryz.ntmps5
  go_wp2_with fail
  refine (H.out _ (alloc3_below _ _ _ _)).mono ?_
  rintro r w' ⟨V, B, rfl, hQ, hw⟩
  obtain ⟨g2, g3⟩ := mid_kept hw
  obtain ⟨⟨a0, a1, a2, a3, a4, a5, a6, a7, a8, a9⟩, af⟩ := row_cells g2
  obtain ⟨⟨b0, b1, b2, b3, b4, b5, b6, b7, b8, b9⟩, bf⟩ := row_cells g3
  have af0 := af 0
  have bf0 := bf 0
  have af1 := af 1
  have bf1 := bf 1
  have af2 := af 2
  have bf2 := bf 2
  have af3 := af 3
  have bf3 := bf 3
  have af4 := af 4
  have bf4 := bf 4
  have af5 := af 5
  have bf5 := bf 5
  have af6 := af 6
  have bf6 := bf 6
  have af7 := af 7
  have bf7 := bf 7
  have af8 := af 8
  have bf8 := bf 8
  have af9 := af 9
  have bf9 := bf 9
  have HB := hid ((alloc3_below _ _ _ _).trans (hw.mono (alloc3_below _ _ _ _).size))
  have G2 := hid g2
  have HQ := hid hQ
  clear H hw g2 g3 af bf hQ
  go_wp2_with fail
  (try simp only [Exit.inBlock, Exit.then])
  refine bodyPost_ret (results_cell_row rfl _ _ (w.heap.size + 1) 31 _ (0, 0) _ rfl (set_row10 (by repeat (first | (with_reducible exact G2.out) | (with_reducible refine set_far ?_ (by omega))))) Tryz.underlying31 rfl (by kernel_rfl)) rfl ?_
  exact ⟨V, B, rfl, HQ.out, by repeat (first | (with_reducible exact HB.out) | (with_reducible refine set_below ?_ (by omega)))⟩

set_option maxRecDepth 100000 in
set_option maxHeartbeats 4000000 in
theorem easked9 (X Y I : Int) (pn : Bool) (pc pm px : Int) (neg : Bool) (p q : Option Addr) (n k cap cap' : Nat) (ex : Int) (more : Bool) (w : World) (Q : Int → Bool → Prop)
    (H : ∀ wx : World, Below w.heap.size w wx → Calls Tryz.prog 38 #[.int .i64 I] wx fun r w' => ∃ (U : Int) (B : Bool), r = .returned (.tuple #[.int .u64 U, .bool B]) ∧ Q U B ∧ Below wx.heap.size wx w') :
    Calls Tryz.prog 8 #[opOf 9 X Y I pn pc pm px neg (.slice p n cap) (.slice q k cap') ex more] w fun r w' => ∃ (U : Int) (B : Bool), r = .returned (ansOf U 0 0 B false 0 0 0 (.slice none 0 0) 0) ∧ Q U B ∧ Below w.heap.size w w' := by
  simp only [opOf, ansOf]
  have H := hid H
  go_enter Tryz.func8, Tryz.ntmps8
  go_wp2_with fail
  refine (H.out _ (alloc3_below _ _ _ _)).mono ?_
  rintro r w' ⟨U, B, rfl, hQ, hw⟩
  obtain ⟨g2, g3⟩ := mid_kept hw
  obtain ⟨⟨a0, a1, a2, a3, a4, a5, a6, a7, a8, a9⟩, af⟩ := row_cells g2
  obtain ⟨⟨b0, b1, b2, b3, b4, b5, b6, b7, b8, b9⟩, bf⟩ := row_cells g3
  have af0 := af 0
  have bf0 := bf 0
  have af1 := af 1
  have bf1 := bf 1
  have af2 := af 2
  have bf2 := bf 2
  have af3 := af 3
  have bf3 := bf 3
  have af4 := af 4
  have bf4 := bf 4
  have af5 := af 5
  have bf5 := bf 5
  have af6 := af 6
  have bf6 := bf 6
  have af7 := af 7
  have bf7 := bf 7
  have af8 := af 8
  have bf8 := bf 8
  have af9 := af 9
  have bf9 := bf 9
  have HB := hid ((alloc3_below _ _ _ _).trans (hw.mono (alloc3_below _ _ _ _).size))
  have G2 := hid g2
  have HQ := hid hQ
  clear H hw g2 g3 af bf hQ
  go_wp2_with fail
  (try simp only [Exit.inBlock, Exit.then])
  refine bodyPost_ret (results_cell_row rfl _ _ (w.heap.size + 1) 31 _ (0, 0) _ rfl (set_row10 (by repeat (first | (with_reducible exact G2.out) | (with_reducible refine set_far ?_ (by omega))))) Tryz.underlying31 rfl (by kernel_rfl)) rfl ?_
  exact ⟨U, B, rfl, HQ.out, by repeat (first | (with_reducible exact HB.out) | (with_reducible refine set_below ?_ (by omega)))⟩

set_option maxRecDepth 100000 in
set_option maxHeartbeats 4000000 in
theorem ewanted9 (X Y I : Int) (pn : Bool) (pc pm px : Int) (neg : Bool) (p q : Option Addr) (n k cap cap' : Nat) (ex : Int) (more : Bool) (w : World) (Q : Int → Bool → Prop)
    (H : ∀ wx : World, Below w.heap.size w wx → Calls Tryz.prog 20 #[.int .i64 I] wx fun r w' => ∃ (U : Int) (B : Bool), r = .returned (.tuple #[.int .u64 U, .bool B]) ∧ Q U B ∧ Below wx.heap.size wx w') :
    Calls Tryz.prog 5 #[opOf 9 X Y I pn pc pm px neg (.slice p n cap) (.slice q k cap') ex more] w fun r w' => ∃ (U : Int) (B : Bool), r = .returned (ansOf U 0 0 B false 0 0 0 (.slice none 0 0) 0) ∧ Q U B ∧ Below w.heap.size w w' := by
  simp only [opOf, ansOf]
  have H := hid H
  go_enter Tryz.func5, Tryz.ntmps5
  go_wp2_with fail
  refine (H.out _ (alloc3_below _ _ _ _)).mono ?_
  rintro r w' ⟨U, B, rfl, hQ, hw⟩
  obtain ⟨g2, g3⟩ := mid_kept hw
  obtain ⟨⟨a0, a1, a2, a3, a4, a5, a6, a7, a8, a9⟩, af⟩ := row_cells g2
  obtain ⟨⟨b0, b1, b2, b3, b4, b5, b6, b7, b8, b9⟩, bf⟩ := row_cells g3
  have af0 := af 0
  have bf0 := bf 0
  have af1 := af 1
  have bf1 := bf 1
  have af2 := af 2
  have bf2 := bf 2
  have af3 := af 3
  have bf3 := bf 3
  have af4 := af 4
  have bf4 := bf 4
  have af5 := af 5
  have bf5 := bf 5
  have af6 := af 6
  have bf6 := bf 6
  have af7 := af 7
  have bf7 := bf 7
  have af8 := af 8
  have bf8 := bf 8
  have af9 := af 9
  have bf9 := bf 9
  have HB := hid ((alloc3_below _ _ _ _).trans (hw.mono (alloc3_below _ _ _ _).size))
  have G2 := hid g2
  have HQ := hid hQ
  clear H hw g2 g3 af bf hQ
  go_wp2_with fail
  (try simp only [Exit.inBlock, Exit.then])
  refine bodyPost_ret (results_cell_row rfl _ _ (w.heap.size + 1) 31 _ (0, 0) _ rfl (set_row10 (by repeat (first | (with_reducible exact G2.out) | (with_reducible refine set_far ?_ (by omega))))) Tryz.underlying31 rfl (by kernel_rfl)) rfl ?_
  exact ⟨U, B, rfl, HQ.out, by repeat (first | (with_reducible exact HB.out) | (with_reducible refine set_below ?_ (by omega)))⟩

end Go.Proofs.YtbmbijadnojfaaaGreatDoor

/-
  asked and wanted: kinds 10 to 12 (made by mkeask.py).
-/
namespace Go.Proofs.YtbmbijadnojfaaaGreatDoor
open Go Go.RowKit Go.Deep

set_option maxRecDepth 100000 in
set_option maxHeartbeats 4000000 in
theorem easked10 (X Y I : Int) (pn : Bool) (pc pm px : Int) (neg : Bool) (p q : Option Addr) (n k cap cap' : Nat) (ex : Int) (more : Bool) (w : World) (Q : Int → Prop)
    (H : ∀ wx : World, Below w.heap.size w wx → Calls Tryz.prog 11 #[.int .u64 X] wx fun r w' => ∃ U : Int, r = .returned (.int .u64 U) ∧ Q U ∧ Below wx.heap.size wx w') :
    Calls Tryz.prog 8 #[opOf 10 X Y I pn pc pm px neg (.slice p n cap) (.slice q k cap') ex more] w fun r w' => ∃ U : Int, r = .returned (ansOf U 0 0 false false 0 0 0 (.slice none 0 0) 0) ∧ Q U ∧ Below w.heap.size w w' := by
  simp only [opOf, ansOf]
  have H := hid H
  go_enter Tryz.func8, Tryz.ntmps8
  go_wp2_with fail
  refine (H.out _ (alloc3_below _ _ _ _)).mono ?_
  rintro r w' ⟨U, rfl, hQ, hw⟩
  obtain ⟨g2, g3⟩ := mid_kept hw
  obtain ⟨⟨a0, a1, a2, a3, a4, a5, a6, a7, a8, a9⟩, af⟩ := row_cells g2
  obtain ⟨⟨b0, b1, b2, b3, b4, b5, b6, b7, b8, b9⟩, bf⟩ := row_cells g3
  have af0 := af 0
  have bf0 := bf 0
  have af1 := af 1
  have bf1 := bf 1
  have af2 := af 2
  have bf2 := bf 2
  have af3 := af 3
  have bf3 := bf 3
  have af4 := af 4
  have bf4 := bf 4
  have af5 := af 5
  have bf5 := bf 5
  have af6 := af 6
  have bf6 := bf 6
  have af7 := af 7
  have bf7 := bf 7
  have af8 := af 8
  have bf8 := bf 8
  have af9 := af 9
  have bf9 := bf 9
  have HB := hid ((alloc3_below _ _ _ _).trans (hw.mono (alloc3_below _ _ _ _).size))
  have G2 := hid g2
  have HQ := hid hQ
  clear H hw g2 g3 af bf hQ
  go_wp2_with fail
  (try simp only [Exit.inBlock, Exit.then])
  refine bodyPost_ret (results_cell_row rfl _ _ (w.heap.size + 1) 31 _ (0, 0) _ rfl (set_row10 (by repeat (first | (with_reducible exact G2.out) | (with_reducible refine set_far ?_ (by omega))))) Tryz.underlying31 rfl (by kernel_rfl)) rfl ?_
  exact ⟨U, rfl, HQ.out, by repeat (first | (with_reducible exact HB.out) | (with_reducible refine set_below ?_ (by omega)))⟩

set_option maxRecDepth 100000 in
set_option maxHeartbeats 4000000 in
theorem ewanted10 (X Y I : Int) (pn : Bool) (pc pm px : Int) (neg : Bool) (p q : Option Addr) (n k cap cap' : Nat) (ex : Int) (more : Bool) (w : World) (Q : Int → Prop)
    (H : ∀ wx : World, Below w.heap.size w wx → Calls Tryz.prog 21 #[.int .u64 X] wx fun r w' => ∃ U : Int, r = .returned (.int .u64 U) ∧ Q U ∧ Below wx.heap.size wx w') :
    Calls Tryz.prog 5 #[opOf 10 X Y I pn pc pm px neg (.slice p n cap) (.slice q k cap') ex more] w fun r w' => ∃ U : Int, r = .returned (ansOf U 0 0 false false 0 0 0 (.slice none 0 0) 0) ∧ Q U ∧ Below w.heap.size w w' := by
  simp only [opOf, ansOf]
  have H := hid H
  go_enter Tryz.func5, Tryz.ntmps5
  go_wp2_with fail
  refine (H.out _ (alloc3_below _ _ _ _)).mono ?_
  rintro r w' ⟨U, rfl, hQ, hw⟩
  obtain ⟨g2, g3⟩ := mid_kept hw
  obtain ⟨⟨a0, a1, a2, a3, a4, a5, a6, a7, a8, a9⟩, af⟩ := row_cells g2
  obtain ⟨⟨b0, b1, b2, b3, b4, b5, b6, b7, b8, b9⟩, bf⟩ := row_cells g3
  have af0 := af 0
  have bf0 := bf 0
  have af1 := af 1
  have bf1 := bf 1
  have af2 := af 2
  have bf2 := bf 2
  have af3 := af 3
  have bf3 := bf 3
  have af4 := af 4
  have bf4 := bf 4
  have af5 := af 5
  have bf5 := bf 5
  have af6 := af 6
  have bf6 := bf 6
  have af7 := af 7
  have bf7 := bf 7
  have af8 := af 8
  have bf8 := bf 8
  have af9 := af 9
  have bf9 := bf 9
  have HB := hid ((alloc3_below _ _ _ _).trans (hw.mono (alloc3_below _ _ _ _).size))
  have G2 := hid g2
  have HQ := hid hQ
  clear H hw g2 g3 af bf hQ
  go_wp2_with fail
  (try simp only [Exit.inBlock, Exit.then])
  refine bodyPost_ret (results_cell_row rfl _ _ (w.heap.size + 1) 31 _ (0, 0) _ rfl (set_row10 (by repeat (first | (with_reducible exact G2.out) | (with_reducible refine set_far ?_ (by omega))))) Tryz.underlying31 rfl (by kernel_rfl)) rfl ?_
  exact ⟨U, rfl, HQ.out, by repeat (first | (with_reducible exact HB.out) | (with_reducible refine set_below ?_ (by omega)))⟩

set_option maxRecDepth 100000 in
set_option maxHeartbeats 4000000 in
theorem easked11 (X Y I : Int) (pn : Bool) (pc pm px : Int) (neg : Bool) (p q : Option Addr) (n k cap cap' : Nat) (ex : Int) (more : Bool) (w : World) (Q : Int → Prop)
    (H : ∀ wx : World, Below w.heap.size w wx → Calls Tryz.prog 39 #[.int .u64 X] wx fun r w' => ∃ U : Int, r = .returned (.int .u64 U) ∧ Q U ∧ Below wx.heap.size wx w') :
    Calls Tryz.prog 8 #[opOf 11 X Y I pn pc pm px neg (.slice p n cap) (.slice q k cap') ex more] w fun r w' => ∃ U : Int, r = .returned (ansOf U 0 0 false false 0 0 0 (.slice none 0 0) 0) ∧ Q U ∧ Below w.heap.size w w' := by
  simp only [opOf, ansOf]
  have H := hid H
  go_enter Tryz.func8, Tryz.ntmps8
  go_wp2_with fail
  refine (H.out _ (alloc3_below _ _ _ _)).mono ?_
  rintro r w' ⟨U, rfl, hQ, hw⟩
  obtain ⟨g2, g3⟩ := mid_kept hw
  obtain ⟨⟨a0, a1, a2, a3, a4, a5, a6, a7, a8, a9⟩, af⟩ := row_cells g2
  obtain ⟨⟨b0, b1, b2, b3, b4, b5, b6, b7, b8, b9⟩, bf⟩ := row_cells g3
  have af0 := af 0
  have bf0 := bf 0
  have af1 := af 1
  have bf1 := bf 1
  have af2 := af 2
  have bf2 := bf 2
  have af3 := af 3
  have bf3 := bf 3
  have af4 := af 4
  have bf4 := bf 4
  have af5 := af 5
  have bf5 := bf 5
  have af6 := af 6
  have bf6 := bf 6
  have af7 := af 7
  have bf7 := bf 7
  have af8 := af 8
  have bf8 := bf 8
  have af9 := af 9
  have bf9 := bf 9
  have HB := hid ((alloc3_below _ _ _ _).trans (hw.mono (alloc3_below _ _ _ _).size))
  have G2 := hid g2
  have HQ := hid hQ
  clear H hw g2 g3 af bf hQ
  go_wp2_with fail
  (try simp only [Exit.inBlock, Exit.then])
  refine bodyPost_ret (results_cell_row rfl _ _ (w.heap.size + 1) 31 _ (0, 0) _ rfl (set_row10 (by repeat (first | (with_reducible exact G2.out) | (with_reducible refine set_far ?_ (by omega))))) Tryz.underlying31 rfl (by kernel_rfl)) rfl ?_
  exact ⟨U, rfl, HQ.out, by repeat (first | (with_reducible exact HB.out) | (with_reducible refine set_below ?_ (by omega)))⟩

set_option maxRecDepth 100000 in
set_option maxHeartbeats 4000000 in
theorem ewanted11 (X Y I : Int) (pn : Bool) (pc pm px : Int) (neg : Bool) (p q : Option Addr) (n k cap cap' : Nat) (ex : Int) (more : Bool) (w : World) (Q : Int → Prop)
    (H : ∀ wx : World, Below w.heap.size w wx → Calls Tryz.prog 22 #[.int .u64 X] wx fun r w' => ∃ U : Int, r = .returned (.int .u64 U) ∧ Q U ∧ Below wx.heap.size wx w') :
    Calls Tryz.prog 5 #[opOf 11 X Y I pn pc pm px neg (.slice p n cap) (.slice q k cap') ex more] w fun r w' => ∃ U : Int, r = .returned (ansOf U 0 0 false false 0 0 0 (.slice none 0 0) 0) ∧ Q U ∧ Below w.heap.size w w' := by
  simp only [opOf, ansOf]
  have H := hid H
  go_enter Tryz.func5, Tryz.ntmps5
  go_wp2_with fail
  refine (H.out _ (alloc3_below _ _ _ _)).mono ?_
  rintro r w' ⟨U, rfl, hQ, hw⟩
  obtain ⟨g2, g3⟩ := mid_kept hw
  obtain ⟨⟨a0, a1, a2, a3, a4, a5, a6, a7, a8, a9⟩, af⟩ := row_cells g2
  obtain ⟨⟨b0, b1, b2, b3, b4, b5, b6, b7, b8, b9⟩, bf⟩ := row_cells g3
  have af0 := af 0
  have bf0 := bf 0
  have af1 := af 1
  have bf1 := bf 1
  have af2 := af 2
  have bf2 := bf 2
  have af3 := af 3
  have bf3 := bf 3
  have af4 := af 4
  have bf4 := bf 4
  have af5 := af 5
  have bf5 := bf 5
  have af6 := af 6
  have bf6 := bf 6
  have af7 := af 7
  have bf7 := bf 7
  have af8 := af 8
  have bf8 := bf 8
  have af9 := af 9
  have bf9 := bf 9
  have HB := hid ((alloc3_below _ _ _ _).trans (hw.mono (alloc3_below _ _ _ _).size))
  have G2 := hid g2
  have HQ := hid hQ
  clear H hw g2 g3 af bf hQ
  go_wp2_with fail
  (try simp only [Exit.inBlock, Exit.then])
  refine bodyPost_ret (results_cell_row rfl _ _ (w.heap.size + 1) 31 _ (0, 0) _ rfl (set_row10 (by repeat (first | (with_reducible exact G2.out) | (with_reducible refine set_far ?_ (by omega))))) Tryz.underlying31 rfl (by kernel_rfl)) rfl ?_
  exact ⟨U, rfl, HQ.out, by repeat (first | (with_reducible exact HB.out) | (with_reducible refine set_below ?_ (by omega)))⟩

set_option maxRecDepth 100000 in
set_option maxHeartbeats 4000000 in
theorem easked12 (X Y I : Int) (pn : Bool) (pc pm px : Int) (neg : Bool) (p q : Option Addr) (n k cap cap' : Nat) (ex : Int) (more : Bool) (w : World) (Q : Bool → Prop)
    (H : ∀ wx : World, Below w.heap.size w wx → Calls Tryz.prog 40 #[.int .u64 X] wx fun r w' => ∃ B : Bool, r = .returned (.bool B) ∧ Q B ∧ Below wx.heap.size wx w') :
    Calls Tryz.prog 8 #[opOf 12 X Y I pn pc pm px neg (.slice p n cap) (.slice q k cap') ex more] w fun r w' => ∃ B : Bool, r = .returned (ansOf 0 0 0 B false 0 0 0 (.slice none 0 0) 0) ∧ Q B ∧ Below w.heap.size w w' := by
  simp only [opOf, ansOf]
  have H := hid H
  go_enter Tryz.func8, Tryz.ntmps8
  go_wp2_with fail
  refine (H.out _ (alloc3_below _ _ _ _)).mono ?_
  rintro r w' ⟨B, rfl, hQ, hw⟩
  obtain ⟨g2, g3⟩ := mid_kept hw
  obtain ⟨⟨a0, a1, a2, a3, a4, a5, a6, a7, a8, a9⟩, af⟩ := row_cells g2
  obtain ⟨⟨b0, b1, b2, b3, b4, b5, b6, b7, b8, b9⟩, bf⟩ := row_cells g3
  have af0 := af 0
  have bf0 := bf 0
  have af1 := af 1
  have bf1 := bf 1
  have af2 := af 2
  have bf2 := bf 2
  have af3 := af 3
  have bf3 := bf 3
  have af4 := af 4
  have bf4 := bf 4
  have af5 := af 5
  have bf5 := bf 5
  have af6 := af 6
  have bf6 := bf 6
  have af7 := af 7
  have bf7 := bf 7
  have af8 := af 8
  have bf8 := bf 8
  have af9 := af 9
  have bf9 := bf 9
  have HB := hid ((alloc3_below _ _ _ _).trans (hw.mono (alloc3_below _ _ _ _).size))
  have G2 := hid g2
  have HQ := hid hQ
  clear H hw g2 g3 af bf hQ
  go_wp2_with fail
  (try simp only [Exit.inBlock, Exit.then])
  refine bodyPost_ret (results_cell_row rfl _ _ (w.heap.size + 1) 31 _ (0, 0) _ rfl (set_row10 (by repeat (first | (with_reducible exact G2.out) | (with_reducible refine set_far ?_ (by omega))))) Tryz.underlying31 rfl (by kernel_rfl)) rfl ?_
  exact ⟨B, rfl, HQ.out, by repeat (first | (with_reducible exact HB.out) | (with_reducible refine set_below ?_ (by omega)))⟩

set_option maxRecDepth 100000 in
set_option maxHeartbeats 4000000 in
theorem ewanted12 (X Y I : Int) (pn : Bool) (pc pm px : Int) (neg : Bool) (p q : Option Addr) (n k cap cap' : Nat) (ex : Int) (more : Bool) (w : World) (Q : Bool → Prop)
    (H : ∀ wx : World, Below w.heap.size w wx → Calls Tryz.prog 23 #[.int .u64 X] wx fun r w' => ∃ B : Bool, r = .returned (.bool B) ∧ Q B ∧ Below wx.heap.size wx w') :
    Calls Tryz.prog 5 #[opOf 12 X Y I pn pc pm px neg (.slice p n cap) (.slice q k cap') ex more] w fun r w' => ∃ B : Bool, r = .returned (ansOf 0 0 0 B false 0 0 0 (.slice none 0 0) 0) ∧ Q B ∧ Below w.heap.size w w' := by
  simp only [opOf, ansOf]
  have H := hid H
  go_enter Tryz.func5, Tryz.ntmps5
  go_wp2_with fail
  refine (H.out _ (alloc3_below _ _ _ _)).mono ?_
  rintro r w' ⟨B, rfl, hQ, hw⟩
  obtain ⟨g2, g3⟩ := mid_kept hw
  obtain ⟨⟨a0, a1, a2, a3, a4, a5, a6, a7, a8, a9⟩, af⟩ := row_cells g2
  obtain ⟨⟨b0, b1, b2, b3, b4, b5, b6, b7, b8, b9⟩, bf⟩ := row_cells g3
  have af0 := af 0
  have bf0 := bf 0
  have af1 := af 1
  have bf1 := bf 1
  have af2 := af 2
  have bf2 := bf 2
  have af3 := af 3
  have bf3 := bf 3
  have af4 := af 4
  have bf4 := bf 4
  have af5 := af 5
  have bf5 := bf 5
  have af6 := af 6
  have bf6 := bf 6
  have af7 := af 7
  have bf7 := bf 7
  have af8 := af 8
  have bf8 := bf 8
  have af9 := af 9
  have bf9 := bf 9
  have HB := hid ((alloc3_below _ _ _ _).trans (hw.mono (alloc3_below _ _ _ _).size))
  have G2 := hid g2
  have HQ := hid hQ
  clear H hw g2 g3 af bf hQ
  go_wp2_with fail
  (try simp only [Exit.inBlock, Exit.then])
  refine bodyPost_ret (results_cell_row rfl _ _ (w.heap.size + 1) 31 _ (0, 0) _ rfl (set_row10 (by repeat (first | (with_reducible exact G2.out) | (with_reducible refine set_far ?_ (by omega))))) Tryz.underlying31 rfl (by kernel_rfl)) rfl ?_
  exact ⟨B, rfl, HQ.out, by repeat (first | (with_reducible exact HB.out) | (with_reducible refine set_below ?_ (by omega)))⟩

end Go.Proofs.YtbmbijadnojfaaaGreatDoor

/-
  asked and wanted: kinds 13 to 15 (made by mkeask.py).
-/
namespace Go.Proofs.YtbmbijadnojfaaaGreatDoor
open Go Go.RowKit Go.Deep

set_option maxRecDepth 100000 in
set_option maxHeartbeats 4000000 in
theorem easked13 (X Y I : Int) (pn : Bool) (pc pm px : Int) (neg : Bool) (p q : Option Addr) (n k cap cap' : Nat) (ex : Int) (more : Bool) (w : World) (Q : Int → Prop)
    (H : ∀ wx : World, Below w.heap.size w wx → Calls Tryz.prog 41 #[.int .i64 I] wx fun r w' => ∃ U : Int, r = .returned (.int .u64 U) ∧ Q U ∧ Below wx.heap.size wx w') :
    Calls Tryz.prog 8 #[opOf 13 X Y I pn pc pm px neg (.slice p n cap) (.slice q k cap') ex more] w fun r w' => ∃ U : Int, r = .returned (ansOf U 0 0 false false 0 0 0 (.slice none 0 0) 0) ∧ Q U ∧ Below w.heap.size w w' := by
  simp only [opOf, ansOf]
  have H := hid H
  go_enter Tryz.func8, Tryz.ntmps8
  go_wp2_with fail
  refine (H.out _ (alloc3_below _ _ _ _)).mono ?_
  rintro r w' ⟨U, rfl, hQ, hw⟩
  obtain ⟨g2, g3⟩ := mid_kept hw
  obtain ⟨⟨a0, a1, a2, a3, a4, a5, a6, a7, a8, a9⟩, af⟩ := row_cells g2
  obtain ⟨⟨b0, b1, b2, b3, b4, b5, b6, b7, b8, b9⟩, bf⟩ := row_cells g3
  have af0 := af 0
  have bf0 := bf 0
  have af1 := af 1
  have bf1 := bf 1
  have af2 := af 2
  have bf2 := bf 2
  have af3 := af 3
  have bf3 := bf 3
  have af4 := af 4
  have bf4 := bf 4
  have af5 := af 5
  have bf5 := bf 5
  have af6 := af 6
  have bf6 := bf 6
  have af7 := af 7
  have bf7 := bf 7
  have af8 := af 8
  have bf8 := bf 8
  have af9 := af 9
  have bf9 := bf 9
  have HB := hid ((alloc3_below _ _ _ _).trans (hw.mono (alloc3_below _ _ _ _).size))
  have G2 := hid g2
  have HQ := hid hQ
  clear H hw g2 g3 af bf hQ
  go_wp2_with fail
  (try simp only [Exit.inBlock, Exit.then])
  refine bodyPost_ret (results_cell_row rfl _ _ (w.heap.size + 1) 31 _ (0, 0) _ rfl (set_row10 (by repeat (first | (with_reducible exact G2.out) | (with_reducible refine set_far ?_ (by omega))))) Tryz.underlying31 rfl (by kernel_rfl)) rfl ?_
  exact ⟨U, rfl, HQ.out, by repeat (first | (with_reducible exact HB.out) | (with_reducible refine set_below ?_ (by omega)))⟩

set_option maxRecDepth 100000 in
set_option maxHeartbeats 4000000 in
theorem ewanted13 (X Y I : Int) (pn : Bool) (pc pm px : Int) (neg : Bool) (p q : Option Addr) (n k cap cap' : Nat) (ex : Int) (more : Bool) (w : World) (Q : Int → Prop)
    (H : ∀ wx : World, Below w.heap.size w wx → Calls Tryz.prog 24 #[.int .i64 I] wx fun r w' => ∃ U : Int, r = .returned (.int .u64 U) ∧ Q U ∧ Below wx.heap.size wx w') :
    Calls Tryz.prog 5 #[opOf 13 X Y I pn pc pm px neg (.slice p n cap) (.slice q k cap') ex more] w fun r w' => ∃ U : Int, r = .returned (ansOf U 0 0 false false 0 0 0 (.slice none 0 0) 0) ∧ Q U ∧ Below w.heap.size w w' := by
  simp only [opOf, ansOf]
  have H := hid H
  go_enter Tryz.func5, Tryz.ntmps5
  go_wp2_with fail
  refine (H.out _ (alloc3_below _ _ _ _)).mono ?_
  rintro r w' ⟨U, rfl, hQ, hw⟩
  obtain ⟨g2, g3⟩ := mid_kept hw
  obtain ⟨⟨a0, a1, a2, a3, a4, a5, a6, a7, a8, a9⟩, af⟩ := row_cells g2
  obtain ⟨⟨b0, b1, b2, b3, b4, b5, b6, b7, b8, b9⟩, bf⟩ := row_cells g3
  have af0 := af 0
  have bf0 := bf 0
  have af1 := af 1
  have bf1 := bf 1
  have af2 := af 2
  have bf2 := bf 2
  have af3 := af 3
  have bf3 := bf 3
  have af4 := af 4
  have bf4 := bf 4
  have af5 := af 5
  have bf5 := bf 5
  have af6 := af 6
  have bf6 := bf 6
  have af7 := af 7
  have bf7 := bf 7
  have af8 := af 8
  have bf8 := bf 8
  have af9 := af 9
  have bf9 := bf 9
  have HB := hid ((alloc3_below _ _ _ _).trans (hw.mono (alloc3_below _ _ _ _).size))
  have G2 := hid g2
  have HQ := hid hQ
  clear H hw g2 g3 af bf hQ
  go_wp2_with fail
  (try simp only [Exit.inBlock, Exit.then])
  refine bodyPost_ret (results_cell_row rfl _ _ (w.heap.size + 1) 31 _ (0, 0) _ rfl (set_row10 (by repeat (first | (with_reducible exact G2.out) | (with_reducible refine set_far ?_ (by omega))))) Tryz.underlying31 rfl (by kernel_rfl)) rfl ?_
  exact ⟨U, rfl, HQ.out, by repeat (first | (with_reducible exact HB.out) | (with_reducible refine set_below ?_ (by omega)))⟩

set_option maxRecDepth 100000 in
set_option maxHeartbeats 4000000 in
theorem easked14 (X Y I : Int) (pn : Bool) (pc pm px : Int) (neg : Bool) (p q : Option Addr) (n k cap cap' : Nat) (ex : Int) (more : Bool) (w : World) (Q : Int → Prop)
    (H : ∀ wx : World, Below w.heap.size w wx → Calls Tryz.prog 42 #[.int .u64 X] wx fun r w' => ∃ U : Int, r = .returned (.int .u64 U) ∧ Q U ∧ Below wx.heap.size wx w') :
    Calls Tryz.prog 8 #[opOf 14 X Y I pn pc pm px neg (.slice p n cap) (.slice q k cap') ex more] w fun r w' => ∃ U : Int, r = .returned (ansOf U 0 0 false false 0 0 0 (.slice none 0 0) 0) ∧ Q U ∧ Below w.heap.size w w' := by
  simp only [opOf, ansOf]
  have H := hid H
  go_enter Tryz.func8, Tryz.ntmps8
  go_wp2_with fail
  refine (H.out _ (alloc3_below _ _ _ _)).mono ?_
  rintro r w' ⟨U, rfl, hQ, hw⟩
  obtain ⟨g2, g3⟩ := mid_kept hw
  obtain ⟨⟨a0, a1, a2, a3, a4, a5, a6, a7, a8, a9⟩, af⟩ := row_cells g2
  obtain ⟨⟨b0, b1, b2, b3, b4, b5, b6, b7, b8, b9⟩, bf⟩ := row_cells g3
  have af0 := af 0
  have bf0 := bf 0
  have af1 := af 1
  have bf1 := bf 1
  have af2 := af 2
  have bf2 := bf 2
  have af3 := af 3
  have bf3 := bf 3
  have af4 := af 4
  have bf4 := bf 4
  have af5 := af 5
  have bf5 := bf 5
  have af6 := af 6
  have bf6 := bf 6
  have af7 := af 7
  have bf7 := bf 7
  have af8 := af 8
  have bf8 := bf 8
  have af9 := af 9
  have bf9 := bf 9
  have HB := hid ((alloc3_below _ _ _ _).trans (hw.mono (alloc3_below _ _ _ _).size))
  have G2 := hid g2
  have HQ := hid hQ
  clear H hw g2 g3 af bf hQ
  go_wp2_with fail
  (try simp only [Exit.inBlock, Exit.then])
  refine bodyPost_ret (results_cell_row rfl _ _ (w.heap.size + 1) 31 _ (0, 0) _ rfl (set_row10 (by repeat (first | (with_reducible exact G2.out) | (with_reducible refine set_far ?_ (by omega))))) Tryz.underlying31 rfl (by kernel_rfl)) rfl ?_
  exact ⟨U, rfl, HQ.out, by repeat (first | (with_reducible exact HB.out) | (with_reducible refine set_below ?_ (by omega)))⟩

set_option maxRecDepth 100000 in
set_option maxHeartbeats 4000000 in
theorem ewanted14 (X Y I : Int) (pn : Bool) (pc pm px : Int) (neg : Bool) (p q : Option Addr) (n k cap cap' : Nat) (ex : Int) (more : Bool) (w : World) (Q : Int → Prop)
    (H : ∀ wx : World, Below w.heap.size w wx → Calls Tryz.prog 25 #[.int .u64 X] wx fun r w' => ∃ U : Int, r = .returned (.int .u64 U) ∧ Q U ∧ Below wx.heap.size wx w') :
    Calls Tryz.prog 5 #[opOf 14 X Y I pn pc pm px neg (.slice p n cap) (.slice q k cap') ex more] w fun r w' => ∃ U : Int, r = .returned (ansOf U 0 0 false false 0 0 0 (.slice none 0 0) 0) ∧ Q U ∧ Below w.heap.size w w' := by
  simp only [opOf, ansOf]
  have H := hid H
  go_enter Tryz.func5, Tryz.ntmps5
  go_wp2_with fail
  refine (H.out _ (alloc3_below _ _ _ _)).mono ?_
  rintro r w' ⟨U, rfl, hQ, hw⟩
  obtain ⟨g2, g3⟩ := mid_kept hw
  obtain ⟨⟨a0, a1, a2, a3, a4, a5, a6, a7, a8, a9⟩, af⟩ := row_cells g2
  obtain ⟨⟨b0, b1, b2, b3, b4, b5, b6, b7, b8, b9⟩, bf⟩ := row_cells g3
  have af0 := af 0
  have bf0 := bf 0
  have af1 := af 1
  have bf1 := bf 1
  have af2 := af 2
  have bf2 := bf 2
  have af3 := af 3
  have bf3 := bf 3
  have af4 := af 4
  have bf4 := bf 4
  have af5 := af 5
  have bf5 := bf 5
  have af6 := af 6
  have bf6 := bf 6
  have af7 := af 7
  have bf7 := bf 7
  have af8 := af 8
  have bf8 := bf 8
  have af9 := af 9
  have bf9 := bf 9
  have HB := hid ((alloc3_below _ _ _ _).trans (hw.mono (alloc3_below _ _ _ _).size))
  have G2 := hid g2
  have HQ := hid hQ
  clear H hw g2 g3 af bf hQ
  go_wp2_with fail
  (try simp only [Exit.inBlock, Exit.then])
  refine bodyPost_ret (results_cell_row rfl _ _ (w.heap.size + 1) 31 _ (0, 0) _ rfl (set_row10 (by repeat (first | (with_reducible exact G2.out) | (with_reducible refine set_far ?_ (by omega))))) Tryz.underlying31 rfl (by kernel_rfl)) rfl ?_
  exact ⟨U, rfl, HQ.out, by repeat (first | (with_reducible exact HB.out) | (with_reducible refine set_below ?_ (by omega)))⟩

set_option maxRecDepth 100000 in
set_option maxHeartbeats 4000000 in
theorem easked15 (X Y I : Int) (pn : Bool) (pc pm px : Int) (neg : Bool) (p q : Option Addr) (n k cap cap' : Nat) (ex : Int) (more : Bool) (w : World) (Q : Int → Int → Prop)
    (H : ∀ wx : World, Below w.heap.size w wx → Calls Tryz.prog 43 #[.int .u64 X] wx fun r w' => ∃ V E : Int, r = .returned (.tuple #[.int .i64 V, .int .i64 E]) ∧ Q V E ∧ Below wx.heap.size wx w') :
    Calls Tryz.prog 8 #[opOf 15 X Y I pn pc pm px neg (.slice p n cap) (.slice q k cap') ex more] w fun r w' => ∃ V E : Int, r = .returned (ansOf 0 0 V false false 0 0 0 (.slice none 0 0) E) ∧ Q V E ∧ Below w.heap.size w w' := by
  simp only [opOf, ansOf]
  have H := hid H
  go_enter Tryz.func8, Tryz.ntmps8
  go_wp2_with fail
  refine (H.out _ (alloc3_below _ _ _ _)).mono ?_
  rintro r w' ⟨V, E, rfl, hQ, hw⟩
  obtain ⟨g2, g3⟩ := mid_kept hw
  obtain ⟨⟨a0, a1, a2, a3, a4, a5, a6, a7, a8, a9⟩, af⟩ := row_cells g2
  obtain ⟨⟨b0, b1, b2, b3, b4, b5, b6, b7, b8, b9⟩, bf⟩ := row_cells g3
  have af0 := af 0
  have bf0 := bf 0
  have af1 := af 1
  have bf1 := bf 1
  have af2 := af 2
  have bf2 := bf 2
  have af3 := af 3
  have bf3 := bf 3
  have af4 := af 4
  have bf4 := bf 4
  have af5 := af 5
  have bf5 := bf 5
  have af6 := af 6
  have bf6 := bf 6
  have af7 := af 7
  have bf7 := bf 7
  have af8 := af 8
  have bf8 := bf 8
  have af9 := af 9
  have bf9 := bf 9
  have HB := hid ((alloc3_below _ _ _ _).trans (hw.mono (alloc3_below _ _ _ _).size))
  have G2 := hid g2
  have HQ := hid hQ
  clear H hw g2 g3 af bf hQ
  go_wp2_with fail
  (try simp only [Exit.inBlock, Exit.then])
  refine bodyPost_ret (results_cell_row rfl _ _ (w.heap.size + 1) 31 _ (0, 0) _ rfl (set_row10 (by repeat (first | (with_reducible exact G2.out) | (with_reducible refine set_far ?_ (by omega))))) Tryz.underlying31 rfl (by kernel_rfl)) rfl ?_
  exact ⟨V, E, rfl, HQ.out, by repeat (first | (with_reducible exact HB.out) | (with_reducible refine set_below ?_ (by omega)))⟩

set_option maxRecDepth 100000 in
set_option maxHeartbeats 4000000 in
theorem ewanted15 (X Y I : Int) (pn : Bool) (pc pm px : Int) (neg : Bool) (p q : Option Addr) (n k cap cap' : Nat) (ex : Int) (more : Bool) (w : World) (Q : Int → Int → Prop)
    (H : ∀ wx : World, Below w.heap.size w wx → Calls Tryz.prog 26 #[.int .u64 X] wx fun r w' => ∃ V E : Int, r = .returned (.tuple #[.int .i64 V, .int .i64 E]) ∧ Q V E ∧ Below wx.heap.size wx w') :
    Calls Tryz.prog 5 #[opOf 15 X Y I pn pc pm px neg (.slice p n cap) (.slice q k cap') ex more] w fun r w' => ∃ V E : Int, r = .returned (ansOf 0 0 V false false 0 0 0 (.slice none 0 0) E) ∧ Q V E ∧ Below w.heap.size w w' := by
  simp only [opOf, ansOf]
  have H := hid H
  go_enter Tryz.func5, Tryz.ntmps5
  go_wp2_with fail
  refine (H.out _ (alloc3_below _ _ _ _)).mono ?_
  rintro r w' ⟨V, E, rfl, hQ, hw⟩
  obtain ⟨g2, g3⟩ := mid_kept hw
  obtain ⟨⟨a0, a1, a2, a3, a4, a5, a6, a7, a8, a9⟩, af⟩ := row_cells g2
  obtain ⟨⟨b0, b1, b2, b3, b4, b5, b6, b7, b8, b9⟩, bf⟩ := row_cells g3
  have af0 := af 0
  have bf0 := bf 0
  have af1 := af 1
  have bf1 := bf 1
  have af2 := af 2
  have bf2 := bf 2
  have af3 := af 3
  have bf3 := bf 3
  have af4 := af 4
  have bf4 := bf 4
  have af5 := af 5
  have bf5 := bf 5
  have af6 := af 6
  have bf6 := bf 6
  have af7 := af 7
  have bf7 := bf 7
  have af8 := af 8
  have bf8 := bf 8
  have af9 := af 9
  have bf9 := bf 9
  have HB := hid ((alloc3_below _ _ _ _).trans (hw.mono (alloc3_below _ _ _ _).size))
  have G2 := hid g2
  have HQ := hid hQ
  clear H hw g2 g3 af bf hQ
  go_wp2_with fail
  (try simp only [Exit.inBlock, Exit.then])
  refine bodyPost_ret (results_cell_row rfl _ _ (w.heap.size + 1) 31 _ (0, 0) _ rfl (set_row10 (by repeat (first | (with_reducible exact G2.out) | (with_reducible refine set_far ?_ (by omega))))) Tryz.underlying31 rfl (by kernel_rfl)) rfl ?_
  exact ⟨V, E, rfl, HQ.out, by repeat (first | (with_reducible exact HB.out) | (with_reducible refine set_below ?_ (by omega)))⟩

end Go.Proofs.YtbmbijadnojfaaaGreatDoor

/-
  asked and wanted: kinds 16 to 18 (made by mkeask.py).
-/
namespace Go.Proofs.YtbmbijadnojfaaaGreatDoor
open Go Go.RowKit Go.Deep

set_option maxRecDepth 100000 in
set_option maxHeartbeats 4000000 in
theorem easked16 (X Y I : Int) (pn : Bool) (pc pm px : Int) (neg : Bool) (p q : Option Addr) (n k cap cap' : Nat) (ex : Int) (more : Bool) (w : World) (Q : Bool → Int → Int → Prop)
    (H : ∀ wx : World, Below w.heap.size w wx → Calls Tryz.prog 44 #[.int .u64 X] wx fun r w' => ∃ (B : Bool) (E v : Int) (pl : Option Addr) (os : List Int), r = .returned (.tuple #[.bool B, .slice pl (List.length os) (List.length os), .int .i64 E]) ∧ Q B E v ∧ Ans wx.heap.size w' pl os v ∧ Below wx.heap.size wx w') :
    Calls Tryz.prog 8 #[opOf 16 X Y I pn pc pm px neg (.slice p n cap) (.slice q k cap') ex more] w fun r w' => ∃ (B : Bool) (E v : Int) (pl : Option Addr) (os : List Int), r = .returned (ansOf 0 0 0 B false 0 0 0 (.slice pl (List.length os) (List.length os)) E) ∧ Q B E v ∧ Ans w.heap.size w' pl os v ∧ Below w.heap.size w w' := by
  simp only [opOf, ansOf]
  have H := hid H
  go_enter Tryz.func8, Tryz.ntmps8
  go_wp2_with fail
  refine (H.out _ (alloc3_below _ _ _ _)).mono ?_
  rintro r w' ⟨B, E, v, pl, os, rfl, hQ, hA, hw⟩
  have HA : Hid (Ans (w.heap.size + 3) w' pl os v) := by
    have e := hA
    simp at e
    exact e
  clear hA
  obtain ⟨g2, g3⟩ := mid_kept hw
  obtain ⟨⟨a0, a1, a2, a3, a4, a5, a6, a7, a8, a9⟩, af⟩ := row_cells g2
  obtain ⟨⟨b0, b1, b2, b3, b4, b5, b6, b7, b8, b9⟩, bf⟩ := row_cells g3
  have af0 := af 0
  have bf0 := bf 0
  have af1 := af 1
  have bf1 := bf 1
  have af2 := af 2
  have bf2 := bf 2
  have af3 := af 3
  have bf3 := bf 3
  have af4 := af 4
  have bf4 := bf 4
  have af5 := af 5
  have bf5 := bf 5
  have af6 := af 6
  have bf6 := bf 6
  have af7 := af 7
  have bf7 := bf 7
  have af8 := af 8
  have bf8 := bf 8
  have af9 := af 9
  have bf9 := bf 9
  have HB := hid ((alloc3_below _ _ _ _).trans (hw.mono (alloc3_below _ _ _ _).size))
  have G2 := hid g2
  have HQ := hid hQ
  clear H hw g2 g3 af bf hQ
  go_wp2_with fail
  (try simp only [Exit.inBlock, Exit.then])
  refine bodyPost_ret (results_cell_row rfl _ _ (w.heap.size + 1) 31 _ (0, 0) _ rfl (set_row10 (by repeat (first | (with_reducible exact G2.out) | (with_reducible refine set_far ?_ (by omega))))) Tryz.underlying31 rfl (by kernel_rfl)) rfl ?_
  exact ⟨B, E, v, pl, os, rfl, HQ.out, Ans.upE (B := w.heap.size + 3) (by repeat (first | (with_reducible exact HA.out) | (with_reducible refine Ans.setF ?_ (by omega) _))) (by omega), by repeat (first | (with_reducible exact HB.out) | (with_reducible refine set_below ?_ (by omega)))⟩

set_option maxRecDepth 100000 in
set_option maxHeartbeats 4000000 in
theorem ewanted16 (X Y I : Int) (pn : Bool) (pc pm px : Int) (neg : Bool) (p q : Option Addr) (n k cap cap' : Nat) (ex : Int) (more : Bool) (w : World) (Q : Bool → Int → Int → Prop)
    (H : ∀ wx : World, Below w.heap.size w wx → Calls Tryz.prog 27 #[.int .u64 X] wx fun r w' => ∃ (B : Bool) (E v : Int) (pl : Option Addr) (os : List Int), r = .returned (.tuple #[.bool B, .slice pl (List.length os) (List.length os), .int .i64 E]) ∧ Q B E v ∧ Ans wx.heap.size w' pl os v ∧ Below wx.heap.size wx w') :
    Calls Tryz.prog 5 #[opOf 16 X Y I pn pc pm px neg (.slice p n cap) (.slice q k cap') ex more] w fun r w' => ∃ (B : Bool) (E v : Int) (pl : Option Addr) (os : List Int), r = .returned (ansOf 0 0 0 B false 0 0 0 (.slice pl (List.length os) (List.length os)) E) ∧ Q B E v ∧ Ans w.heap.size w' pl os v ∧ Below w.heap.size w w' := by
  simp only [opOf, ansOf]
  have H := hid H
  go_enter Tryz.func5, Tryz.ntmps5
  go_wp2_with fail
  refine (H.out _ (alloc3_below _ _ _ _)).mono ?_
  rintro r w' ⟨B, E, v, pl, os, rfl, hQ, hA, hw⟩
  have HA : Hid (Ans (w.heap.size + 3) w' pl os v) := by
    have e := hA
    simp at e
    exact e
  clear hA
  obtain ⟨g2, g3⟩ := mid_kept hw
  obtain ⟨⟨a0, a1, a2, a3, a4, a5, a6, a7, a8, a9⟩, af⟩ := row_cells g2
  obtain ⟨⟨b0, b1, b2, b3, b4, b5, b6, b7, b8, b9⟩, bf⟩ := row_cells g3
  have af0 := af 0
  have bf0 := bf 0
  have af1 := af 1
  have bf1 := bf 1
  have af2 := af 2
  have bf2 := bf 2
  have af3 := af 3
  have bf3 := bf 3
  have af4 := af 4
  have bf4 := bf 4
  have af5 := af 5
  have bf5 := bf 5
  have af6 := af 6
  have bf6 := bf 6
  have af7 := af 7
  have bf7 := bf 7
  have af8 := af 8
  have bf8 := bf 8
  have af9 := af 9
  have bf9 := bf 9
  have HB := hid ((alloc3_below _ _ _ _).trans (hw.mono (alloc3_below _ _ _ _).size))
  have G2 := hid g2
  have HQ := hid hQ
  clear H hw g2 g3 af bf hQ
  go_wp2_with fail
  (try simp only [Exit.inBlock, Exit.then])
  refine bodyPost_ret (results_cell_row rfl _ _ (w.heap.size + 1) 31 _ (0, 0) _ rfl (set_row10 (by repeat (first | (with_reducible exact G2.out) | (with_reducible refine set_far ?_ (by omega))))) Tryz.underlying31 rfl (by kernel_rfl)) rfl ?_
  exact ⟨B, E, v, pl, os, rfl, HQ.out, Ans.upE (B := w.heap.size + 3) (by repeat (first | (with_reducible exact HA.out) | (with_reducible refine Ans.setF ?_ (by omega) _))) (by omega), by repeat (first | (with_reducible exact HB.out) | (with_reducible refine set_below ?_ (by omega)))⟩

set_option maxRecDepth 100000 in
set_option maxHeartbeats 4000000 in
theorem easked17 (X Y I : Int) (pn : Bool) (pc pm px : Int) (neg : Bool) (p q : Option Addr) (n k cap cap' : Nat) (ex : Int) (more : Bool) (w : World) (Q : Int → Int → Prop)
    (H : ∀ wx : World, Below w.heap.size w wx → Calls Tryz.prog 45 #[.bool neg, .slice p n cap, .int .i64 ex, .bool more] wx fun r w' => ∃ U E : Int, r = .returned (.tuple #[.int .u64 U, .int .i64 E]) ∧ Q U E ∧ Below wx.heap.size wx w') :
    Calls Tryz.prog 8 #[opOf 17 X Y I pn pc pm px neg (.slice p n cap) (.slice q k cap') ex more] w fun r w' => ∃ U E : Int, r = .returned (ansOf U 0 0 false false 0 0 0 (.slice none 0 0) E) ∧ Q U E ∧ Below w.heap.size w w' := by
  simp only [opOf, ansOf]
  have H := hid H
  go_enter Tryz.func8, Tryz.ntmps8
  go_wp2_with fail
  refine (H.out _ (alloc3_below _ _ _ _)).mono ?_
  rintro r w' ⟨U, E, rfl, hQ, hw⟩
  obtain ⟨g2, g3⟩ := mid_kept hw
  obtain ⟨⟨a0, a1, a2, a3, a4, a5, a6, a7, a8, a9⟩, af⟩ := row_cells g2
  obtain ⟨⟨b0, b1, b2, b3, b4, b5, b6, b7, b8, b9⟩, bf⟩ := row_cells g3
  have af0 := af 0
  have bf0 := bf 0
  have af1 := af 1
  have bf1 := bf 1
  have af2 := af 2
  have bf2 := bf 2
  have af3 := af 3
  have bf3 := bf 3
  have af4 := af 4
  have bf4 := bf 4
  have af5 := af 5
  have bf5 := bf 5
  have af6 := af 6
  have bf6 := bf 6
  have af7 := af 7
  have bf7 := bf 7
  have af8 := af 8
  have bf8 := bf 8
  have af9 := af 9
  have bf9 := bf 9
  have HB := hid ((alloc3_below _ _ _ _).trans (hw.mono (alloc3_below _ _ _ _).size))
  have G2 := hid g2
  have HQ := hid hQ
  clear H hw g2 g3 af bf hQ
  go_wp2_with fail
  (try simp only [Exit.inBlock, Exit.then])
  refine bodyPost_ret (results_cell_row rfl _ _ (w.heap.size + 1) 31 _ (0, 0) _ rfl (set_row10 (by repeat (first | (with_reducible exact G2.out) | (with_reducible refine set_far ?_ (by omega))))) Tryz.underlying31 rfl (by kernel_rfl)) rfl ?_
  exact ⟨U, E, rfl, HQ.out, by repeat (first | (with_reducible exact HB.out) | (with_reducible refine set_below ?_ (by omega)))⟩

set_option maxRecDepth 100000 in
set_option maxHeartbeats 4000000 in
theorem ewanted17 (X Y I : Int) (pn : Bool) (pc pm px : Int) (neg : Bool) (p q : Option Addr) (n k cap cap' : Nat) (ex : Int) (more : Bool) (w : World) (Q : Int → Int → Prop)
    (H : ∀ wx : World, Below w.heap.size w wx → Calls Tryz.prog 28 #[.bool neg, .slice p n cap, .int .i64 ex, .bool more] wx fun r w' => ∃ U E : Int, r = .returned (.tuple #[.int .u64 U, .int .i64 E]) ∧ Q U E ∧ Below wx.heap.size wx w') :
    Calls Tryz.prog 5 #[opOf 17 X Y I pn pc pm px neg (.slice p n cap) (.slice q k cap') ex more] w fun r w' => ∃ U E : Int, r = .returned (ansOf U 0 0 false false 0 0 0 (.slice none 0 0) E) ∧ Q U E ∧ Below w.heap.size w w' := by
  simp only [opOf, ansOf]
  have H := hid H
  go_enter Tryz.func5, Tryz.ntmps5
  go_wp2_with fail
  refine (H.out _ (alloc3_below _ _ _ _)).mono ?_
  rintro r w' ⟨U, E, rfl, hQ, hw⟩
  obtain ⟨g2, g3⟩ := mid_kept hw
  obtain ⟨⟨a0, a1, a2, a3, a4, a5, a6, a7, a8, a9⟩, af⟩ := row_cells g2
  obtain ⟨⟨b0, b1, b2, b3, b4, b5, b6, b7, b8, b9⟩, bf⟩ := row_cells g3
  have af0 := af 0
  have bf0 := bf 0
  have af1 := af 1
  have bf1 := bf 1
  have af2 := af 2
  have bf2 := bf 2
  have af3 := af 3
  have bf3 := bf 3
  have af4 := af 4
  have bf4 := bf 4
  have af5 := af 5
  have bf5 := bf 5
  have af6 := af 6
  have bf6 := bf 6
  have af7 := af 7
  have bf7 := bf 7
  have af8 := af 8
  have bf8 := bf 8
  have af9 := af 9
  have bf9 := bf 9
  have HB := hid ((alloc3_below _ _ _ _).trans (hw.mono (alloc3_below _ _ _ _).size))
  have G2 := hid g2
  have HQ := hid hQ
  clear H hw g2 g3 af bf hQ
  go_wp2_with fail
  (try simp only [Exit.inBlock, Exit.then])
  refine bodyPost_ret (results_cell_row rfl _ _ (w.heap.size + 1) 31 _ (0, 0) _ rfl (set_row10 (by repeat (first | (with_reducible exact G2.out) | (with_reducible refine set_far ?_ (by omega))))) Tryz.underlying31 rfl (by kernel_rfl)) rfl ?_
  exact ⟨U, E, rfl, HQ.out, by repeat (first | (with_reducible exact HB.out) | (with_reducible refine set_below ?_ (by omega)))⟩

set_option maxRecDepth 100000 in
set_option maxHeartbeats 4000000 in
theorem easked18 (X Y I : Int) (pn : Bool) (pc pm px : Int) (neg : Bool) (p q : Option Addr) (n k cap cap' : Nat) (ex : Int) (more : Bool) (w : World) (Q : Int → Int → Prop)
    (H : ∀ wx : World, Below w.heap.size w wx → Calls Tryz.prog 9 #[.bool neg, .slice p n cap, .slice q k cap', .int .i64 ex] wx fun r w' => ∃ U E : Int, r = .returned (.tuple #[.int .u64 U, .int .i64 E]) ∧ Q U E ∧ Below wx.heap.size wx w') :
    Calls Tryz.prog 8 #[opOf 18 X Y I pn pc pm px neg (.slice p n cap) (.slice q k cap') ex more] w fun r w' => ∃ U E : Int, r = .returned (ansOf U 0 0 false false 0 0 0 (.slice none 0 0) E) ∧ Q U E ∧ Below w.heap.size w w' := by
  simp only [opOf, ansOf]
  have H := hid H
  go_enter Tryz.func8, Tryz.ntmps8
  go_wp2_with fail
  refine (H.out _ (alloc3_below _ _ _ _)).mono ?_
  rintro r w' ⟨U, E, rfl, hQ, hw⟩
  obtain ⟨g2, g3⟩ := mid_kept hw
  obtain ⟨⟨a0, a1, a2, a3, a4, a5, a6, a7, a8, a9⟩, af⟩ := row_cells g2
  obtain ⟨⟨b0, b1, b2, b3, b4, b5, b6, b7, b8, b9⟩, bf⟩ := row_cells g3
  have af0 := af 0
  have bf0 := bf 0
  have af1 := af 1
  have bf1 := bf 1
  have af2 := af 2
  have bf2 := bf 2
  have af3 := af 3
  have bf3 := bf 3
  have af4 := af 4
  have bf4 := bf 4
  have af5 := af 5
  have bf5 := bf 5
  have af6 := af 6
  have bf6 := bf 6
  have af7 := af 7
  have bf7 := bf 7
  have af8 := af 8
  have bf8 := bf 8
  have af9 := af 9
  have bf9 := bf 9
  have HB := hid ((alloc3_below _ _ _ _).trans (hw.mono (alloc3_below _ _ _ _).size))
  have G2 := hid g2
  have HQ := hid hQ
  clear H hw g2 g3 af bf hQ
  go_wp2_with fail
  (try simp only [Exit.inBlock, Exit.then])
  refine bodyPost_ret (results_cell_row rfl _ _ (w.heap.size + 1) 31 _ (0, 0) _ rfl (set_row10 (by repeat (first | (with_reducible exact G2.out) | (with_reducible refine set_far ?_ (by omega))))) Tryz.underlying31 rfl (by kernel_rfl)) rfl ?_
  exact ⟨U, E, rfl, HQ.out, by repeat (first | (with_reducible exact HB.out) | (with_reducible refine set_below ?_ (by omega)))⟩

set_option maxRecDepth 100000 in
set_option maxHeartbeats 4000000 in
theorem ewanted18 (X Y I : Int) (pn : Bool) (pc pm px : Int) (neg : Bool) (p q : Option Addr) (n k cap cap' : Nat) (ex : Int) (more : Bool) (w : World) (Q : Int → Int → Prop)
    (H : ∀ wx : World, Below w.heap.size w wx → Calls Tryz.prog 29 #[.bool neg, .slice p n cap, .slice q k cap', .int .i64 ex] wx fun r w' => ∃ U E : Int, r = .returned (.tuple #[.int .u64 U, .int .i64 E]) ∧ Q U E ∧ Below wx.heap.size wx w') :
    Calls Tryz.prog 5 #[opOf 18 X Y I pn pc pm px neg (.slice p n cap) (.slice q k cap') ex more] w fun r w' => ∃ U E : Int, r = .returned (ansOf U 0 0 false false 0 0 0 (.slice none 0 0) E) ∧ Q U E ∧ Below w.heap.size w w' := by
  simp only [opOf, ansOf]
  have H := hid H
  go_enter Tryz.func5, Tryz.ntmps5
  go_wp2_with fail
  refine (H.out _ (alloc3_below _ _ _ _)).mono ?_
  rintro r w' ⟨U, E, rfl, hQ, hw⟩
  obtain ⟨g2, g3⟩ := mid_kept hw
  obtain ⟨⟨a0, a1, a2, a3, a4, a5, a6, a7, a8, a9⟩, af⟩ := row_cells g2
  obtain ⟨⟨b0, b1, b2, b3, b4, b5, b6, b7, b8, b9⟩, bf⟩ := row_cells g3
  have af0 := af 0
  have bf0 := bf 0
  have af1 := af 1
  have bf1 := bf 1
  have af2 := af 2
  have bf2 := bf 2
  have af3 := af 3
  have bf3 := bf 3
  have af4 := af 4
  have bf4 := bf 4
  have af5 := af 5
  have bf5 := bf 5
  have af6 := af 6
  have bf6 := bf 6
  have af7 := af 7
  have bf7 := bf 7
  have af8 := af 8
  have bf8 := bf 8
  have af9 := af 9
  have bf9 := bf 9
  have HB := hid ((alloc3_below _ _ _ _).trans (hw.mono (alloc3_below _ _ _ _).size))
  have G2 := hid g2
  have HQ := hid hQ
  clear H hw g2 g3 af bf hQ
  go_wp2_with fail
  (try simp only [Exit.inBlock, Exit.then])
  refine bodyPost_ret (results_cell_row rfl _ _ (w.heap.size + 1) 31 _ (0, 0) _ rfl (set_row10 (by repeat (first | (with_reducible exact G2.out) | (with_reducible refine set_far ?_ (by omega))))) Tryz.underlying31 rfl (by kernel_rfl)) rfl ?_
  exact ⟨U, E, rfl, HQ.out, by repeat (first | (with_reducible exact HB.out) | (with_reducible refine set_below ?_ (by omega)))⟩

end Go.Proofs.YtbmbijadnojfaaaGreatDoor
