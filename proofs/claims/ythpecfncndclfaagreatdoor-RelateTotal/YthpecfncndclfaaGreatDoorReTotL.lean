/-
  abacuslaw18: RelateTotal.
-/
import Derived.Test.YthpecfncndclfaaGreatDoorReTot
namespace Go.Proofs.YthpecfncndclfaaGreatDoor
open Go Go.RowKit Go.Deep Go.Shelf

namespace Re
/-- Three values' boxes. -/
structure B3 (w : World) (k n : Int) (s : ByteArray) (l m : Int) (t : ByteArray) (x y : Int) (u : ByteArray) (W : World) : Prop where
  bel : Below w.heap.size w W
  va : Bx W w.heap.size 27 #[.int .i64 k, .int .u64 n, .string s]
  vb : Bx W (w.heap.size + 1) 27 #[.int .i64 l, .int .u64 m, .string t]
  vc : Bx W (w.heap.size + 2) 27 #[.int .i64 x, .int .u64 y, .string u]
theorem B3.new (w : World) (k n : Int) (s : ByteArray) (l m : Int) (t : ByteArray) (x y : Int) (u : ByteArray) : B3 w k n s l m t x y u (((w.alloc (.cells #[.int .i64 k, .int .u64 n, .string s] 27)).alloc (.cells #[.int .i64 l, .int .u64 m, .string t] 27)).alloc (.cells #[.int .i64 x, .int .u64 y, .string u] 27)) := by
  have b2 := B2.new w k n s l m t
  have b := alloc_b ((w.alloc (.cells #[.int .i64 k, .int .u64 n, .string s] 27)).alloc (.cells #[.int .i64 l, .int .u64 m, .string t] 27)) (.cells #[.int .i64 x, .int .u64 y, .string u] 27)
  have sz : ((w.alloc (.cells #[.int .i64 k, .int .u64 n, .string s] 27)).alloc (.cells #[.int .i64 l, .int .u64 m, .string t] 27)).heap.size = w.heap.size + 2 := by rw [World.size_alloc, World.size_alloc]
  refine ⟨below_on b2.bel b, b2.vb.on b, b2.vc.on b, ?_⟩
  rw [← sz]
  exact Bx.new _ _ _
theorem B3.on {w W W' : World} {k n : Int} {s : ByteArray} {l m : Int} {t : ByteArray} {x y : Int} {u : ByteArray} (h : B3 w k n s l m t x y u W) (b : Below W.heap.size W W') : B3 w k n s l m t x y u W' := ⟨below_on h.bel b, h.va.on b, h.vb.on b, h.vc.on b⟩
theorem B3.cells {w W : World} {k n : Int} {s : ByteArray} {l m : Int} {t : ByteArray} {x y : Int} {u : ByteArray} (h : B3 w k n s l m t x y u W) :
    (W.cell? ⟨w.heap.size, 0, none⟩ = some (.int .i64 k) ∧ W.cell? ⟨w.heap.size, 1, none⟩ = some (.int .u64 n) ∧ W.cell? ⟨w.heap.size, 2, none⟩ = some (.string s)) ∧
    (W.cell? ⟨w.heap.size + 1, 0, none⟩ = some (.int .i64 l) ∧ W.cell? ⟨w.heap.size + 1, 1, none⟩ = some (.int .u64 m) ∧ W.cell? ⟨w.heap.size + 1, 2, none⟩ = some (.string t)) ∧
    (W.cell? ⟨w.heap.size + 2, 0, none⟩ = some (.int .i64 x) ∧ W.cell? ⟨w.heap.size + 2, 1, none⟩ = some (.int .u64 y) ∧ W.cell? ⟨w.heap.size + 2, 2, none⟩ = some (.string u)) :=
  ⟨⟨h.va.cell 0 _ rfl, h.va.cell 1 _ rfl, h.va.cell 2 _ rfl⟩, ⟨h.vb.cell 0 _ rfl, h.vb.cell 1 _ rfl, h.vb.cell 2 _ rfl⟩, ⟨h.vc.cell 0 _ rfl, h.vc.cell 1 _ rfl, h.vc.cell 2 _ rfl⟩⟩
/-- What three places' orders can be. -/
def Tri (X Y Z : Int) : Prop := (X = -1 ∨ X = 0 ∨ X = 1) ∧ (Y = -1 ∨ Y = 0 ∨ Y = 1) ∧ (Z = -1 ∨ Z = 0 ∨ Z = 1) ∧ (X ≤ 0 → Y ≤ 0 → Z ≤ 0 ∧ (Z = 0 → X = 0 ∧ Y = 0)) ∧ (0 ≤ X → 0 ≤ Y → 0 ≤ Z ∧ (Z = 0 → X = 0 ∧ Y = 0))
theorem tri (a b c : Rk) : Tri (cm a b) (cm b c) (cm a c) := by
  refine ⟨cm_b _ _, cm_b _ _, cm_b _ _, fun h k => cm_trans a b c h k, fun h k => ?_⟩
  have e1 := cm_anti a b
  have e2 := cm_anti b c
  have e3 := cm_anti a c
  have t := cm_trans c b a (by omega) (by omega)
  constructor
  · omega
  · intro z
    have := t.2 (by omega)
    omega
theorem pl_lt {n : Int} (n0 : 0 ≤ n) (n1 : n < 18446744073709551616) (h : Ie.okd n = true) : pl n = Ie.rkv n ∧ pl n < 9223372036854775807 := by
  have e : pl n = Ie.rkv n := if_pos h
  refine ⟨e, ?_⟩
  have h' := h
  unfold Ie.okd at h'
  have h2 := of_decide_eq_true h'
  rw [e, Ie.rkv, if_pos h, Ie.rk]
  split <;> omega
theorem nu_b {k n : Int} (n0 : 0 ≤ n) (n1 : n < 18446744073709551616) : 0 ≤ nu k n ∧ nu k n < 18446744073709551616 := by unfold nu; split <;> omega
end Re

set_option maxRecDepth 100000 in
set_option maxHeartbeats 8000000 in
theorem rtotal_ta (k n : Int) (s : ByteArray) (l m : Int) (t : ByteArray) (x y : Int) (u : ByteArray) (X Y Z : Int) (w : World) (T : Re.Tri X Y Z)
    (AW : ∀ W, Below w.heap.size w W → Calls Tryz.prog 10 #[] W fun e w' => e = .returned (.bool true) ∧ Below W.heap.size W w')
    (OAB : ∀ W, Calls Tryz.prog 17 #[.agg #[.int .i64 k, .int .u64 n, .string s], .agg #[.int .i64 l, .int .u64 m, .string t]] W fun e w' => e = .returned (.int .i64 X) ∧ Below W.heap.size W w')
    (OBC : ∀ W, Calls Tryz.prog 17 #[.agg #[.int .i64 l, .int .u64 m, .string t], .agg #[.int .i64 x, .int .u64 y, .string u]] W fun e w' => e = .returned (.int .i64 Y) ∧ Below W.heap.size W w')
    (OAC : ∀ W, Calls Tryz.prog 17 #[.agg #[.int .i64 k, .int .u64 n, .string s], .agg #[.int .i64 x, .int .u64 y, .string u]] W fun e w' => e = .returned (.int .i64 Z) ∧ Below W.heap.size W w')
    (OBA : ∀ W, Calls Tryz.prog 17 #[.agg #[.int .i64 l, .int .u64 m, .string t], .agg #[.int .i64 k, .int .u64 n, .string s]] W fun e w' => e = .returned (.int .i64 (-X)) ∧ Below W.heap.size W w')
    (OAA : ∀ W, Calls Tryz.prog 17 #[.agg #[.int .i64 k, .int .u64 n, .string s], .agg #[.int .i64 k, .int .u64 n, .string s]] W fun e w' => e = .returned (.int .i64 0) ∧ Below W.heap.size W w')
    (NA : ∀ W, Calls Tryz.prog 13 #[.agg #[.int .i64 k, .int .u64 n, .string s]] W fun e w' => e = .returned (.bool false) ∧ Below W.heap.size W w')
    : Calls Tryz.prog 6 #[.agg #[.int .i64 k, .int .u64 n, .string s], .agg #[.int .i64 l, .int .u64 m, .string t], .agg #[.int .i64 x, .int .u64 y, .string u]] w fun e w' => e = .returned (.bool true) ∧ Below w.heap.size w w' := by
  have AW := hid AW
  have OAB := hid OAB
  have OBC := hid OBC
  have OAC := hid OAC
  have OBA := hid OBA
  have OAA := hid OAA
  have NA := hid NA
  have B0 := hid (Re.B3.new w k n s l m t x y u)
  obtain ⟨h1, h2, h3, h4, h5⟩ := T
  rcases h1 with rfl | rfl | rfl <;> rcases h2 with rfl | rfl | rfl <;> rcases h3 with rfl | rfl | rfl <;> first
    | (exfalso; omega)
    | skip
  all_goals
    clear h4 h5
    go_enter Tryz.func6, Tryz.ntmps6
    go_wp2_with fail
    generalize ((w.alloc (.cells #[.int .i64 k, .int .u64 n, .string s] 27)).alloc (.cells #[.int .i64 l, .int .u64 m, .string t] 27)).alloc (.cells #[.int .i64 x, .int .u64 y, .string u] 27) = wA at *
    refine (AW.out _ B0.out.bel).mono ?_
    rintro e w1 ⟨rfl, b1⟩
    have B1 := hid (B0.out.on b1)
    clear b1 B0
    obtain ⟨⟨c0, c1, c2⟩, ⟨d0, d1, d2⟩, ⟨e0, e1, e2⟩⟩ := B1.out.cells
    go_wp2_with fail
    refine (OAB.out _).mono ?_
    rintro e w2 ⟨rfl, b2⟩
    have B2 := hid (B1.out.on b2)
    clear b2 B1 c0 c1 c2 d0 d1 d2 e0 e1 e2
    obtain ⟨⟨c0, c1, c2⟩, ⟨d0, d1, d2⟩, ⟨e0, e1, e2⟩⟩ := B2.out.cells
    go_wp2_with fail
    refine (OBC.out _).mono ?_
    rintro e w3 ⟨rfl, b3⟩
    have B3 := hid (B2.out.on b3)
    clear b3 B2 c0 c1 c2 d0 d1 d2 e0 e1 e2
    obtain ⟨⟨c0, c1, c2⟩, ⟨d0, d1, d2⟩, ⟨e0, e1, e2⟩⟩ := B3.out.cells
    go_wp2_with fail
    refine (OAC.out _).mono ?_
    rintro e w4 ⟨rfl, b4⟩
    have B4 := hid (B3.out.on b4)
    clear b4 B3 c0 c1 c2 d0 d1 d2 e0 e1 e2
    obtain ⟨⟨c0, c1, c2⟩, ⟨d0, d1, d2⟩, ⟨e0, e1, e2⟩⟩ := B4.out.cells
    go_wp2_with fail
    refine (OBA.out _).mono ?_
    rintro e w5 ⟨rfl, b5⟩
    have B5 := hid (B4.out.on b5)
    clear b5 B4 c0 c1 c2 d0 d1 d2 e0 e1 e2
    obtain ⟨⟨c0, c1, c2⟩, ⟨d0, d1, d2⟩, ⟨e0, e1, e2⟩⟩ := B5.out.cells
    go_wp2_with fail
    refine (OAA.out _).mono ?_
    rintro e w6 ⟨rfl, b6⟩
    have B6 := hid (B5.out.on b6)
    clear b6 B5 c0 c1 c2 d0 d1 d2 e0 e1 e2
    obtain ⟨⟨c0, c1, c2⟩, ⟨d0, d1, d2⟩, ⟨e0, e1, e2⟩⟩ := B6.out.cells
    go_wp2_with fail
    refine (NA.out _).mono ?_
    rintro e w7 ⟨rfl, b7⟩
    have B7 := hid (B6.out.on b7)
    clear b7 B6 c0 c1 c2 d0 d1 d2 e0 e1 e2
    have F := hid B7.out.bel
    go_wp2_with fail
    go_ret
    exact ⟨rfl, F.out⟩

set_option maxRecDepth 100000 in
set_option maxHeartbeats 8000000 in
theorem rtotal_tb (k n : Int) (s : ByteArray) (l m : Int) (t : ByteArray) (x y : Int) (u : ByteArray) (X Y Z : Int) (w : World) (T : Re.Tri X Y Z)
    (AW : ∀ W, Below w.heap.size w W → Calls Tryz.prog 10 #[] W fun e w' => e = .returned (.bool true) ∧ Below W.heap.size W w')
    (OAB : ∀ W, Calls Tryz.prog 17 #[.agg #[.int .i64 k, .int .u64 n, .string s], .agg #[.int .i64 l, .int .u64 m, .string t]] W fun e w' => e = .returned (.int .i64 X) ∧ Below W.heap.size W w')
    (OBC : ∀ W, Calls Tryz.prog 17 #[.agg #[.int .i64 l, .int .u64 m, .string t], .agg #[.int .i64 x, .int .u64 y, .string u]] W fun e w' => e = .returned (.int .i64 Y) ∧ Below W.heap.size W w')
    (OAC : ∀ W, Calls Tryz.prog 17 #[.agg #[.int .i64 k, .int .u64 n, .string s], .agg #[.int .i64 x, .int .u64 y, .string u]] W fun e w' => e = .returned (.int .i64 Z) ∧ Below W.heap.size W w')
    (OBA : ∀ W, Calls Tryz.prog 17 #[.agg #[.int .i64 l, .int .u64 m, .string t], .agg #[.int .i64 k, .int .u64 n, .string s]] W fun e w' => e = .returned (.int .i64 (-X)) ∧ Below W.heap.size W w')
    (OAA : ∀ W, Calls Tryz.prog 17 #[.agg #[.int .i64 k, .int .u64 n, .string s], .agg #[.int .i64 k, .int .u64 n, .string s]] W fun e w' => e = .returned (.int .i64 0) ∧ Below W.heap.size W w')
    (NA : ∀ W, Calls Tryz.prog 13 #[.agg #[.int .i64 k, .int .u64 n, .string s]] W fun e w' => e = .returned (.bool true) ∧ Below W.heap.size W w')
    (NB : ∀ W, Calls Tryz.prog 13 #[.agg #[.int .i64 l, .int .u64 m, .string t]] W fun e w' => e = .returned (.bool false) ∧ Below W.heap.size W w')
    : Calls Tryz.prog 6 #[.agg #[.int .i64 k, .int .u64 n, .string s], .agg #[.int .i64 l, .int .u64 m, .string t], .agg #[.int .i64 x, .int .u64 y, .string u]] w fun e w' => e = .returned (.bool true) ∧ Below w.heap.size w w' := by
  have AW := hid AW
  have OAB := hid OAB
  have OBC := hid OBC
  have OAC := hid OAC
  have OBA := hid OBA
  have OAA := hid OAA
  have NA := hid NA
  have NB := hid NB
  have B0 := hid (Re.B3.new w k n s l m t x y u)
  obtain ⟨h1, h2, h3, h4, h5⟩ := T
  rcases h1 with rfl | rfl | rfl <;> rcases h2 with rfl | rfl | rfl <;> rcases h3 with rfl | rfl | rfl <;> first
    | (exfalso; omega)
    | skip
  all_goals
    clear h4 h5
    go_enter Tryz.func6, Tryz.ntmps6
    go_wp2_with fail
    generalize ((w.alloc (.cells #[.int .i64 k, .int .u64 n, .string s] 27)).alloc (.cells #[.int .i64 l, .int .u64 m, .string t] 27)).alloc (.cells #[.int .i64 x, .int .u64 y, .string u] 27) = wA at *
    refine (AW.out _ B0.out.bel).mono ?_
    rintro e w1 ⟨rfl, b1⟩
    have B1 := hid (B0.out.on b1)
    clear b1 B0
    obtain ⟨⟨c0, c1, c2⟩, ⟨d0, d1, d2⟩, ⟨e0, e1, e2⟩⟩ := B1.out.cells
    go_wp2_with fail
    refine (OAB.out _).mono ?_
    rintro e w2 ⟨rfl, b2⟩
    have B2 := hid (B1.out.on b2)
    clear b2 B1 c0 c1 c2 d0 d1 d2 e0 e1 e2
    obtain ⟨⟨c0, c1, c2⟩, ⟨d0, d1, d2⟩, ⟨e0, e1, e2⟩⟩ := B2.out.cells
    go_wp2_with fail
    refine (OBC.out _).mono ?_
    rintro e w3 ⟨rfl, b3⟩
    have B3 := hid (B2.out.on b3)
    clear b3 B2 c0 c1 c2 d0 d1 d2 e0 e1 e2
    obtain ⟨⟨c0, c1, c2⟩, ⟨d0, d1, d2⟩, ⟨e0, e1, e2⟩⟩ := B3.out.cells
    go_wp2_with fail
    refine (OAC.out _).mono ?_
    rintro e w4 ⟨rfl, b4⟩
    have B4 := hid (B3.out.on b4)
    clear b4 B3 c0 c1 c2 d0 d1 d2 e0 e1 e2
    obtain ⟨⟨c0, c1, c2⟩, ⟨d0, d1, d2⟩, ⟨e0, e1, e2⟩⟩ := B4.out.cells
    go_wp2_with fail
    refine (OBA.out _).mono ?_
    rintro e w5 ⟨rfl, b5⟩
    have B5 := hid (B4.out.on b5)
    clear b5 B4 c0 c1 c2 d0 d1 d2 e0 e1 e2
    obtain ⟨⟨c0, c1, c2⟩, ⟨d0, d1, d2⟩, ⟨e0, e1, e2⟩⟩ := B5.out.cells
    go_wp2_with fail
    refine (OAA.out _).mono ?_
    rintro e w6 ⟨rfl, b6⟩
    have B6 := hid (B5.out.on b6)
    clear b6 B5 c0 c1 c2 d0 d1 d2 e0 e1 e2
    obtain ⟨⟨c0, c1, c2⟩, ⟨d0, d1, d2⟩, ⟨e0, e1, e2⟩⟩ := B6.out.cells
    go_wp2_with fail
    refine (NA.out _).mono ?_
    rintro e w7 ⟨rfl, b7⟩
    have B7 := hid (B6.out.on b7)
    clear b7 B6 c0 c1 c2 d0 d1 d2 e0 e1 e2
    obtain ⟨⟨c0, c1, c2⟩, ⟨d0, d1, d2⟩, ⟨e0, e1, e2⟩⟩ := B7.out.cells
    go_wp2_with fail
    refine (NB.out _).mono ?_
    rintro e w8 ⟨rfl, b8⟩
    have B8 := hid (B7.out.on b8)
    clear b8 B7 c0 c1 c2 d0 d1 d2 e0 e1 e2
    have F := hid B8.out.bel
    go_wp2_with fail
    go_ret
    exact ⟨rfl, F.out⟩

set_option maxRecDepth 100000 in
set_option maxHeartbeats 8000000 in
theorem rtotal_nn (k n : Int) (s : ByteArray) (l m : Int) (t : ByteArray) (x y : Int) (u : ByteArray) (X Y Z : Int) (w : World) (T : Re.Tri X Y Z)
    (AW : ∀ W, Below w.heap.size w W → Calls Tryz.prog 10 #[] W fun e w' => e = .returned (.bool true) ∧ Below W.heap.size W w')
    (OAB : ∀ W, Calls Tryz.prog 17 #[.agg #[.int .i64 k, .int .u64 n, .string s], .agg #[.int .i64 l, .int .u64 m, .string t]] W fun e w' => e = .returned (.int .i64 X) ∧ Below W.heap.size W w')
    (OBC : ∀ W, Calls Tryz.prog 17 #[.agg #[.int .i64 l, .int .u64 m, .string t], .agg #[.int .i64 x, .int .u64 y, .string u]] W fun e w' => e = .returned (.int .i64 Y) ∧ Below W.heap.size W w')
    (OAC : ∀ W, Calls Tryz.prog 17 #[.agg #[.int .i64 k, .int .u64 n, .string s], .agg #[.int .i64 x, .int .u64 y, .string u]] W fun e w' => e = .returned (.int .i64 Z) ∧ Below W.heap.size W w')
    (OBA : ∀ W, Calls Tryz.prog 17 #[.agg #[.int .i64 l, .int .u64 m, .string t], .agg #[.int .i64 k, .int .u64 n, .string s]] W fun e w' => e = .returned (.int .i64 (-X)) ∧ Below W.heap.size W w')
    (OAA : ∀ W, Calls Tryz.prog 17 #[.agg #[.int .i64 k, .int .u64 n, .string s], .agg #[.int .i64 k, .int .u64 n, .string s]] W fun e w' => e = .returned (.int .i64 0) ∧ Below W.heap.size W w')
    (NA : ∀ W, Calls Tryz.prog 13 #[.agg #[.int .i64 k, .int .u64 n, .string s]] W fun e w' => e = .returned (.bool true) ∧ Below W.heap.size W w')
    (NB : ∀ W, Calls Tryz.prog 13 #[.agg #[.int .i64 l, .int .u64 m, .string t]] W fun e w' => e = .returned (.bool true) ∧ Below W.heap.size W w')
    (CC : ∀ W, Calls Tryz.prog 11 #[.agg #[.int .i64 k, .int .u64 n, .string s], .agg #[.int .i64 l, .int .u64 m, .string t], .string ⟨#[]⟩] W fun e w' => e = .returned (.tuple #[.int .i64 X, .int .i64 0]) ∧ Below W.heap.size W w')
    (IA : ∀ W, Calls Tryz.prog 14 #[.agg #[.int .i64 k, .int .u64 n, .string s]] W fun e w' => e = .returned (.bool false) ∧ Below W.heap.size W w')
    (IB : ∀ W, Calls Tryz.prog 14 #[.agg #[.int .i64 l, .int .u64 m, .string t]] W fun e w' => e = .returned (.bool false) ∧ Below W.heap.size W w')
    : Calls Tryz.prog 6 #[.agg #[.int .i64 k, .int .u64 n, .string s], .agg #[.int .i64 l, .int .u64 m, .string t], .agg #[.int .i64 x, .int .u64 y, .string u]] w fun e w' => e = .returned (.bool true) ∧ Below w.heap.size w w' := by
  have AW := hid AW
  have OAB := hid OAB
  have OBC := hid OBC
  have OAC := hid OAC
  have OBA := hid OBA
  have OAA := hid OAA
  have NA := hid NA
  have NB := hid NB
  have CC := hid CC
  have IA := hid IA
  have IB := hid IB
  have B0 := hid (Re.B3.new w k n s l m t x y u)
  obtain ⟨h1, h2, h3, h4, h5⟩ := T
  rcases h1 with rfl | rfl | rfl <;> rcases h2 with rfl | rfl | rfl <;> rcases h3 with rfl | rfl | rfl <;> first
    | (exfalso; omega)
    | skip
  all_goals
    clear h4 h5
    go_enter Tryz.func6, Tryz.ntmps6
    go_wp2_with fail
    generalize ((w.alloc (.cells #[.int .i64 k, .int .u64 n, .string s] 27)).alloc (.cells #[.int .i64 l, .int .u64 m, .string t] 27)).alloc (.cells #[.int .i64 x, .int .u64 y, .string u] 27) = wA at *
    refine (AW.out _ B0.out.bel).mono ?_
    rintro e w1 ⟨rfl, b1⟩
    have B1 := hid (B0.out.on b1)
    clear b1 B0
    obtain ⟨⟨c0, c1, c2⟩, ⟨d0, d1, d2⟩, ⟨e0, e1, e2⟩⟩ := B1.out.cells
    go_wp2_with fail
    refine (OAB.out _).mono ?_
    rintro e w2 ⟨rfl, b2⟩
    have B2 := hid (B1.out.on b2)
    clear b2 B1 c0 c1 c2 d0 d1 d2 e0 e1 e2
    obtain ⟨⟨c0, c1, c2⟩, ⟨d0, d1, d2⟩, ⟨e0, e1, e2⟩⟩ := B2.out.cells
    go_wp2_with fail
    refine (OBC.out _).mono ?_
    rintro e w3 ⟨rfl, b3⟩
    have B3 := hid (B2.out.on b3)
    clear b3 B2 c0 c1 c2 d0 d1 d2 e0 e1 e2
    obtain ⟨⟨c0, c1, c2⟩, ⟨d0, d1, d2⟩, ⟨e0, e1, e2⟩⟩ := B3.out.cells
    go_wp2_with fail
    refine (OAC.out _).mono ?_
    rintro e w4 ⟨rfl, b4⟩
    have B4 := hid (B3.out.on b4)
    clear b4 B3 c0 c1 c2 d0 d1 d2 e0 e1 e2
    obtain ⟨⟨c0, c1, c2⟩, ⟨d0, d1, d2⟩, ⟨e0, e1, e2⟩⟩ := B4.out.cells
    go_wp2_with fail
    refine (OBA.out _).mono ?_
    rintro e w5 ⟨rfl, b5⟩
    have B5 := hid (B4.out.on b5)
    clear b5 B4 c0 c1 c2 d0 d1 d2 e0 e1 e2
    obtain ⟨⟨c0, c1, c2⟩, ⟨d0, d1, d2⟩, ⟨e0, e1, e2⟩⟩ := B5.out.cells
    go_wp2_with fail
    refine (OAA.out _).mono ?_
    rintro e w6 ⟨rfl, b6⟩
    have B6 := hid (B5.out.on b6)
    clear b6 B5 c0 c1 c2 d0 d1 d2 e0 e1 e2
    obtain ⟨⟨c0, c1, c2⟩, ⟨d0, d1, d2⟩, ⟨e0, e1, e2⟩⟩ := B6.out.cells
    go_wp2_with fail
    refine (NA.out _).mono ?_
    rintro e w7 ⟨rfl, b7⟩
    have B7 := hid (B6.out.on b7)
    clear b7 B6 c0 c1 c2 d0 d1 d2 e0 e1 e2
    obtain ⟨⟨c0, c1, c2⟩, ⟨d0, d1, d2⟩, ⟨e0, e1, e2⟩⟩ := B7.out.cells
    go_wp2_with fail
    refine (NB.out _).mono ?_
    rintro e w8 ⟨rfl, b8⟩
    have B8 := hid (B7.out.on b8)
    clear b8 B7 c0 c1 c2 d0 d1 d2 e0 e1 e2
    obtain ⟨⟨c0, c1, c2⟩, ⟨d0, d1, d2⟩, ⟨e0, e1, e2⟩⟩ := B8.out.cells
    go_wp2_with fail
    refine (CC.out _).mono ?_
    rintro e w9 ⟨rfl, b9⟩
    have B9 := hid (B8.out.on b9)
    clear b9 B8 c0 c1 c2 d0 d1 d2 e0 e1 e2
    obtain ⟨⟨c0, c1, c2⟩, ⟨d0, d1, d2⟩, ⟨e0, e1, e2⟩⟩ := B9.out.cells
    go_wp2_with fail
    refine (IA.out _).mono ?_
    rintro e w10 ⟨rfl, b10⟩
    have B10 := hid (B9.out.on b10)
    clear b10 B9 c0 c1 c2 d0 d1 d2 e0 e1 e2
    obtain ⟨⟨c0, c1, c2⟩, ⟨d0, d1, d2⟩, ⟨e0, e1, e2⟩⟩ := B10.out.cells
    go_wp2_with fail
    refine (IB.out _).mono ?_
    rintro e w11 ⟨rfl, b11⟩
    have B11 := hid (B10.out.on b11)
    clear b11 B10 c0 c1 c2 d0 d1 d2 e0 e1 e2
    have F := hid B11.out.bel
    go_wp2_with fail
    go_ret
    exact ⟨rfl, F.out⟩

set_option maxRecDepth 100000 in
set_option maxHeartbeats 8000000 in
theorem rtotal_xx (k n : Int) (s : ByteArray) (l m : Int) (t : ByteArray) (x y : Int) (u : ByteArray) (X Y Z : Int) (w : World) (T : Re.Tri X Y Z) (hX : X = 0)
    (AW : ∀ W, Below w.heap.size w W → Calls Tryz.prog 10 #[] W fun e w' => e = .returned (.bool true) ∧ Below W.heap.size W w')
    (OAB : ∀ W, Calls Tryz.prog 17 #[.agg #[.int .i64 k, .int .u64 n, .string s], .agg #[.int .i64 l, .int .u64 m, .string t]] W fun e w' => e = .returned (.int .i64 X) ∧ Below W.heap.size W w')
    (OBC : ∀ W, Calls Tryz.prog 17 #[.agg #[.int .i64 l, .int .u64 m, .string t], .agg #[.int .i64 x, .int .u64 y, .string u]] W fun e w' => e = .returned (.int .i64 Y) ∧ Below W.heap.size W w')
    (OAC : ∀ W, Calls Tryz.prog 17 #[.agg #[.int .i64 k, .int .u64 n, .string s], .agg #[.int .i64 x, .int .u64 y, .string u]] W fun e w' => e = .returned (.int .i64 Z) ∧ Below W.heap.size W w')
    (OBA : ∀ W, Calls Tryz.prog 17 #[.agg #[.int .i64 l, .int .u64 m, .string t], .agg #[.int .i64 k, .int .u64 n, .string s]] W fun e w' => e = .returned (.int .i64 (-X)) ∧ Below W.heap.size W w')
    (OAA : ∀ W, Calls Tryz.prog 17 #[.agg #[.int .i64 k, .int .u64 n, .string s], .agg #[.int .i64 k, .int .u64 n, .string s]] W fun e w' => e = .returned (.int .i64 0) ∧ Below W.heap.size W w')
    (NA : ∀ W, Calls Tryz.prog 13 #[.agg #[.int .i64 k, .int .u64 n, .string s]] W fun e w' => e = .returned (.bool true) ∧ Below W.heap.size W w')
    (NB : ∀ W, Calls Tryz.prog 13 #[.agg #[.int .i64 l, .int .u64 m, .string t]] W fun e w' => e = .returned (.bool true) ∧ Below W.heap.size W w')
    (CC : ∀ W, Calls Tryz.prog 11 #[.agg #[.int .i64 k, .int .u64 n, .string s], .agg #[.int .i64 l, .int .u64 m, .string t], .string ⟨#[]⟩] W fun e w' => e = .returned (.tuple #[.int .i64 2, .int .i64 0]) ∧ Below W.heap.size W w')
    (IA : ∀ W, Calls Tryz.prog 14 #[.agg #[.int .i64 k, .int .u64 n, .string s]] W fun e w' => e = .returned (.bool true) ∧ Below W.heap.size W w')
    (IB : ∀ W, Calls Tryz.prog 14 #[.agg #[.int .i64 l, .int .u64 m, .string t]] W fun e w' => e = .returned (.bool true) ∧ Below W.heap.size W w')
    : Calls Tryz.prog 6 #[.agg #[.int .i64 k, .int .u64 n, .string s], .agg #[.int .i64 l, .int .u64 m, .string t], .agg #[.int .i64 x, .int .u64 y, .string u]] w fun e w' => e = .returned (.bool true) ∧ Below w.heap.size w w' := by
  have AW := hid AW
  have OAB := hid OAB
  have OBC := hid OBC
  have OAC := hid OAC
  have OBA := hid OBA
  have OAA := hid OAA
  have NA := hid NA
  have NB := hid NB
  have CC := hid CC
  have IA := hid IA
  have IB := hid IB
  have B0 := hid (Re.B3.new w k n s l m t x y u)
  obtain ⟨h1, h2, h3, h4, h5⟩ := T
  rcases h1 with rfl | rfl | rfl <;> rcases h2 with rfl | rfl | rfl <;> rcases h3 with rfl | rfl | rfl <;> first
    | (exfalso; omega)
    | skip
  all_goals
    clear h4 h5 hX
    go_enter Tryz.func6, Tryz.ntmps6
    go_wp2_with fail
    generalize ((w.alloc (.cells #[.int .i64 k, .int .u64 n, .string s] 27)).alloc (.cells #[.int .i64 l, .int .u64 m, .string t] 27)).alloc (.cells #[.int .i64 x, .int .u64 y, .string u] 27) = wA at *
    refine (AW.out _ B0.out.bel).mono ?_
    rintro e w1 ⟨rfl, b1⟩
    have B1 := hid (B0.out.on b1)
    clear b1 B0
    obtain ⟨⟨c0, c1, c2⟩, ⟨d0, d1, d2⟩, ⟨e0, e1, e2⟩⟩ := B1.out.cells
    go_wp2_with fail
    refine (OAB.out _).mono ?_
    rintro e w2 ⟨rfl, b2⟩
    have B2 := hid (B1.out.on b2)
    clear b2 B1 c0 c1 c2 d0 d1 d2 e0 e1 e2
    obtain ⟨⟨c0, c1, c2⟩, ⟨d0, d1, d2⟩, ⟨e0, e1, e2⟩⟩ := B2.out.cells
    go_wp2_with fail
    refine (OBC.out _).mono ?_
    rintro e w3 ⟨rfl, b3⟩
    have B3 := hid (B2.out.on b3)
    clear b3 B2 c0 c1 c2 d0 d1 d2 e0 e1 e2
    obtain ⟨⟨c0, c1, c2⟩, ⟨d0, d1, d2⟩, ⟨e0, e1, e2⟩⟩ := B3.out.cells
    go_wp2_with fail
    refine (OAC.out _).mono ?_
    rintro e w4 ⟨rfl, b4⟩
    have B4 := hid (B3.out.on b4)
    clear b4 B3 c0 c1 c2 d0 d1 d2 e0 e1 e2
    obtain ⟨⟨c0, c1, c2⟩, ⟨d0, d1, d2⟩, ⟨e0, e1, e2⟩⟩ := B4.out.cells
    go_wp2_with fail
    refine (OBA.out _).mono ?_
    rintro e w5 ⟨rfl, b5⟩
    have B5 := hid (B4.out.on b5)
    clear b5 B4 c0 c1 c2 d0 d1 d2 e0 e1 e2
    obtain ⟨⟨c0, c1, c2⟩, ⟨d0, d1, d2⟩, ⟨e0, e1, e2⟩⟩ := B5.out.cells
    go_wp2_with fail
    refine (OAA.out _).mono ?_
    rintro e w6 ⟨rfl, b6⟩
    have B6 := hid (B5.out.on b6)
    clear b6 B5 c0 c1 c2 d0 d1 d2 e0 e1 e2
    obtain ⟨⟨c0, c1, c2⟩, ⟨d0, d1, d2⟩, ⟨e0, e1, e2⟩⟩ := B6.out.cells
    go_wp2_with fail
    refine (NA.out _).mono ?_
    rintro e w7 ⟨rfl, b7⟩
    have B7 := hid (B6.out.on b7)
    clear b7 B6 c0 c1 c2 d0 d1 d2 e0 e1 e2
    obtain ⟨⟨c0, c1, c2⟩, ⟨d0, d1, d2⟩, ⟨e0, e1, e2⟩⟩ := B7.out.cells
    go_wp2_with fail
    refine (NB.out _).mono ?_
    rintro e w8 ⟨rfl, b8⟩
    have B8 := hid (B7.out.on b8)
    clear b8 B7 c0 c1 c2 d0 d1 d2 e0 e1 e2
    obtain ⟨⟨c0, c1, c2⟩, ⟨d0, d1, d2⟩, ⟨e0, e1, e2⟩⟩ := B8.out.cells
    go_wp2_with fail
    refine (CC.out _).mono ?_
    rintro e w9 ⟨rfl, b9⟩
    have B9 := hid (B8.out.on b9)
    clear b9 B8 c0 c1 c2 d0 d1 d2 e0 e1 e2
    obtain ⟨⟨c0, c1, c2⟩, ⟨d0, d1, d2⟩, ⟨e0, e1, e2⟩⟩ := B9.out.cells
    go_wp2_with fail
    refine (IA.out _).mono ?_
    rintro e w10 ⟨rfl, b10⟩
    have B10 := hid (B9.out.on b10)
    clear b10 B9 c0 c1 c2 d0 d1 d2 e0 e1 e2
    obtain ⟨⟨c0, c1, c2⟩, ⟨d0, d1, d2⟩, ⟨e0, e1, e2⟩⟩ := B10.out.cells
    go_wp2_with fail
    refine (IA.out _).mono ?_
    rintro e w11 ⟨rfl, b11⟩
    have B11 := hid (B10.out.on b11)
    clear b11 B10 c0 c1 c2 d0 d1 d2 e0 e1 e2
    obtain ⟨⟨c0, c1, c2⟩, ⟨d0, d1, d2⟩, ⟨e0, e1, e2⟩⟩ := B11.out.cells
    go_wp2_with fail
    refine (IB.out _).mono ?_
    rintro e w12 ⟨rfl, b12⟩
    have B12 := hid (B11.out.on b12)
    clear b12 B11 c0 c1 c2 d0 d1 d2 e0 e1 e2
    have F := hid B12.out.bel
    go_wp2_with fail
    go_ret
    exact ⟨rfl, F.out⟩

set_option maxRecDepth 100000 in
set_option maxHeartbeats 8000000 in
theorem rtotal_nx (k n : Int) (s : ByteArray) (l m : Int) (t : ByteArray) (x y : Int) (u : ByteArray) (X Y Z : Int) (w : World) (T : Re.Tri X Y Z) (hX : X = -1)
    (AW : ∀ W, Below w.heap.size w W → Calls Tryz.prog 10 #[] W fun e w' => e = .returned (.bool true) ∧ Below W.heap.size W w')
    (OAB : ∀ W, Calls Tryz.prog 17 #[.agg #[.int .i64 k, .int .u64 n, .string s], .agg #[.int .i64 l, .int .u64 m, .string t]] W fun e w' => e = .returned (.int .i64 X) ∧ Below W.heap.size W w')
    (OBC : ∀ W, Calls Tryz.prog 17 #[.agg #[.int .i64 l, .int .u64 m, .string t], .agg #[.int .i64 x, .int .u64 y, .string u]] W fun e w' => e = .returned (.int .i64 Y) ∧ Below W.heap.size W w')
    (OAC : ∀ W, Calls Tryz.prog 17 #[.agg #[.int .i64 k, .int .u64 n, .string s], .agg #[.int .i64 x, .int .u64 y, .string u]] W fun e w' => e = .returned (.int .i64 Z) ∧ Below W.heap.size W w')
    (OBA : ∀ W, Calls Tryz.prog 17 #[.agg #[.int .i64 l, .int .u64 m, .string t], .agg #[.int .i64 k, .int .u64 n, .string s]] W fun e w' => e = .returned (.int .i64 (-X)) ∧ Below W.heap.size W w')
    (OAA : ∀ W, Calls Tryz.prog 17 #[.agg #[.int .i64 k, .int .u64 n, .string s], .agg #[.int .i64 k, .int .u64 n, .string s]] W fun e w' => e = .returned (.int .i64 0) ∧ Below W.heap.size W w')
    (NA : ∀ W, Calls Tryz.prog 13 #[.agg #[.int .i64 k, .int .u64 n, .string s]] W fun e w' => e = .returned (.bool true) ∧ Below W.heap.size W w')
    (NB : ∀ W, Calls Tryz.prog 13 #[.agg #[.int .i64 l, .int .u64 m, .string t]] W fun e w' => e = .returned (.bool true) ∧ Below W.heap.size W w')
    (CC : ∀ W, Calls Tryz.prog 11 #[.agg #[.int .i64 k, .int .u64 n, .string s], .agg #[.int .i64 l, .int .u64 m, .string t], .string ⟨#[]⟩] W fun e w' => e = .returned (.tuple #[.int .i64 2, .int .i64 0]) ∧ Below W.heap.size W w')
    (IA : ∀ W, Calls Tryz.prog 14 #[.agg #[.int .i64 k, .int .u64 n, .string s]] W fun e w' => e = .returned (.bool false) ∧ Below W.heap.size W w')
    (IB : ∀ W, Calls Tryz.prog 14 #[.agg #[.int .i64 l, .int .u64 m, .string t]] W fun e w' => e = .returned (.bool true) ∧ Below W.heap.size W w')
    : Calls Tryz.prog 6 #[.agg #[.int .i64 k, .int .u64 n, .string s], .agg #[.int .i64 l, .int .u64 m, .string t], .agg #[.int .i64 x, .int .u64 y, .string u]] w fun e w' => e = .returned (.bool true) ∧ Below w.heap.size w w' := by
  have AW := hid AW
  have OAB := hid OAB
  have OBC := hid OBC
  have OAC := hid OAC
  have OBA := hid OBA
  have OAA := hid OAA
  have NA := hid NA
  have NB := hid NB
  have CC := hid CC
  have IA := hid IA
  have IB := hid IB
  have B0 := hid (Re.B3.new w k n s l m t x y u)
  obtain ⟨h1, h2, h3, h4, h5⟩ := T
  rcases h1 with rfl | rfl | rfl <;> rcases h2 with rfl | rfl | rfl <;> rcases h3 with rfl | rfl | rfl <;> first
    | (exfalso; omega)
    | skip
  all_goals
    clear h4 h5 hX
    go_enter Tryz.func6, Tryz.ntmps6
    go_wp2_with fail
    generalize ((w.alloc (.cells #[.int .i64 k, .int .u64 n, .string s] 27)).alloc (.cells #[.int .i64 l, .int .u64 m, .string t] 27)).alloc (.cells #[.int .i64 x, .int .u64 y, .string u] 27) = wA at *
    refine (AW.out _ B0.out.bel).mono ?_
    rintro e w1 ⟨rfl, b1⟩
    have B1 := hid (B0.out.on b1)
    clear b1 B0
    obtain ⟨⟨c0, c1, c2⟩, ⟨d0, d1, d2⟩, ⟨e0, e1, e2⟩⟩ := B1.out.cells
    go_wp2_with fail
    refine (OAB.out _).mono ?_
    rintro e w2 ⟨rfl, b2⟩
    have B2 := hid (B1.out.on b2)
    clear b2 B1 c0 c1 c2 d0 d1 d2 e0 e1 e2
    obtain ⟨⟨c0, c1, c2⟩, ⟨d0, d1, d2⟩, ⟨e0, e1, e2⟩⟩ := B2.out.cells
    go_wp2_with fail
    refine (OBC.out _).mono ?_
    rintro e w3 ⟨rfl, b3⟩
    have B3 := hid (B2.out.on b3)
    clear b3 B2 c0 c1 c2 d0 d1 d2 e0 e1 e2
    obtain ⟨⟨c0, c1, c2⟩, ⟨d0, d1, d2⟩, ⟨e0, e1, e2⟩⟩ := B3.out.cells
    go_wp2_with fail
    refine (OAC.out _).mono ?_
    rintro e w4 ⟨rfl, b4⟩
    have B4 := hid (B3.out.on b4)
    clear b4 B3 c0 c1 c2 d0 d1 d2 e0 e1 e2
    obtain ⟨⟨c0, c1, c2⟩, ⟨d0, d1, d2⟩, ⟨e0, e1, e2⟩⟩ := B4.out.cells
    go_wp2_with fail
    refine (OBA.out _).mono ?_
    rintro e w5 ⟨rfl, b5⟩
    have B5 := hid (B4.out.on b5)
    clear b5 B4 c0 c1 c2 d0 d1 d2 e0 e1 e2
    obtain ⟨⟨c0, c1, c2⟩, ⟨d0, d1, d2⟩, ⟨e0, e1, e2⟩⟩ := B5.out.cells
    go_wp2_with fail
    refine (OAA.out _).mono ?_
    rintro e w6 ⟨rfl, b6⟩
    have B6 := hid (B5.out.on b6)
    clear b6 B5 c0 c1 c2 d0 d1 d2 e0 e1 e2
    obtain ⟨⟨c0, c1, c2⟩, ⟨d0, d1, d2⟩, ⟨e0, e1, e2⟩⟩ := B6.out.cells
    go_wp2_with fail
    refine (NA.out _).mono ?_
    rintro e w7 ⟨rfl, b7⟩
    have B7 := hid (B6.out.on b7)
    clear b7 B6 c0 c1 c2 d0 d1 d2 e0 e1 e2
    obtain ⟨⟨c0, c1, c2⟩, ⟨d0, d1, d2⟩, ⟨e0, e1, e2⟩⟩ := B7.out.cells
    go_wp2_with fail
    refine (NB.out _).mono ?_
    rintro e w8 ⟨rfl, b8⟩
    have B8 := hid (B7.out.on b8)
    clear b8 B7 c0 c1 c2 d0 d1 d2 e0 e1 e2
    obtain ⟨⟨c0, c1, c2⟩, ⟨d0, d1, d2⟩, ⟨e0, e1, e2⟩⟩ := B8.out.cells
    go_wp2_with fail
    refine (CC.out _).mono ?_
    rintro e w9 ⟨rfl, b9⟩
    have B9 := hid (B8.out.on b9)
    clear b9 B8 c0 c1 c2 d0 d1 d2 e0 e1 e2
    obtain ⟨⟨c0, c1, c2⟩, ⟨d0, d1, d2⟩, ⟨e0, e1, e2⟩⟩ := B9.out.cells
    go_wp2_with fail
    refine (IA.out _).mono ?_
    rintro e w10 ⟨rfl, b10⟩
    have B10 := hid (B9.out.on b10)
    clear b10 B9 c0 c1 c2 d0 d1 d2 e0 e1 e2
    obtain ⟨⟨c0, c1, c2⟩, ⟨d0, d1, d2⟩, ⟨e0, e1, e2⟩⟩ := B10.out.cells
    go_wp2_with fail
    refine (IB.out _).mono ?_
    rintro e w11 ⟨rfl, b11⟩
    have B11 := hid (B10.out.on b11)
    clear b11 B10 c0 c1 c2 d0 d1 d2 e0 e1 e2
    obtain ⟨⟨c0, c1, c2⟩, ⟨d0, d1, d2⟩, ⟨e0, e1, e2⟩⟩ := B11.out.cells
    go_wp2_with fail
    refine (IA.out _).mono ?_
    rintro e w12 ⟨rfl, b12⟩
    have B12 := hid (B11.out.on b12)
    clear b12 B11 c0 c1 c2 d0 d1 d2 e0 e1 e2
    obtain ⟨⟨c0, c1, c2⟩, ⟨d0, d1, d2⟩, ⟨e0, e1, e2⟩⟩ := B12.out.cells
    go_wp2_with fail
    refine (IB.out _).mono ?_
    rintro e w13 ⟨rfl, b13⟩
    have B13 := hid (B12.out.on b13)
    clear b13 B12 c0 c1 c2 d0 d1 d2 e0 e1 e2
    have F := hid B13.out.bel
    go_wp2_with fail
    go_ret
    exact ⟨rfl, F.out⟩

set_option maxRecDepth 100000 in
set_option maxHeartbeats 8000000 in
theorem rtotal_xn (k n : Int) (s : ByteArray) (l m : Int) (t : ByteArray) (x y : Int) (u : ByteArray) (X Y Z : Int) (w : World) (T : Re.Tri X Y Z) (hX : X = 1)
    (AW : ∀ W, Below w.heap.size w W → Calls Tryz.prog 10 #[] W fun e w' => e = .returned (.bool true) ∧ Below W.heap.size W w')
    (OAB : ∀ W, Calls Tryz.prog 17 #[.agg #[.int .i64 k, .int .u64 n, .string s], .agg #[.int .i64 l, .int .u64 m, .string t]] W fun e w' => e = .returned (.int .i64 X) ∧ Below W.heap.size W w')
    (OBC : ∀ W, Calls Tryz.prog 17 #[.agg #[.int .i64 l, .int .u64 m, .string t], .agg #[.int .i64 x, .int .u64 y, .string u]] W fun e w' => e = .returned (.int .i64 Y) ∧ Below W.heap.size W w')
    (OAC : ∀ W, Calls Tryz.prog 17 #[.agg #[.int .i64 k, .int .u64 n, .string s], .agg #[.int .i64 x, .int .u64 y, .string u]] W fun e w' => e = .returned (.int .i64 Z) ∧ Below W.heap.size W w')
    (OBA : ∀ W, Calls Tryz.prog 17 #[.agg #[.int .i64 l, .int .u64 m, .string t], .agg #[.int .i64 k, .int .u64 n, .string s]] W fun e w' => e = .returned (.int .i64 (-X)) ∧ Below W.heap.size W w')
    (OAA : ∀ W, Calls Tryz.prog 17 #[.agg #[.int .i64 k, .int .u64 n, .string s], .agg #[.int .i64 k, .int .u64 n, .string s]] W fun e w' => e = .returned (.int .i64 0) ∧ Below W.heap.size W w')
    (NA : ∀ W, Calls Tryz.prog 13 #[.agg #[.int .i64 k, .int .u64 n, .string s]] W fun e w' => e = .returned (.bool true) ∧ Below W.heap.size W w')
    (NB : ∀ W, Calls Tryz.prog 13 #[.agg #[.int .i64 l, .int .u64 m, .string t]] W fun e w' => e = .returned (.bool true) ∧ Below W.heap.size W w')
    (CC : ∀ W, Calls Tryz.prog 11 #[.agg #[.int .i64 k, .int .u64 n, .string s], .agg #[.int .i64 l, .int .u64 m, .string t], .string ⟨#[]⟩] W fun e w' => e = .returned (.tuple #[.int .i64 2, .int .i64 0]) ∧ Below W.heap.size W w')
    (IA : ∀ W, Calls Tryz.prog 14 #[.agg #[.int .i64 k, .int .u64 n, .string s]] W fun e w' => e = .returned (.bool true) ∧ Below W.heap.size W w')
    (IB : ∀ W, Calls Tryz.prog 14 #[.agg #[.int .i64 l, .int .u64 m, .string t]] W fun e w' => e = .returned (.bool false) ∧ Below W.heap.size W w')
    : Calls Tryz.prog 6 #[.agg #[.int .i64 k, .int .u64 n, .string s], .agg #[.int .i64 l, .int .u64 m, .string t], .agg #[.int .i64 x, .int .u64 y, .string u]] w fun e w' => e = .returned (.bool true) ∧ Below w.heap.size w w' := by
  have AW := hid AW
  have OAB := hid OAB
  have OBC := hid OBC
  have OAC := hid OAC
  have OBA := hid OBA
  have OAA := hid OAA
  have NA := hid NA
  have NB := hid NB
  have CC := hid CC
  have IA := hid IA
  have IB := hid IB
  have B0 := hid (Re.B3.new w k n s l m t x y u)
  obtain ⟨h1, h2, h3, h4, h5⟩ := T
  rcases h1 with rfl | rfl | rfl <;> rcases h2 with rfl | rfl | rfl <;> rcases h3 with rfl | rfl | rfl <;> first
    | (exfalso; omega)
    | skip
  all_goals
    clear h4 h5 hX
    go_enter Tryz.func6, Tryz.ntmps6
    go_wp2_with fail
    generalize ((w.alloc (.cells #[.int .i64 k, .int .u64 n, .string s] 27)).alloc (.cells #[.int .i64 l, .int .u64 m, .string t] 27)).alloc (.cells #[.int .i64 x, .int .u64 y, .string u] 27) = wA at *
    refine (AW.out _ B0.out.bel).mono ?_
    rintro e w1 ⟨rfl, b1⟩
    have B1 := hid (B0.out.on b1)
    clear b1 B0
    obtain ⟨⟨c0, c1, c2⟩, ⟨d0, d1, d2⟩, ⟨e0, e1, e2⟩⟩ := B1.out.cells
    go_wp2_with fail
    refine (OAB.out _).mono ?_
    rintro e w2 ⟨rfl, b2⟩
    have B2 := hid (B1.out.on b2)
    clear b2 B1 c0 c1 c2 d0 d1 d2 e0 e1 e2
    obtain ⟨⟨c0, c1, c2⟩, ⟨d0, d1, d2⟩, ⟨e0, e1, e2⟩⟩ := B2.out.cells
    go_wp2_with fail
    refine (OBC.out _).mono ?_
    rintro e w3 ⟨rfl, b3⟩
    have B3 := hid (B2.out.on b3)
    clear b3 B2 c0 c1 c2 d0 d1 d2 e0 e1 e2
    obtain ⟨⟨c0, c1, c2⟩, ⟨d0, d1, d2⟩, ⟨e0, e1, e2⟩⟩ := B3.out.cells
    go_wp2_with fail
    refine (OAC.out _).mono ?_
    rintro e w4 ⟨rfl, b4⟩
    have B4 := hid (B3.out.on b4)
    clear b4 B3 c0 c1 c2 d0 d1 d2 e0 e1 e2
    obtain ⟨⟨c0, c1, c2⟩, ⟨d0, d1, d2⟩, ⟨e0, e1, e2⟩⟩ := B4.out.cells
    go_wp2_with fail
    refine (OBA.out _).mono ?_
    rintro e w5 ⟨rfl, b5⟩
    have B5 := hid (B4.out.on b5)
    clear b5 B4 c0 c1 c2 d0 d1 d2 e0 e1 e2
    obtain ⟨⟨c0, c1, c2⟩, ⟨d0, d1, d2⟩, ⟨e0, e1, e2⟩⟩ := B5.out.cells
    go_wp2_with fail
    refine (OAA.out _).mono ?_
    rintro e w6 ⟨rfl, b6⟩
    have B6 := hid (B5.out.on b6)
    clear b6 B5 c0 c1 c2 d0 d1 d2 e0 e1 e2
    obtain ⟨⟨c0, c1, c2⟩, ⟨d0, d1, d2⟩, ⟨e0, e1, e2⟩⟩ := B6.out.cells
    go_wp2_with fail
    refine (NA.out _).mono ?_
    rintro e w7 ⟨rfl, b7⟩
    have B7 := hid (B6.out.on b7)
    clear b7 B6 c0 c1 c2 d0 d1 d2 e0 e1 e2
    obtain ⟨⟨c0, c1, c2⟩, ⟨d0, d1, d2⟩, ⟨e0, e1, e2⟩⟩ := B7.out.cells
    go_wp2_with fail
    refine (NB.out _).mono ?_
    rintro e w8 ⟨rfl, b8⟩
    have B8 := hid (B7.out.on b8)
    clear b8 B7 c0 c1 c2 d0 d1 d2 e0 e1 e2
    obtain ⟨⟨c0, c1, c2⟩, ⟨d0, d1, d2⟩, ⟨e0, e1, e2⟩⟩ := B8.out.cells
    go_wp2_with fail
    refine (CC.out _).mono ?_
    rintro e w9 ⟨rfl, b9⟩
    have B9 := hid (B8.out.on b9)
    clear b9 B8 c0 c1 c2 d0 d1 d2 e0 e1 e2
    obtain ⟨⟨c0, c1, c2⟩, ⟨d0, d1, d2⟩, ⟨e0, e1, e2⟩⟩ := B9.out.cells
    go_wp2_with fail
    refine (IA.out _).mono ?_
    rintro e w10 ⟨rfl, b10⟩
    have B10 := hid (B9.out.on b10)
    clear b10 B9 c0 c1 c2 d0 d1 d2 e0 e1 e2
    obtain ⟨⟨c0, c1, c2⟩, ⟨d0, d1, d2⟩, ⟨e0, e1, e2⟩⟩ := B10.out.cells
    go_wp2_with fail
    refine (IA.out _).mono ?_
    rintro e w11 ⟨rfl, b11⟩
    have B11 := hid (B10.out.on b11)
    clear b11 B10 c0 c1 c2 d0 d1 d2 e0 e1 e2
    obtain ⟨⟨c0, c1, c2⟩, ⟨d0, d1, d2⟩, ⟨e0, e1, e2⟩⟩ := B11.out.cells
    go_wp2_with fail
    refine (IB.out _).mono ?_
    rintro e w12 ⟨rfl, b12⟩
    have B12 := hid (B11.out.on b12)
    clear b12 B11 c0 c1 c2 d0 d1 d2 e0 e1 e2
    have F := hid B12.out.bel
    go_wp2_with fail
    go_ret
    exact ⟨rfl, F.out⟩

/-- RelateTotal: P18.2. -/
theorem rtotal_law (k n : Int) (s : ByteArray) (l m : Int) (t : ByteArray) (x y : Int) (u : ByteArray) (w : World) (ht : Tab10 w) (n0 : 0 ≤ n) (n1 : n < 18446744073709551616) (m0 : 0 ≤ m) (m1 : m < 18446744073709551616) (y0 : 0 ≤ y) (y1 : y < 18446744073709551616) :
    Calls Tryz.prog 6 #[.agg #[.int .i64 k, .int .u64 n, .string s], .agg #[.int .i64 l, .int .u64 m, .string t], .agg #[.int .i64 x, .int .u64 y, .string u]] w fun e w' => e = .returned (.bool true) ∧ Below w.heap.size w w' := by
  have AW : ∀ W, Below w.heap.size w W → Calls Tryz.prog 10 #[] W fun e w' => e = .returned (.bool true) ∧ Below W.heap.size W w' := fun W h => rawake_any W (rtab10_on ht h)
  have T := Re.tri (Re.rt k n s) (Re.rt l m t) (Re.rt x y u)
  have OAB := fun W => order_any k n s l m t W n0 n1 m0 m1
  have OBC := fun W => order_any l m t x y u W m0 m1 y0 y1
  have OAC := fun W => order_any k n s x y u W n0 n1 y0 y1
  have OBA := fun W => order_any l m t k n s W m0 m1 n0 n1
  have OAA := fun W => order_any k n s k n s W n0 n1 n0 n1
  rw [Re.cm_anti (Re.rt k n s) (Re.rt l m t)] at OBA
  rw [Re.cm_self] at OAA
  have NA := fun W => vnumeric_any k n s W
  have NB := fun W => vnumeric_any l m t W
  by_cases k2 : k = 2
  · rw [decide_eq_false (fun h => h k2)] at NA
    exact rtotal_ta k n s l m t x y u _ _ _ w T AW OAB OBC OAC OBA OAA NA
  rw [decide_eq_true k2] at NA
  by_cases l2 : l = 2
  · rw [decide_eq_false (fun h => h l2)] at NB
    exact rtotal_tb k n s l m t x y u _ _ _ w T AW OAB OBC OAC OBA OAA NA NB
  rw [decide_eq_true l2] at NB
  have CC := fun W => compareN_any k n s l m t ⟨#[]⟩ W n0 n1 m0 m1 k2 l2
  have IA := fun W => risnan_any k n s W n0 n1 k2
  have IB := fun W => risnan_any l m t W m0 m1 l2
  have eX : Re.cm (Re.rt k n s) (Re.rt l m t) = Ie.cm (Re.pl (Re.nu k n)) (Re.pl (Re.nu l m)) := by rw [Re.rt_nu k2, Re.rt_nu l2]; rfl
  obtain ⟨a0, a1⟩ := Re.nu_b (k := k) n0 n1
  obtain ⟨b0, b1⟩ := Re.nu_b (k := l) m0 m1
  cases ha : Ie.okd (Re.nu k n) <;> cases hb : Ie.okd (Re.nu l m) <;> rw [ha] at IA <;> rw [hb] at IB
  · have c2 : Re.cn (Re.nu k n) (Re.nu l m) = 2 := by rw [Re.cn, ha]; rfl
    have pa : Re.pl (Re.nu k n) = 9223372036854775807 := by rw [Re.pl, ha]; rfl
    have pb : Re.pl (Re.nu l m) = 9223372036854775807 := by rw [Re.pl, hb]; rfl
    rw [c2] at CC
    exact rtotal_xx k n s l m t x y u _ _ _ w T (by rw [eX, pa, pb]; decide) AW OAB OBC OAC OBA OAA NA NB CC IA IB
  · have c2 : Re.cn (Re.nu k n) (Re.nu l m) = 2 := by rw [Re.cn, ha]; rfl
    have pa : Re.pl (Re.nu k n) = 9223372036854775807 := by rw [Re.pl, ha]; rfl
    have pb := Re.pl_lt b0 b1 hb
    rw [c2] at CC
    exact rtotal_xn k n s l m t x y u _ _ _ w T (by rw [eX, pa]; rcases Re.icm_c 9223372036854775807 (Re.pl (Re.nu l m)) with h | h | h <;> omega) AW OAB OBC OAC OBA OAA NA NB CC IA IB
  · have c2 : Re.cn (Re.nu k n) (Re.nu l m) = 2 := by rw [Re.cn, ha, hb]; rfl
    have pb : Re.pl (Re.nu l m) = 9223372036854775807 := by rw [Re.pl, hb]; rfl
    have pa := Re.pl_lt a0 a1 ha
    rw [c2] at CC
    exact rtotal_nx k n s l m t x y u _ _ _ w T (by rw [eX, pb]; rcases Re.icm_c (Re.pl (Re.nu k n)) 9223372036854775807 with h | h | h <;> omega) AW OAB OBC OAC OBA OAA NA NB CC IA IB
  · have pa := Re.pl_lt a0 a1 ha
    have pb := Re.pl_lt b0 b1 hb
    have c2 : Re.cn (Re.nu k n) (Re.nu l m) = Re.cm (Re.rt k n s) (Re.rt l m t) := by
      rw [Re.cn, ha, hb, eX, pa.1, pb.1]
      show Ie.cmv _ _ = _
      rw [Ie.cmv, if_pos ⟨ha, hb⟩, Ie.rkv, Ie.rkv, if_pos ha, if_pos hb]
    rw [c2] at CC
    exact rtotal_nn k n s l m t x y u _ _ _ w T AW OAB OBC OAC OBA OAA NA NB CC IA IB
end Go.Proofs.YthpecfncndclfaaGreatDoor
