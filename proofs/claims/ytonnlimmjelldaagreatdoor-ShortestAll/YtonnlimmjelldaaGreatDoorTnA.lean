/-
  abacusref12: SpanOf.
-/
import Derived.Test.YtonnlimmjelldaaGreatDoorTnN
import Derived.Test.YtonnlimmjelldaaGreatDoorIKinds
import Derived.Test.YtonnlimmjelldaaGreatDoorZDecA
import Derived.Test.YtonnlimmjelldaaGreatDoorFRow3
import Derived.Test.YtonnlimmjelldaaGreatDoorV0
namespace Go.Proofs.YtonnlimmjelldaaGreatDoor
open Go Go.RowKit Go.Deep

/-- Five cells that may be written. -/
def R5 (w : World) (b : Nat) (v0 v1 v2 v3 v4 : Value) : Prop := w.heap[b]? = some (.cells #[v0, v1, v2, v3, v4] 56 (0, 0))
theorem R5.new (w : World) (v0 v1 v2 v3 v4 : Value) : R5 (w.alloc (.cells #[v0, v1, v2, v3, v4] 56)) w.heap.size v0 v1 v2 v3 v4 := heap_alloc_new w _
theorem R5.below {B : Nat} {w w' : World} {b : Nat} {v0 v1 v2 v3 v4 : Value} (h : R5 w b v0 v1 v2 v3 v4) (hB : Below B w w') (hb : b < B) : R5 w' b v0 v1 v2 v3 v4 := by
  rw [R5, hB.block b hb]; exact h
theorem R5.lt {w : World} {b : Nat} {v0 v1 v2 v3 v4 : Value} (h : R5 w b v0 v1 v2 v3 v4) : b < w.heap.size := by
  rcases Nat.lt_or_ge b w.heap.size with hl | hl
  · exact hl
  · simp [R5, Array.getElem?_eq_none hl] at h
theorem R5.on {w w' : World} {b : Nat} {v0 v1 v2 v3 v4 : Value} (h : R5 w b v0 v1 v2 v3 v4) (hB : Below w.heap.size w w') : R5 w' b v0 v1 v2 v3 v4 := h.below hB h.lt
theorem R5.cells {w : World} {b : Nat} {v0 v1 v2 v3 v4 : Value} (h : R5 w b v0 v1 v2 v3 v4) :
    (w.cell? ⟨b, 0, none⟩ = some v0 ∧ w.cell? ⟨b, 1, none⟩ = some v1 ∧ w.cell? ⟨b, 2, none⟩ = some v2 ∧ w.cell? ⟨b, 3, none⟩ = some v3 ∧ w.cell? ⟨b, 4, none⟩ = some v4) ∧
    (w.frozen? ⟨b, 0, none⟩ = false ∧ w.frozen? ⟨b, 1, none⟩ = false ∧ w.frozen? ⟨b, 2, none⟩ = false ∧ w.frozen? ⟨b, 3, none⟩ = false ∧ w.frozen? ⟨b, 4, none⟩ = false) := by
  simp only [R5] at h
  refine ⟨⟨?_, ?_, ?_, ?_, ?_⟩, ⟨?_, ?_, ?_, ?_, ?_⟩⟩ <;> simp [World.cell?, World.frozen?, h]
theorem R5.put {w : World} {b : Nat} {v0 v1 v2 v3 v4 : Value} (h : R5 w b v0 v1 v2 v3 v4) (u0 u1 u2 u3 u4 : Value) :
    R5 (((((w.setCell ⟨b, 0, none⟩ u0).setCell ⟨b, 1, none⟩ u1).setCell ⟨b, 2, none⟩ u2).setCell ⟨b, 3, none⟩ u3).setCell ⟨b, 4, none⟩ u4) b u0 u1 u2 u3 u4 := by
  have h0 := fset1 (o := 0) (v := u0) (c' := #[u0, v1, v2, v3, v4]) h (by simp [Array.setIfInBounds])
  have h1 := fset1 (o := 1) (v := u1) (c' := #[u0, u1, v2, v3, v4]) h0 (by simp [Array.setIfInBounds])
  have h2 := fset1 (o := 2) (v := u2) (c' := #[u0, u1, u2, v3, v4]) h1 (by simp [Array.setIfInBounds])
  have h3 := fset1 (o := 3) (v := u3) (c' := #[u0, u1, u2, u3, v4]) h2 (by simp [Array.setIfInBounds])
  exact fset1 (o := 4) (v := u4) (c' := #[u0, u1, u2, u3, u4]) h3 (by simp [Array.setIfInBounds])
theorem R5.far {w : World} {b c o : Nat} {v v0 v1 v2 v3 v4 : Value} (h : R5 w b v0 v1 v2 v3 v4) (hc : c ≠ b) : R5 (w.setCell ⟨c, o, none⟩ v) b v0 v1 v2 v3 v4 := by
  simp only [R5] at *
  simp only [World.setCell, Array.getElem?_modify]
  rw [if_neg hc]; exact h
theorem set5_below {B : Nat} {w w' : World} {b : Nat} {u0 u1 u2 u3 u4 : Value} (h : Below B w w') (hb : B ≤ b) : Below B w (((((w'.setCell ⟨b, 0, none⟩ u0).setCell ⟨b, 1, none⟩ u1).setCell ⟨b, 2, none⟩ u2).setCell ⟨b, 3, none⟩ u3).setCell ⟨b, 4, none⟩ u4) :=
  ((((h.setCell (p := ⟨b, 0, none⟩) hb u0).setCell (p := ⟨b, 1, none⟩) hb u1).setCell (p := ⟨b, 2, none⟩) hb u2).setCell (p := ⟨b, 3, none⟩) hb u3).setCell (p := ⟨b, 4, none⟩) hb u4

namespace Tn
def spv (a : Int) : Value := .agg #[.int .u64 (4 * Ie.man a), .int .u64 (lo a), .int .u64 (4 * Ie.man a + 2), .int .i64 ((Ie.ex a : Int) - 1076), .bool (decide (a % 2 = 0))]
theorem dec_fin {d a : Int} (h : d % 9223372036854775808 = a) (h0 : 0 < a) (h1 : a < 9218868437227405312) : Ie.dm d = Ie.man a ∧ Ie.de d = (Ie.ex a : Int) - 1074 := by
  rcases Ie.dec_kinds d a h with c | c | c | c | c
  · omega
  · refine ⟨?_, ?_⟩
    · rw [c.2.1, Ie.man, if_pos c.2.2.2.2]
    · have : Ie.ex a = 0 := by rw [Ie.ex]; omega
      rw [c.2.2.1, this]; rfl
  · exact ⟨c.2.1, c.2.2.1⟩
  · omega
  · omega
theorem man_bd {a : Int} (h0 : 0 < a) (h1 : a < 9218868437227405312) : 0 < Ie.man a ∧ Ie.man a < 9007199254740992 ∧ Ie.man a % 2 = a % 2 ∧ Ie.ex a ≤ 2046 := by
  rw [Ie.man, Ie.ex]
  split <;> omega
end Tn
set_option maxRecDepth 100000 in
theorem xabs_any (d : Int) (w : World) (_h0 : 0 ≤ d) (_h1 : d < 18446744073709551616) :
    Calls Tryz.prog 29 #[.int .u64 d] w fun e w' => e = .returned (.int .u64 (d % 9223372036854775808)) ∧ w' = w := by
  go_enter Tryz.func29, Tryz.ntmps29
  go_wp2
  go_ret
  exact ⟨rfl, rfl⟩
set_option maxRecDepth 100000 in
theorem xfin_any (d : Int) (w : World) (h0 : 0 ≤ d) (h1 : d < 18446744073709551616) :
    Calls Tryz.prog 28 #[.int .u64 d] w fun e w' => e = .returned (.bool (decide (d % 9223372036854775808 < 9218868437227405312))) ∧ w' = w := by
  have A := hid (xabs_any d w h0 h1)
  go_enter Tryz.func28, Tryz.ntmps28
  go_wp2_with fail
  refine A.out.mono ?_
  rintro e w' ⟨rfl, rfl⟩
  go_wp2_with fail
  go_ret
  exact ⟨rfl, rfl⟩
set_option maxRecDepth 100000 in
set_option maxHeartbeats 4000000 in
theorem xspan_any (d a : Int) (w : World) (h0 : 0 ≤ d) (h1 : d < 18446744073709551616) (ha : d % 9223372036854775808 = a) (a0 : 0 < a) (a1 : a < 9218868437227405312) :
    Calls Tryz.prog 30 #[.int .u64 d] w fun e w' => e = .returned (Tn.spv a) ∧ Below w.heap.size w w' := by
  have D := hid (fun wx => zdecode_any d wx h0 h1)
  obtain ⟨e1, e2⟩ := Tn.dec_fin ha a0 a1
  obtain ⟨m0, m1, m2, x1⟩ := Tn.man_bd a0 a1
  rw [e1, e2] at D
  have Z := hid (R5.new w (.int .u64 0) (.int .u64 0) (.int .u64 0) (.int .i64 0) (.bool false))
  have ZB := hid (alloc_b w (.cells #[.int .u64 0, .int .u64 0, .int .u64 0, .int .i64 0, .bool false] 56))
  generalize hs : Tn.spv a = SV
  unfold Tn.spv Tn.lo at hs
  rw [← m2] at hs
  generalize decide (9223372036854775808 ≤ d) = neg at D
  generalize Ie.cls d = c at *
  generalize Ie.man a = m at *
  generalize Ie.ex a = x at *
  simp only [partsOf] at D
  have HS := hid hs
  clear hs e1 e2 h0 h1 ha a0 a1 m2
  go_enter Tryz.func30, Tryz.ntmps30
  go_wp2_with fail
  refine (D.out _).mono ?_
  rintro e w1 ⟨rfl, hB⟩
  have B1 := hid (ZB.out.trans (hB.mono ZB.out.size))
  have R1 := hid (Z.out.on hB)
  clear hB D Z ZB
  have A2 : Hid (∀ o : Obj, Below w1.heap.size w1 ((w1.alloc (.cells #[.bool neg, .int .i64 c, .int .u64 m, .int .i64 ((x : Int) - 1074)] 67)).alloc o)) := fun o => (alloc_b w1 (.cells #[.bool neg, .int .i64 c, .int .u64 m, .int .i64 ((x : Int) - 1074)] 67)).trans ((alloc_b (w1.alloc (.cells #[.bool neg, .int .i64 c, .int .u64 m, .int .i64 ((x : Int) - 1074)] 67)) o).mono (by rw [World.size_alloc]; omega))
  have B2 : Hid (∀ o : Obj, Below w.heap.size w ((w1.alloc (.cells #[.bool neg, .int .i64 c, .int .u64 m, .int .i64 ((x : Int) - 1074)] 67)).alloc o)) := fun o => B1.out.trans ((A2.out o).mono B1.out.size)
  have R2 : Hid (∀ o : Obj, R5 ((w1.alloc (.cells #[.bool neg, .int .i64 c, .int .u64 m, .int .i64 ((x : Int) - 1074)] 67)).alloc o) w.heap.size (.int .u64 0) (.int .u64 0) (.int .u64 0) (.int .i64 0) (.bool false)) := fun o => R1.out.on (A2.out o)
  clear A2 R1 B1
  have EB : Hid ((m % 2 == 0) = decide (m % 2 = 0)) := by show _ = _; by_cases h : m % 2 = 0 <;> simp [h]
  by_cases hm : m = 4503599627370496
  · have e1 : (m == 4503599627370496) = true := beq_iff_eq.2 hm
    by_cases hx : 0 < x
    · have hxi : (-1074 : Int) < (x : Int) - 1074 := by omega
      obtain ⟨⟨c0, c1, c2, c3, c4⟩, f0, f1, f2, f3, f4⟩ := (R2.out (.cells #[.int .u64 (4 * m), .int .u64 (4 * m - 1), .int .u64 (4 * m + 2), .int .i64 ((x : Int) - 1074 - 2), .bool (m % 2 == 0)] 56)).cells
      rw [if_pos ⟨hm, hx⟩] at HS
      clear hm hx
      go_wp2_with fail
      (try simp only [Exit.inBlock, Exit.then])
      refine bodyPost_ret (results_cell_row rfl _ _ w.heap.size 56 _ (0, 0) _ rfl ((R2.out (.cells #[.int .u64 (4 * m), .int .u64 (4 * m - 1), .int .u64 (4 * m + 2), .int .i64 ((x : Int) - 1074 - 2), .bool (m % 2 == 0)] 56)).put _ _ _ _ _) Tryz.underlying56 rfl (by kernel_rfl)) rfl ?_
      refine ⟨?_, set5_below (B2.out _) (Nat.le_refl _)⟩
      rw [← HS.out, ← EB.out, show (x : Int) - 1074 - 2 = (x : Int) - 1076 by omega]
    · have hxi : ¬ (-1074 : Int) < (x : Int) - 1074 := by omega
      obtain ⟨⟨c0, c1, c2, c3, c4⟩, f0, f1, f2, f3, f4⟩ := (R2.out (.cells #[.int .u64 (4 * m), .int .u64 (4 * m - 2), .int .u64 (4 * m + 2), .int .i64 ((x : Int) - 1074 - 2), .bool (m % 2 == 0)] 56)).cells
      rw [if_neg (fun c => hx c.2)] at HS
      clear hm hx
      go_wp2_with fail
      (try simp only [Exit.inBlock, Exit.then])
      refine bodyPost_ret (results_cell_row rfl _ _ w.heap.size 56 _ (0, 0) _ rfl ((R2.out (.cells #[.int .u64 (4 * m), .int .u64 (4 * m - 2), .int .u64 (4 * m + 2), .int .i64 ((x : Int) - 1074 - 2), .bool (m % 2 == 0)] 56)).put _ _ _ _ _) Tryz.underlying56 rfl (by kernel_rfl)) rfl ?_
      refine ⟨?_, set5_below (B2.out _) (Nat.le_refl _)⟩
      rw [← HS.out, ← EB.out, show (x : Int) - 1074 - 2 = (x : Int) - 1076 by omega]
  · have e1 : (m == 4503599627370496) = false := beq_eq_false_iff_ne.2 hm
    obtain ⟨⟨c0, c1, c2, c3, c4⟩, f0, f1, f2, f3, f4⟩ := (R2.out (.cells #[.int .u64 (4 * m), .int .u64 (4 * m - 2), .int .u64 (4 * m + 2), .int .i64 ((x : Int) - 1074 - 2), .bool (m % 2 == 0)] 56)).cells
    rw [if_neg (fun c => hm c.1)] at HS
    clear hm
    go_wp2_with fail
    (try simp only [Exit.inBlock, Exit.then])
    refine bodyPost_ret (results_cell_row rfl _ _ w.heap.size 56 _ (0, 0) _ rfl ((R2.out (.cells #[.int .u64 (4 * m), .int .u64 (4 * m - 2), .int .u64 (4 * m + 2), .int .i64 ((x : Int) - 1074 - 2), .bool (m % 2 == 0)] 56)).put _ _ _ _ _) Tryz.underlying56 rfl (by kernel_rfl)) rfl ?_
    refine ⟨?_, set5_below (B2.out _) (Nat.le_refl _)⟩
    rw [← HS.out, ← EB.out, show (x : Int) - 1074 - 2 = (x : Int) - 1076 by omega]
end Go.Proofs.YtonnlimmjelldaaGreatDoor
