import Derived.Test.YtjebdobopechfaaDoorYNum
import Derived.Test.YtjebdobopechfaaDoorIDec
import Derived.Test.YtjebdobopechfaaDoorIUp
import Derived.Test.YtjebdobopechfaaDoorWalk4
import Derived.Test.YtjebdobopechfaaDoorSmall
/-
  law05: works (made by mkybase.py).
-/
namespace Go.Proofs.YtjebdobopechfaaDoor
open Go Go.RowKit Go.Deep

theorem arg_lit {w : World} {g : Nat} {x : Int} (h : w.heap[g]? = some (.cells #[.int .u64 x] 23 (0, 0))) (h0 : 0 ≤ x) (h1 : x < 18446744073709551616) : Arg w (some ⟨g, 0, none⟩) 1 1 [x] := by
  refine ⟨rfl, Nat.le_refl _, by omega, .inr ⟨g, 0, rfl, fun i hi => ?_⟩, Nm.Limbs.mk h0 h1 Nm.Limbs.nil⟩
  obtain rfl : i = 0 := by simpa using hi
  simp [World.cell?, h]

set_option maxRecDepth 100000 in
set_option maxHeartbeats 4000000 in
theorem works_any (w : World) :
    Calls Tryd.prog 15 #[] w fun e w' => e = .returned (.bool true) ∧ Below w.heap.size w w' := by
  have pw1 : (15 : Int) < Nm.pw 4096 := by
    rw [pw_4096]
    have := Nm.two_mono (show 4 ≤ 262144 by omega)
    have e : (2 : Int) ^ 4 = 16 := rfl
    omega
  have M1 : Hid (∀ g1 g2 : Obj, g1 = .cells #[.int .u64 3] 23 → g2 = .cells #[.int .u64 5] 23 → Calls Tryd.prog 41 #[.slice (some ⟨w.heap.size, 0, none⟩) 1 1, .slice (some ⟨w.heap.size + 1, 0, none⟩) 1 1] ((w.alloc g1).alloc g2) fun e w' => ∃ r os, e = .returned (.tuple #[.slice r (List.length os) (List.length os), .int .i64 0]) ∧ Ans w.heap.size w' r os 15 ∧ Below w.heap.size w w') := by
    intro g1 g2 e1 e2
    subst e1 e2
    have hb := twice_alloc w (.cells #[.int .u64 3] 23) (.cells #[.int .u64 5] 23)
    refine (mul_ok _ _ 1 1 1 1 [3] [5] _ (arg_lit (heap_alloc2_old w _ _) (by omega) (by omega)) (arg_lit (heap_alloc2_new w _ _) (by omega) (by omega)) (by decide) (by decide) (by exact pw1)).mono ?_
    rintro e w1 ⟨r, os, rfl, A, hB⟩
    exact ⟨r, os, rfl, ⟨A.1, A.2.1, A.2.2.1, A.2.2.2.1, fun a h => by have := A.2.2.2.2 a h; have := hb.size; omega⟩, hb.trans (hB.mono hb.size)⟩
  have D1 : Hid (∀ wx : World, Calls Tryd.prog 42 #[.int .u64 4613937818241073152] wx fun e w' => e = .returned (.agg #[.bool false, .int .i64 2, .int .u64 6755399441055744, .int .i64 (-51)]) ∧ Below wx.heap.size wx w') := by
    intro wx
    exact decode_any 4613937818241073152 wx (by omega) (by omega)
  have U1 : Hid (∀ wx : World, Calls Tryd.prog 44 #[.int .u64 0] wx fun e w' => e = .returned (.int .u64 1) ∧ w' = wx) := by
    intro wx
    exact up_any 0 wx (by omega) (by omega)
  clear pw1
  go_enter Tryd.func15, Tryd.ntmps15
  go_wp2_with fail
  refine (M1.out _ _ rfl rfl).mono ?_
  rintro e w1 ⟨r, os, rfl, A, hB1⟩
  have HA := hid A
  have HB1 := hid hB1
  clear hB1 M1 A
  go_wp2_with fail
  refine (D1.out w1).mono ?_
  rintro e w2 ⟨rfl, hB2⟩
  have A2 := HA.out.below hB2 (Nat.le_refl _)
  have HB2 := hid (HB1.out.trans (hB2.mono HB1.out.size))
  have CM : Hid (∀ g1 g2 : Obj, g1 = .cells #[.bool false, .int .i64 2, .int .u64 6755399441055744, .int .i64 (-51)] 55 → g2 = .cells #[.int .u64 15] 23 → Calls Tryd.prog 43 #[.slice r os.length os.length, .slice (some ⟨w2.heap.size + 1, 0, none⟩) 1 1] ((w2.alloc g1).alloc g2) fun e w' => e = .returned (.int .i64 0) ∧ Below w.heap.size w w' ∧ w'.cell? ⟨w2.heap.size, 2, none⟩ = some (.int .u64 6755399441055744) ∧ w'.cell? ⟨w2.heap.size, 3, none⟩ = some (.int .i64 (-51))) := by
    intro g1 g2 e1 e2
    subst e1 e2
    have hb := twice_alloc w2 (.cells #[.bool false, .int .i64 2, .int .u64 6755399441055744, .int .i64 (-51)] 55) (.cells #[.int .u64 15] 23)
    have A3 := A2.below hb (Nat.le_refl _)
    have gg := (A3.tl' (K := 4) (by decide) (by omega)).1
    have lt : w2.heap.size < ((w2.alloc (.cells #[.bool false, .int .i64 2, .int .u64 6755399441055744, .int .i64 (-51)] 55)).alloc (.cells #[.int .u64 15] 23)).heap.size := by simp; omega
    have R : Row4 ((w2.alloc (.cells #[.bool false, .int .i64 2, .int .u64 6755399441055744, .int .i64 (-51)] 55)).alloc (.cells #[.int .u64 15] 23)) w2.heap.size 55 (.bool false) (.int .i64 2) (.int .u64 6755399441055744) (.int .i64 (-51)) := heap_alloc2_old w2 _ _
    refine (cmp_is 0 _ _ _ _ _ _ os [15] _ gg (arg_lit (heap_alloc2_new w2 _ _) (by omega) (by omega)) (by rw [A3.2.2.2.1]; rfl)).mono ?_
    rintro e w' ⟨rfl, hB⟩
    have R' := R.below hB lt
    have H := HB2.out.trans (hb.mono HB2.out.size)
    exact ⟨rfl, H.trans (hB.mono H.size), R'.cells.1.2.2.1, R'.cells.1.2.2.2⟩
  clear A2 hB2 D1 HB1 HA HB2
  go_wp2_with fail
  refine (CM.out _ _ rfl rfl).mono ?_
  rintro e w3 ⟨rfl, hB3, c2, c3⟩
  have HB3 := hid hB3
  clear hB3 CM
  go_wp2_with fail
  refine (U1.out _).mono ?_
  rintro e w4 ⟨rfl, rfl⟩
  go_wp2_with fail
  go_ret
  exact ⟨rfl, HB3.out⟩
end Go.Proofs.YtjebdobopechfaaDoor
