/-
  abacusref08: sort, step, ends, Blank, Blanks, Longest.
-/
import Derived.Test.YtjghlpkjbfaoiaaDoorVDfa2
import Derived.Test.YtjghlpkjbfaoiaaDoorVText
import Derived.Test.YtjghlpkjbfaoiaaDoorVLongest
import Derived.Deep.MidRow
namespace Go.Proofs.YtjghlpkjbfaoiaaDoor
open Go Go.RowKit Go.Deep

theorem vret_i {a b : Int} (h : a = b) : Ending.returned (.int .i64 a) = .returned (.int .i64 b) := by rw [h]

theorem sort_any (x : Int) (w : World) (h0 : 0 ≤ x) (h1 : x < 256) : Calls Tryd.prog 60 #[.int .u8 x] w fun e w' => e = .returned (.int .i64 (Sc.srt x : Nat)) ∧ w' = w := by
  have hc : (48 ≤ x ∧ x ≤ 57) ∨ x = 43 ∨ x = 45 ∨ x = 46 ∨ x = 101 ∨ x = 69 ∨ (¬ (48 ≤ x ∧ x ≤ 57) ∧ x ≠ 43 ∧ x ≠ 45 ∧ x ≠ 46 ∧ x ≠ 101 ∧ x ≠ 69) := by omega
  have S := hid (Sc.srt_c x)
  have FF : Hid (∀ n : Nat, Sc.srt x = n → ∀ wx : World, Ending.returned (.int .i64 (n : Int)) = .returned (.int .i64 (Sc.srt x : Nat)) ∧ wx = wx) := fun n hn wx => ⟨by rw [hn], rfl⟩
  rcases hc with ⟨a, b⟩ | rfl | rfl | rfl | rfl | rfl | ⟨h, g1, g2, g3, g4, g5⟩
  · have E : Hid (Sc.srt x = 0) := by unfold Sc.srt; rw [if_pos (Sc.dg_iff.2 ⟨a, b⟩)]; rfl
    go_enter Tryd.func60, Tryd.ntmps60
    go_wp2_with fail
    go_ret
    exact ⟨vret_i (by rw [E.out]; rfl), rfl⟩
  · go_enter Tryd.func60, Tryd.ntmps60
    go_wp2_with fail
    go_ret
    exact ⟨rfl, rfl⟩
  · go_enter Tryd.func60, Tryd.ntmps60
    go_wp2_with fail
    go_ret
    exact ⟨rfl, rfl⟩
  · go_enter Tryd.func60, Tryd.ntmps60
    go_wp2_with fail
    go_ret
    exact ⟨rfl, rfl⟩
  · go_enter Tryd.func60, Tryd.ntmps60
    go_wp2_with fail
    go_ret
    exact ⟨rfl, rfl⟩
  · go_enter Tryd.func60, Tryd.ntmps60
    go_wp2_with fail
    go_ret
    exact ⟨rfl, rfl⟩
  · have E : Hid (Sc.srt x = 4) := by
      unfold Sc.srt
      rw [if_neg (by rw [Sc.dg_iff]; exact h), if_neg (by omega), if_neg g3, if_neg (by omega)]; rfl
    have r1 : (x == 43) = false := by rw [beq_eq_false_iff_ne]; exact g1
    have r2 : (x == 45) = false := by rw [beq_eq_false_iff_ne]; exact g2
    have r3 : (x == 46) = false := by rw [beq_eq_false_iff_ne]; exact g3
    have r4 : (x == 101) = false := by rw [beq_eq_false_iff_ne]; exact g4
    have r5 : (x == 69) = false := by rw [beq_eq_false_iff_ne]; exact g5
    rcases (show x < 48 ∨ (48 ≤ x ∧ 57 < x) by omega) with h' | ⟨h', h''⟩
    · go_enter Tryd.func60, Tryd.ntmps60
      go_wp2_with fail
      go_ret
      exact ⟨vret_i (by rw [E.out]; rfl), rfl⟩
    · go_enter Tryd.func60, Tryd.ntmps60
      go_wp2_with fail
      go_ret
      exact ⟨vret_i (by rw [E.out]; rfl), rfl⟩

/-- The table, laid. -/
def tabL : List Value := [.int .i64 2, .int .i64 1, .int .i64 4, .int .i64 9, .int .i64 9, .int .i64 2, .int .i64 9, .int .i64 4, .int .i64 9, .int .i64 9, .int .i64 2, .int .i64 9, .int .i64 3, .int .i64 6, .int .i64 9, .int .i64 5, .int .i64 9, .int .i64 9, .int .i64 6, .int .i64 9, .int .i64 5, .int .i64 9, .int .i64 9, .int .i64 9, .int .i64 9, .int .i64 5, .int .i64 9, .int .i64 9, .int .i64 6, .int .i64 9, .int .i64 8, .int .i64 7, .int .i64 9, .int .i64 9, .int .i64 9, .int .i64 8, .int .i64 9, .int .i64 9, .int .i64 9, .int .i64 9, .int .i64 8, .int .i64 9, .int .i64 9, .int .i64 9, .int .i64 9]
theorem tabL_at (s k : Nat) (hs : s < 9) (hk : k < 5) : tabL[s * 5 + k]? = some (.int .i64 (Sc.nx s k : Nat)) := by
  rcases (show s = 0 ∨ s = 1 ∨ s = 2 ∨ s = 3 ∨ s = 4 ∨ s = 5 ∨ s = 6 ∨ s = 7 ∨ s = 8 by omega) with rfl | rfl | rfl | rfl | rfl | rfl | rfl | rfl | rfl <;>
    rcases (show k = 0 ∨ k = 1 ∨ k = 2 ∨ k = 3 ∨ k = 4 by omega) with rfl | rfl | rfl | rfl | rfl <;> rfl

theorem wpList_store_to {ops : Array Oper} {rest : List Oper} {op : Oper} {a : Act} {w W2 : World} {Q : Exit → Act → World → Prop} (hgd : op.guard = none) (ty : TypeId) (x y : Operand) (ho : op.op = .store ty x y)
    (b o : Nat) (cells : Array Value) (hx : a.eval x = .pointer (some ⟨b, o, none⟩)) (hy : a.eval y = .agg cells)
    (ht : w.there b o cells.size) (hi : (Tryd.prog.info? ty).map (·.size) = some cells.size) (h1 : cells.all (·.oneCell') = true) (hW : w.setCells b o cells.toList = W2)
    (h : wpList Tryd.prog ops Q rest (a.put op.dst undef) W2) : wpList Tryd.prog ops Q (op :: rest) a w :=
  wpList_store_mid hgd ty x y ho b o cells hx hy ht hi h1 (by rw [hW]; exact h)

theorem setCells_below (b : Nat) : ∀ (vs : List Value) (o : Nat) (w : World) (B : Nat) (a : World), Below B a w → B ≤ b → Below B a (w.setCells b o vs)
  | [], _, _, _, _, h, _ => h
  | v :: r, o, _, B, a, h, hb => setCells_below b r (o + 1) _ B a (h.setCell (p := ⟨b, o, none⟩) hb v) hb

set_option maxRecDepth 100000 in
set_option maxHeartbeats 2000000 in
theorem step_any (s : Nat) (x : Int) (w : World) (hs : s < 9) (h0 : 0 ≤ x) (h1 : x < 256) : Calls Tryd.prog 58 #[.int .i64 (s : Int), .int .u8 x] w fun e w' => e = .returned (.int .i64 (Sc.nx s (Sc.srt x) : Nat)) ∧ Below w.heap.size w w' := by
  have S := hid (fun wx => sort_any x wx h0 h1)
  have hk := Sc.srt_lt x
  have hsi : (s : Int) < 9 := by omega
  have hki : ((Sc.srt x : Nat) : Int) < 5 := by omega
  obtain ⟨W2, hW2⟩ : ∃ W2, (w.alloc (.cells (Array.replicate 45 (.int .i64 0)) 78)).setCells w.heap.size 0 tabL = W2 := ⟨_, rfl⟩
  have TH : Hid ((w.alloc (.cells (Array.replicate 45 (.int .i64 0)) 78)).there w.heap.size 0 45) := fun j hj => by
    have hb : (w.alloc (.cells (Array.replicate 45 (.int .i64 0)) 78)).heap[w.heap.size]? = some (.cells (Array.replicate 45 (.int .i64 0)) 78 (0, 0)) := heap_alloc_new w _
    constructor
    · rw [cell_of_row _ _ _ _ _ _ hb, Nat.zero_add]
      simp [hj]
    · unfold World.frozen?
      rw [hb]
      simp
  have C : Hid (W2.cell? ⟨w.heap.size, s * 5 + Sc.srt x, none⟩ = some (.int .i64 (Sc.nx s (Sc.srt x) : Nat))) := by
    have := World.rangeAt_setCells_same (w.alloc (.cells (Array.replicate 45 (.int .i64 0)) 78)) w.heap.size 0 tabL TH.out (s * 5 + Sc.srt x) _ (tabL_at s _ hs hk)
    rw [hW2, Nat.zero_add] at this
    exact this
  have D : Hid (Below w.heap.size w W2) := by
    rw [← hW2]
    exact setCells_below _ _ _ _ _ _ (alloc_b w _) (Nat.le_refl _)
  have HW := hid hW2
  generalize Sc.srt x = k at *
  generalize Sc.nx s k = r at *
  clear hW2
  go_enter Tryd.func58, Tryd.ntmps58
  go_wp2_with (refine wpList_store_to rfl 78 _ _ rfl w.heap.size 0 _ rfl rfl TH.out (by kernel_rfl) (by kernel_rfl) HW.out ?_; clear TH HW)
  have T0 : Hid (W2.drew.cell? ⟨w.heap.size, s * 5 + k, none⟩ = some (.int .i64 (r : Nat))) := C.out
  have C1 := C.out
  go_region_held3 (fun wx => wx.cell? ⟨w.heap.size, s * 5 + k, none⟩ = some (.int .i64 (r : Nat))) (first | exact T0.out) (first
    | (go_at_call 60; with_reducible refine (S.out _).mono ?_; rintro e wn ⟨rfl, rfl⟩))
  all_goals go_wp2_with fail
  all_goals (go_ret; first | exact ⟨rfl, D.out⟩ | exact ⟨rfl, below_drewN D.out _⟩ | exact ⟨rfl, drew_b _ _ D.out⟩)
end Go.Proofs.YtjghlpkjbfaoiaaDoor
