/-
  relate's queue: down of at most one entry; made, Len, NewQueue.
-/
import Derived.Test.YtpmmbaahoegmlaaGreatDoorReI
namespace Go.Proofs.YtpmmbaahoegmlaaGreatDoor
open Go Go.RowKit Go.Deep Go.Shelf

set_option maxRecDepth 100000 in
set_option maxHeartbeats 1000000 in
theorem down_small (h g cap l : Nat) (fn : Value) (w : World) (hh : Bx w h 92 #[.slice (some ⟨g, 0, none⟩) l cap, fn]) (hl : l ≤ 1) :
    Calls Tryz.prog 66 #[.pointer (some ⟨h, 0, none⟩), .int .i64 0] w fun e w' => e = .returned (.tuple #[]) ∧ w' = w := by
  have h0 := hh.cell 0 _ rfl
  have l1 : ¬ (1 : Int) < (l : Int) := by omega
  clear hh hl
  go_enter Tryz.func66, Tryz.ntmps66
  go_wp2_with fail
  go_loopg [1, 4, 5] 1 (fun _ iv _ _ wr => iv = .int .i64 0 ∧ wr = w)
  case atStart => exact ⟨rfl, rfl⟩
  case round =>
    obtain ⟨rfl, rfl⟩ := hrel
    go_wp2_with fail
    go_loopg [4, 5] 1 (fun _ a b wr2 => a = .int .i64 0 ∧ b = .int .i64 1 ∧ wr2 = wr)
    case atStart => exact ⟨rfl, rfl, rfl⟩
    case round =>
      obtain ⟨rfl, rfl, rfl⟩ := hrel
      go_wp2_with fail
      (try simp only [Exit.inBlock, Exit.then])
      refine bodyPost_ret (results_none rfl _ _ _) rfl ?_
      exact ⟨rfl, rfl⟩

/-- A queue: its block, its heap's, the row. -/
structure Re.QS (base : Nat) (q h : Nat) (mv : Value) (E : List Re.En) (c : Int) (w : World) : Prop where
  qb : Bx w q 94 #[.pointer (some ⟨h, 0, none⟩), .int .i64 c]
  hb : Bx w h 92 #[mv, .func (.func 40) #[] #[]]
  row : Re.RowE base w mv E
  bq : base ≤ q
  bh : base ≤ h
theorem Re.QS.on {base q h : Nat} {mv : Value} {E : List Re.En} {c : Int} {w w' : World} (s : Re.QS base q h mv E c w) (b : Below w.heap.size w w') : Re.QS base q h mv E c w' := ⟨s.qb.on b, s.hb.on b, s.row.below b, s.bq, s.bh⟩

set_option maxRecDepth 100000 in
theorem made_any (q h : Nat) (c : Int) (w : World) (qb : Bx w q 94 #[.pointer (some ⟨h, 0, none⟩), .int .i64 c]) :
    Calls Tryz.prog 41 #[.pointer (some ⟨q, 0, none⟩)] w fun e w' => e = .returned (.bool true) ∧ w' = w := by
  have c0 := qb.cell 0 _ rfl
  clear qb
  go_enter Tryz.func41, Tryz.ntmps41
  go_wp2_with fail
  go_ret
  exact ⟨rfl, rfl⟩

set_option maxRecDepth 100000 in
theorem qlen_any (base q h : Nat) (mv : Value) (E : List Re.En) (c : Int) (w : World) (s : Re.QS base q h mv E c w) :
    Calls Tryz.prog 29 #[.pointer (some ⟨q, 0, none⟩)] w fun e w' => e = .returned (.int .i64 (E.length : Int)) ∧ w' = w := by
  have MA := hid (made_any q h c w s.qb)
  obtain ⟨p, cap, rfl⟩ := s.row.shape
  have c0 := s.qb.cell 0 _ rfl
  have d0 := s.hb.cell 0 _ rfl
  clear s
  go_enter Tryz.func29, Tryz.ntmps29
  go_wp2_with fail
  refine MA.out.mono ?_
  rintro e w1 ⟨rfl, rfl⟩
  clear MA
  go_wp2_with fail
  go_ret
  exact ⟨rfl, rfl⟩

set_option maxRecDepth 100000 in
theorem newq_any (w : World) :
    Calls Tryz.prog 26 #[] w fun e w' => e = .returned (.pointer (some ⟨w.heap.size + 1, 0, none⟩)) ∧ Re.QS w.heap.size (w.heap.size + 1) w.heap.size (.slice none 0 0) [] 0 w' ∧ Below w.heap.size w w' := by
  have F : Hid (Re.QS w.heap.size (w.heap.size + 1) w.heap.size (.slice none 0 0) [] 0 ((w.alloc (.cells #[.slice none 0 0, .func (.func 40) #[] #[]] 92)).alloc (.cells #[.pointer (some ⟨w.heap.size, 0, none⟩), .int .i64 0] 94)) ∧ Below w.heap.size w ((w.alloc (.cells #[.slice none 0 0, .func (.func 40) #[] #[]] 92)).alloc (.cells #[.pointer (some ⟨w.heap.size, 0, none⟩), .int .i64 0] 94))) := by
    have sz : (w.alloc (.cells #[.slice none 0 0, .func (.func 40) #[] #[]] 92)).heap.size = w.heap.size + 1 := Array.size_push ..
    refine ⟨⟨?_, (Bx.new w _ _).on (alloc_b _ _), Re.RowE.nil _ _, by omega, Nat.le_refl _⟩, below_on (alloc_b _ _) (alloc_b _ _)⟩
    rw [← sz]
    exact Bx.new _ _ _
  go_enter Tryz.func26, Tryz.ntmps26
  go_wp2_with fail
  go_ret
  exact ⟨rfl, F.out⟩
end Go.Proofs.YtpmmbaahoegmlaaGreatDoor
