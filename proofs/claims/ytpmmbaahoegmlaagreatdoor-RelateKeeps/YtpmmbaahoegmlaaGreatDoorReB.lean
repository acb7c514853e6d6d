/-
  relate: a place against another, a ticket against another, Order.
-/
import Derived.Test.YtpmmbaahoegmlaaGreatDoorReA
import Derived.Test.YtpmmbaahoegmlaaGreatDoorVCompare
import Derived.Test.YtpmmbaahoegmlaaGreatDoorVCmpI
import Derived.Sort.Grow
namespace Go.Proofs.YtpmmbaahoegmlaaGreatDoor
open Go Go.RowKit Go.Deep

theorem alloc_grow (w : World) (o : Obj) : w.alloc o = Go.Sort.grow w #[o] := by
  unfold World.alloc Go.Sort.grow
  simp

set_option maxRecDepth 100000 in
set_option maxHeartbeats 1000000 in
theorem rcompare_any (a b : Re.Rk) (w : World) :
    Calls Tryz.prog 33 #[.agg (Re.er a), .agg (Re.er b)] w fun e w' => e = .returned (.int .i64 (Re.cm a b)) ∧ w' = (w.alloc (.cells (Re.er a) 44)).alloc (.cells (Re.er b) 44) := by
  cases a with
  | nu a => cases b with
    | nu b =>
      have C := hid (fun W => ccmp_any a b W)
      change Calls Tryz.prog 33 #[.agg #[.bool false, .int .i64 a, .string ⟨#[]⟩], .agg #[.bool false, .int .i64 b, .string ⟨#[]⟩]] w fun e w' => e = .returned (.int .i64 (Ie.cm a b)) ∧ w' = (w.alloc (.cells #[.bool false, .int .i64 a, .string ⟨#[]⟩] 44)).alloc (.cells #[.bool false, .int .i64 b, .string ⟨#[]⟩] 44)
      generalize Ie.cm a b = R at *
      go_enter Tryz.func33, Tryz.ntmps33
      go_wp2_with fail
      refine (C.out _).mono ?_
      rintro e w1 ⟨rfl, rfl⟩
      go_wp2_with fail
      go_ret
      exact ⟨rfl, rfl⟩
    | tx t =>
      change Calls Tryz.prog 33 #[.agg #[.bool false, .int .i64 a, .string ⟨#[]⟩], .agg #[.bool true, .int .i64 0, .string t]] w fun e w' => e = .returned (.int .i64 (-1)) ∧ w' = (w.alloc (.cells #[.bool false, .int .i64 a, .string ⟨#[]⟩] 44)).alloc (.cells #[.bool true, .int .i64 0, .string t] 44)
      go_enter Tryz.func33, Tryz.ntmps33
      go_wp2_with fail
      go_ret
      exact ⟨rfl, rfl⟩
  | tx s => cases b with
    | nu b =>
      change Calls Tryz.prog 33 #[.agg #[.bool true, .int .i64 0, .string s], .agg #[.bool false, .int .i64 b, .string ⟨#[]⟩]] w fun e w' => e = .returned (.int .i64 1) ∧ w' = (w.alloc (.cells #[.bool true, .int .i64 0, .string s] 44)).alloc (.cells #[.bool false, .int .i64 b, .string ⟨#[]⟩] 44)
      go_enter Tryz.func33, Tryz.ntmps33
      go_wp2_with fail
      go_ret
      exact ⟨rfl, rfl⟩
    | tx t =>
      have C := hid (fun W => scompare_any s t (Re.bl s) (Re.bl t) W (Str.self s) (Str.self t))
      change Calls Tryz.prog 33 #[.agg #[.bool true, .int .i64 0, .string s], .agg #[.bool true, .int .i64 0, .string t]] w fun e w' => e = .returned (.int .i64 (Sc.lex (Re.bl s) (Re.bl t))) ∧ w' = (w.alloc (.cells #[.bool true, .int .i64 0, .string s] 44)).alloc (.cells #[.bool true, .int .i64 0, .string t] 44)
      generalize Sc.lex (Re.bl s) (Re.bl t) = R at *
      go_enter Tryz.func33, Tryz.ntmps33
      go_wp2_with fail
      refine (C.out _).mono ?_
      rintro e w1 ⟨rfl, rfl⟩
      go_wp2_with fail
      go_ret
      exact ⟨rfl, rfl⟩

theorem rcompare_b (a b : Re.Rk) (w : World) :
    Calls Tryz.prog 33 #[.agg (Re.er a), .agg (Re.er b)] w fun e w' => e = .returned (.int .i64 (Re.cm a b)) ∧ Below w.heap.size w w' := by
  refine (rcompare_any a b w).mono ?_
  rintro e w' ⟨rfl, rfl⟩
  exact ⟨rfl, below_on (alloc_b w _) (alloc_b _ _)⟩

theorem Re.er_ex (a : Re.Rk) : ∃ t n s, Re.er a = #[.bool t, .int .i64 n, .string s] := by
  cases a with
  | nu n => exact ⟨_, _, _, rfl⟩
  | tx s => exact ⟨_, _, _, rfl⟩

set_option maxRecDepth 100000 in
set_option maxHeartbeats 1000000 in
/-- A ticket against another: it lays four blocks. -/
theorem against_any (x y : Re.Tk) (w : World) :
    Calls Tryz.prog 17 #[.agg (Re.et x).toArray, .agg (Re.et y).toArray] w fun e w' => e = .returned (.int .i64 (Re.ct x y)) ∧ ∃ os, w' = Go.Sort.grow w os := by
  obtain ⟨x, i⟩ := x
  obtain ⟨y, j⟩ := y
  have RC := hid (fun W => rcompare_any x y W)
  have CI := hid (fun W => cmpint_any i j W)
  have E : Re.ct ⟨x, i⟩ ⟨y, j⟩ = if Re.cm x y = 0 then Sc.cmpI i j else Re.cm x y := rfl
  have G : Hid (∀ (A B C D : Obj), ∃ os, (((w.alloc A).alloc B).alloc C).alloc D = Go.Sort.grow w os) := fun A B C D => ⟨#[A] ++ #[B] ++ #[C] ++ #[D], by simp only [alloc_grow, Go.Sort.grow_grow]⟩
  rw [E]
  clear E
  unfold Re.et
  simp only
  obtain ⟨t, n, s, ex⟩ := Re.er_ex x
  obtain ⟨t', n', s', ey⟩ := Re.er_ex y
  rw [ex, ey] at RC
  rw [ex, ey]
  clear ex ey
  generalize Re.cm x y = C at *
  generalize Sc.cmpI i j = I at *
  change Calls Tryz.prog 17 #[.agg #[.bool t, .int .i64 n, .string s, .int .i64 i], .agg #[.bool t', .int .i64 n', .string s', .int .i64 j]] w _
  by_cases c : C = 0
  · rw [if_pos c]
    subst c
    go_enter Tryz.func17, Tryz.ntmps17
    go_wp2_with fail
    refine (RC.out _).mono ?_
    rintro e w1 ⟨rfl, rfl⟩
    go_wp2_with fail
    refine (CI.out _).mono ?_
    rintro e w2 ⟨rfl, rfl⟩
    go_wp2_with fail
    go_ret
    exact ⟨rfl, G.out _ _ _ _⟩
  · rw [if_neg c]
    have e : (C == 0) = false := by simpa using c
    have e2 : (C != 0) = true := by simpa using c
    go_enter Tryz.func17, Tryz.ntmps17
    go_wp2_with fail
    refine (RC.out _).mono ?_
    rintro e w1 ⟨rfl, rfl⟩
    go_wp2_with fail
    go_ret
    exact ⟨rfl, G.out _ _ _ _⟩

namespace Re
/-- Two values' boxes. -/
structure B2 (w : World) (k n : Int) (s : ByteArray) (l m : Int) (t : ByteArray) (W : World) : Prop where
  bel : Below w.heap.size w W
  vb : Bx W w.heap.size 26 #[.int .i64 k, .int .u64 n, .string s]
  vc : Bx W (w.heap.size + 1) 26 #[.int .i64 l, .int .u64 m, .string t]
theorem B2.new (w : World) (k n : Int) (s : ByteArray) (l m : Int) (t : ByteArray) : B2 w k n s l m t ((w.alloc (.cells #[.int .i64 k, .int .u64 n, .string s] 26)).alloc (.cells #[.int .i64 l, .int .u64 m, .string t] 26)) := by
  have a := alloc_b w (.cells #[.int .i64 k, .int .u64 n, .string s] 26)
  have b := alloc_b (w.alloc (.cells #[.int .i64 k, .int .u64 n, .string s] 26)) (.cells #[.int .i64 l, .int .u64 m, .string t] 26)
  have sz : (w.alloc (.cells #[.int .i64 k, .int .u64 n, .string s] 26)).heap.size = w.heap.size + 1 := Array.size_push ..
  refine ⟨below_on a b, (Bx.new w _ _).on b, ?_⟩
  rw [← sz]
  exact Bx.new _ _ _
theorem B2.on {w W W' : World} {k n : Int} {s : ByteArray} {l m : Int} {t : ByteArray} (h : B2 w k n s l m t W) (b : Below W.heap.size W W') : B2 w k n s l m t W' := ⟨below_on h.bel b, h.vb.on b, h.vc.on b⟩
theorem B2.drew {w W : World} {k n : Int} {s : ByteArray} {l m : Int} {t : ByteArray} (h : B2 w k n s l m t W) : B2 w k n s l m t W.drew := h.on (Below.drew (Below.refl _ _))
theorem B2.flat {w W : World} {k n : Int} {s : ByteArray} {l m : Int} {t : ByteArray} (h : B2 w k n s l m t W) :
    W.cell? ⟨w.heap.size, 0, none⟩ = some (.int .i64 k) ∧ W.cell? ⟨w.heap.size, 1, none⟩ = some (.int .u64 n) ∧ W.cell? ⟨w.heap.size, 2, none⟩ = some (.string s) ∧
    W.cell? ⟨w.heap.size + 1, 0, none⟩ = some (.int .i64 l) ∧ W.cell? ⟨w.heap.size + 1, 1, none⟩ = some (.int .u64 m) ∧ W.cell? ⟨w.heap.size + 1, 2, none⟩ = some (.string t) :=
  ⟨h.vb.cell 0 _ rfl, h.vb.cell 1 _ rfl, h.vb.cell 2 _ rfl, h.vc.cell 0 _ rfl, h.vc.cell 1 _ rfl, h.vc.cell 2 _ rfl⟩
end Re

end Go.Proofs.YtpmmbaahoegmlaaGreatDoor
