/-
  Texts put together: ZAlike, IWalk1, ZAsk, ZPut, ZDecA, ZDec, ZAsk1, KeepT, OwI, IBx, IMemF, EAsk0, EAsk1, EAsk2.
-/
import Derived.Test.YtggiioipppbedaaGreatDoorZRef1
import Derived.Test.YtggiioipppbedaaGreatDoorRB
import Derived.Test.YtggiioipppbedaaGreatDoorIWalk1B
import Derived.Test.YtggiioipppbedaaGreatDoorIWalk1C
import Derived.Test.YtggiioipppbedaaGreatDoorIDec
import Derived.Test.YtggiioipppbedaaGreatDoorMem
import Derived.Deep.QuietTactic
import Derived.BigQuiet
import Derived.Laws.AppendOwn
import Derived.Laws.OwnMore
import Derived.OwnWalk
import Derived.Deep.LoopGhost
import Derived.Laws.Rows
/-
  The law's alike.
-/
namespace Go.Proofs.YtggiioipppbedaaGreatDoor
open Go Go.RowKit Go.Deep

/-- What a call answers, as a value. -/
def ansOf (u i j : Int) (b neg : Bool) (c m x : Int) (l : Value) (e : Int) : Value :=
  .agg #[.int .u64 u, .int .i64 i, .int .i64 j, .bool b, .bool neg, .int .i64 c, .int .u64 m, .int .i64 x, l, .int .i64 e]

theorem alloc2_below (w : World) (g g' : Obj) : Below w.heap.size w ((w.alloc g).alloc g') := Below.alloc (alloc_below w g) (alloc_below w g).size g'

set_option maxRecDepth 100000 in
set_option maxHeartbeats 8000000 in
theorem alike_same (u i j : Int) (b neg : Bool) (c m x e : Int) (p q : Option Addr) (n k cap cap' : Nat) (zs : List Int) (w : World) (A : Arg w p n cap zs) (B : Arg w q k cap' zs) :
    Calls Tryz.prog 9 #[ansOf u i j b neg c m x (.slice p n cap) e, ansOf u i j b neg c m x (.slice q k cap') e] w fun r w' => r = .returned (.bool true) ∧ Below w.heap.size w w' := by
  simp only [ansOf]
  have SA : Hid (∀ wx, Below w.heap.size w wx → Calls Tryz.prog 10 #[.slice p n cap, .slice q k cap'] wx fun e w' => e = .returned (.bool true) ∧ Below w.heap.size w w') := by
    intro wx hB
    refine (refSame_any p q n cap k cap' zs zs wx (A.below hB (Nat.le_refl _)) (B.below hB (Nat.le_refl _))).mono ?_
    rintro r w' ⟨rfl, h⟩
    exact ⟨by simp, hB.trans (h.mono hB.size)⟩
  clear A B
  go_enter Tryz.func9, Tryz.ntmps9
  go_wp2_with fail
  refine (SA.out _ (alloc2_below w _ _)).mono ?_
  rintro r w' ⟨rfl, hB⟩
  have HB := hid hB
  clear hB SA
  go_wp2_with fail
  go_ret
  exact ⟨rfl, HB.out⟩
end Go.Proofs.YtggiioipppbedaaGreatDoor

/-
  ieee: Abs.
-/
namespace Go.Proofs.YtggiioipppbedaaGreatDoor
open Go Go.RowKit Go.Deep

set_option maxRecDepth 100000 in
theorem abs_any (d : Int) (w : World) (h0 : 0 ≤ d) (h1 : d < 18446744073709551616) :
    Calls Tryz.prog 35 #[.int .u64 d] w fun e w' => e = .returned (.int .u64 (d % 9223372036854775808)) ∧ w' = w := by
  have B := Ib.sign_andNot d h0 h1
  go_enter Tryz.func35, Tryz.ntmps35
  go_wp2
  go_ret
  exact ⟨rfl, rfl⟩
end Go.Proofs.YtggiioipppbedaaGreatDoor

/-
  The law's asked: a first kind (4), what the others need.
-/
namespace Go.Proofs.YtggiioipppbedaaGreatDoor
open Go Go.RowKit Go.Deep

/-- A call, as a value. -/
def opOf (k X Y I : Int) (pn : Bool) (pc pm px : Int) (neg : Bool) (N D : Value) (ex : Int) (more : Bool) : Value :=
  .agg #[.int .i64 k, .int .u64 X, .int .u64 Y, .int .i64 I, .bool pn, .int .i64 pc, .int .u64 pm, .int .i64 px, .bool neg, N, D, .int .i64 ex, .bool more]

theorem alloc3_below (w : World) (g g' g'' : Obj) : Below w.heap.size w (((w.alloc g).alloc g').alloc g'') := Below.alloc (alloc2_below w g g') (alloc2_below w g g').size g''

theorem heap_alloc3_mid (w : World) (g : Obj) (c : Array Value) (t : Nat) (g'' : Obj) : (((w.alloc g).alloc (.cells c t)).alloc g'').heap[w.heap.size + 1]? = some (.cells c t (0, 0)) := by
  have e : (w.alloc g).heap.size = w.heap.size + 1 := by simp
  have := heap_alloc2_old (w.alloc g) (.cells c t) g''
  rw [e] at this
  exact this

theorem mid_kept {w w' : World} {g : Obj} {c c' : Array Value} {t t' : Nat} (h : Below (((w.alloc g).alloc (.cells c t)).alloc (.cells c' t')).heap.size (((w.alloc g).alloc (.cells c t)).alloc (.cells c' t')) w') :
    w'.heap[w.heap.size + 1]? = some (.cells c t (0, 0)) ∧ w'.heap[w.heap.size + 1 + 1]? = some (.cells c' t' (0, 0)) := by
  have e : ((w.alloc g).alloc (.cells c t)).heap.size = w.heap.size + 1 + 1 := by simp
  constructor
  · rw [h.block _ (by simp)]; exact heap_alloc3_mid _ _ _ _ _
  · rw [h.block _ (by simp)]
    have := heap_alloc_new ((w.alloc g).alloc (.cells c t)) (.cells c' t')
    rw [e] at this
    exact this

set_option maxRecDepth 100000 in
set_option maxHeartbeats 8000000 in
theorem asked4 (X Y I : Int) (pn : Bool) (pc pm px : Int) (neg : Bool) (p q : Option Addr) (n k cap cap' : Nat) (ex : Int) (more : Bool) (w : World) (U : Int)
    (H : ∀ wx : World, Calls Tryz.prog 34 #[.int .u64 X] wx fun r w' => r = .returned (.int .u64 U) ∧ w' = wx) :
    Calls Tryz.prog 8 #[opOf 4 X Y I pn pc pm px neg (.slice p n cap) (.slice q k cap') ex more] w fun r w' => r = .returned (ansOf U 0 0 false false 0 0 0 (.slice none 0 0) 0) ∧ Below w.heap.size w w' := by
  simp only [opOf, ansOf]
  have H := hid H
  go_enter Tryz.func8, Tryz.ntmps8
  go_wp2_with fail
  refine (H.out _).mono ?_
  rintro r w' ⟨rfl, hw⟩
  subst hw
  clear H
  go_wp2_with fail
  (try simp only [Exit.inBlock, Exit.then])
  refine bodyPost_ret (results_cell_row rfl _ _ (w.heap.size + 1) 34 _ (0, 0) _ rfl (heap_alloc3_mid _ _ _ _ _) Tryz.underlying34 rfl (by kernel_rfl)) rfl ?_
  exact ⟨rfl, alloc3_below _ _ _ _⟩
end Go.Proofs.YtggiioipppbedaaGreatDoor

namespace Go.Proofs.YtggiioipppbedaaGreatDoor
open Go Go.RowKit Go.Deep

set_option maxRecDepth 100000 in
theorem zput_any (neg : Bool) (e f : Int) (w : World) (e0 : 0 ≤ e) (e1 : e ≤ 2047) (f0 : 0 ≤ f) (f1 : f ≤ 9007199254740992) (h : e * 4503599627370496 + f < 9223372036854775808) :
    Calls Tryz.prog 53 #[.bool neg, .int .i64 e, .int .u64 f] w fun r w' => r = .returned (.int .u64 (Ie.sg neg (e * 4503599627370496 + f))) ∧ w' = w := by
  cases neg
  · go_enter Tryz.func53, Tryz.ntmps53
    go_wp2
    go_ret
    exact ⟨rfl, rfl⟩
  · go_enter Tryz.func53, Tryz.ntmps53
    go_wp2
    go_ret
    exact ⟨rfl, rfl⟩

theorem ret_sg {neg : Bool} {a b : Int} (h : a = b) : Ending.returned (.tuple #[.int .u64 (Ie.sg neg a), .int .i64 0]) = .returned (.tuple #[.int .u64 (Ie.sg neg b), .int .i64 0]) := by rw [h]
end Go.Proofs.YtggiioipppbedaaGreatDoor

/-
  The document's put and Decode.
-/
namespace Go.Proofs.YtggiioipppbedaaGreatDoor
open Go Go.RowKit Go.Deep

set_option maxRecDepth 100000 in
set_option maxHeartbeats 4000000 in
theorem zdecode_any (d : Int) (w : World) (h0 : 0 ≤ d) (h1 : d < 18446744073709551616) :
    Calls Tryz.prog 14 #[.int .u64 d] w fun e w' => e = .returned (partsOf (decide (9223372036854775808 ≤ d)) (Ie.cls d) (Ie.dm d) (Ie.de d)) ∧ Below w.heap.size w w' := by
  obtain ⟨f, hf⟩ : ∃ f, d / 4503599627370496 % 2048 = f := ⟨_, rfl⟩
  obtain ⟨y, hy⟩ : ∃ y, d % 4503599627370496 = y := ⟨_, rfl⟩
  obtain ⟨sv, hs⟩ : ∃ sv, d / 9223372036854775808 = sv := ⟨_, rfl⟩
  have hf' : Ie.fld d = f := hf
  have fb0 : 0 ≤ f := by omega
  have fb1 : f < 2048 := by omega
  have y0 : 0 ≤ y := by omega
  have y1 : y < 4503599627370496 := by omega
  have sc : (sv = 0 ∧ decide (9223372036854775808 ≤ d) = false) ∨ (sv = 1 ∧ decide (9223372036854775808 ≤ d) = true) := by
    rcases (show d < 9223372036854775808 ∨ 9223372036854775808 ≤ d by omega) with h | h
    · left; exact ⟨by omega, by simp; omega⟩
    · right; exact ⟨by omega, by simp; omega⟩
  have hc : Ie.cls d = if f = 0 then (if y = 0 then 0 else 1) else if f = 2047 then (if y = 0 then 3 else 4) else 2 := by rw [Ie.cls, hf', hy]
  have hm : Ie.dm d = if Ie.cls d = 2 then 4503599627370496 + y else if Ie.cls d = 1 ∨ Ie.cls d = 4 then y else 0 := by rw [Ie.dm, hy]
  have he : Ie.de d = if Ie.cls d = 2 then f - 1075 else if Ie.cls d = 1 then -1074 else 0 := by rw [Ie.de, hf']
  rcases sc with ⟨hv, sn⟩ | ⟨hv, sn⟩ <;> rw [sn] <;> rw [hv] at hs <;> clear hv sn
  · by_cases a : f = 0
    · subst a
      by_cases b : y = 0
      · subst b
        rw [if_pos rfl, if_pos rfl] at hc
        rw [hm, he, hc]
        show Calls _ _ _ _ fun e w' => e = .returned (partsOf _ 0 0 0) ∧ _
        go_enter Tryz.func14, Tryz.ntmps14
        go_wp2_with fail
        (try simp only [Exit.inBlock, Exit.then])
        refine bodyPost_ret (results_cell_row rfl _ _ w.heap.size 27 _ (0, 0) _ rfl (heap_alloc_new _ _) Tryz.underlying27 rfl (by kernel_rfl)) rfl ?_
        exact ⟨rfl, Below.alloc (Below.refl _ _) (Nat.le_refl _) _⟩
      · have b' : (y == 0) = false := by rw [beq_eq_false_iff_ne]; exact b
        rw [if_pos rfl, if_neg b] at hc
        rw [hm, he, hc]
        show Calls _ _ _ _ fun e w' => e = .returned (partsOf _ 1 y (-1074)) ∧ _
        go_enter Tryz.func14, Tryz.ntmps14
        go_wp2_with fail
        (try simp only [Exit.inBlock, Exit.then])
        refine bodyPost_ret (results_cell_row rfl _ _ w.heap.size 27 _ (0, 0) _ rfl (heap_alloc_new _ _) Tryz.underlying27 rfl (by kernel_rfl)) rfl ?_
        exact ⟨rfl, Below.alloc (Below.refl _ _) (Nat.le_refl _) _⟩
    · have a' : (f == 0) = false := by rw [beq_eq_false_iff_ne]; exact a
      have ap : 0 < f := by omega
      by_cases a2 : f = 2047
      · subst a2
        by_cases b : y = 0
        · subst b
          rw [if_neg a, if_pos rfl, if_pos rfl] at hc
          rw [hm, he, hc]
          show Calls _ _ _ _ fun e w' => e = .returned (partsOf _ 3 0 0) ∧ _
          go_enter Tryz.func14, Tryz.ntmps14
          go_wp2_with fail
          (try simp only [Exit.inBlock, Exit.then])
          refine bodyPost_ret (results_cell_row rfl _ _ w.heap.size 27 _ (0, 0) _ rfl (heap_alloc_new _ _) Tryz.underlying27 rfl (by kernel_rfl)) rfl ?_
          exact ⟨rfl, Below.alloc (Below.refl _ _) (Nat.le_refl _) _⟩
        · have b' : (y == 0) = false := by rw [beq_eq_false_iff_ne]; exact b
          rw [if_neg a, if_pos rfl, if_neg b] at hc
          rw [hm, he, hc]
          show Calls _ _ _ _ fun e w' => e = .returned (partsOf _ 4 y 0) ∧ _
          go_enter Tryz.func14, Tryz.ntmps14
          go_wp2_with fail
          (try simp only [Exit.inBlock, Exit.then])
          refine bodyPost_ret (results_cell_row rfl _ _ w.heap.size 27 _ (0, 0) _ rfl (heap_alloc_new _ _) Tryz.underlying27 rfl (by kernel_rfl)) rfl ?_
          exact ⟨rfl, Below.alloc (Below.refl _ _) (Nat.le_refl _) _⟩
      · have a2' : (f == 2047) = false := by rw [beq_eq_false_iff_ne]; exact a2
        rw [if_neg a, if_neg a2] at hc
        rw [hm, he, hc]
        show Calls _ _ _ _ fun e w' => e = .returned (partsOf _ 2 (4503599627370496 + y) (f - 1075)) ∧ _
        go_enter Tryz.func14, Tryz.ntmps14
        go_wp2_with fail
        (try simp only [Exit.inBlock, Exit.then])
        refine bodyPost_ret (results_cell_row rfl _ _ w.heap.size 27 _ (0, 0) _ rfl (heap_alloc_new _ _) Tryz.underlying27 rfl (by kernel_rfl)) rfl ?_
        exact ⟨rfl, Below.alloc (Below.refl _ _) (Nat.le_refl _) _⟩
  · by_cases a : f = 0
    · subst a
      by_cases b : y = 0
      · subst b
        rw [if_pos rfl, if_pos rfl] at hc
        rw [hm, he, hc]
        show Calls _ _ _ _ fun e w' => e = .returned (partsOf _ 0 0 0) ∧ _
        go_enter Tryz.func14, Tryz.ntmps14
        go_wp2_with fail
        (try simp only [Exit.inBlock, Exit.then])
        refine bodyPost_ret (results_cell_row rfl _ _ w.heap.size 27 _ (0, 0) _ rfl (heap_alloc_new _ _) Tryz.underlying27 rfl (by kernel_rfl)) rfl ?_
        exact ⟨rfl, Below.alloc (Below.refl _ _) (Nat.le_refl _) _⟩
      · have b' : (y == 0) = false := by rw [beq_eq_false_iff_ne]; exact b
        rw [if_pos rfl, if_neg b] at hc
        rw [hm, he, hc]
        show Calls _ _ _ _ fun e w' => e = .returned (partsOf _ 1 y (-1074)) ∧ _
        go_enter Tryz.func14, Tryz.ntmps14
        go_wp2_with fail
        (try simp only [Exit.inBlock, Exit.then])
        refine bodyPost_ret (results_cell_row rfl _ _ w.heap.size 27 _ (0, 0) _ rfl (heap_alloc_new _ _) Tryz.underlying27 rfl (by kernel_rfl)) rfl ?_
        exact ⟨rfl, Below.alloc (Below.refl _ _) (Nat.le_refl _) _⟩
    · have a' : (f == 0) = false := by rw [beq_eq_false_iff_ne]; exact a
      have ap : 0 < f := by omega
      by_cases a2 : f = 2047
      · subst a2
        by_cases b : y = 0
        · subst b
          rw [if_neg a, if_pos rfl, if_pos rfl] at hc
          rw [hm, he, hc]
          show Calls _ _ _ _ fun e w' => e = .returned (partsOf _ 3 0 0) ∧ _
          go_enter Tryz.func14, Tryz.ntmps14
          go_wp2_with fail
          (try simp only [Exit.inBlock, Exit.then])
          refine bodyPost_ret (results_cell_row rfl _ _ w.heap.size 27 _ (0, 0) _ rfl (heap_alloc_new _ _) Tryz.underlying27 rfl (by kernel_rfl)) rfl ?_
          exact ⟨rfl, Below.alloc (Below.refl _ _) (Nat.le_refl _) _⟩
        · have b' : (y == 0) = false := by rw [beq_eq_false_iff_ne]; exact b
          rw [if_neg a, if_pos rfl, if_neg b] at hc
          rw [hm, he, hc]
          show Calls _ _ _ _ fun e w' => e = .returned (partsOf _ 4 y 0) ∧ _
          go_enter Tryz.func14, Tryz.ntmps14
          go_wp2_with fail
          (try simp only [Exit.inBlock, Exit.then])
          refine bodyPost_ret (results_cell_row rfl _ _ w.heap.size 27 _ (0, 0) _ rfl (heap_alloc_new _ _) Tryz.underlying27 rfl (by kernel_rfl)) rfl ?_
          exact ⟨rfl, Below.alloc (Below.refl _ _) (Nat.le_refl _) _⟩
      · have a2' : (f == 2047) = false := by rw [beq_eq_false_iff_ne]; exact a2
        rw [if_neg a, if_neg a2] at hc
        rw [hm, he, hc]
        show Calls _ _ _ _ fun e w' => e = .returned (partsOf _ 2 (4503599627370496 + y) (f - 1075)) ∧ _
        go_enter Tryz.func14, Tryz.ntmps14
        go_wp2_with fail
        (try simp only [Exit.inBlock, Exit.then])
        refine bodyPost_ret (results_cell_row rfl _ _ w.heap.size 27 _ (0, 0) _ rfl (heap_alloc_new _ _) Tryz.underlying27 rfl (by kernel_rfl)) rfl ?_
        exact ⟨rfl, Below.alloc (Below.refl _ _) (Nat.le_refl _) _⟩
end Go.Proofs.YtggiioipppbedaaGreatDoor

/-
  The document's layer 4: put, Abs, Neg, Finite, IsNaN, rank, Decode, Class.
-/
namespace Go.Proofs.YtggiioipppbedaaGreatDoor
open Go Go.RowKit Go.Deep

set_option maxRecDepth 100000 in
theorem zabs_any (d : Int) (w : World) (h0 : 0 ≤ d) (h1 : d < 18446744073709551616) :
    Calls Tryz.prog 18 #[.int .u64 d] w fun e w' => e = .returned (.int .u64 (d % 9223372036854775808)) ∧ w' = w := by
  go_enter Tryz.func18, Tryz.ntmps18
  go_wp2
  go_ret
  exact ⟨rfl, rfl⟩

set_option maxRecDepth 100000 in
theorem zneg_any (d : Int) (w : World) (h0 : 0 ≤ d) (h1 : d < 18446744073709551616) :
    Calls Tryz.prog 17 #[.int .u64 d] w fun e w' => e = .returned (.int .u64 (Ie.ng d)) ∧ w' = w := by
  by_cases h : 9223372036854775808 ≤ d
  · have E : Hid (Ie.ng d = d - 9223372036854775808) := by rw [Hid, Ie.ng, if_neg (by omega)]
    go_enter Tryz.func17, Tryz.ntmps17
    go_wp2
    go_ret
    exact ⟨i_retU E.out.symm, rfl⟩
  · have E : Hid (Ie.ng d = d + 9223372036854775808) := by rw [Hid, Ie.ng, if_pos (by omega)]
    go_enter Tryz.func17, Tryz.ntmps17
    go_wp2
    go_ret
    exact ⟨i_retU E.out.symm, rfl⟩

set_option maxRecDepth 100000 in
theorem zfinite_any (d : Int) (w : World) (h0 : 0 ≤ d) (h1 : d < 18446744073709551616) :
    Calls Tryz.prog 56 #[.int .u64 d] w fun e w' => e = .returned (.bool (decide (d % 9223372036854775808 < 9218868437227405312))) ∧ w' = w := by
  have A := hid (zabs_any d w h0 h1)
  go_enter Tryz.func56, Tryz.ntmps56
  go_wp2_with fail
  refine A.out.mono ?_
  rintro e w' ⟨rfl, rfl⟩
  go_wp2_with fail
  go_ret
  exact ⟨rfl, rfl⟩

set_option maxRecDepth 100000 in
theorem znan_any (d : Int) (w : World) (h0 : 0 ≤ d) (h1 : d < 18446744073709551616) :
    Calls Tryz.prog 54 #[.int .u64 d] w fun e w' => e = .returned (.bool (!Ie.okd d)) ∧ w' = w := by
  have A := hid (zabs_any d w h0 h1)
  have E : Hid (decide (9218868437227405312 < d % 9223372036854775808) = !Ie.okd d) := by
    rw [Hid, Ie.okd]
    by_cases h : d % 9223372036854775808 ≤ 9218868437227405312
    · rw [decide_eq_true h, decide_eq_false (by omega)]; rfl
    · rw [decide_eq_false h, decide_eq_true (by omega)]; rfl
  go_enter Tryz.func54, Tryz.ntmps54
  go_wp2_with fail
  refine A.out.mono ?_
  rintro e w' ⟨rfl, rfl⟩
  go_wp2_with fail
  go_ret
  exact ⟨by rw [← E.out]; rfl, rfl⟩

set_option maxRecDepth 100000 in
theorem zrank_any (d : Int) (w : World) (h0 : 0 ≤ d) (h1 : d < 18446744073709551616) :
    Calls Tryz.prog 55 #[.int .u64 d] w fun e w' => e = .returned (.int .i64 (Ie.rk d)) ∧ w' = w := by
  have A := hid (zabs_any d w h0 h1)
  obtain ⟨r, hr⟩ : ∃ r, d % 9223372036854775808 = r := ⟨_, rfl⟩
  rw [hr] at A
  have r0 : 0 ≤ r := by omega
  have r1 : r < 9223372036854775808 := by omega
  by_cases h : 9223372036854775808 ≤ d
  · have E : Hid (Ie.rk d = -r) := by rw [Hid, Ie.rk, if_neg (by omega)]; omega
    clear hr
    go_enter Tryz.func55, Tryz.ntmps55
    go_wp2_with fail
    refine A.out.mono ?_
    rintro e w' ⟨rfl, rfl⟩
    go_wp2_with fail
    go_ret
    exact ⟨i_retI E.out.symm, rfl⟩
  · have E : Hid (Ie.rk d = r) := by rw [Hid, Ie.rk, if_pos (by omega)]; omega
    clear hr
    go_enter Tryz.func55, Tryz.ntmps55
    go_wp2_with fail
    refine A.out.mono ?_
    rintro e w' ⟨rfl, rfl⟩
    go_wp2_with fail
    go_ret
    exact ⟨i_retI E.out.symm, rfl⟩

end Go.Proofs.YtggiioipppbedaaGreatDoor

/-
  The law's asked, kind 1.
-/
namespace Go.Proofs.YtggiioipppbedaaGreatDoor
open Go Go.RowKit Go.Deep

theorem row_cells {w : World} {b : Nat} {v0 v1 v2 v3 v4 v5 v6 v7 v8 v9 : Value} {t : Nat} (h : w.heap[b]? = some (.cells #[v0, v1, v2, v3, v4, v5, v6, v7, v8, v9] t (0, 0))) :
    (w.cell? ⟨b, 0, none⟩ = some v0 ∧ w.cell? ⟨b, 1, none⟩ = some v1 ∧ w.cell? ⟨b, 2, none⟩ = some v2 ∧ w.cell? ⟨b, 3, none⟩ = some v3 ∧ w.cell? ⟨b, 4, none⟩ = some v4 ∧ w.cell? ⟨b, 5, none⟩ = some v5 ∧ w.cell? ⟨b, 6, none⟩ = some v6 ∧ w.cell? ⟨b, 7, none⟩ = some v7 ∧ w.cell? ⟨b, 8, none⟩ = some v8 ∧ w.cell? ⟨b, 9, none⟩ = some v9) ∧ ∀ o, w.frozen? ⟨b, o, none⟩ = false := by
  refine ⟨⟨?_, ?_, ?_, ?_, ?_, ?_, ?_, ?_, ?_, ?_⟩, fun o => ?_⟩ <;> simp [World.cell?, World.frozen?, h]

theorem set_far {w : World} {b b' o : Nat} {v : Value} {x : Option Obj} (h : w.heap[b]? = x) (ne : b' ≠ b) : (w.setCell ⟨b', o, none⟩ v).heap[b]? = x := by
  simp [World.setCell, Array.getElem?_modify, ne, h]

theorem set_one {w : World} {b o t : Nat} {v : Value} {c c' : Array Value} (h : w.heap[b]? = some (.cells c t (0, 0))) (e : c.setIfInBounds o v = c') : (w.setCell ⟨b, o, none⟩ v).heap[b]? = some (.cells c' t (0, 0)) := by
  subst e
  simp [World.setCell, Array.getElem?_modify, h]

theorem set_row10 {w : World} {b t : Nat} {v0 v1 v2 v3 v4 v5 v6 v7 v8 v9 u0 u1 u2 u3 u4 u5 u6 u7 u8 u9 : Value} (h : w.heap[b]? = some (.cells #[v0, v1, v2, v3, v4, v5, v6, v7, v8, v9] t (0, 0))) :
    ((((((((((w.setCell ⟨b, 0, none⟩ u0).setCell ⟨b, 1, none⟩ u1).setCell ⟨b, 2, none⟩ u2).setCell ⟨b, 3, none⟩ u3).setCell ⟨b, 4, none⟩ u4).setCell ⟨b, 5, none⟩ u5).setCell ⟨b, 6, none⟩ u6).setCell ⟨b, 7, none⟩ u7).setCell ⟨b, 8, none⟩ u8).setCell ⟨b, 9, none⟩ u9).heap[b]? = some (.cells #[u0, u1, u2, u3, u4, u5, u6, u7, u8, u9] t (0, 0)) := by
  have h0 := set_one (o := 0) (v := u0) (c' := #[u0, v1, v2, v3, v4, v5, v6, v7, v8, v9]) h (by simp [Array.setIfInBounds])
  have h1 := set_one (o := 1) (v := u1) (c' := #[u0, u1, v2, v3, v4, v5, v6, v7, v8, v9]) h0 (by simp [Array.setIfInBounds])
  have h2 := set_one (o := 2) (v := u2) (c' := #[u0, u1, u2, v3, v4, v5, v6, v7, v8, v9]) h1 (by simp [Array.setIfInBounds])
  have h3 := set_one (o := 3) (v := u3) (c' := #[u0, u1, u2, u3, v4, v5, v6, v7, v8, v9]) h2 (by simp [Array.setIfInBounds])
  have h4 := set_one (o := 4) (v := u4) (c' := #[u0, u1, u2, u3, u4, v5, v6, v7, v8, v9]) h3 (by simp [Array.setIfInBounds])
  have h5 := set_one (o := 5) (v := u5) (c' := #[u0, u1, u2, u3, u4, u5, v6, v7, v8, v9]) h4 (by simp [Array.setIfInBounds])
  have h6 := set_one (o := 6) (v := u6) (c' := #[u0, u1, u2, u3, u4, u5, u6, v7, v8, v9]) h5 (by simp [Array.setIfInBounds])
  have h7 := set_one (o := 7) (v := u7) (c' := #[u0, u1, u2, u3, u4, u5, u6, u7, v8, v9]) h6 (by simp [Array.setIfInBounds])
  have h8 := set_one (o := 8) (v := u8) (c' := #[u0, u1, u2, u3, u4, u5, u6, u7, u8, v9]) h7 (by simp [Array.setIfInBounds])
  have h9 := set_one (o := 9) (v := u9) (c' := #[u0, u1, u2, u3, u4, u5, u6, u7, u8, u9]) h8 (by simp [Array.setIfInBounds])
  exact h9

theorem set_below {B : Nat} {w w' : World} {b o : Nat} {v : Value} (h : Below B w w') (hb : B ≤ b) : Below B w (w'.setCell ⟨b, o, none⟩ v) := h.setCell (p := ⟨b, o, none⟩) hb v

set_option maxRecDepth 100000 in
set_option maxHeartbeats 4000000 in
theorem asked1 (X Y I : Int) (pn : Bool) (pc pm px : Int) (neg : Bool) (p q : Option Addr) (n k cap cap' : Nat) (ex : Int) (more : Bool) (w : World) (a : Bool) (c m x : Int)
    (H : ∀ wx : World, Calls Tryz.prog 12 #[.int .u64 X] wx fun r w' => r = .returned (partsOf a c m x) ∧ Below wx.heap.size wx w') :
    Calls Tryz.prog 8 #[opOf 1 X Y I pn pc pm px neg (.slice p n cap) (.slice q k cap') ex more] w fun r w' => r = .returned (ansOf 0 0 0 false a c m x (.slice none 0 0) 0) ∧ Below w.heap.size w w' := by
  simp only [opOf, ansOf]
  have H := hid H
  go_enter Tryz.func8, Tryz.ntmps8
  go_wp2_with fail
  refine (H.out _).mono ?_
  rintro r w' ⟨rfl, hw⟩
  obtain ⟨g2, g3⟩ := mid_kept hw
  obtain ⟨⟨a0, a1, a2, a3, a4, a5, a6, a7, a8, a9⟩, af⟩ := row_cells g2
  obtain ⟨⟨b0, b1, b2, b3, b4, b5, b6, b7, b8, b9⟩, bf⟩ := row_cells g3
  have af0 := af 0
  have af1 := af 1
  have af2 := af 2
  have af3 := af 3
  have af4 := af 4
  have af5 := af 5
  have af6 := af 6
  have af7 := af 7
  have af8 := af 8
  have af9 := af 9
  have bf4 := bf 4
  have bf5 := bf 5
  have bf6 := bf 6
  have bf7 := bf 7
  have bf9 := bf 9
  simp only [partsOf]
  have HB := hid ((alloc3_below _ _ _ _).trans (hw.mono (alloc3_below _ _ _ _).size))
  have G2 := hid g2
  clear H hw g2 g3 af bf
  go_wp2_with fail
  (try simp only [Exit.inBlock, Exit.then])
  refine bodyPost_ret (results_cell_row rfl _ _ (w.heap.size + 1) 34 _ (0, 0) _ rfl (set_row10 (by repeat (first | (with_reducible exact G2.out) | (with_reducible refine set_far ?_ (by omega))))) Tryz.underlying34 rfl (by kernel_rfl)) rfl ?_
  exact ⟨rfl, by repeat (first | (with_reducible exact HB.out) | (with_reducible refine set_below ?_ (by omega)))⟩
end Go.Proofs.YtggiioipppbedaaGreatDoor

namespace Go.Proofs.YtggiioipppbedaaGreatDoor
open Go Go.RowKit Go.Deep

/-- Only blocks of S have been written, of those that were there. -/
structure Keep (S : Nat → Prop) (w w' : World) : Prop where
  os : w'.os = w.os
  tape : w'.tape = w.tape
  output : w'.output = w.output
  size : w.heap.size ≤ w'.heap.size
  block : ∀ b, b < w.heap.size → ¬ S b → w'.heap[b]? = w.heap[b]?

theorem Keep.refl (S : Nat → Prop) (w : World) : Keep S w w := ⟨rfl, rfl, rfl, Nat.le_refl _, fun _ _ _ => rfl⟩
theorem Keep.trans {S : Nat → Prop} {a b c : World} (h : Keep S a b) (k : Keep S b c) : Keep S a c :=
  ⟨k.os.trans h.os, k.tape.trans h.tape, k.output.trans h.output, Nat.le_trans h.size k.size, fun i hi hs => (k.block i (Nat.lt_of_lt_of_le hi h.size) hs).trans (h.block i hi hs)⟩
theorem Keep.mono {S T : Nat → Prop} {a b : World} (h : Keep S a b) (hst : ∀ b, S b → T b) : Keep T a b := ⟨h.os, h.tape, h.output, h.size, fun i hi hs => h.block i hi (fun k => hs (hst i k))⟩
theorem Keep.of_below {S : Nat → Prop} {B : Nat} {a b : World} (h : Below B a b) (hB : a.heap.size ≤ B) : Keep S a b := ⟨h.os, h.tape, h.output, h.size, fun i hi _ => h.block i (by omega)⟩
theorem Keep.below {S : Nat → Prop} {B : Nat} {a b : World} (h : Keep S a b) (hS : ∀ b, S b → B ≤ b) (hB : B ≤ a.heap.size) : Below B a b := ⟨h.os, h.tape, h.output, h.size, fun i hi => h.block i (by omega) (fun k => by have := hS i k; omega)⟩
theorem Keep.drewN {S : Nat → Prop} {a b : World} (h : Keep S a b) (n : Nat) : Keep S a (b.drewN n) := ⟨h.os, h.tape, h.output, h.size, h.block⟩
theorem Keep.cell {S : Nat → Prop} {a b : World} (h : Keep S a b) {p : Addr} {v : Value} (hc : a.cell? p = some v) (hs : ¬ S p.block) : b.cell? p = some v := by
  have hl := cell_lt hc
  have e := h.block p.block hl hs
  rw [← hc]
  unfold World.cell?
  rw [e]

theorem Lies.keep {S : Nat → Prop} {w w' : World} {p : Option Addr} {zs : List Int} (h : Lies w p zs) (k : Keep S w w') (hp : ∀ a, p = some a → ¬ S a.block) : Lies w' p zs := by
  rcases h with rfl | ⟨b, off, rfl, h⟩
  · exact .inl rfl
  · exact .inr ⟨b, off, rfl, fun i hi => k.cell (h i hi) (hp ⟨b, off, none⟩ rfl)⟩

theorem Arg.keep {S : Nat → Prop} {w w' : World} {p : Option Addr} {n cap : Nat} {zs : List Int} (h : Arg w p n cap zs) (k : Keep S w w') (hp : ∀ a, p = some a → ¬ S a.block) : Arg w' p n cap zs :=
  ⟨h.1, h.2.1, h.2.2.1, h.2.2.2.1.keep k hp, h.2.2.2.2⟩

theorem Own.keep {S : Nat → Prop} {w w' : World} {g : Nat} {zs : List Int} (h : Own w g zs) (k : Keep S w w') (hp : ¬ S g) : Own w' g zs := by
  have := h.lt
  simp only [Own] at h ⊢
  rw [k.block g this hp, h]

end Go.Proofs.YtggiioipppbedaaGreatDoor

namespace Go.Proofs.YtggiioipppbedaaGreatDoor
open Go Go.RowKit Go.Deep

namespace Re
/-- The cells of a list. -/
def fl {α : Type} (enc : α → List Value) (D : List α) : List Value := D.flatMap enc
section
variable {α : Type} {enc : α → List Value} {k : Nat} (hk : ∀ x, (enc x).length = k)
include hk
theorem fl_len (D : List α) : (fl enc D).length = D.length * k := by
  induction D with
  | nil => simp [fl]
  | cons x D ih => rw [fl, List.flatMap_cons, List.length_append, hk, ← fl, ih, List.length_cons, Nat.add_mul, Nat.one_mul, Nat.add_comm]
theorem fl_at : ∀ {D : List α} {i : Nat} {a : α}, D[i]? = some a → ∀ j, j < k → (fl enc D)[i * k + j]? = (enc a)[j]?
  | [], i, a, h, _, _ => by simp at h
  | b :: D, 0, a, h, j, hj => by
    obtain rfl : b = a := Option.some.inj h
    rw [fl, List.flatMap_cons, List.getElem?_append_left (by rw [hk]; omega)]
    simp
  | b :: D, i + 1, a, h, j, hj => by
    rw [fl, List.flatMap_cons, List.getElem?_append_right (by rw [hk, Nat.add_mul]; omega), ← fl]
    rw [← fl_at (D := D) (i := i) (a := a) (by simpa using h) j hj]
    congr 1
    rw [hk, Nat.add_mul]
    omega
end
/-- A row of our own, of things of k cells. -/
def Ow {α : Type} (enc : α → List Value) (t k base : Nat) (w : World) (mv : Value) (D : List α) : Prop := w.ownsRow base t k mv D.length (fl enc D)
section
variable {α : Type} {enc : α → List Value} {t k base : Nat}
theorem Ow.below {w w' : World} {mv : Value} {D : List α} (h : Ow enc t k base w mv D) (hb : Below w.heap.size w w') : Ow enc t k base w' mv D :=
  World.ownsRow.kept (row := none) h ⟨hb.os, hb.tape, hb.output, hb.size, fun j hj _ => hb.block j hj⟩ (by cases h : Value.ownBlock mv <;> simp)
theorem Ow.keep {S : Nat → Prop} {w w' : World} {mv : Value} {D : List α} (h : Ow enc t k base w mv D) (hb : Keep S w w') (hs : ∀ g, mv.ownBlock = some g → ¬ S g) : Ow enc t k base w' mv D := by
  obtain ⟨h1, h2⟩ := h
  refine ⟨h1, ?_⟩
  rcases h2 with h2 | ⟨g, cap, cur, e1, e2, e3, e4⟩
  · exact .inl h2
  · refine .inr ⟨g, cap, cur, e1, e2, ?_, e4⟩
    have hg : g < w.heap.size := by
      rcases Nat.lt_or_ge g w.heap.size with hl | hl
      · exact hl
      · simp [Array.getElem?_eq_none hl] at e3
    rw [hb.block g hg (hs g (by rw [e1]; rfl))]
    exact e3
theorem Ow.nil (w : World) : Ow enc t k base w (.slice none 0 0) [] := World.ownsRow_nil _ _ _ _
theorem Ow.shape {w : World} {mv : Value} {D : List α} (h : Ow enc t k base w mv D) : (∃ cap, mv = .slice none 0 cap ∧ D = []) ∨ ∃ g cap, mv = .slice (some ⟨g, 0, none⟩) D.length cap ∧ base ≤ g ∧ g < w.heap.size ∧ D.length ≤ cap ∧ cap ≤ maxLen := by
  rcases h.2 with ⟨rfl, hn⟩ | ⟨g, cp, cur, rfl, hb, hg, hc, hm, _⟩
  · exact .inl ⟨0, rfl, List.eq_nil_of_length_eq_zero hn⟩
  · refine .inr ⟨g, cp, rfl, hb, ?_, hc, hm⟩
    rcases Nat.lt_or_ge g w.heap.size with hl | hl
    · exact hl
    · simp [Array.getElem?_eq_none hl] at hg
theorem Ow.cell (hk : ∀ x, (enc x).length = k) {w : World} {g n cap : Nat} {D : List α} (h : Ow enc t k base w (.slice (some ⟨g, 0, none⟩) n cap) D) {i : Nat} {a : α} (hi : D[i]? = some a) (j : Nat) (hj : j < k) (v : Value) (hv : (enc a)[j]? = some v) : w.cell? ⟨g, i * k + j, none⟩ = some v := by
  have e := fl_at hk hi j hj
  rw [hv] at e
  have := World.ownsRow.cells h (g := g) rfl (i * k + j) v e
  rwa [Go.WideShapes.add_plain, Nat.zero_add] at this
theorem Ow.take (hk : ∀ x, (enc x).length = k) {w : World} {g n cap : Nat} {D : List α} (h : Ow enc t k base w (.slice (some ⟨g, 0, none⟩) n cap) D) (m : Nat) (hm : m ≤ D.length) : Ow enc t k base w (.slice (some ⟨g, 0, none⟩) m cap) (D.take m) := by
  obtain ⟨h1, h2⟩ := h
  have lk : (D.take m).length = m := by rw [List.length_take]; omega
  have l2 := fl_len hk D
  have l3 := fl_len hk (D.take m)
  rw [lk] at l3
  refine ⟨by rw [lk]; exact l3, ?_⟩
  rcases h2 with ⟨e, _⟩ | ⟨g', cap', cur, e1, e2, e3, e4, e5, e6, e7⟩
  · simp at e
  · simp only [Value.slice.injEq, Option.some.injEq, Addr.mk.injEq] at e1
    obtain ⟨⟨e1, _⟩, _, e1'⟩ := e1
    subst e1 e1'
    refine .inr ⟨g, cap, cur, by rw [lk], e2, e3, by rw [lk]; omega, e5, e6, ?_⟩
    have mk : m * k ≤ D.length * k := Nat.mul_le_mul_right k hm
    have : cur.toList.take (m * k) = (fl enc D).take (m * k) := by rw [← e7, List.take_take]; congr 1; omega
    have q : (fl enc D).take (m * k) = fl enc (D.take m) := by
      have e : fl enc D = fl enc (D.take m) ++ fl enc (D.drop m) := by rw [fl, fl, fl, ← List.flatMap_append, List.take_append_drop]
      rw [e, List.take_append_of_le_length (by omega), List.take_of_length_le (by omega)]
    rw [lk, this, q]
/-- One more thing, put behind; it lies in a block of its own ahead of that. -/
theorem Ow.push (hk : ∀ x, (enc x).length = k) (h1 : ∀ x, ∀ v ∈ enc x, v.oneCell' = true) (k0 : 0 < k) {P : Program} (s : TypeId) (hu : P.underlying s = some (.slice t)) {z : Value} {bytes : Nat} (hinf : (P.info? t).map (fun i => (i.zero, i.size, i.bytes)) = some (some z, k, bytes)) (hby : bytes ≤ 24) (hzc : z.cells.size = k)
    {w : World} {mv : Value} {D : List α} (ho : Ow enc t k base w mv D) (x : α) (hn : D.length ≤ 4000000000000) (hb : base ≤ w.heap.size) :
    ∃ mv' w', (Builtin.append_ #[s, s] s #[mv, .slice (some ⟨w.heap.size, 0, none⟩) 1 1]).run P (w.alloc (.cells (enc x).toArray t)) = .ok mv' w' ∧ Ow enc t k base w' mv' (D ++ [x]) ∧ w.heap.size ≤ w'.heap.size ∧
      Below base w w' ∧ (∀ j, j < w.heap.size → some j ≠ mv.ownBlock → w'.heap[j]? = w.heap[j]?) := by
  obtain ⟨i, hi, hz⟩ := Option.map_eq_some_iff.1 hinf
  simp only [Prod.mk.injEq] at hz
  obtain ⟨z1, z2, z3⟩ := hz
  have bm : Below w.heap.size w (w.alloc (.cells (enc x).toArray t)) := (Below.refl _ _).alloc (Nat.le_refl _) _
  have hs : (w.alloc (.cells (enc x).toArray t)).heap.size = w.heap.size + 1 := World.size_alloc _ _
  have ho' := World.ownsRow.alloc ho (.cells (enc x).toArray t)
  have hcell : ∀ j u, (enc x)[j]? = some u → (w.alloc (.cells (enc x).toArray t)).cell? ⟨w.heap.size, j, none⟩ = some u := by
    intro j u hu
    have h0 : (w.alloc (.cells (enc x).toArray t)).heap[w.heap.size]? = some (.cells (enc x).toArray t (0, 0)) := heap_alloc_new w _
    simp only [World.cell?, h0]
    simpa using hu
  obtain ⟨v', w', hr, h1, h2, _⟩ := run_append_own (P := P) (w.alloc (.cells (enc x).toArray t)) base s s t i _ k bytes hu hi z1 z2 z3 hzc (by omega) mv D.length (fl enc D) ho'
    ⟨w.heap.size, 0, none⟩ 1 1 (enc x) (by rw [hk]; omega) (fun j u hu => by
      rw [Go.WideShapes.add_plain, Nat.zero_add]
      exact hcell j u hu) (fun u hu => h1 x u hu) (by simp only [maxLen]; omega) (by
        have a1 : (D.length + 1) * bytes ≤ (D.length + 1) * 24 := Nat.mul_le_mul_left _ hby
        omega) (by rw [hs]; omega)
  refine ⟨v', w', hr, ?_, by have := h2.size; omega, ?_, fun j hj hne => ?_⟩
  · have e : fl enc (D ++ [x]) = fl enc D ++ enc x := by simp [fl]
    unfold Ow
    rw [e, List.length_append, List.length_singleton]
    exact h1
  · have hb2 : Below base (w.alloc (.cells (enc x).toArray t)) w' := by
      refine ⟨h2.os, h2.tape, h2.output, h2.size, fun j hj => h2.block j (by rw [hs]; omega) ?_⟩
      intro hk
      have := (ho'.lt j hk.symm).1
      omega
    exact (bm.mono hb).trans hb2
  · rw [h2.block j (by rw [hs]; omega) hne]; exact bm.block j hj
theorem Ow.push2 (hk : ∀ x, (enc x).length = k) (h1 : ∀ x, ∀ v ∈ enc x, v.oneCell' = true) (k0 : 0 < k) {P : Program} (s : TypeId) (hu : P.underlying s = some (.slice t)) {z : Value} {bytes : Nat} (hinf : (P.info? t).map (fun i => (i.zero, i.size, i.bytes)) = some (some z, k, bytes)) (hby : bytes ≤ 24) (hzc : z.cells.size = k)
    {w : World} {mv : Value} {D : List α} (ho : Ow enc t k base w mv D) (x : α) (hn : D.length ≤ 4000000000000) (hb : base ≤ w.heap.size) :
    ∃ mv' w', (Builtin.append_ #[s, s] s #[mv, .slice (some ⟨w.heap.size, 0, none⟩) 1 1]).run P (w.alloc (.cells (enc x).toArray t)) = .ok mv' w' ∧ Ow enc t k base w' mv' (D ++ [x]) ∧ w.heap.size ≤ w'.heap.size ∧
      Below base w w' ∧ (∀ j, j < w.heap.size → some j ≠ mv.ownBlock → w'.heap[j]? = w.heap[j]?) ∧ (∀ g, mv'.ownBlock = some g → mv.ownBlock = some g ∨ w.heap.size ≤ g) := by
  obtain ⟨mv', w', e1, e2, e3, e4, e5⟩ := ho.push hk h1 k0 s hu hinf hby hzc x hn hb
  refine ⟨mv', w', e1, e2, e3, e4, e5, ?_⟩
  intro g hg
  obtain ⟨i, hi, hz⟩ := Option.map_eq_some_iff.1 hinf
  simp only [Prod.mk.injEq] at hz
  obtain ⟨z1, z2, z3⟩ := hz
  have hs : (w.alloc (.cells (enc x).toArray t)).heap.size = w.heap.size + 1 := World.size_alloc _ _
  have hcell : ∀ j u, (enc x)[j]? = some u → (w.alloc (.cells (enc x).toArray t)).cell? ((⟨w.heap.size, 0, none⟩ : Addr).add j) = some u := by
    intro j u hu
    rw [Go.WideShapes.add_plain, Nat.zero_add]
    have h0 : (w.alloc (.cells (enc x).toArray t)).heap[w.heap.size]? = some (.cells (enc x).toArray t (0, 0)) := heap_alloc_new w _
    simp only [World.cell?, h0]
    simpa using hu
  have hby2 : (D.length + 1) * bytes ≤ (D.length + 1) * 24 := Nat.mul_le_mul_left _ hby
  have ho' := World.ownsRow.alloc ho (.cells (enc x).toArray t)
  rcases ho'.2 with ⟨rfl, h0⟩ | ⟨g', cap, cur, rfl, hbg, hgg, hnc, hcm, hcs, htake⟩
  · obtain ⟨v2, w2, r2, o2, _, _⟩ := run_append_own (P := P) (w.alloc (.cells (enc x).toArray t)) w.heap.size s s t i _ k bytes hu hi z1 z2 z3 hzc (by omega) (.slice none 0 0) 0 [] (World.ownsRow_nil _ _ _ _)
      ⟨w.heap.size, 0, none⟩ 1 1 (enc x) (by rw [hk]; omega) hcell (h1 x) (by simp only [maxLen]; omega) (by omega) (by rw [hs]; omega)
    rw [e1] at r2
    obtain ⟨rfl, rfl⟩ : mv' = v2 ∧ w' = w2 := by injection r2 with a b; exact ⟨a, b⟩
    exact .inr (o2.lt g hg).1
  · by_cases hroom : D.length + 1 ≤ cap
    · have hr := run_append_room (P := P) (w.alloc (.cells (enc x).toArray t)) s s t i hu hi g' D.length cap cur hgg ⟨w.heap.size, 0, none⟩ 1 1 (enc x) (by rw [z2, hk]; omega) hcell (h1 x) hroom (by
        rw [z2, hcs, hk]
        have := Nat.mul_le_mul_right k hroom
        rw [Nat.add_mul, Nat.one_mul] at this
        exact this)
      rw [e1] at hr
      injection hr with a b
      rw [a] at hg
      exact .inl hg
    · have hr := run_append_grow (P := P) (w.alloc (.cells (enc x).toArray t)) s s t i _ hu hi z1 ⟨g', 0, none⟩ D.length cap (fl enc D) (by rw [z2]; exact fl_len hk D) (ho'.cells (g := g') rfl) ⟨w.heap.size, 0, none⟩ 1 1 (enc x) (by rw [z2, hk]; omega) hcell (by omega) (by omega) (growslice_fits (by omega) (by rw [z3]; omega))
      rw [e1] at hr
      injection hr with a b
      rw [a] at hg
      simp only [Value.ownBlock, Option.some.injEq] at hg
      right
      omega
end
end Re
end Go.Proofs.YtggiioipppbedaaGreatDoor

namespace Go.Proofs.YtggiioipppbedaaGreatDoor
open Go Go.RowKit Go.Deep

/-- A box that holds these cells. -/
def Bx (w : World) (g : Nat) (t : Nat) (cs : Array Value) : Prop := w.heap[g]? = some (.cells cs t (0, 0))
theorem Bx.lt {w : World} {g t : Nat} {cs : Array Value} (h : Bx w g t cs) : g < w.heap.size := by
  rcases Nat.lt_or_ge g w.heap.size with c | c
  · exact c
  · simp [Bx, Array.getElem?_eq_none c] at h
theorem Bx.on {w w' : World} {g t : Nat} {cs : Array Value} (h : Bx w g t cs) (hB : Below w.heap.size w w') : Bx w' g t cs := by
  rw [Bx, hB.block g h.lt]; exact h
theorem Bx.set {w : World} {g t o : Nat} {cs : Array Value} (h : Bx w g t cs) (v : Value) : Bx (w.setCell ⟨g, o, none⟩ v) g t (cs.setIfInBounds o v) := by
  simp only [Bx] at *
  simp [World.setCell, Array.getElem?_modify, h]
theorem Bx.far {w : World} {g g' t o : Nat} {cs : Array Value} (h : Bx w g t cs) (ne : g' ≠ g) (v : Value) : Bx (w.setCell ⟨g', o, none⟩ v) g t cs := by
  simp only [Bx] at *
  simp [World.setCell, Array.getElem?_modify, ne, h]
theorem Bx.c13 {w : World} {g t : Nat} {v0 v1 v2 v3 v4 v5 v6 v7 v8 v9 v10 v11 v12 : Value} (h : Bx w g t #[v0, v1, v2, v3, v4, v5, v6, v7, v8, v9, v10, v11, v12]) : (w.cell? ⟨g, 0, none⟩ = some (v0) ∧ w.cell? ⟨g, 1, none⟩ = some (v1) ∧ w.cell? ⟨g, 2, none⟩ = some (v2) ∧ w.cell? ⟨g, 3, none⟩ = some (v3) ∧ w.cell? ⟨g, 4, none⟩ = some (v4) ∧ w.cell? ⟨g, 5, none⟩ = some (v5) ∧ w.cell? ⟨g, 6, none⟩ = some (v6) ∧ w.cell? ⟨g, 7, none⟩ = some (v7) ∧ w.cell? ⟨g, 8, none⟩ = some (v8) ∧ w.cell? ⟨g, 9, none⟩ = some (v9) ∧ w.cell? ⟨g, 10, none⟩ = some (v10) ∧ w.cell? ⟨g, 11, none⟩ = some (v11) ∧ w.cell? ⟨g, 12, none⟩ = some (v12)) ∧ ∀ o, w.frozen? ⟨g, o, none⟩ = false := by
  simp only [Bx] at h
  refine ⟨⟨?_, ?_, ?_, ?_, ?_, ?_, ?_, ?_, ?_, ?_, ?_, ?_, ?_⟩, fun o => ?_⟩ <;> simp [World.cell?, World.frozen?, h]
theorem Bx.c10 {w : World} {g t : Nat} {v0 v1 v2 v3 v4 v5 v6 v7 v8 v9 : Value} (h : Bx w g t #[v0, v1, v2, v3, v4, v5, v6, v7, v8, v9]) : (w.cell? ⟨g, 0, none⟩ = some (v0) ∧ w.cell? ⟨g, 1, none⟩ = some (v1) ∧ w.cell? ⟨g, 2, none⟩ = some (v2) ∧ w.cell? ⟨g, 3, none⟩ = some (v3) ∧ w.cell? ⟨g, 4, none⟩ = some (v4) ∧ w.cell? ⟨g, 5, none⟩ = some (v5) ∧ w.cell? ⟨g, 6, none⟩ = some (v6) ∧ w.cell? ⟨g, 7, none⟩ = some (v7) ∧ w.cell? ⟨g, 8, none⟩ = some (v8) ∧ w.cell? ⟨g, 9, none⟩ = some (v9)) := by
  simp only [Bx] at h
  refine ⟨?_, ?_, ?_, ?_, ?_, ?_, ?_, ?_, ?_, ?_⟩ <;> simp [World.cell?, h]
theorem Arg.setF {w : World} {p : Option Addr} {n cap : Nat} {zs : List Int} (h : Arg w p n cap zs) {g o : Nat} (hp : 0 < zs.length → ∀ a, p = some a → a.block ≠ g) (v : Value) : Arg (w.setCell ⟨g, o, none⟩ v) p n cap zs := by
  obtain ⟨h1, h2, h3, h4, h5⟩ := h
  refine ⟨h1, h2, h3, ?_, h5⟩
  rcases h4 with c | ⟨b, off, hp', hc⟩
  · exact .inl c
  · refine .inr ⟨b, off, hp', fun i hi => ?_⟩
    have ne : g ≠ b := fun e => hp (by omega) _ hp' e.symm
    have := hc i hi
    rw [World.cell?] at this ⊢
    simp only [World.setCell, Array.getElem?_modify]
    rw [if_neg ne]
    exact this
theorem alloc_b2 (w : World) (A : Obj) : Below w.heap.size w (w.alloc A) := Below.alloc (w := w) (Below.refl w.heap.size w) (Nat.le_refl _) A
theorem own_arg {w : World} {g n : Nat} {zs : List Int} (h : Own w g zs) (hl : zs.length = n) (hn : n ≤ 17592186044000) (hz : Nm.Limbs zs) : Arg w (some ⟨g, 0, none⟩) n n zs := ⟨hl, Nat.le_refl _, by omega, h.lies, hz⟩

end Go.Proofs.YtggiioipppbedaaGreatDoor

namespace Go.Proofs.YtggiioipppbedaaGreatDoor
open Go Go.RowKit Go.Deep

theorem Keep.set (w : World) (g o : Nat) (v : Value) : Keep (fun b => b = g) w (w.setCell ⟨g, o, none⟩ v) :=
  ⟨rfl, rfl, rfl, by simp [World.setCell], fun _ _ hb => Below.heap_setCell _ _ _ _ (fun e => hb e)⟩
theorem Keep.on {S : Nat → Prop} {w w' : World} (h : Below w.heap.size w w') : Keep S w w' := Keep.of_below h (Nat.le_refl _)

/-- A list with these limbs, that may be written. -/
def Ls (H : Nat) (w : World) (p : Option Addr) (zs : List Int) : Prop := Lies w p zs ∧ ∀ a, p = some a → 0 < zs.length → H ≤ a.block ∧ ∀ o, w.frozen? ⟨a.block, o, none⟩ = false
theorem Lies.keep0 {S : Nat → Prop} {w w' : World} {p : Option Addr} {zs : List Int} (h : Lies w p zs) (k : Keep S w w') (hp : ∀ a, p = some a → 0 < zs.length → ¬ S a.block) : Lies w' p zs := by
  rcases h with rfl | ⟨b, off, rfl, h⟩
  · exact .inl rfl
  · rcases Nat.eq_zero_or_pos zs.length with z | z
    · exact .inl (List.eq_nil_of_length_eq_zero z)
    · exact .inr ⟨b, off, rfl, fun i hi => k.cell (h i hi) (hp ⟨b, off, none⟩ rfl z)⟩
theorem Ls.keep {S : Nat → Prop} {H : Nat} {w w' : World} {p : Option Addr} {zs : List Int} (h : Ls H w p zs) (k : Keep S w w') (hp : ∀ a, p = some a → 0 < zs.length → ¬ S a.block) : Ls H w' p zs :=
  ⟨h.1.keep0 k hp, fun a ha h0 => ⟨(h.2 a ha h0).1, fun o => by
    have lt := h.1.lt h0 a ha
    have e := k.block a.block lt (hp a ha h0)
    have f := (h.2 a ha h0).2 o
    simp only [World.frozen?] at f ⊢
    rw [e]
    exact f⟩⟩
theorem Ls.on {H : Nat} {w w' : World} {p : Option Addr} {zs : List Int} (h : Ls H w p zs) (hB : Below w.heap.size w w') : Ls H w' p zs := h.keep (S := fun _ => False) (Keep.on hB) (fun _ _ _ h => h)
theorem Ls.low {H H' : Nat} {w : World} {p : Option Addr} {zs : List Int} (h : Ls H w p zs) (hh : H' ≤ H) : Ls H' w p zs := ⟨h.1, fun a ha h0 => ⟨Nat.le_trans hh (h.2 a ha h0).1, (h.2 a ha h0).2⟩⟩
theorem Own.ls {H : Nat} {w : World} {g : Nat} {zs : List Int} (h : Own w g zs) (hh : H ≤ g) : Ls H w (some ⟨g, 0, none⟩) zs := ⟨h.lies, fun a ha _ => by cases ha; exact ⟨hh, fun o => h.free o⟩⟩

structure Ke where
  p : Option Addr
  n : Nat
def Ke.blk (e : Ke) : Option Nat := if e.n = 0 then none else e.p.map (·.block)
theorem Ke.blk_of {e : Ke} {a : Addr} (h : e.p = some a) (h0 : 0 < e.n) : e.blk = some a.block := by
  unfold Ke.blk
  rw [if_neg (by omega), h]
  rfl
theorem Ke.of_blk {e : Ke} {b : Nat} (h : e.blk = some b) : 0 < e.n ∧ ∃ a, e.p = some a ∧ a.block = b := by
  unfold Ke.blk at h
  split at h
  · cases h
  · exact ⟨by omega, Option.map_eq_some_iff.1 h⟩
structure Sl where
  p : Option Addr
  n : Nat
  c : Nat
def v1 (x : Sl) : List Value := [.slice x.p x.n x.c]
theorem v1_len (x : Sl) : (v1 x).length = 1 := rfl
theorem v1_one (x : Sl) : ∀ v ∈ v1 x, v.oneCell' = true := fun v hv => by
  simp only [v1, List.mem_singleton] at hv
  subst hv
  rfl
def i1 (x : Int) : List Value := [.int .i64 x]
theorem i1_len (x : Int) : (i1 x).length = 1 := rfl
theorem i1_one (x : Int) : ∀ v ∈ i1 x, v.oneCell' = true := fun v hv => by
  simp only [i1, List.mem_singleton] at hv
  subst hv
  rfl
def u1 (x : Int) : List Value := [.int .u64 x]
theorem u1_len (x : Int) : (u1 x).length = 1 := rfl
theorem u1_one (x : Int) : ∀ v ∈ u1 x, v.oneCell' = true := fun v hv => by
  simp only [u1, List.mem_singleton] at hv
  subst hv
  rfl
def Ke.v (e : Ke) : Sl := ⟨e.p, e.n, e.n⟩
def Apart (L : List Ke) : Prop := L.Pairwise (fun e f => ∀ b, e.blk = some b → f.blk ≠ some b)
theorem Apart.ne {L : List Ke} (h : Apart L) {i j : Nat} {e f : Ke} (hi : L[i]? = some e) (hj : L[j]? = some f) (hn : i ≠ j) {b : Nat} (he : e.blk = some b) : f.blk ≠ some b := by
  obtain ⟨a1, a2⟩ := List.getElem?_eq_some_iff.1 hi
  obtain ⟨b1, b2⟩ := List.getElem?_eq_some_iff.1 hj
  have hp := List.pairwise_iff_getElem.1 h
  rcases Nat.lt_or_gt_of_ne hn with q | q
  · have := hp i j a1 b1 q
    rw [a2, b2] at this
    exact this b he
  · intro hf
    have := hp j i b1 a1 q
    rw [a2, b2] at this
    exact this b hf he

/-- What the law keeps: the lists of L, of which the first k are in the list of lists. -/
structure KI (C : Nat → List Int → Prop) (B : Nat) (w : World) (mv : Value) (L : List Ke) (k : Nat) : Prop where
  row : Re.Ow v1 28 1 B w mv ((L.take k).map Ke.v)
  each : ∀ i e, L[i]? = some e → ∃ zs, zs.length = e.n ∧ C i zs ∧ Ls B w e.p zs
  small : ∀ e ∈ L, e.n ≤ 17592186044000
  apart : Apart L
  away : ∀ e ∈ L, ∀ b, e.blk = some b → mv.ownBlock ≠ some b
def T0 : Nat → List Int → Prop := fun _ _ => True
theorem ow_lt {α : Type} {enc : α → List Value} {t k B : Nat} {w : World} {mv : Value} {D : List α} (h : Re.Ow enc t k B w mv D) {g : Nat} (hg : mv.ownBlock = some g) : B ≤ g ∧ g < w.heap.size := by
  rcases h.shape with ⟨c, rfl, _⟩ | ⟨g', c, rfl, h1, h2, _⟩
  · cases hg
  · simp only [Value.ownBlock, Option.some.injEq] at hg
    subst hg
    exact ⟨h1, h2⟩
theorem KI.blk {C : Nat → List Int → Prop} {B : Nat} {w : World} {mv : Value} {L : List Ke} {k : Nat} (h : KI C B w mv L k) {e : Ke} (he : e ∈ L) {b : Nat} (hb : e.blk = some b) : B ≤ b ∧ b < w.heap.size := by
  obtain ⟨i, hi⟩ := List.getElem?_of_mem he
  obtain ⟨zs, z1, _, z3⟩ := h.each i e hi
  obtain ⟨n0, a, ha, rfl⟩ := Ke.of_blk hb
  exact ⟨(z3.2 a ha (by omega)).1, z3.1.lt (by omega) a ha⟩
theorem KI.keep {C : Nat → List Int → Prop} {B : Nat} {w w' : World} {mv : Value} {L : List Ke} {k : Nat} {S : Nat → Prop} (h : KI C B w mv L k) (q : Keep S w w') (h1 : ∀ g, mv.ownBlock = some g → ¬ S g) (h2 : ∀ e ∈ L, ∀ b, e.blk = some b → ¬ S b) : KI C B w' mv L k :=
  ⟨h.row.keep q h1, fun i e hi => by
    obtain ⟨zs, z1, z2, z3⟩ := h.each i e hi
    exact ⟨zs, z1, z2, z3.keep q (fun a ha h0 => h2 e (List.mem_of_getElem? hi) _ (Ke.blk_of ha (by omega)))⟩, h.small, h.apart, h.away⟩
theorem KI.on {C : Nat → List Int → Prop} {B : Nat} {w w' : World} {mv : Value} {L : List Ke} {k : Nat} (h : KI C B w mv L k) (hB : Below w.heap.size w w') : KI C B w' mv L k :=
  h.keep (S := fun _ => False) (Keep.on hB) (fun _ _ h => h) (fun _ _ _ _ h => h)
theorem KI.mono {C C' : Nat → List Int → Prop} {B : Nat} {w : World} {mv : Value} {L : List Ke} {k : Nat} (h : KI C B w mv L k) (q : ∀ i e, L[i]? = some e → ∀ zs, zs.length = e.n → C i zs → C' i zs) : KI C' B w mv L k :=
  ⟨h.row, fun i e hi => by
    obtain ⟨zs, z1, z2, z3⟩ := h.each i e hi
    exact ⟨zs, z1, q i e hi zs z1 z2, z3⟩, h.small, h.apart, h.away⟩
theorem KI.ext {B : Nat} {w0 w : World} {mv : Value} {L : List Ke} (h : KI T0 B w0 mv L L.length) (hB : Below w0.heap.size w0 w) (hb : B ≤ w0.heap.size) (N : List Ke) (hN : ∀ e ∈ N, (∃ zs, zs.length = e.n ∧ Ls w0.heap.size w e.p zs) ∧ e.n ≤ 17592186044000) (ap : Apart N) :
    KI T0 B w mv (L ++ N) L.length := by
  have h' := h.on hB
  have nb : ∀ e ∈ N, ∀ b, e.blk = some b → w0.heap.size ≤ b := fun e he b eb => by
    obtain ⟨⟨zs, z1, z2⟩, _⟩ := hN e he
    obtain ⟨n0, a, ha, rfl⟩ := Ke.of_blk eb
    exact (z2.2 a ha (by omega)).1
  refine ⟨by rw [List.take_left]; have := h'.row; rwa [List.take_length] at this, fun i e hi => ?_, fun e he => ?_, ?_, fun e he b eb => ?_⟩
  · rcases Nat.lt_or_ge i L.length with il | il
    · rw [List.getElem?_append_left il] at hi
      exact h'.each i e hi
    · rw [List.getElem?_append_right il] at hi
      obtain ⟨⟨zs, z1, z2⟩, _⟩ := hN e (List.mem_of_getElem? hi)
      exact ⟨zs, z1, trivial, z2.low hb⟩
  · rcases List.mem_append.1 he with q | q
    · exact h.small e q
    · exact (hN e q).2
  · refine List.pairwise_append.2 ⟨h.apart, ap, fun e he f hf b eb fb => ?_⟩
    have := (h.blk he eb).2
    have := nb f hf b fb
    omega
  · rcases List.mem_append.1 he with q | q
    · exact h.away e q b eb
    · intro hg
      have := (ow_lt h.row hg).2
      have := nb e q b eb
      omega

theorem info_u64s : (Tryz.prog.info? 28).map (fun i => (i.zero, i.size, i.bytes)) = some (some (.slice none 0 0), 1, 24) := by kernel_rfl
theorem info_int : (Tryz.prog.info? 3).map (fun i => (i.zero, i.size, i.bytes)) = some (some (.int .i64 0), 1, 8) := by kernel_rfl
theorem info_u64 : (Tryz.prog.info? 25).map (fun i => (i.zero, i.size, i.bytes)) = some (some (.int .u64 0), 1, 8) := by kernel_rfl

/-- One more list is put behind. -/
theorem KI.push {C : Nat → List Int → Prop} {B : Nat} {w : World} {mv : Value} {L : List Ke} {k : Nat} (h : KI C B w mv L k) {e : Ke} (he : L[k]? = some e) (hL : L.length ≤ 4000000000000) (hB : B ≤ w.heap.size) :
    ∃ mv' w', (Builtin.append_ #[24, 24] 24 #[mv, .slice (some ⟨w.heap.size, 0, none⟩) 1 1]).run Tryz.prog (w.alloc (.cells #[.slice e.p e.n e.n] 28)) = .ok mv' w' ∧ KI C B w' mv' L (k + 1) ∧ Below B w w' ∧ Keep (fun b => mv.ownBlock = some b) w w' ∧ (∀ b, mv'.ownBlock = some b → mv.ownBlock = some b ∨ w.heap.size ≤ b) := by
  have hk := (List.getElem?_eq_some_iff.1 he).1
  have hl : ((L.take k).map Ke.v).length ≤ 4000000000000 := by simp; omega
  obtain ⟨mv', w', e1, e2, e3, e4, e5, e6⟩ := h.row.push2 v1_len v1_one (by omega) (P := Tryz.prog) 24 Tryz.underlying24 info_u64s (by omega) rfl e.v hl hB
  have K : Keep (fun b => mv.ownBlock = some b) w w' := ⟨e4.os, e4.tape, e4.output, e4.size, fun j hj hs => e5 j hj (fun q => hs q.symm)⟩
  refine ⟨mv', w', e1, ⟨?_, fun i f hi => ?_, h.small, h.apart, fun f hf b fb => ?_⟩, e4, K, e6⟩
  · rw [List.take_add_one, he, List.map_append]
    exact e2
  · obtain ⟨zs, z1, z2, z3⟩ := h.each i f hi
    exact ⟨zs, z1, z2, z3.keep K (fun a ha h0 => h.away f (List.mem_of_getElem? hi) _ (Ke.blk_of ha (by omega)))⟩
  · intro hg
    rcases e6 b hg with q | q
    · exact h.away f hf b fb q
    · have := (h.blk hf fb).2
      omega

/-- What stands while the marks are written. -/
structure K2 (C : Nat → List Int → Prop) (B : Nat) (w : World) (mv sv : Value) (L : List Ke) (i : Nat) : Prop where
  ki : KI C B w mv L L.length
  sz : Re.Ow i1 3 1 B w sv ((L.take i).map (fun e => (e.n : Int)))
  aw : ∀ e ∈ L, ∀ b, e.blk = some b → sv.ownBlock ≠ some b
  ne : ∀ b, sv.ownBlock = some b → mv.ownBlock ≠ some b
theorem K2.push {C : Nat → List Int → Prop} {B : Nat} {w : World} {mv sv : Value} {L : List Ke} {i : Nat} (h : K2 C B w mv sv L i) {e : Ke} (he : L[i]? = some e) (hL : L.length ≤ 4000000000000) (hB : B ≤ w.heap.size) :
    ∃ sv' w', (Builtin.append_ #[38, 38] 38 #[sv, .slice (some ⟨w.heap.size, 0, none⟩) 1 1]).run Tryz.prog (w.alloc (.cells #[.int .i64 (e.n : Int)] 3)) = .ok sv' w' ∧ K2 C B w' mv sv' L (i + 1) ∧ Below B w w' := by
  have hk := (List.getElem?_eq_some_iff.1 he).1
  have hl : ((L.take i).map (fun e => (e.n : Int))).length ≤ 4000000000000 := by simp; omega
  obtain ⟨sv', w', e1, e2, e3, e4, e5, e6⟩ := h.sz.push2 i1_len i1_one (by omega) (P := Tryz.prog) 38 Tryz.underlying38 info_int (by omega) rfl (e.n : Int) hl hB
  have K : Keep (fun b => sv.ownBlock = some b) w w' := ⟨e4.os, e4.tape, e4.output, e4.size, fun j hj hs => e5 j hj (fun q => hs q.symm)⟩
  refine ⟨sv', w', e1, ⟨h.ki.keep K (fun g hg hs => h.ne g hs hg) (fun f hf b fb => h.aw f hf b fb), ?_, fun f hf b fb hg => ?_, fun b hg hm => ?_⟩, e4⟩
  · rw [List.take_add_one, he, List.map_append]
    exact e2
  · rcases e6 b hg with q | q
    · exact h.aw f hf b fb q
    · have := (h.ki.blk hf fb).2
      omega
  · rcases e6 b hg with q | q
    · exact h.ne b q hm
    · have := (ow_lt h.ki.row hm).2
      omega
theorem K2.put {C : Nat → List Int → Prop} {B : Nat} {w : World} {mv sv : Value} {L : List Ke} {i : Nat} (h : K2 C B w mv sv L i) {j : Nat} {e : Ke} (hj : L[j]? = some e) {k : Nat} (hk : k < e.n) (x : Int) (C' : Nat → List Int → Prop)
    (hC : ∀ t zs, t ≠ j → C t zs → C' t zs) (hC2 : ∀ zs, zs.length = e.n → C j zs → C' j (zs.set k x)) :
    ∃ b off y, e.p = some ⟨b, off, none⟩ ∧ w.cell? ⟨b, off + k, none⟩ = some (.int .u64 y) ∧ w.frozen? ⟨b, off + k, none⟩ = false ∧ B ≤ b ∧ K2 C' B (w.setCell ⟨b, off + k, none⟩ (.int .u64 x)) mv sv L i := by
  obtain ⟨zs, z1, z2, z3⟩ := h.ki.each j e hj
  have hm := List.mem_of_getElem? hj
  rcases z3.1 with z | ⟨b, off, hp, hc⟩
  · rw [z] at z1; simp at z1; omega
  · have eb := Ke.blk_of hp (show 0 < e.n by omega)
    have fr := z3.2 _ hp (by omega)
    have K := Keep.set w b (off + k) (.int .u64 x)
    refine ⟨b, off, _, hp, hc k (by omega), fr.2 _, fr.1, ⟨⟨h.ki.row.keep K (fun g hg e => ?_), fun t f ht => ?_, h.ki.small, h.ki.apart, h.ki.away⟩, h.sz.keep K (fun g hg e => ?_), h.aw, h.ne⟩⟩
    · subst e; exact h.ki.away _ hm _ eb hg
    · by_cases q : t = j
      · subst q
        rw [hj] at ht
        cases ht
        refine ⟨zs.set k x, by rw [List.length_set]; exact z1, hC2 zs z1 z2, .inr ⟨b, off, hp, fun u hu => ?_⟩, fun a ha h0 => ?_⟩
        · rw [List.length_set] at hu
          by_cases qu : u = k
          · subst qu
            have := hc u hu
            rw [List.getD, List.getElem?_set_self (by omega)]
            simp only [World.cell?, World.setCell] at this ⊢
            rw [Array.getElem?_modify, if_pos rfl]
            cases hh : w.heap[b]? with
            | none => rw [hh] at this; simp at this
            | some o =>
              rw [hh] at this
              cases o with
              | cells c t f =>
                have q : c[off + u]? = some (.int .u64 (zs.getD u 0)) := this
                show (c.setIfInBounds (off + u) (.int .u64 x))[off + u]? = some (.int .u64 x)
                rw [Array.getElem?_setIfInBounds, if_pos rfl, if_pos (Array.getElem?_eq_some_iff.1 q).1]
              | _ => simp at this
          · have := hc u hu
            rw [List.getD, List.getElem?_set_ne (fun e => qu e.symm)]
            rw [List.getD] at this
            rw [← this]
            simp only [World.cell?, World.setCell]
            rw [Array.getElem?_modify, if_pos rfl]
            cases hh : w.heap[b]? with
            | none => rfl
            | some o =>
              have qk : ¬ k = u := fun e => qu e.symm
              cases o with
              | cells c t f => simp [qk]
              | _ => rfl
        · rw [List.length_set] at h0
          have := z3.2 a ha h0
          exact ⟨this.1, fun o => by rw [World.frozen?_setCell]; exact this.2 o⟩
      · obtain ⟨ys, y1, y2, y3⟩ := h.ki.each t f ht
        refine ⟨ys, y1, hC t ys q y2, y3.keep K (fun a ha h0 e => ?_)⟩
        have := Apart.ne h.ki.apart ht hj q (Ke.blk_of ha (by omega))
        exact this (by rw [eb, e])
    · subst e; exact h.aw _ hm _ eb hg
end Go.Proofs.YtggiioipppbedaaGreatDoor

/-
  asked and wanted: their ground (made by mkeask.py).
-/
namespace Go.Proofs.YtggiioipppbedaaGreatDoor
open Go Go.RowKit Go.Deep

/-- What a call answers. -/
structure AV where
  u : Int
  i : Int
  j : Int
  b : Bool
  neg : Bool
  c : Int
  m : Int
  x : Int
  e : Int
  zs : List Int

def ansV (a : AV) (l : Value) : Value := ansOf a.u a.i a.j a.b a.neg a.c a.m a.x l a.e

/-- An answer, told. -/
def AnsTold (Q : AV → Prop) (w : World) (r : Ending) (w' : World) : Prop := ∃ a pl, r = .returned (ansV a (.slice pl a.zs.length a.zs.length)) ∧ Q a ∧ (Nm.Limbs a.zs ∧ a.zs.length ≤ 17592186044000) ∧ Ls w.heap.size w' pl a.zs ∧ Below w.heap.size w w'

theorem lim_nil : Nm.Limbs ([] : List Int) ∧ ([] : List Int).length ≤ 17592186044000 := ⟨Nm.Limbs.nil, by simp⟩
theorem ls_nil (H : Nat) (w : World) : Ls H w none [] := ⟨Lies.nil _ _, fun a ha => by cases ha⟩
theorem Ans.ls {B : Nat} {w : World} {p : Option Addr} {ys : List Int} {n : Int} (h : Ans B w p ys n) : Ls B w p ys := ⟨h.1, fun a ha h0 => ⟨(h.2.2.2.2 a ha).1, (h.2.2.2.2 a ha).2 h0⟩⟩

theorem Ans.upE {B B' : Nat} {w : World} {p : Option Addr} {ys : List Int} {n : Int} (h : Ans B w p ys n) (hB : B' ≤ B) : Ans B' w p ys n :=
  ⟨h.1, h.2.1, h.2.2.1, h.2.2.2.1, fun a ha => ⟨Nat.le_trans hB (h.2.2.2.2 a ha).1, (h.2.2.2.2 a ha).2⟩⟩

theorem Ans.setF {B : Nat} {w : World} {p : Option Addr} {os : List Int} {v : Int} (h : Ans B w p os v) {b o : Nat} (hb : b < B) (u : Value) : Ans B (w.setCell ⟨b, o, none⟩ u) p os v := by
  obtain ⟨h1, h2, h3, h4, h5⟩ := h
  refine ⟨?_, h2, h3, h4, fun a ha => ⟨(h5 a ha).1, fun h0 o => by rw [World.frozen?_setCell]; exact (h5 a ha).2 h0 o⟩⟩
  rcases h1 with c | ⟨b', off, hp, hc⟩
  · exact .inl c
  · refine .inr ⟨b', off, hp, fun i hi => ?_⟩
    have hge := (h5 _ hp).1
    have := hc i hi
    have ne : b ≠ b' := by
      intro e
      subst e
      exact absurd hge (by simpa using hb)
    rw [World.cell?] at this ⊢
    simp only [World.setCell, Array.getElem?_modify]
    rw [if_neg ne]
    exact this
end Go.Proofs.YtggiioipppbedaaGreatDoor

/-
  asked and wanted: kinds 1 to 3 (made by mkeask.py).
-/
namespace Go.Proofs.YtggiioipppbedaaGreatDoor
open Go Go.RowKit Go.Deep

set_option maxRecDepth 100000 in
set_option maxHeartbeats 4000000 in
theorem easked1 (X Y I : Int) (pn : Bool) (pc pm px : Int) (neg : Bool) (p q : Option Addr) (n k cap cap' : Nat) (ex : Int) (more : Bool) (w : World) (Q : Bool → Int → Int → Int → Prop)
    (H : ∀ wx : World, Below w.heap.size w wx → Calls Tryz.prog 12 #[.int .u64 X] wx fun r w' => ∃ (a : Bool) (c m x : Int), r = .returned (partsOf a c m x) ∧ Q a c m x ∧ Below wx.heap.size wx w') :
    Calls Tryz.prog 8 #[opOf 1 X Y I pn pc pm px neg (.slice p n cap) (.slice q k cap') ex more] w fun r w' => ∃ (a : Bool) (c m x : Int), r = .returned (ansOf 0 0 0 false a c m x (.slice none 0 0) 0) ∧ Q a c m x ∧ Below w.heap.size w w' := by
  simp only [opOf, ansOf]
  have H := hid H
  go_enter Tryz.func8, Tryz.ntmps8
  go_wp2_with fail
  refine (H.out _ (alloc3_below _ _ _ _)).mono ?_
  rintro r w' ⟨a, c, m, x, rfl, hQ, hw⟩
  obtain ⟨g2, g3⟩ := mid_kept hw
  obtain ⟨⟨a0, a1, a2, a3, a4, a5, a6, a7, a8, a9⟩, af⟩ := row_cells g2
  obtain ⟨⟨b0, b1, b2, b3, b4, b5, b6, b7, b8, b9⟩, bf⟩ := row_cells g3
  have af0 := af 0
  have bf0 := bf 0
  have af1 := af 1
  have bf1 := bf 1
  have af2 := af 2
  have bf2 := bf 2
  have af3 := af 3
  have bf3 := bf 3
  have af4 := af 4
  have bf4 := bf 4
  have af5 := af 5
  have bf5 := bf 5
  have af6 := af 6
  have bf6 := bf 6
  have af7 := af 7
  have bf7 := bf 7
  have af8 := af 8
  have bf8 := bf 8
  have af9 := af 9
  have bf9 := bf 9
  simp only [partsOf]
  have HB := hid ((alloc3_below _ _ _ _).trans (hw.mono (alloc3_below _ _ _ _).size))
  have G2 := hid g2
  have HQ := hid hQ
  clear H hw g2 g3 af bf hQ
  go_wp2_with fail
  (try simp only [Exit.inBlock, Exit.then])
  refine bodyPost_ret (results_cell_row rfl _ _ (w.heap.size + 1) 34 _ (0, 0) _ rfl (set_row10 (by repeat (first | (with_reducible exact G2.out) | (with_reducible refine set_far ?_ (by omega))))) Tryz.underlying34 rfl (by kernel_rfl)) rfl ?_
  exact ⟨a, c, m, x, rfl, HQ.out, by repeat (first | (with_reducible exact HB.out) | (with_reducible refine set_below ?_ (by omega)))⟩

set_option maxRecDepth 100000 in
set_option maxHeartbeats 4000000 in
theorem ewanted1 (X Y I : Int) (pn : Bool) (pc pm px : Int) (neg : Bool) (p q : Option Addr) (n k cap cap' : Nat) (ex : Int) (more : Bool) (w : World) (Q : Bool → Int → Int → Int → Prop)
    (H : ∀ wx : World, Below w.heap.size w wx → Calls Tryz.prog 14 #[.int .u64 X] wx fun r w' => ∃ (a : Bool) (c m x : Int), r = .returned (partsOf a c m x) ∧ Q a c m x ∧ Below wx.heap.size wx w') :
    Calls Tryz.prog 7 #[opOf 1 X Y I pn pc pm px neg (.slice p n cap) (.slice q k cap') ex more] w fun r w' => ∃ (a : Bool) (c m x : Int), r = .returned (ansOf 0 0 0 false a c m x (.slice none 0 0) 0) ∧ Q a c m x ∧ Below w.heap.size w w' := by
  simp only [opOf, ansOf]
  have H := hid H
  go_enter Tryz.func7, Tryz.ntmps7
  go_wp2_with fail
  refine (H.out _ (alloc3_below _ _ _ _)).mono ?_
  rintro r w' ⟨a, c, m, x, rfl, hQ, hw⟩
  obtain ⟨g2, g3⟩ := mid_kept hw
  obtain ⟨⟨a0, a1, a2, a3, a4, a5, a6, a7, a8, a9⟩, af⟩ := row_cells g2
  obtain ⟨⟨b0, b1, b2, b3, b4, b5, b6, b7, b8, b9⟩, bf⟩ := row_cells g3
  have af0 := af 0
  have bf0 := bf 0
  have af1 := af 1
  have bf1 := bf 1
  have af2 := af 2
  have bf2 := bf 2
  have af3 := af 3
  have bf3 := bf 3
  have af4 := af 4
  have bf4 := bf 4
  have af5 := af 5
  have bf5 := bf 5
  have af6 := af 6
  have bf6 := bf 6
  have af7 := af 7
  have bf7 := bf 7
  have af8 := af 8
  have bf8 := bf 8
  have af9 := af 9
  have bf9 := bf 9
  simp only [partsOf]
  have HB := hid ((alloc3_below _ _ _ _).trans (hw.mono (alloc3_below _ _ _ _).size))
  have G2 := hid g2
  have HQ := hid hQ
  clear H hw g2 g3 af bf hQ
  go_wp2_with fail
  (try simp only [Exit.inBlock, Exit.then])
  refine bodyPost_ret (results_cell_row rfl _ _ (w.heap.size + 1) 34 _ (0, 0) _ rfl (set_row10 (by repeat (first | (with_reducible exact G2.out) | (with_reducible refine set_far ?_ (by omega))))) Tryz.underlying34 rfl (by kernel_rfl)) rfl ?_
  exact ⟨a, c, m, x, rfl, HQ.out, by repeat (first | (with_reducible exact HB.out) | (with_reducible refine set_below ?_ (by omega)))⟩

set_option maxRecDepth 100000 in
set_option maxHeartbeats 4000000 in
theorem easked2 (X Y I : Int) (pn : Bool) (pc pm px : Int) (neg : Bool) (p q : Option Addr) (n k cap cap' : Nat) (ex : Int) (more : Bool) (w : World) (Q : Int → Int → Prop)
    (H : ∀ wx : World, Below w.heap.size w wx → Calls Tryz.prog 32 #[partsOf pn pc pm px] wx fun r w' => ∃ U E : Int, r = .returned (.tuple #[.int .u64 U, .int .i64 E]) ∧ Q U E ∧ Below wx.heap.size wx w') :
    Calls Tryz.prog 8 #[opOf 2 X Y I pn pc pm px neg (.slice p n cap) (.slice q k cap') ex more] w fun r w' => ∃ U E : Int, r = .returned (ansOf U 0 0 false false 0 0 0 (.slice none 0 0) E) ∧ Q U E ∧ Below w.heap.size w w' := by
  simp only [opOf, ansOf]
  have H := hid H
  go_enter Tryz.func8, Tryz.ntmps8
  go_wp2_with fail
  refine (H.out _ (alloc3_below _ _ _ _)).mono ?_
  rintro r w' ⟨U, E, rfl, hQ, hw⟩
  obtain ⟨g2, g3⟩ := mid_kept hw
  obtain ⟨⟨a0, a1, a2, a3, a4, a5, a6, a7, a8, a9⟩, af⟩ := row_cells g2
  obtain ⟨⟨b0, b1, b2, b3, b4, b5, b6, b7, b8, b9⟩, bf⟩ := row_cells g3
  have af0 := af 0
  have bf0 := bf 0
  have af1 := af 1
  have bf1 := bf 1
  have af2 := af 2
  have bf2 := bf 2
  have af3 := af 3
  have bf3 := bf 3
  have af4 := af 4
  have bf4 := bf 4
  have af5 := af 5
  have bf5 := bf 5
  have af6 := af 6
  have bf6 := bf 6
  have af7 := af 7
  have bf7 := bf 7
  have af8 := af 8
  have bf8 := bf 8
  have af9 := af 9
  have bf9 := bf 9
  have HB := hid ((alloc3_below _ _ _ _).trans (hw.mono (alloc3_below _ _ _ _).size))
  have G2 := hid g2
  have HQ := hid hQ
  clear H hw g2 g3 af bf hQ
  go_wp2_with fail
  (try simp only [Exit.inBlock, Exit.then])
  refine bodyPost_ret (results_cell_row rfl _ _ (w.heap.size + 1) 34 _ (0, 0) _ rfl (set_row10 (by repeat (first | (with_reducible exact G2.out) | (with_reducible refine set_far ?_ (by omega))))) Tryz.underlying34 rfl (by kernel_rfl)) rfl ?_
  exact ⟨U, E, rfl, HQ.out, by repeat (first | (with_reducible exact HB.out) | (with_reducible refine set_below ?_ (by omega)))⟩

set_option maxRecDepth 100000 in
set_option maxHeartbeats 4000000 in
theorem ewanted2 (X Y I : Int) (pn : Bool) (pc pm px : Int) (neg : Bool) (p q : Option Addr) (n k cap cap' : Nat) (ex : Int) (more : Bool) (w : World) (Q : Int → Int → Prop)
    (H : ∀ wx : World, Below w.heap.size w wx → Calls Tryz.prog 15 #[partsOf pn pc pm px] wx fun r w' => ∃ U E : Int, r = .returned (.tuple #[.int .u64 U, .int .i64 E]) ∧ Q U E ∧ Below wx.heap.size wx w') :
    Calls Tryz.prog 7 #[opOf 2 X Y I pn pc pm px neg (.slice p n cap) (.slice q k cap') ex more] w fun r w' => ∃ U E : Int, r = .returned (ansOf U 0 0 false false 0 0 0 (.slice none 0 0) E) ∧ Q U E ∧ Below w.heap.size w w' := by
  simp only [opOf, ansOf]
  have H := hid H
  go_enter Tryz.func7, Tryz.ntmps7
  go_wp2_with fail
  refine (H.out _ (alloc3_below _ _ _ _)).mono ?_
  rintro r w' ⟨U, E, rfl, hQ, hw⟩
  obtain ⟨g2, g3⟩ := mid_kept hw
  obtain ⟨⟨a0, a1, a2, a3, a4, a5, a6, a7, a8, a9⟩, af⟩ := row_cells g2
  obtain ⟨⟨b0, b1, b2, b3, b4, b5, b6, b7, b8, b9⟩, bf⟩ := row_cells g3
  have af0 := af 0
  have bf0 := bf 0
  have af1 := af 1
  have bf1 := bf 1
  have af2 := af 2
  have bf2 := bf 2
  have af3 := af 3
  have bf3 := bf 3
  have af4 := af 4
  have bf4 := bf 4
  have af5 := af 5
  have bf5 := bf 5
  have af6 := af 6
  have bf6 := bf 6
  have af7 := af 7
  have bf7 := bf 7
  have af8 := af 8
  have bf8 := bf 8
  have af9 := af 9
  have bf9 := bf 9
  have HB := hid ((alloc3_below _ _ _ _).trans (hw.mono (alloc3_below _ _ _ _).size))
  have G2 := hid g2
  have HQ := hid hQ
  clear H hw g2 g3 af bf hQ
  go_wp2_with fail
  (try simp only [Exit.inBlock, Exit.then])
  refine bodyPost_ret (results_cell_row rfl _ _ (w.heap.size + 1) 34 _ (0, 0) _ rfl (set_row10 (by repeat (first | (with_reducible exact G2.out) | (with_reducible refine set_far ?_ (by omega))))) Tryz.underlying34 rfl (by kernel_rfl)) rfl ?_
  exact ⟨U, E, rfl, HQ.out, by repeat (first | (with_reducible exact HB.out) | (with_reducible refine set_below ?_ (by omega)))⟩

set_option maxRecDepth 100000 in
set_option maxHeartbeats 4000000 in
theorem easked3 (X Y I : Int) (pn : Bool) (pc pm px : Int) (neg : Bool) (p q : Option Addr) (n k cap cap' : Nat) (ex : Int) (more : Bool) (w : World) (Q : Int → Prop)
    (H : ∀ wx : World, Below w.heap.size w wx → Calls Tryz.prog 33 #[.int .u64 X] wx fun r w' => ∃ V : Int, r = .returned (.int .i64 V) ∧ Q V ∧ Below wx.heap.size wx w') :
    Calls Tryz.prog 8 #[opOf 3 X Y I pn pc pm px neg (.slice p n cap) (.slice q k cap') ex more] w fun r w' => ∃ V : Int, r = .returned (ansOf 0 V 0 false false 0 0 0 (.slice none 0 0) 0) ∧ Q V ∧ Below w.heap.size w w' := by
  simp only [opOf, ansOf]
  have H := hid H
  go_enter Tryz.func8, Tryz.ntmps8
  go_wp2_with fail
  refine (H.out _ (alloc3_below _ _ _ _)).mono ?_
  rintro r w' ⟨V, rfl, hQ, hw⟩
  obtain ⟨g2, g3⟩ := mid_kept hw
  obtain ⟨⟨a0, a1, a2, a3, a4, a5, a6, a7, a8, a9⟩, af⟩ := row_cells g2
  obtain ⟨⟨b0, b1, b2, b3, b4, b5, b6, b7, b8, b9⟩, bf⟩ := row_cells g3
  have af0 := af 0
  have bf0 := bf 0
  have af1 := af 1
  have bf1 := bf 1
  have af2 := af 2
  have bf2 := bf 2
  have af3 := af 3
  have bf3 := bf 3
  have af4 := af 4
  have bf4 := bf 4
  have af5 := af 5
  have bf5 := bf 5
  have af6 := af 6
  have bf6 := bf 6
  have af7 := af 7
  have bf7 := bf 7
  have af8 := af 8
  have bf8 := bf 8
  have af9 := af 9
  have bf9 := bf 9
  have HB := hid ((alloc3_below _ _ _ _).trans (hw.mono (alloc3_below _ _ _ _).size))
  have G2 := hid g2
  have HQ := hid hQ
  clear H hw g2 g3 af bf hQ
  go_wp2_with fail
  (try simp only [Exit.inBlock, Exit.then])
  refine bodyPost_ret (results_cell_row rfl _ _ (w.heap.size + 1) 34 _ (0, 0) _ rfl (set_row10 (by repeat (first | (with_reducible exact G2.out) | (with_reducible refine set_far ?_ (by omega))))) Tryz.underlying34 rfl (by kernel_rfl)) rfl ?_
  exact ⟨V, rfl, HQ.out, by repeat (first | (with_reducible exact HB.out) | (with_reducible refine set_below ?_ (by omega)))⟩

set_option maxRecDepth 100000 in
set_option maxHeartbeats 4000000 in
theorem ewanted3 (X Y I : Int) (pn : Bool) (pc pm px : Int) (neg : Bool) (p q : Option Addr) (n k cap cap' : Nat) (ex : Int) (more : Bool) (w : World) (Q : Int → Prop)
    (H : ∀ wx : World, Below w.heap.size w wx → Calls Tryz.prog 16 #[.int .u64 X] wx fun r w' => ∃ V : Int, r = .returned (.int .i64 V) ∧ Q V ∧ Below wx.heap.size wx w') :
    Calls Tryz.prog 7 #[opOf 3 X Y I pn pc pm px neg (.slice p n cap) (.slice q k cap') ex more] w fun r w' => ∃ V : Int, r = .returned (ansOf 0 V 0 false false 0 0 0 (.slice none 0 0) 0) ∧ Q V ∧ Below w.heap.size w w' := by
  simp only [opOf, ansOf]
  have H := hid H
  go_enter Tryz.func7, Tryz.ntmps7
  go_wp2_with fail
  refine (H.out _ (alloc3_below _ _ _ _)).mono ?_
  rintro r w' ⟨V, rfl, hQ, hw⟩
  obtain ⟨g2, g3⟩ := mid_kept hw
  obtain ⟨⟨a0, a1, a2, a3, a4, a5, a6, a7, a8, a9⟩, af⟩ := row_cells g2
  obtain ⟨⟨b0, b1, b2, b3, b4, b5, b6, b7, b8, b9⟩, bf⟩ := row_cells g3
  have af0 := af 0
  have bf0 := bf 0
  have af1 := af 1
  have bf1 := bf 1
  have af2 := af 2
  have bf2 := bf 2
  have af3 := af 3
  have bf3 := bf 3
  have af4 := af 4
  have bf4 := bf 4
  have af5 := af 5
  have bf5 := bf 5
  have af6 := af 6
  have bf6 := bf 6
  have af7 := af 7
  have bf7 := bf 7
  have af8 := af 8
  have bf8 := bf 8
  have af9 := af 9
  have bf9 := bf 9
  have HB := hid ((alloc3_below _ _ _ _).trans (hw.mono (alloc3_below _ _ _ _).size))
  have G2 := hid g2
  have HQ := hid hQ
  clear H hw g2 g3 af bf hQ
  go_wp2_with fail
  (try simp only [Exit.inBlock, Exit.then])
  refine bodyPost_ret (results_cell_row rfl _ _ (w.heap.size + 1) 34 _ (0, 0) _ rfl (set_row10 (by repeat (first | (with_reducible exact G2.out) | (with_reducible refine set_far ?_ (by omega))))) Tryz.underlying34 rfl (by kernel_rfl)) rfl ?_
  exact ⟨V, rfl, HQ.out, by repeat (first | (with_reducible exact HB.out) | (with_reducible refine set_below ?_ (by omega)))⟩

end Go.Proofs.YtggiioipppbedaaGreatDoor

/-
  asked and wanted: kinds 4 to 6 (made by mkeask.py).
-/
namespace Go.Proofs.YtggiioipppbedaaGreatDoor
open Go Go.RowKit Go.Deep

set_option maxRecDepth 100000 in
set_option maxHeartbeats 4000000 in
theorem easked4 (X Y I : Int) (pn : Bool) (pc pm px : Int) (neg : Bool) (p q : Option Addr) (n k cap cap' : Nat) (ex : Int) (more : Bool) (w : World) (Q : Int → Prop)
    (H : ∀ wx : World, Below w.heap.size w wx → Calls Tryz.prog 34 #[.int .u64 X] wx fun r w' => ∃ U : Int, r = .returned (.int .u64 U) ∧ Q U ∧ Below wx.heap.size wx w') :
    Calls Tryz.prog 8 #[opOf 4 X Y I pn pc pm px neg (.slice p n cap) (.slice q k cap') ex more] w fun r w' => ∃ U : Int, r = .returned (ansOf U 0 0 false false 0 0 0 (.slice none 0 0) 0) ∧ Q U ∧ Below w.heap.size w w' := by
  simp only [opOf, ansOf]
  have H := hid H
  go_enter Tryz.func8, Tryz.ntmps8
  go_wp2_with fail
  refine (H.out _ (alloc3_below _ _ _ _)).mono ?_
  rintro r w' ⟨U, rfl, hQ, hw⟩
  obtain ⟨g2, g3⟩ := mid_kept hw
  obtain ⟨⟨a0, a1, a2, a3, a4, a5, a6, a7, a8, a9⟩, af⟩ := row_cells g2
  obtain ⟨⟨b0, b1, b2, b3, b4, b5, b6, b7, b8, b9⟩, bf⟩ := row_cells g3
  have af0 := af 0
  have bf0 := bf 0
  have af1 := af 1
  have bf1 := bf 1
  have af2 := af 2
  have bf2 := bf 2
  have af3 := af 3
  have bf3 := bf 3
  have af4 := af 4
  have bf4 := bf 4
  have af5 := af 5
  have bf5 := bf 5
  have af6 := af 6
  have bf6 := bf 6
  have af7 := af 7
  have bf7 := bf 7
  have af8 := af 8
  have bf8 := bf 8
  have af9 := af 9
  have bf9 := bf 9
  have HB := hid ((alloc3_below _ _ _ _).trans (hw.mono (alloc3_below _ _ _ _).size))
  have G2 := hid g2
  have HQ := hid hQ
  clear H hw g2 g3 af bf hQ
  go_wp2_with fail
  (try simp only [Exit.inBlock, Exit.then])
  refine bodyPost_ret (results_cell_row rfl _ _ (w.heap.size + 1) 34 _ (0, 0) _ rfl (set_row10 (by repeat (first | (with_reducible exact G2.out) | (with_reducible refine set_far ?_ (by omega))))) Tryz.underlying34 rfl (by kernel_rfl)) rfl ?_
  exact ⟨U, rfl, HQ.out, by repeat (first | (with_reducible exact HB.out) | (with_reducible refine set_below ?_ (by omega)))⟩

set_option maxRecDepth 100000 in
set_option maxHeartbeats 4000000 in
theorem ewanted4 (X Y I : Int) (pn : Bool) (pc pm px : Int) (neg : Bool) (p q : Option Addr) (n k cap cap' : Nat) (ex : Int) (more : Bool) (w : World) (Q : Int → Prop)
    (H : ∀ wx : World, Below w.heap.size w wx → Calls Tryz.prog 17 #[.int .u64 X] wx fun r w' => ∃ U : Int, r = .returned (.int .u64 U) ∧ Q U ∧ Below wx.heap.size wx w') :
    Calls Tryz.prog 7 #[opOf 4 X Y I pn pc pm px neg (.slice p n cap) (.slice q k cap') ex more] w fun r w' => ∃ U : Int, r = .returned (ansOf U 0 0 false false 0 0 0 (.slice none 0 0) 0) ∧ Q U ∧ Below w.heap.size w w' := by
  simp only [opOf, ansOf]
  have H := hid H
  go_enter Tryz.func7, Tryz.ntmps7
  go_wp2_with fail
  refine (H.out _ (alloc3_below _ _ _ _)).mono ?_
  rintro r w' ⟨U, rfl, hQ, hw⟩
  obtain ⟨g2, g3⟩ := mid_kept hw
  obtain ⟨⟨a0, a1, a2, a3, a4, a5, a6, a7, a8, a9⟩, af⟩ := row_cells g2
  obtain ⟨⟨b0, b1, b2, b3, b4, b5, b6, b7, b8, b9⟩, bf⟩ := row_cells g3
  have af0 := af 0
  have bf0 := bf 0
  have af1 := af 1
  have bf1 := bf 1
  have af2 := af 2
  have bf2 := bf 2
  have af3 := af 3
  have bf3 := bf 3
  have af4 := af 4
  have bf4 := bf 4
  have af5 := af 5
  have bf5 := bf 5
  have af6 := af 6
  have bf6 := bf 6
  have af7 := af 7
  have bf7 := bf 7
  have af8 := af 8
  have bf8 := bf 8
  have af9 := af 9
  have bf9 := bf 9
  have HB := hid ((alloc3_below _ _ _ _).trans (hw.mono (alloc3_below _ _ _ _).size))
  have G2 := hid g2
  have HQ := hid hQ
  clear H hw g2 g3 af bf hQ
  go_wp2_with fail
  (try simp only [Exit.inBlock, Exit.then])
  refine bodyPost_ret (results_cell_row rfl _ _ (w.heap.size + 1) 34 _ (0, 0) _ rfl (set_row10 (by repeat (first | (with_reducible exact G2.out) | (with_reducible refine set_far ?_ (by omega))))) Tryz.underlying34 rfl (by kernel_rfl)) rfl ?_
  exact ⟨U, rfl, HQ.out, by repeat (first | (with_reducible exact HB.out) | (with_reducible refine set_below ?_ (by omega)))⟩

set_option maxRecDepth 100000 in
set_option maxHeartbeats 4000000 in
theorem easked5 (X Y I : Int) (pn : Bool) (pc pm px : Int) (neg : Bool) (p q : Option Addr) (n k cap cap' : Nat) (ex : Int) (more : Bool) (w : World) (Q : Int → Prop)
    (H : ∀ wx : World, Below w.heap.size w wx → Calls Tryz.prog 35 #[.int .u64 X] wx fun r w' => ∃ U : Int, r = .returned (.int .u64 U) ∧ Q U ∧ Below wx.heap.size wx w') :
    Calls Tryz.prog 8 #[opOf 5 X Y I pn pc pm px neg (.slice p n cap) (.slice q k cap') ex more] w fun r w' => ∃ U : Int, r = .returned (ansOf U 0 0 false false 0 0 0 (.slice none 0 0) 0) ∧ Q U ∧ Below w.heap.size w w' := by
  simp only [opOf, ansOf]
  have H := hid H
  go_enter Tryz.func8, Tryz.ntmps8
  go_wp2_with fail
  refine (H.out _ (alloc3_below _ _ _ _)).mono ?_
  rintro r w' ⟨U, rfl, hQ, hw⟩
  obtain ⟨g2, g3⟩ := mid_kept hw
  obtain ⟨⟨a0, a1, a2, a3, a4, a5, a6, a7, a8, a9⟩, af⟩ := row_cells g2
  obtain ⟨⟨b0, b1, b2, b3, b4, b5, b6, b7, b8, b9⟩, bf⟩ := row_cells g3
  have af0 := af 0
  have bf0 := bf 0
  have af1 := af 1
  have bf1 := bf 1
  have af2 := af 2
  have bf2 := bf 2
  have af3 := af 3
  have bf3 := bf 3
  have af4 := af 4
  have bf4 := bf 4
  have af5 := af 5
  have bf5 := bf 5
  have af6 := af 6
  have bf6 := bf 6
  have af7 := af 7
  have bf7 := bf 7
  have af8 := af 8
  have bf8 := bf 8
  have af9 := af 9
  have bf9 := bf 9
  have HB := hid ((alloc3_below _ _ _ _).trans (hw.mono (alloc3_below _ _ _ _).size))
  have G2 := hid g2
  have HQ := hid hQ
  clear H hw g2 g3 af bf hQ
  go_wp2_with fail
  (try simp only [Exit.inBlock, Exit.then])
  refine bodyPost_ret (results_cell_row rfl _ _ (w.heap.size + 1) 34 _ (0, 0) _ rfl (set_row10 (by repeat (first | (with_reducible exact G2.out) | (with_reducible refine set_far ?_ (by omega))))) Tryz.underlying34 rfl (by kernel_rfl)) rfl ?_
  exact ⟨U, rfl, HQ.out, by repeat (first | (with_reducible exact HB.out) | (with_reducible refine set_below ?_ (by omega)))⟩

set_option maxRecDepth 100000 in
set_option maxHeartbeats 4000000 in
theorem ewanted5 (X Y I : Int) (pn : Bool) (pc pm px : Int) (neg : Bool) (p q : Option Addr) (n k cap cap' : Nat) (ex : Int) (more : Bool) (w : World) (Q : Int → Prop)
    (H : ∀ wx : World, Below w.heap.size w wx → Calls Tryz.prog 18 #[.int .u64 X] wx fun r w' => ∃ U : Int, r = .returned (.int .u64 U) ∧ Q U ∧ Below wx.heap.size wx w') :
    Calls Tryz.prog 7 #[opOf 5 X Y I pn pc pm px neg (.slice p n cap) (.slice q k cap') ex more] w fun r w' => ∃ U : Int, r = .returned (ansOf U 0 0 false false 0 0 0 (.slice none 0 0) 0) ∧ Q U ∧ Below w.heap.size w w' := by
  simp only [opOf, ansOf]
  have H := hid H
  go_enter Tryz.func7, Tryz.ntmps7
  go_wp2_with fail
  refine (H.out _ (alloc3_below _ _ _ _)).mono ?_
  rintro r w' ⟨U, rfl, hQ, hw⟩
  obtain ⟨g2, g3⟩ := mid_kept hw
  obtain ⟨⟨a0, a1, a2, a3, a4, a5, a6, a7, a8, a9⟩, af⟩ := row_cells g2
  obtain ⟨⟨b0, b1, b2, b3, b4, b5, b6, b7, b8, b9⟩, bf⟩ := row_cells g3
  have af0 := af 0
  have bf0 := bf 0
  have af1 := af 1
  have bf1 := bf 1
  have af2 := af 2
  have bf2 := bf 2
  have af3 := af 3
  have bf3 := bf 3
  have af4 := af 4
  have bf4 := bf 4
  have af5 := af 5
  have bf5 := bf 5
  have af6 := af 6
  have bf6 := bf 6
  have af7 := af 7
  have bf7 := bf 7
  have af8 := af 8
  have bf8 := bf 8
  have af9 := af 9
  have bf9 := bf 9
  have HB := hid ((alloc3_below _ _ _ _).trans (hw.mono (alloc3_below _ _ _ _).size))
  have G2 := hid g2
  have HQ := hid hQ
  clear H hw g2 g3 af bf hQ
  go_wp2_with fail
  (try simp only [Exit.inBlock, Exit.then])
  refine bodyPost_ret (results_cell_row rfl _ _ (w.heap.size + 1) 34 _ (0, 0) _ rfl (set_row10 (by repeat (first | (with_reducible exact G2.out) | (with_reducible refine set_far ?_ (by omega))))) Tryz.underlying34 rfl (by kernel_rfl)) rfl ?_
  exact ⟨U, rfl, HQ.out, by repeat (first | (with_reducible exact HB.out) | (with_reducible refine set_below ?_ (by omega)))⟩

set_option maxRecDepth 100000 in
set_option maxHeartbeats 4000000 in
theorem easked6 (X Y I : Int) (pn : Bool) (pc pm px : Int) (neg : Bool) (p q : Option Addr) (n k cap cap' : Nat) (ex : Int) (more : Bool) (w : World) (Q : Int → Bool → Prop)
    (H : ∀ wx : World, Below w.heap.size w wx → Calls Tryz.prog 36 #[.int .u64 X, .int .u64 Y] wx fun r w' => ∃ (V : Int) (B : Bool), r = .returned (.tuple #[.int .i64 V, .bool B]) ∧ Q V B ∧ Below wx.heap.size wx w') :
    Calls Tryz.prog 8 #[opOf 6 X Y I pn pc pm px neg (.slice p n cap) (.slice q k cap') ex more] w fun r w' => ∃ (V : Int) (B : Bool), r = .returned (ansOf 0 V 0 B false 0 0 0 (.slice none 0 0) 0) ∧ Q V B ∧ Below w.heap.size w w' := by
  simp only [opOf, ansOf]
  have H := hid H
  go_enter Tryz.func8, Tryz.ntmps8
  go_wp2_with fail
  refine (H.out _ (alloc3_below _ _ _ _)).mono ?_
  rintro r w' ⟨V, B, rfl, hQ, hw⟩
  obtain ⟨g2, g3⟩ := mid_kept hw
  obtain ⟨⟨a0, a1, a2, a3, a4, a5, a6, a7, a8, a9⟩, af⟩ := row_cells g2
  obtain ⟨⟨b0, b1, b2, b3, b4, b5, b6, b7, b8, b9⟩, bf⟩ := row_cells g3
  have af0 := af 0
  have bf0 := bf 0
  have af1 := af 1
  have bf1 := bf 1
  have af2 := af 2
  have bf2 := bf 2
  have af3 := af 3
  have bf3 := bf 3
  have af4 := af 4
  have bf4 := bf 4
  have af5 := af 5
  have bf5 := bf 5
  have af6 := af 6
  have bf6 := bf 6
  have af7 := af 7
  have bf7 := bf 7
  have af8 := af 8
  have bf8 := bf 8
  have af9 := af 9
  have bf9 := bf 9
  have HB := hid ((alloc3_below _ _ _ _).trans (hw.mono (alloc3_below _ _ _ _).size))
  have G2 := hid g2
  have HQ := hid hQ
  clear H hw g2 g3 af bf hQ
  go_wp2_with fail
  (try simp only [Exit.inBlock, Exit.then])
  refine bodyPost_ret (results_cell_row rfl _ _ (w.heap.size + 1) 34 _ (0, 0) _ rfl (set_row10 (by repeat (first | (with_reducible exact G2.out) | (with_reducible refine set_far ?_ (by omega))))) Tryz.underlying34 rfl (by kernel_rfl)) rfl ?_
  exact ⟨V, B, rfl, HQ.out, by repeat (first | (with_reducible exact HB.out) | (with_reducible refine set_below ?_ (by omega)))⟩

set_option maxRecDepth 100000 in
set_option maxHeartbeats 4000000 in
theorem ewanted6 (X Y I : Int) (pn : Bool) (pc pm px : Int) (neg : Bool) (p q : Option Addr) (n k cap cap' : Nat) (ex : Int) (more : Bool) (w : World) (Q : Int → Bool → Prop)
    (H : ∀ wx : World, Below w.heap.size w wx → Calls Tryz.prog 19 #[.int .u64 X, .int .u64 Y] wx fun r w' => ∃ (V : Int) (B : Bool), r = .returned (.tuple #[.int .i64 V, .bool B]) ∧ Q V B ∧ Below wx.heap.size wx w') :
    Calls Tryz.prog 7 #[opOf 6 X Y I pn pc pm px neg (.slice p n cap) (.slice q k cap') ex more] w fun r w' => ∃ (V : Int) (B : Bool), r = .returned (ansOf 0 V 0 B false 0 0 0 (.slice none 0 0) 0) ∧ Q V B ∧ Below w.heap.size w w' := by
  simp only [opOf, ansOf]
  have H := hid H
  go_enter Tryz.func7, Tryz.ntmps7
  go_wp2_with fail
  refine (H.out _ (alloc3_below _ _ _ _)).mono ?_
  rintro r w' ⟨V, B, rfl, hQ, hw⟩
  obtain ⟨g2, g3⟩ := mid_kept hw
  obtain ⟨⟨a0, a1, a2, a3, a4, a5, a6, a7, a8, a9⟩, af⟩ := row_cells g2
  obtain ⟨⟨b0, b1, b2, b3, b4, b5, b6, b7, b8, b9⟩, bf⟩ := row_cells g3
  have af0 := af 0
  have bf0 := bf 0
  have af1 := af 1
  have bf1 := bf 1
  have af2 := af 2
  have bf2 := bf 2
  have af3 := af 3
  have bf3 := bf 3
  have af4 := af 4
  have bf4 := bf 4
  have af5 := af 5
  have bf5 := bf 5
  have af6 := af 6
  have bf6 := bf 6
  have af7 := af 7
  have bf7 := bf 7
  have af8 := af 8
  have bf8 := bf 8
  have af9 := af 9
  have bf9 := bf 9
  have HB := hid ((alloc3_below _ _ _ _).trans (hw.mono (alloc3_below _ _ _ _).size))
  have G2 := hid g2
  have HQ := hid hQ
  clear H hw g2 g3 af bf hQ
  go_wp2_with fail
  (try simp only [Exit.inBlock, Exit.then])
  refine bodyPost_ret (results_cell_row rfl _ _ (w.heap.size + 1) 34 _ (0, 0) _ rfl (set_row10 (by repeat (first | (with_reducible exact G2.out) | (with_reducible refine set_far ?_ (by omega))))) Tryz.underlying34 rfl (by kernel_rfl)) rfl ?_
  exact ⟨V, B, rfl, HQ.out, by repeat (first | (with_reducible exact HB.out) | (with_reducible refine set_below ?_ (by omega)))⟩

end Go.Proofs.YtggiioipppbedaaGreatDoor
