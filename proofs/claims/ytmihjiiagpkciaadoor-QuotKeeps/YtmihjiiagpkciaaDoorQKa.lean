/-
  QuotKeeps: marks; lists with room behind them: roomy, kept, turn.
-/
import Derived.Test.YtmihjiiagpkciaaDoorQMemG
import Derived.Test.YtmihjiiagpkciaaDoorShA
import Derived.Test.YtmihjiiagpkciaaDoorWalk1
import Derived.BigQuiet
import Derived.Deep.RegionHeld3
import Derived.Deep.CutRange
import Derived.Deep.CutBlock
namespace Go.Proofs.YtmihjiiagpkciaaDoor
open Go Go.RowKit Go.Deep

namespace Qk
def mk (i j : Nat) : Int := 14051230837395947520 + (i : Int) * 1000003 + (j : Int)
def sp (i : Nat) : Int := 11935946387415367680 + (i : Int) * 7919
theorem mark_any (i j : Nat) (w : World) (hi : i ≤ 1000000) (hj : j ≤ 100000000) : Calls Tryd.prog 29 #[.int .i64 (i : Int), .int .i64 (j : Int)] w fun e w' => e = .returned (.int .u64 (mk i j)) ∧ w' = w := by
  obtain ⟨x, hx⟩ : ∃ x, mk i j = x := ⟨_, rfl⟩
  obtain ⟨M, hM⟩ : ∃ M, (i : Int) * 1000003 = M := ⟨_, rfl⟩
  have ex : 14051230837395947520 + M + (j : Int) = x := by rw [← hx, mk, hM]
  have w1 : IntKind.u64.wrap (i : Int) = (i : Int) := by rw [Sh.wrap_mod]; omega
  have w2 : IntKind.u64.wrap ((i : Int) * 1000003) = M := by rw [hM, Sh.wrap_mod]; omega
  have w3 : IntKind.u64.wrap (14051230837395947520 + M) = 14051230837395947520 + M := by rw [Sh.wrap_mod]; omega
  have w4 : IntKind.u64.wrap (j : Int) = (j : Int) := by rw [Sh.wrap_mod]; omega
  have w5 : IntKind.u64.wrap (14051230837395947520 + M + (j : Int)) = x := by rw [Sh.wrap_mod]; omega
  rw [hx]
  clear hx hM ex
  go_enter Tryd.func29, Tryd.ntmps29
  go_wp2_with fail
  go_ret
  exact ⟨rfl, rfl⟩
theorem spare_any (i : Nat) (w : World) (hi : i ≤ 1000000) : Calls Tryd.prog 15 #[.int .i64 (i : Int)] w fun e w' => e = .returned (.int .u64 (sp i)) ∧ w' = w := by
  obtain ⟨x, hx⟩ : ∃ x, sp i = x := ⟨_, rfl⟩
  obtain ⟨M, hM⟩ : ∃ M, (i : Int) * 7919 = M := ⟨_, rfl⟩
  have ex : 11935946387415367680 + M = x := by rw [← hx, sp, hM]
  have w1 : IntKind.u64.wrap (i : Int) = (i : Int) := by rw [Sh.wrap_mod]; omega
  have w2 : IntKind.u64.wrap ((i : Int) * 7919) = M := by rw [hM, Sh.wrap_mod]; omega
  have w3 : IntKind.u64.wrap (11935946387415367680 + M) = x := by rw [Sh.wrap_mod]; omega
  rw [hx]
  clear hx hM ex
  go_enter Tryd.func15, Tryd.ntmps15
  go_wp2_with fail
  go_ret
  exact ⟨rfl, rfl⟩
/-- A list with marked room behind it. -/
structure Ro (w : World) (g n : Nat) (zs ys : List Int) (u v : Nat) : Prop where
  own : Own w g ys
  len : ys.length = n + 70
  eq : ∀ t, t < u → ys.getD t 0 = zs.getD t 0
  sp : ∀ t, t < v → ys.getD (n + t) 0 = sp t
theorem Ro.on {w w' : World} {g n u v : Nat} {zs ys : List Int} (h : Ro w g n zs ys u v) (hB : Below w.heap.size w w') : Ro w' g n zs ys u v := ⟨h.own.below hB h.own.lt, h.len, h.eq, h.sp⟩
theorem Ro.put {w : World} {g n u v : Nat} {zs ys : List Int} (h : Ro w g n zs ys u 0) (hu : u < n) (x : Int) (hx : zs.getD u 0 = x) (_ : v = 0) : Ro (w.setCell ⟨g, u, none⟩ (.int .u64 x)) g n zs (ys.set u x) (u + 1) 0 := by
  have l := h.len
  refine ⟨h.own.set u x, by rw [List.length_set]; exact l, fun t ht => ?_, fun t ht => by omega⟩
  by_cases q : t = u
  · subst q
    rw [List.getD, List.getElem?_set_self (by omega), hx]
    rfl
  · rw [List.getD, List.getElem?_set_ne (fun e => q e.symm)]
    exact h.eq t (by omega)
theorem Ro.mark {w : World} {g n v : Nat} {zs ys : List Int} (h : Ro w g n zs ys n v) (hv : v < 70) : Ro (w.setCell ⟨g, n + v, none⟩ (.int .u64 (Qk.sp v))) g n zs (ys.set (n + v) (Qk.sp v)) n (v + 1) := by
  have l := h.len
  refine ⟨h.own.set (n + v) _, by rw [List.length_set]; exact l, fun t ht => ?_, fun t ht => ?_⟩
  · rw [List.getD, List.getElem?_set_ne (by omega)]
    exact h.eq t ht
  · by_cases q : t = v
    · subst q
      rw [List.getD, List.getElem?_set_self (by omega)]
      rfl
    · rw [List.getD, List.getElem?_set_ne (by omega)]
      exact h.sp t (by omega)

set_option maxRecDepth 100000 in
set_option maxHeartbeats 4000000 in
theorem roomy_any (p : Option Addr) (n cap : Nat) (zs : List Int) (w : World) (ha : Arg w p n cap zs) (hn : n ≤ 1048576) :
    Calls Tryd.prog 6 #[.slice p n cap] w fun e w' => ∃ g N ys, e = .returned (.slice (some ⟨g, 0, none⟩) n N) ∧ N = n + 70 ∧ w.heap.size ≤ g ∧ Ro w' g n zs ys n 70 ∧ Below w.heap.size w w' := by
  obtain ⟨N, hN⟩ : ∃ N, n + 70 = N := ⟨_, rfl⟩
  have nb : (n : Int) ≤ 1048576 := by omega
  have wN : IntKind.i64.wrap ((n : Int) + 70) = (N : Int) := by rw [IntKind.wrap_i64]; omega
  have hmk := make64 N (by omega) w
  have hb0 : Below w.heap.size w (w.alloc (.cells (madeCells #[.int .u64 0] N) 26)) := (Below.refl _ _).alloc (Nat.le_refl _) _
  have ho : Own (w.alloc (.cells (madeCells #[.int .u64 0] N) 26)) w.heap.size (List.replicate N 0) := by
    rw [made_zero]; exact Own.alloc w _
  obtain ⟨g, hg⟩ : ∃ g, w.heap.size = g := ⟨_, rfl⟩
  have S0 : Hid (Below g w (w.alloc (.cells (madeCells #[.int .u64 0] N) 26)) ∧ Ro (w.alloc (.cells (madeCells #[.int .u64 0] N) 26)) g n zs (List.replicate N 0) 0 0) := by
    rw [← hg]
    exact ⟨hb0, ho, by simp; omega, fun t ht => by omega, fun t ht => by omega⟩
  have A0 := hid ha
  have HN := hid hN
  have HG := hid hg
  have nN : (n : Int) ≤ (N : Int) := by omega
  have Nn : n ≤ N := by omega
  rw [hg] at hmk
  generalize w.alloc (.cells (madeCells #[.int .u64 0] N) 26) = w1 at *
  clear hb0 ho hN hg ha
  go_enter Tryd.func6, Tryd.ntmps6
  go_wp2_with fail
  clear hmk
  go_loopg [4] n (fun m iv wr => ∃ (u : Nat) (ys : List Int), u + m = n ∧ iv = .int .i64 (u : Int) ∧ Hid (Below g w wr ∧ Ro wr g n zs ys u 0))
  case atStart => exact ⟨0, _, by omega, rfl, S0.out⟩
  case round =>
    obtain ⟨u, ys, hu, rfl, J⟩ := hrel
    clear S0
    by_cases ul : u < n
    · have uli : (u : Int) < (n : Int) := by omega
      have uN : (u : Int) < (N : Int) := by have := HN.out; omega
      obtain ⟨x, hx⟩ : ∃ x, zs.getD u 0 = x := ⟨_, rfl⟩
      have cx : ∃ b off, p = some ⟨b, off, none⟩ ∧ wr.cell? ⟨b, off + u, none⟩ = some (.int .u64 x) := by
        rcases A0.out.2.2.2.1 with z | ⟨b, off, hp, hc⟩
        · have := A0.out.1; rw [z] at this; simp at this; omega
        · have := hc u (by rw [A0.out.1]; exact ul)
          rw [hx] at this
          exact ⟨b, off, hp, by rw [J.out.1.cell (p := ⟨b, off + u, none⟩) (by rw [← HG.out]; exact cell_lt this)]; exact this⟩
      obtain ⟨b, off, rfl, cx⟩ := cx
      obtain ⟨y, hy⟩ : ∃ y, ys.getD u 0 = y := ⟨_, rfl⟩
      have cy := J.out.2.own.cell u (by rw [J.out.2.len]; omega)
      rw [hy] at cy
      have fy := J.out.2.own.free u
      have K7 : Hid (Below g w (wr.setCell ⟨g, u, none⟩ (.int .u64 x)) ∧ Ro (wr.setCell ⟨g, u, none⟩ (.int .u64 x)) g n zs (ys.set u x) (u + 1) 0) := ⟨J.out.1.setCell (p := ⟨g, u, none⟩) (Nat.le_refl _) _, J.out.2.put ul x hx rfl⟩
      clear J hy hx
      go_wp2_with fail
      go_roundg (n - (u + 1))
      case measure => omega
      case rel => exact ⟨u + 1, _, by omega, by go_num, K7.out⟩
    · obtain rfl : u = n := by omega
      have uli : ¬ (u : Int) < (u : Int) := by omega
      have SPR := hid (fun (v : Nat) (W : World) (hv : v ≤ 1000000) => spare_any v W hv)
      go_wp2_with fail
      go_loopg [5] 70 (fun m iv wr => ∃ (v : Nat) (ys : List Int), v + m = 70 ∧ iv = .int .i64 (v : Int) ∧ Hid (Below g w wr ∧ Ro wr g u zs ys u v))
      case atStart => exact ⟨0, ys, by omega, rfl, J.out⟩
      case round =>
        obtain ⟨v, ys, hv, rfl, J⟩ := hrel
        by_cases vl : v < 70
        · have vli : (v : Int) < 70 := by omega
          obtain ⟨k, hk⟩ : ∃ k, u + v = k := ⟨_, rfl⟩
          have wk : IntKind.i64.wrap ((u : Int) + (v : Int)) = (k : Int) := by rw [IntKind.wrap_i64]; omega
          have kN : (k : Int) < (N : Int) := by have := HN.out; omega
          obtain ⟨y, hy⟩ : ∃ y, ys.getD k 0 = y := ⟨_, rfl⟩
          have cy := J.out.2.own.cell k (by rw [J.out.2.len]; omega)
          rw [hy] at cy
          have fy := J.out.2.own.free k
          obtain ⟨x, hx⟩ : ∃ x, sp v = x := ⟨_, rfl⟩
          have K7 : Hid (Below g w (wr.setCell ⟨g, k, none⟩ (.int .u64 x)) ∧ Ro (wr.setCell ⟨g, k, none⟩ (.int .u64 x)) g u zs (ys.set k x) u (v + 1)) := by
            rw [← hk, ← hx]
            exact ⟨J.out.1.setCell (p := ⟨g, u + v, none⟩) (Nat.le_refl _) _, J.out.2.mark vl⟩
          have SP : Hid (∀ W, Calls Tryd.prog 15 #[.int .i64 (v : Int)] W fun e w' => e = .returned (.int .u64 x) ∧ w' = W) := fun W => by rw [← hx]; exact SPR.out v W (by omega)
          clear J hy hk hx
          go_wp2_with (go_at_call 15; refine (SP.out _).mono ?_; rintro e w9 ⟨rfl, rfl⟩)
          go_roundg (70 - (v + 1))
          case measure => omega
          case rel => exact ⟨v + 1, _, by omega, by go_num, K7.out⟩
        · obtain rfl : v = 70 := by omega
          have vli : ¬ (((70 : Nat) : Int)) < 70 := by omega
          go_wp2_with fail
          go_ret
          exact ⟨g, _, rfl, HN.out.symm, Nat.le_of_eq HG.out, ⟨ys, J.out.2⟩, by rw [HG.out]; exact J.out.1⟩
end Qk
end Go.Proofs.YtmihjiiagpkciaaDoor
