/-
  QuotKeeps: kept, turn.
-/
import Derived.Test.YtmihjiiagpkciaaDoorQKa
namespace Go.Proofs.YtmihjiiagpkciaaDoor
open Go Go.RowKit Go.Deep

namespace Qk
set_option maxRecDepth 100000 in
set_option maxHeartbeats 4000000 in
theorem kept_any (g n N : Nat) (zs ys : List Int) (w : World) (h : Ro w g n zs ys n 70) (hN : N = n + 70) (nb : n ≤ 1048576) :
    Calls Tryd.prog 10 #[.slice (some ⟨g, 0, none⟩) n N] w fun e w' => e = .returned (.bool true) ∧ Below w.heap.size w w' := by
  have H := hid h
  have HN := hid hN
  have nbi : (n : Int) ≤ 1048576 := by omega
  have wN : IntKind.i64.wrap ((n : Int) + 70) = (N : Int) := by rw [IntKind.wrap_i64]; omega
  have nN : (n : Int) ≤ (N : Int) := by omega
  have Nn : n ≤ N := by omega
  clear h hN
  go_enter Tryd.func10, Tryd.ntmps10
  go_wp2_with fail
  go_loopg [4] 70 (fun m iv wr => ∃ (v : Nat), v + m = 70 ∧ iv = .int .i64 (v : Int) ∧ Hid (Below w.heap.size w wr))
  case atStart => exact ⟨0, by omega, rfl, Below.refl _ _⟩
  case round =>
    obtain ⟨v, hv, rfl, J⟩ := hrel
    by_cases vl : v < 70
    · have vli : (v : Int) < 70 := by omega
      obtain ⟨k, hk⟩ : ∃ k, n + v = k := ⟨_, rfl⟩
      have wk : IntKind.i64.wrap ((n : Int) + (v : Int)) = (k : Int) := by rw [IntKind.wrap_i64]; omega
      have kN : (k : Int) < (N : Int) := by have := HN.out; omega
      obtain ⟨x, hx⟩ : ∃ x, sp v = x := ⟨_, rfl⟩
      have cy : wr.cell? ⟨g, k, none⟩ = some (.int .u64 x) := by
        have := H.out.own.cell k (by rw [H.out.len]; omega)
        rw [← hk, H.out.sp v vl, hx] at this
        rw [J.out.cell (p := ⟨g, k, none⟩) (cell_lt (hk ▸ this)), ← hk]
        exact this
      have SP : Hid (∀ W, Calls Tryd.prog 15 #[.int .i64 (v : Int)] W fun e w' => e = .returned (.int .u64 x) ∧ w' = W) := fun W => by rw [← hx]; exact spare_any v W (by omega)
      clear hk hx
      go_upto_region 5 with fail
      go_quiet ((go_at_call 15; with_reducible exact Calls.quiet_of_same (SP.out _)))
      all_goals (go_wp2_with fail; go_roundg (70 - (v + 1)))
      case measure => omega
      case rel => exact ⟨v + 1, by omega, by go_num, J.out.os, J.out.tape, J.out.output, J.out.size, J.out.block⟩
    · obtain rfl : v = 70 := by omega
      have vli : ¬ (((70 : Nat) : Int)) < 70 := by omega
      go_wp2_with fail
      go_ret
      exact ⟨rfl, J.out⟩
/-- Limbs that have been turned. -/
structure Tu (w0 w : World) (g n : Nat) (ys : List Int) : Prop where
  own : Own w g ys
  len : ys.length = n + 70
  sp : ∀ t, t < 70 → ys.getD (n + t) 0 = sp t
  lim : Nm.Limbs (ys.take n)
  kp : Keep (fun b => b = g) w0 w
theorem Tu.put {w0 w : World} {g n u : Nat} {ys : List Int} (h : Tu w0 w g n ys) (hu : u < n) (x : Int) (x0 : 0 ≤ x) (x1 : x < 18446744073709551616) : Tu w0 (w.setCell ⟨g, u, none⟩ (.int .u64 x)) g n (ys.set u x) := by
  have l := h.len
  refine ⟨h.own.set u x, by rw [List.length_set]; exact l, fun t ht => ?_, ?_, h.kp.trans (Keep.set w g u _)⟩
  · rw [List.getD, List.getElem?_set_ne (by omega)]
    exact h.sp t ht
  · rw [List.take_set]
    exact h.lim.set u x0 x1

set_option maxRecDepth 100000 in
set_option maxHeartbeats 4000000 in
theorem turn_any (g n N : Nat) (ys : List Int) (w : World) (h : Tu w w g n ys) (hN : N = n + 70) (nb : n ≤ 1048576) :
    Calls Tryd.prog 11 #[.slice (some ⟨g, 0, none⟩) n N] w fun e w' => e = .returned (.tuple #[]) ∧ ∃ ys', Tu w w' g n ys' := by
  have H := hid h
  have HN := hid hN
  have nbi : (n : Int) ≤ 1048576 := by omega
  clear h hN
  go_enter Tryd.func11, Tryd.ntmps11
  go_wp2_with fail
  go_loopg [2] n (fun m iv wr => ∃ (u : Nat) (ys : List Int), u + m = n ∧ iv = .int .i64 (u : Int) ∧ Hid (Tu w wr g n ys))
  case atStart => exact ⟨0, ys, by omega, rfl, H.out⟩
  case round =>
    obtain ⟨u, ys, hu, rfl, J⟩ := hrel
    clear H
    by_cases ul : u < n
    · have uli : (u : Int) < (n : Int) := by omega
      obtain ⟨x, hx⟩ : ∃ x, ys.getD u 0 = x := ⟨_, rfl⟩
      have cx := J.out.own.cell u (by rw [J.out.len]; omega)
      rw [hx] at cx
      have fx := J.out.own.free u
      have bx := J.out.lim.at u
      rw [show (ys.take n).getD u 0 = x by rw [← hx, List.getD, List.getD, List.getElem?_take_of_lt ul]] at bx
      by_cases x0 : x = 0
      · subst x0
        have K7 := hid J.out
        clear J hx bx
        go_wp2_with fail
        go_roundg (n - (u + 1))
        case measure => omega
        case rel => exact ⟨u + 1, _, by omega, by go_num, K7.out⟩
      · obtain ⟨q, hq⟩ : ∃ q, x / 3 = q := ⟨_, rfl⟩
        have q2 : x.tdiv 3 = q := by rw [Int.tdiv_eq_ediv_of_nonneg bx.1]; exact hq
        have q3 : 0 ≤ q ∧ q ≤ 6148914691236517205 := by omega
        obtain ⟨y, hy⟩ : ∃ y, q + 5 = y := ⟨_, rfl⟩
        have w1 : IntKind.u64.wrap q = q := by rw [Sh.wrap_mod]; omega
        have w2 : IntKind.u64.wrap (q + 5) = y := by rw [hy, Sh.wrap_mod]; omega
        have w3 : IntKind.u64.wrap y = y := by rw [Sh.wrap_mod]; omega
        have K7 := hid (J.out.put ul y (by omega) (by omega))
        clear J hx bx q3
        go_wp2_with fail
        go_roundg (n - (u + 1))
        case measure => omega
        case rel => exact ⟨u + 1, _, by omega, by go_num, K7.out⟩
    · obtain rfl : u = n := by omega
      have uli : ¬ (u : Int) < (u : Int) := by omega
      go_wp2_with fail
      go_end0
      exact ⟨rfl, ys, J.out⟩
end Qk
end Go.Proofs.YtmihjiiagpkciaaDoor
