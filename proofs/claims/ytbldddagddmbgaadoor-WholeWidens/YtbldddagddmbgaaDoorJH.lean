/-
  Texts put together: JWidens, JWidA.
-/
import Derived.Test.YtbldddagddmbgaaDoorJWidm
import Derived.Test.YtbldddagddmbgaaDoorJWidp
import Derived.Test.YtbldddagddmbgaaDoorJG
namespace Go.Proofs.YtbldddagddmbgaaDoor
open Go Go.RowKit Go.Deep Go.Shelf

set_option maxRecDepth 100000 in
set_option maxHeartbeats 8000000 in
theorem widens_law (V F W P u : Int) (neg : Bool) (p : Option Addr) (n cap : Nat) (zs t : List Int) (w : World) (ha : Arg w p n cap zs) (u0 : 0 ≤ u) (u1 : u < 18446744073709551616) (hy : Wh.By t) (tl : t.length ≤ 140737488355328) :
    Calls Tryd.prog 5 #[.agg #[.int .u8 V, .int .i64 F, .int .i64 W, .int .i64 P, .bool neg, .slice p n cap, .int .u64 u, .string (strOfNums t)]] w fun e w' => e = .returned (.bool true) ∧ Below w.heap.size w w' := by
  by_cases hgood : Wh.chk F W P = 0 ∧ ¬ 4096 < Nm.tsize zs ∧ t.length ≤ 16777216
  · obtain ⟨hc, ht, hl⟩ := hgood
    have p0 := (Wh.chk_ok hc).2.2.1
    by_cases hP : P = -1
    · exact widens_m V F W P u neg p n cap zs t w ha u0 u1 hy hc ht hl hP
    · exact widens_p V F W P u neg p n cap zs t w ha u0 u1 hy hc ht hl (by omega)
  have A0 := alloc_b w (.cells #[.int .u8 V, .int .i64 F, .int .i64 W, .int .i64 P, .bool neg, .slice p n cap, .int .u64 u, .string (strOfNums t)] 30)
  have z8 : (w.alloc (.cells #[.int .u8 V, .int .i64 F, .int .i64 W, .int .i64 P, .bool neg, .slice p n cap, .int .u64 u, .string (strOfNums t)] 30)).heap.size = w.heap.size + 1 := by show (Array.push _ _).size = _; rw [Array.size_push]
  have N0 := SB.new (w.alloc (.cells #[.int .u8 V, .int .i64 F, .int .i64 W, .int .i64 P, .bool neg, .slice p n cap, .int .u64 u, .string (strOfNums t)] 30)) V F W P
  have S0 := N0.box
  have B0 := below_on A0 N0.bel
  rw [z8] at S0
  have S0 := hid S0
  have B0 := hid B0
  clear N0 A0 z8
  have FT := hid (fun W' => forty_any W')
  have GD := hid (fun W' => good_any V F W P W')
  have TR2 : Hid (∀ W' (k : Below w.heap.size w W'), Calls Tryd.prog 12 #[.slice p n cap] W' fun e w' => ∃ r, e = .returned (.slice r (Nm.tsize zs) (Nm.tsize zs)) ∧ Below W'.heap.size W' w') := by
    intro W' k
    refine (trim_any p n cap zs W' (ha.below k (Nat.le_refl _))).mono ?_
    rintro e w' ⟨r, os, rfl, h, _, b⟩
    exact ⟨r, by rw [h, Nm.trim_length], b⟩
  have st : (strOfNums t).size = t.length := strOfNums_size t
  have tli : (t.length : Int) ≤ 140737488355328 := by omega
  by_cases hc : Wh.chk F W P = 0
  · rw [decide_eq_true hc] at GD
    by_cases ht : 4096 < Nm.tsize zs
    · have hti : (4096 : Int) < (Nm.tsize zs : Int) := by omega
      clear hgood hy ha hc
      generalize Nm.tsize zs = tN at *
      go_enter Tryd.func5, Tryd.ntmps5
      go_wp2_with fail
      with_reducible refine (FT.out _).mono ?_
      rintro e w1 ⟨rfl, b1⟩
      have S1 := hid (S0.out.below b1)
      have B1 := hid (below_on B0.out b1)
      clear b1 S0 B0 FT
      obtain ⟨⟨c0, c1, c2, c3⟩, -⟩ := S1.out.cells
      go_wp2_with fail
      with_reducible refine (GD.out _).mono ?_
      rintro e w2 ⟨rfl, b2⟩
      have S2 := hid (S1.out.below b2)
      have B2 := hid (below_on B1.out b2)
      clear b2 S1 B1 GD c0 c1 c2 c3
      go_wp2_with fail
      with_reducible refine (TR2.out _ B2.out).mono ?_
      rintro e w3 ⟨r, rfl, b3⟩
      have S3 := hid (S2.out.below b3)
      have B3 := hid (below_on B2.out b3)
      clear b3 S2 B2 TR2
      obtain ⟨⟨c0, c1, c2, c3⟩, ⟨f0, f1, f2, f3⟩⟩ := S3.out.cells
      have lt3 := S3.out.lt
      have ne3 : w3.heap.size ≠ w.heap.size + 1 := by omega
      have ne4 : w.heap.size + 1 ≠ w3.heap.size := by omega
      go_wp2_with fail
      go_ret
      exact ⟨rfl, B3.out⟩
    · have hti : ¬ (4096 : Int) < (Nm.tsize zs : Int) := by omega
      have hli : (16777216 : Int) < (t.length : Int) := by
        have : ¬ t.length ≤ 16777216 := fun q => hgood ⟨hc, ht, q⟩
        omega
      clear hgood hy ha hc
      generalize Nm.tsize zs = tN at *
      go_enter Tryd.func5, Tryd.ntmps5
      go_wp2_with fail
      with_reducible refine (FT.out _).mono ?_
      rintro e w1 ⟨rfl, b1⟩
      have S1 := hid (S0.out.below b1)
      have B1 := hid (below_on B0.out b1)
      clear b1 S0 B0 FT
      obtain ⟨⟨c0, c1, c2, c3⟩, -⟩ := S1.out.cells
      go_wp2_with fail
      with_reducible refine (GD.out _).mono ?_
      rintro e w2 ⟨rfl, b2⟩
      have S2 := hid (S1.out.below b2)
      have B2 := hid (below_on B1.out b2)
      clear b2 S1 B1 GD c0 c1 c2 c3
      go_wp2_with fail
      with_reducible refine (TR2.out _ B2.out).mono ?_
      rintro e w3 ⟨r, rfl, b3⟩
      have S3 := hid (S2.out.below b3)
      have B3 := hid (below_on B2.out b3)
      clear b3 S2 B2 TR2
      obtain ⟨⟨c0, c1, c2, c3⟩, ⟨f0, f1, f2, f3⟩⟩ := S3.out.cells
      have lt3 := S3.out.lt
      have ne3 : w3.heap.size ≠ w.heap.size + 1 := by omega
      have ne4 : w.heap.size + 1 ≠ w3.heap.size := by omega
      go_wp2_with fail
      go_ret
      exact ⟨rfl, B3.out⟩
  · rw [decide_eq_false hc] at GD
    clear hgood hy ha hc TR2
    go_enter Tryd.func5, Tryd.ntmps5
    go_wp2_with fail
    with_reducible refine (FT.out _).mono ?_
    rintro e w1 ⟨rfl, b1⟩
    have S1 := hid (S0.out.below b1)
    have B1 := hid (below_on B0.out b1)
    clear b1 S0 B0 FT
    obtain ⟨⟨c0, c1, c2, c3⟩, -⟩ := S1.out.cells
    go_wp2_with fail
    with_reducible refine (GD.out _).mono ?_
    rintro e w2 ⟨rfl, b2⟩
    have S2 := hid (S1.out.below b2)
    have B2 := hid (below_on B1.out b2)
    clear b2 S1 B1 GD c0 c1 c2 c3
    go_wp2_with fail
    go_ret
    exact ⟨rfl, B2.out⟩
end Go.Proofs.YtbldddagddmbgaaDoor

namespace Go.Proofs.YtbldddagddmbgaaDoor
open Go Go.RowKit Go.Deep Go.Shelf
theorem widens_ask (w : World) (q : Aq) (h : AqW w q) : Calls Tryd.prog 5 #[.agg (aqv q)] w fun e w' => e = .returned (.bool true) ∧ Below w.heap.size w w' := by
  obtain ⟨_, h2, h3, h4, zs, h5⟩ := h
  exact widens_law q.V q.F q.D q.P q.u q.neg q.p q.n q.cap zs q.t w h5 h2.1 h2.2 h3 (by omega)
end Go.Proofs.YtbldddagddmbgaaDoor
