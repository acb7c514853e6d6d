/-
  Texts put together: HAsk, HAwake, OpenList, OpenOps6, HUpTo, HAll.
-/
import Derived.Test.YtmakkfekomnpbaaGreatDoorRG
import Derived.Test.YtmakkfekomnpbaaGreatDoorRH
import Derived.Test.YtmakkfekomnpbaaGreatDoorRI
import Derived.Deep.RegionWith
import Derived.Deep.RegionHeld3
import Derived.Deep.CutRange
import Derived.Deep.CutBlock
import Derived.BigQuiet
import Derived.Test.YtmakkfekomnpbaaGreatDoorRB
import Derived.Test.YtmakkfekomnpbaaGreatDoorRE
import Derived.Test.YtmakkfekomnpbaaGreatDoorMem
import Derived.SizedLaws
import Derived.ProofKit
import Derived.Test.YtmakkfekomnpbaaGreatDoorRA
/-
  law06: wholes, mods, powers (made by mkhwhole.py).
-/
namespace Go.Proofs.YtmakkfekomnpbaaGreatDoor
open Go Go.RowKit Go.Deep

/-- A call in its box. -/
def OneR (w wx : World) (b : Nat) (K X Y N : Int) : Prop := Below w.heap.size w wx ∧ Row4 wx b 28 (.int .i64 K) (.int .u64 X) (.int .u64 Y) (.int .i64 N)

theorem OneR.on {w wx w' : World} {b : Nat} {K X Y N : Int} (h : OneR w wx b K X Y N) (hB : Below wx.heap.size wx w') : OneR w w' b K X Y N :=
  ⟨h.1.trans (hB.mono h.1.size), h.2.below hB h.2.lt⟩

theorem OneR.flat {w wx : World} {b : Nat} {K X Y N : Int} (h : OneR w wx b K X Y N) :
    wx.cell? ⟨b, 1, none⟩ = some (.int .u64 X) ∧ wx.cell? ⟨b, 2, none⟩ = some (.int .u64 Y) ∧ wx.cell? ⟨b, 3, none⟩ = some (.int .i64 N) := by
  obtain ⟨⟨-, p1, p2, p3⟩, -⟩ := h.2.cells
  exact ⟨p1, p2, p3⟩

set_option maxRecDepth 100000 in
set_option maxHeartbeats 8000000 in
theorem whole_1 (X Y N : Int) (w : World) (hT : Tab w) (x0 : 0 ≤ X) (x1 : X < 18446744073709551616) :
    Calls Tryz.prog 6 #[.agg #[.int .i64 1, .int .u64 X, .int .u64 Y, .int .i64 N]] w fun e w' => e = .returned (.bool true) ∧ Below w.heap.size w w' := by
  have TP := hid (fun (wx : World) (hx : Below w.heap.size w wx) => trunc_any X wx (hT.below hx) x0 x1)
  have TR := hid (fun (wx : World) (_ : Below w.heap.size w wx) => uTrunc_any X wx x0 x1)
  clear hT
  go_enter Tryz.func6, Tryz.ntmps6
  have S0 : Hid (OneR w (w.alloc (.cells #[.int .i64 (1), .int .u64 X, .int .u64 Y, .int .i64 N] 28)) w.heap.size (1) X Y N) := ⟨alloc_b w _, Row4.new w _ _ _ _ _⟩
  obtain ⟨⟨p0, -, -, -⟩, -⟩ := S0.out.2.cells
  go_upto_region 3 with fail
  generalize hw : w.alloc (.cells #[.int .i64 (1), .int .u64 X, .int .u64 Y, .int .i64 N] 28) = wA at *
  generalize hb : w.heap.size = b at *
  clear hw
  rw [← hb] at TP TR
  have SD := hid (S0.out.on (udrew wA))
  obtain ⟨p1, p2, p3⟩ := S0.out.flat
  go_region_held3 (fun w' => w'.cell? ⟨b, 1, none⟩ = some (.int .u64 X) ∧ w'.cell? ⟨b, 2, none⟩ = some (.int .u64 Y) ∧ w'.cell? ⟨b, 3, none⟩ = some (.int .i64 N)) (first | (with_reducible exact T2.out.flat) | (with_reducible exact T1.out.flat) | (with_reducible exact SD.out.flat)) (first
    | (go_at_call 11; (first
        | (refine (TP.out _ T1.out.1).mono ?_; rintro e w2 ⟨rp, rfl, hr, hB⟩; have T2 := hid (T1.out.on hB); have e1 := HR.out.one hr; subst e1; have bb : (rr == rr) = true := beq_self_eq_true _; clear hr hB)
        | (refine (TP.out _ SD.out.1).mono ?_; rintro e w1 ⟨rp, rfl, hr, hB⟩; have T1 := hid (SD.out.on hB); have HP := hid hr; obtain ⟨g1, g2, g3⟩ := T1.out.flat; clear hr hB)))
    | (go_at_call 14; (first
        | (refine (TR.out _ T1.out.1).mono ?_; rintro e w2 ⟨rr, rfl, hr, hB⟩; have T2 := hid (T1.out.on hB); have e1 := HP.out.one hr; subst e1; have bb : (rp == rp) = true := beq_self_eq_true _; clear hr hB)
        | (refine (TR.out _ SD.out.1).mono ?_; rintro e w1 ⟨rr, rfl, hr, hB⟩; have T1 := hid (SD.out.on hB); have HR := hid hr; obtain ⟨g1, g2, g3⟩ := T1.out.flat; clear hr hB))))
  all_goals (go_wp2_with fail; go_ret; exact ⟨rfl, hb ▸ T2.out.1⟩)

set_option maxRecDepth 100000 in
set_option maxHeartbeats 8000000 in
theorem whole_2 (X Y N : Int) (w : World) (hT : Tab w) (x0 : 0 ≤ X) (x1 : X < 18446744073709551616) :
    Calls Tryz.prog 6 #[.agg #[.int .i64 2, .int .u64 X, .int .u64 Y, .int .i64 N]] w fun e w' => e = .returned (.bool true) ∧ Below w.heap.size w w' := by
  have TP := hid (fun (wx : World) (hx : Below w.heap.size w wx) => floor_any X wx (hT.below hx) x0 x1)
  have TR := hid (fun (wx : World) (_ : Below w.heap.size w wx) => uFloor_any X wx x0 x1)
  clear hT
  go_enter Tryz.func6, Tryz.ntmps6
  have S0 : Hid (OneR w (w.alloc (.cells #[.int .i64 (2), .int .u64 X, .int .u64 Y, .int .i64 N] 28)) w.heap.size (2) X Y N) := ⟨alloc_b w _, Row4.new w _ _ _ _ _⟩
  obtain ⟨⟨p0, -, -, -⟩, -⟩ := S0.out.2.cells
  go_upto_region 5 with fail
  generalize hw : w.alloc (.cells #[.int .i64 (2), .int .u64 X, .int .u64 Y, .int .i64 N] 28) = wA at *
  generalize hb : w.heap.size = b at *
  clear hw
  rw [← hb] at TP TR
  have SD := hid (S0.out.on (udrew wA))
  obtain ⟨p1, p2, p3⟩ := S0.out.flat
  go_region_held3 (fun w' => w'.cell? ⟨b, 1, none⟩ = some (.int .u64 X) ∧ w'.cell? ⟨b, 2, none⟩ = some (.int .u64 Y) ∧ w'.cell? ⟨b, 3, none⟩ = some (.int .i64 N)) (first | (with_reducible exact T2.out.flat) | (with_reducible exact T1.out.flat) | (with_reducible exact SD.out.flat)) (first
    | (go_at_call 15; (first
        | (refine (TP.out _ T1.out.1).mono ?_; rintro e w2 ⟨rp, rfl, hr, hB⟩; have T2 := hid (T1.out.on hB); have e1 := HR.out.one hr; subst e1; have bb : (rr == rr) = true := beq_self_eq_true _; clear hr hB)
        | (refine (TP.out _ SD.out.1).mono ?_; rintro e w1 ⟨rp, rfl, hr, hB⟩; have T1 := hid (SD.out.on hB); have HP := hid hr; obtain ⟨g1, g2, g3⟩ := T1.out.flat; clear hr hB)))
    | (go_at_call 16; (first
        | (refine (TR.out _ T1.out.1).mono ?_; rintro e w2 ⟨rr, rfl, hr, hB⟩; have T2 := hid (T1.out.on hB); have e1 := HP.out.one hr; subst e1; have bb : (rp == rp) = true := beq_self_eq_true _; clear hr hB)
        | (refine (TR.out _ SD.out.1).mono ?_; rintro e w1 ⟨rr, rfl, hr, hB⟩; have T1 := hid (SD.out.on hB); have HR := hid hr; obtain ⟨g1, g2, g3⟩ := T1.out.flat; clear hr hB))))
  all_goals (go_wp2_with fail; go_ret; exact ⟨rfl, hb ▸ T2.out.1⟩)

set_option maxRecDepth 100000 in
set_option maxHeartbeats 8000000 in
theorem whole_3 (X Y N : Int) (w : World) (hT : Tab w) (x0 : 0 ≤ X) (x1 : X < 18446744073709551616) :
    Calls Tryz.prog 6 #[.agg #[.int .i64 3, .int .u64 X, .int .u64 Y, .int .i64 N]] w fun e w' => e = .returned (.bool true) ∧ Below w.heap.size w w' := by
  have TP := hid (fun (wx : World) (hx : Below w.heap.size w wx) => ceil_any X wx (hT.below hx) x0 x1)
  have TR := hid (fun (wx : World) (_ : Below w.heap.size w wx) => uCeil_any X wx x0 x1)
  clear hT
  go_enter Tryz.func6, Tryz.ntmps6
  have S0 : Hid (OneR w (w.alloc (.cells #[.int .i64 (3), .int .u64 X, .int .u64 Y, .int .i64 N] 28)) w.heap.size (3) X Y N) := ⟨alloc_b w _, Row4.new w _ _ _ _ _⟩
  obtain ⟨⟨p0, -, -, -⟩, -⟩ := S0.out.2.cells
  go_upto_region 7 with fail
  generalize hw : w.alloc (.cells #[.int .i64 (3), .int .u64 X, .int .u64 Y, .int .i64 N] 28) = wA at *
  generalize hb : w.heap.size = b at *
  clear hw
  rw [← hb] at TP TR
  have SD := hid (S0.out.on (udrew wA))
  obtain ⟨p1, p2, p3⟩ := S0.out.flat
  go_region_held3 (fun w' => w'.cell? ⟨b, 1, none⟩ = some (.int .u64 X) ∧ w'.cell? ⟨b, 2, none⟩ = some (.int .u64 Y) ∧ w'.cell? ⟨b, 3, none⟩ = some (.int .i64 N)) (first | (with_reducible exact T2.out.flat) | (with_reducible exact T1.out.flat) | (with_reducible exact SD.out.flat)) (first
    | (go_at_call 17; (first
        | (refine (TP.out _ T1.out.1).mono ?_; rintro e w2 ⟨rp, rfl, hr, hB⟩; have T2 := hid (T1.out.on hB); have e1 := HR.out.one hr; subst e1; have bb : (rr == rr) = true := beq_self_eq_true _; clear hr hB)
        | (refine (TP.out _ SD.out.1).mono ?_; rintro e w1 ⟨rp, rfl, hr, hB⟩; have T1 := hid (SD.out.on hB); have HP := hid hr; obtain ⟨g1, g2, g3⟩ := T1.out.flat; clear hr hB)))
    | (go_at_call 18; (first
        | (refine (TR.out _ T1.out.1).mono ?_; rintro e w2 ⟨rr, rfl, hr, hB⟩; have T2 := hid (T1.out.on hB); have e1 := HP.out.one hr; subst e1; have bb : (rp == rp) = true := beq_self_eq_true _; clear hr hB)
        | (refine (TR.out _ SD.out.1).mono ?_; rintro e w1 ⟨rr, rfl, hr, hB⟩; have T1 := hid (SD.out.on hB); have HR := hid hr; obtain ⟨g1, g2, g3⟩ := T1.out.flat; clear hr hB))))
  all_goals (go_wp2_with fail; go_ret; exact ⟨rfl, hb ▸ T2.out.1⟩)

set_option maxRecDepth 100000 in
set_option maxHeartbeats 8000000 in
theorem whole_4 (X Y N : Int) (w : World) (hT : Tab w) (x0 : 0 ≤ X) (x1 : X < 18446744073709551616) :
    Calls Tryz.prog 6 #[.agg #[.int .i64 4, .int .u64 X, .int .u64 Y, .int .i64 N]] w fun e w' => e = .returned (.bool true) ∧ Below w.heap.size w w' := by
  have TP := hid (fun (wx : World) (hx : Below w.heap.size w wx) => near6_any X wx (hT.below hx) x0 x1)
  have TR := hid (fun (wx : World) (_ : Below w.heap.size w wx) => uNear_any X wx x0 x1)
  clear hT
  go_enter Tryz.func6, Tryz.ntmps6
  have S0 : Hid (OneR w (w.alloc (.cells #[.int .i64 (4), .int .u64 X, .int .u64 Y, .int .i64 N] 28)) w.heap.size (4) X Y N) := ⟨alloc_b w _, Row4.new w _ _ _ _ _⟩
  obtain ⟨⟨p0, -, -, -⟩, -⟩ := S0.out.2.cells
  go_upto_region 9 with fail
  generalize hw : w.alloc (.cells #[.int .i64 (4), .int .u64 X, .int .u64 Y, .int .i64 N] 28) = wA at *
  generalize hb : w.heap.size = b at *
  clear hw
  rw [← hb] at TP TR
  have SD := hid (S0.out.on (udrew wA))
  obtain ⟨p1, p2, p3⟩ := S0.out.flat
  go_region_held3 (fun w' => w'.cell? ⟨b, 1, none⟩ = some (.int .u64 X) ∧ w'.cell? ⟨b, 2, none⟩ = some (.int .u64 Y) ∧ w'.cell? ⟨b, 3, none⟩ = some (.int .i64 N)) (first | (with_reducible exact T2.out.flat) | (with_reducible exact T1.out.flat) | (with_reducible exact SD.out.flat)) (first
    | (go_at_call 19; (first
        | (refine (TP.out _ T1.out.1).mono ?_; rintro e w2 ⟨rp, rfl, hr, hB⟩; have T2 := hid (T1.out.on hB); have e1 := HR.out.one hr; subst e1; have bb : (rr == rr) = true := beq_self_eq_true _; clear hr hB)
        | (refine (TP.out _ SD.out.1).mono ?_; rintro e w1 ⟨rp, rfl, hr, hB⟩; have T1 := hid (SD.out.on hB); have HP := hid hr; obtain ⟨g1, g2, g3⟩ := T1.out.flat; clear hr hB)))
    | (go_at_call 20; (first
        | (refine (TR.out _ T1.out.1).mono ?_; rintro e w2 ⟨rr, rfl, hr, hB⟩; have T2 := hid (T1.out.on hB); have e1 := HP.out.one hr; subst e1; have bb : (rp == rp) = true := beq_self_eq_true _; clear hr hB)
        | (refine (TR.out _ SD.out.1).mono ?_; rintro e w1 ⟨rr, rfl, hr, hB⟩; have T1 := hid (SD.out.on hB); have HR := hid hr; obtain ⟨g1, g2, g3⟩ := T1.out.flat; clear hr hB))))
  all_goals (go_wp2_with fail; go_ret; exact ⟨rfl, hb ▸ T2.out.1⟩)

set_option maxRecDepth 100000 in
set_option maxHeartbeats 8000000 in
theorem mods_6 (X Y N : Int) (w : World) (hT : Tab w) (x0 : 0 ≤ X) (x1 : X < 18446744073709551616) (y0 : 0 ≤ Y) (y1 : Y < 18446744073709551616) :
    Calls Tryz.prog 7 #[.agg #[.int .i64 6, .int .u64 X, .int .u64 Y, .int .i64 N]] w fun e w' => e = .returned (.bool true) ∧ Below w.heap.size w w' := by
  have TP := hid (fun (wx : World) (hx : Below w.heap.size w wx) => fmod_any X Y wx (hT.below hx) x0 x1 y0 y1)
  have TR := hid (fun (wx : World) (_ : Below w.heap.size w wx) => ufmod_any X Y wx x0 x1 y0 y1)
  clear hT
  go_enter Tryz.func7, Tryz.ntmps7
  have S0 : Hid (OneR w (w.alloc (.cells #[.int .i64 (6), .int .u64 X, .int .u64 Y, .int .i64 N] 28)) w.heap.size (6) X Y N) := ⟨alloc_b w _, Row4.new w _ _ _ _ _⟩
  obtain ⟨⟨p0, -, -, -⟩, -⟩ := S0.out.2.cells
  go_upto_region 2 with fail
  generalize hw : w.alloc (.cells #[.int .i64 (6), .int .u64 X, .int .u64 Y, .int .i64 N] 28) = wA at *
  generalize hb : w.heap.size = b at *
  clear hw
  rw [← hb] at TP TR
  have SD := hid (S0.out.on (udrew wA))
  obtain ⟨p1, p2, p3⟩ := S0.out.flat
  go_region_held3 (fun w' => w'.cell? ⟨b, 1, none⟩ = some (.int .u64 X) ∧ w'.cell? ⟨b, 2, none⟩ = some (.int .u64 Y) ∧ w'.cell? ⟨b, 3, none⟩ = some (.int .i64 N)) (first | (with_reducible exact T2.out.flat) | (with_reducible exact T1.out.flat) | (with_reducible exact SD.out.flat)) (first
    | (go_at_call 12; (first
        | (refine (TP.out _ T1.out.1).mono ?_; rintro e w2 ⟨rp, rfl, hr, hB⟩; have T2 := hid (T1.out.on hB); have e1 := HR.out.one hr; subst e1; have bb : (rr == rr) = true := beq_self_eq_true _; clear hr hB)
        | (refine (TP.out _ SD.out.1).mono ?_; rintro e w1 ⟨rp, rfl, hr, hB⟩; have T1 := hid (SD.out.on hB); have HP := hid hr; obtain ⟨g1, g2, g3⟩ := T1.out.flat; clear hr hB)))
    | (go_at_call 23; (first
        | (refine (TR.out _ T1.out.1).mono ?_; rintro e w2 ⟨rr, rfl, hr, hB⟩; have T2 := hid (T1.out.on hB); have e1 := HP.out.one hr; subst e1; have bb : (rp == rp) = true := beq_self_eq_true _; clear hr hB)
        | (refine (TR.out _ SD.out.1).mono ?_; rintro e w1 ⟨rr, rfl, hr, hB⟩; have T1 := hid (SD.out.on hB); have HR := hid hr; obtain ⟨g1, g2, g3⟩ := T1.out.flat; clear hr hB))))
  all_goals (go_wp2_with fail; go_ret; exact ⟨rfl, hb ▸ T2.out.1⟩)

set_option maxRecDepth 100000 in
set_option maxHeartbeats 8000000 in
theorem mods_7 (X Y N : Int) (w : World) (hT : Tab w) (x0 : 0 ≤ X) (x1 : X < 18446744073709551616) (y0 : 0 ≤ Y) (y1 : Y < 18446744073709551616) :
    Calls Tryz.prog 7 #[.agg #[.int .i64 7, .int .u64 X, .int .u64 Y, .int .i64 N]] w fun e w' => e = .returned (.bool true) ∧ Below w.heap.size w w' := by
  have TP := hid (fun (wx : World) (hx : Below w.heap.size w wx) => remainder_any X Y wx (hT.below hx) x0 x1 y0 y1)
  have TR := hid (fun (wx : World) (_ : Below w.heap.size w wx) => urem_any X Y _ wx x0 x1 y0 y1 rfl)
  clear hT
  go_enter Tryz.func7, Tryz.ntmps7
  have S0 : Hid (OneR w (w.alloc (.cells #[.int .i64 (7), .int .u64 X, .int .u64 Y, .int .i64 N] 28)) w.heap.size (7) X Y N) := ⟨alloc_b w _, Row4.new w _ _ _ _ _⟩
  obtain ⟨⟨p0, -, -, -⟩, -⟩ := S0.out.2.cells
  go_upto_region 3 with fail
  generalize hw : w.alloc (.cells #[.int .i64 (7), .int .u64 X, .int .u64 Y, .int .i64 N] 28) = wA at *
  generalize hb : w.heap.size = b at *
  clear hw
  rw [← hb] at TP TR
  have SD := hid (S0.out.on (udrew wA))
  obtain ⟨p1, p2, p3⟩ := S0.out.flat
  go_region_held3 (fun w' => w'.cell? ⟨b, 1, none⟩ = some (.int .u64 X) ∧ w'.cell? ⟨b, 2, none⟩ = some (.int .u64 Y) ∧ w'.cell? ⟨b, 3, none⟩ = some (.int .i64 N)) (first | (with_reducible exact T2.out.flat) | (with_reducible exact T1.out.flat) | (with_reducible exact SD.out.flat)) (first
    | (go_at_call 24; (first
        | (refine (TP.out _ T1.out.1).mono ?_; rintro e w2 ⟨rp, rfl, hr, hB⟩; have T2 := hid (T1.out.on hB); have e1 := HR.out.one hr; subst e1; have bb : (rr == rr) = true := beq_self_eq_true _; clear hr hB)
        | (refine (TP.out _ SD.out.1).mono ?_; rintro e w1 ⟨rp, rfl, hr, hB⟩; have T1 := hid (SD.out.on hB); have HP := hid hr; obtain ⟨g1, g2, g3⟩ := T1.out.flat; clear hr hB)))
    | (go_at_call 25; (first
        | (refine (TR.out _ T1.out.1).mono ?_; rintro e w2 ⟨rr, rfl, hr, hB⟩; have T2 := hid (T1.out.on hB); have e1 := HP.out.one hr; subst e1; have bb : (rp == rp) = true := beq_self_eq_true _; clear hr hB)
        | (refine (TR.out _ SD.out.1).mono ?_; rintro e w1 ⟨rr, rfl, hr, hB⟩; have T1 := hid (SD.out.on hB); have HR := hid hr; obtain ⟨g1, g2, g3⟩ := T1.out.flat; clear hr hB))))
  all_goals (go_wp2_with fail; go_ret; exact ⟨rfl, hb ▸ T2.out.1⟩)

set_option maxRecDepth 100000 in
set_option maxHeartbeats 8000000 in
theorem whole_5 (X Y N : Int) (w : World) (hT : Tab w) (x0 : 0 ≤ X) (x1 : X < 18446744073709551616) :
    Calls Tryz.prog 6 #[.agg #[.int .i64 5, .int .u64 X, .int .u64 Y, .int .i64 N]] w fun e w' => e = .returned (.bool true) ∧ Below w.heap.size w w' := by
  have TP := hid (fun (wx : World) (hx : Below w.heap.size w wx) => split_any X wx (hT.below hx) x0 x1)
  have TR := hid (fun (wx : World) => usplit_any X wx x0 x1)
  clear hT
  go_enter Tryz.func6, Tryz.ntmps6
  have S0 : Hid (OneR w (w.alloc (.cells #[.int .i64 (5), .int .u64 X, .int .u64 Y, .int .i64 N] 28)) w.heap.size (5) X Y N) := ⟨alloc_b w _, Row4.new w _ _ _ _ _⟩
  obtain ⟨⟨p0, -, -, -⟩, -⟩ := S0.out.2.cells
  go_upto_region 10 with fail
  generalize hw : w.alloc (.cells #[.int .i64 (5), .int .u64 X, .int .u64 Y, .int .i64 N] 28) = wA at *
  generalize hb : w.heap.size = b at *
  clear hw
  rw [← hb] at TP
  obtain ⟨p1, p2, p3⟩ := S0.out.flat
  go_wp2_with fail
  refine (TP.out _ S0.out.1).mono ?_
  rintro e w1 ⟨r, f, rfl, hr, hB⟩
  have T1 := hid (S0.out.on hB)
  have HP := hid hr
  clear hr hB p0 p1 p2 p3 S0
  obtain ⟨p1, p2, p3⟩ := T1.out.flat
  go_wp2_with fail
  refine (TR.out _).mono ?_
  rintro e w2 ⟨r', f', rfl, hr, hB⟩
  have T2 := hid (T1.out.on hB)
  have e1 := HP.out.one hr
  obtain ⟨e2, e3⟩ := e1
  subst e2
  subst e3
  clear hr hB p1 p2 p3 T1 HP TP TR
  go_wp2_with fail
  go_ret
  exact ⟨rfl, hb ▸ T2.out.1⟩

set_option maxRecDepth 100000 in
set_option maxHeartbeats 8000000 in
theorem powers_9 (X Y N : Int) (w : World) (hT : Tab w) (x0 : 0 ≤ X) (x1 : X < 18446744073709551616) :
    Calls Tryz.prog 10 #[.agg #[.int .i64 9, .int .u64 X, .int .u64 Y, .int .i64 N]] w fun e w' => e = .returned (.bool true) ∧ Below w.heap.size w w' := by
  have TP := hid (fun (wx : World) (hx : Below w.heap.size w wx) => power6_any X N wx (hT.below hx) x0 x1)
  have TR := hid (fun (wx : World) => upower_any X N wx x0 x1)
  clear hT
  go_enter Tryz.func10, Tryz.ntmps10
  have S0 : Hid (OneR w (w.alloc (.cells #[.int .i64 (9), .int .u64 X, .int .u64 Y, .int .i64 N] 28)) w.heap.size (9) X Y N) := ⟨alloc_b w _, Row4.new w _ _ _ _ _⟩
  obtain ⟨⟨p0, -, -, -⟩, -⟩ := S0.out.2.cells
  go_upto_region 2 with fail
  generalize hw : w.alloc (.cells #[.int .i64 (9), .int .u64 X, .int .u64 Y, .int .i64 N] 28) = wA at *
  generalize hb : w.heap.size = b at *
  clear hw
  rw [← hb] at TP
  obtain ⟨p1, p2, p3⟩ := S0.out.flat
  go_wp2_with fail
  refine (TP.out _ S0.out.1).mono ?_
  rintro e w1 ⟨r, f, rfl, hr, hB⟩
  have T1 := hid (S0.out.on hB)
  have HP := hid hr
  clear hr hB p0 p1 p2 p3 S0
  obtain ⟨p1, p2, p3⟩ := T1.out.flat
  go_wp2_with fail
  refine (TR.out _).mono ?_
  rintro e w2 ⟨r', f', rfl, hr, hB⟩
  have T2 := hid (T1.out.on hB)
  have e1 := HP.out.one hr
  obtain ⟨e2, e3⟩ := e1
  subst e2
  subst e3
  clear hr hB p1 p2 p3 T1 HP TP TR
  go_wp2_with fail
  go_ret
  exact ⟨rfl, hb ▸ T2.out.1⟩

set_option maxRecDepth 100000 in
set_option maxHeartbeats 8000000 in
theorem powers_10 (X Y N : Int) (w : World) (hT : Tab w) (x0 : 0 ≤ X) (x1 : X < 18446744073709551616) (y0 : 0 ≤ Y) (y1 : Y < 18446744073709551616) :
    Calls Tryz.prog 10 #[.agg #[.int .i64 10, .int .u64 X, .int .u64 Y, .int .i64 N]] w fun e w' => e = .returned (.bool true) ∧ Below w.heap.size w w' := by
  have TP := hid (fun (wx : World) (hx : Below w.heap.size w wx) => powG_any X Y wx (hT.below hx) x0 x1 y0 y1)
  have TR := hid (fun (wx : World) => upowY_any X Y wx x0 x1 y0 y1)
  clear hT
  go_enter Tryz.func10, Tryz.ntmps10
  have S0 : Hid (OneR w (w.alloc (.cells #[.int .i64 (10), .int .u64 X, .int .u64 Y, .int .i64 N] 28)) w.heap.size (10) X Y N) := ⟨alloc_b w _, Row4.new w _ _ _ _ _⟩
  obtain ⟨⟨p0, -, -, -⟩, -⟩ := S0.out.2.cells
  go_upto_region 5 with fail
  generalize hw : w.alloc (.cells #[.int .i64 (10), .int .u64 X, .int .u64 Y, .int .i64 N] 28) = wA at *
  generalize hb : w.heap.size = b at *
  clear hw
  rw [← hb] at TP
  obtain ⟨p1, p2, p3⟩ := S0.out.flat
  go_wp2_with fail
  refine (TP.out _ S0.out.1).mono ?_
  rintro e w1 ⟨r, f, rfl, hr, hB⟩
  have T1 := hid (S0.out.on hB)
  have HP := hid hr
  clear hr hB p0 p1 p2 p3 S0
  obtain ⟨p1, p2, p3⟩ := T1.out.flat
  go_wp2_with fail
  refine (TR.out _).mono ?_
  rintro e w2 ⟨r', f', rfl, hr, hB⟩
  have T2 := hid (T1.out.on hB)
  have e1 := HP.out.one hr
  obtain ⟨e2, e3⟩ := e1
  subst e2
  subst e3
  clear hr hB p1 p2 p3 T1 HP TP TR
  go_wp2_with fail
  go_ret
  exact ⟨rfl, hb ▸ T2.out.1⟩

end Go.Proofs.YtmakkfekomnpbaaGreatDoor

/-
  law06: awake.
-/
namespace Go.Proofs.YtmakkfekomnpbaaGreatDoor
open Go Go.RowKit Go.Deep

namespace Ie
theorem un_is {x m : Int} {E : Nat} (h1 : man x = m) (h2 : ex x = E) : un x = m * 2 ^ E := by rw [un, h1, h2]

theorem q_add (a : Nat) {m c : Int} {e : Nat} (h : m = c * 2 ^ a) (he : e + a = 1073) : m * 2 ^ e = c * 2 ^ 1073 := by
  rw [h, Int.mul_assoc, ← Nm.two_add]; congr 2; omega

theorem un25 : un 4612811918334230528 = 5 * 2 ^ 1073 := (un_is (m := 5629499534213120) (E := 1023) (by decide) (by decide)).trans (q_add 50 (by decide) rfl)
theorem un20 : un 4611686018427387904 = 4 * 2 ^ 1073 := (un_is (m := 4503599627370496) (E := 1023) (by decide) (by decide)).trans (q_add 50 (by decide) rfl)
theorem un55 : un 4617878467915022336 = 11 * 2 ^ 1073 := (un_is (m := 6192449487634432) (E := 1024) (by decide) (by decide)).trans (q_add 49 (by decide) rfl)
theorem un15 : un 4609434218613702656 = 3 * 2 ^ 1073 := (un_is (m := 6755399441055744) (E := 1022) (by decide) (by decide)).trans (q_add 51 (by decide) rfl)

theorem p1074 : (2 : Int) ^ 1074 = 2 * 2 ^ 1073 := Nm.two_succ 1073

theorem trunc25 {r : Int} (h : WIs 4612811918334230528 false r) : r = 4611686018427387904 := by
  have hp := Nm.two_pos 1073
  have a1 : ab 4612811918334230528 = 4612811918334230528 := by decide
  have n1 : ngd 4612811918334230528 = false := by decide
  have hf : fin 4612811918334230528 := by rw [fin, a1]; decide
  have hi : intg 4612811918334230528 = false := by
    cases g : intg 4612811918334230528
    · rfl
    · exfalso
      have := (intg_iff_un hf).1 g
      rw [a1, un25, p1074, emod_scale _ _ _ hp] at this
      generalize (2 : Int) ^ 1073 = Q at *
      omega
  obtain ⟨y, hr, y0, y1, -, q⟩ := h.2.2 hf
  have q := q hi
  rw [a1, un25, p1074, show wup (5 * 2 ^ 1073 / (2 * 2 ^ 1073)) false = 2 by rw [wup, if_neg (by decide), ediv_scale _ _ _ hp]; rfl] at q
  have e : un y = un 4611686018427387904 := by
    rw [q, un20]
    generalize (2 : Int) ^ 1073 = Q at *
    omega
  rw [hr, n1, un_inj y0 (by omega) e]
  rfl

theorem fmod55 {r : Int} (h : LeftIs 13841250504769798144 4611686018427387904 false r) : r = 13832806255468478464 := by
  have hp := Nm.two_pos 1073
  have a1 : ab 13841250504769798144 = 4617878467915022336 := by decide
  have a2 : ab 4611686018427387904 = 4611686018427387904 := by decide
  have n1 : ngd 13841250504769798144 = true := by decide
  obtain ⟨y, hr, y0, y1, q⟩ := h.2.2 (by rw [fin, a1]; decide) (by rw [fin, a2]; decide) (by rw [a2]; decide)
  rw [a1, a2, un55, un20, lft, if_neg (by decide), emod_scale _ _ _ hp] at q
  rw [hr, n1, un_inj y0 (by omega) (q.trans un15.symm)]
  rfl

theorem scale3 {r : Int} (h : ScaleIs 4613937818241073152 (-1075) r) : r = 2 := by
  have a1 : ab 4613937818241073152 = 4613937818241073152 := by decide
  have n1 : ngd 4613937818241073152 = false := by decide
  have m1 : dm 4613937818241073152 = 6755399441055744 := by decide
  have e1 : de 4613937818241073152 = -51 := by decide
  obtain ⟨x, hr, hx⟩ := h.2.2 (by rw [fin, a1]; decide)
  rw [m1, e1] at hx
  have : Rnd 6755399441055744 1 (-51 + -1075) false 2 := by
    refine Rnd.of (a := 0) (b := 51) (by omega) ⟨⟨by omega, by omega⟩, fun _ => .inr ⟨by decide, .inl (by decide)⟩, fun _ => .inl (by decide)⟩
  rw [hr, n1, hx.one (by decide) (by decide) this (a := 0) (a' := 0) (by omega) rfl]
  rfl

theorem power210 {r f : Int} (h : PwrIs 4611686018427387904 10 r f) : r = 4652218415073722368 ∧ f = 0 := by
  have a1 : ab 4611686018427387904 = 4611686018427387904 := by decide
  have n1 : ngd 4611686018427387904 = false := by decide
  have m1 : dm 4611686018427387904 = 4503599627370496 := by decide
  have e1 : de 4611686018427387904 = -51 := by decide
  have i1 : isn 4611686018427387904 = false := by decide
  obtain ⟨h1, -, h2⟩ := h.2 (by omega) (by omega)
  obtain ⟨y, hr, hy⟩ := (h2 (by omega)).2 i1
  have hp := (hy.2.2.1 (by rw [fin, a1]; decide) (by rw [a1]; decide))
  rw [m1, e1] at hp
  have hq := (hp.odd (o := 1) (t := 52) (by decide)).1 10 rfl
  rw [show ((-51 : Int) + (52 : Nat)) * 10 = 10 by decide, Int.one_pow] at hq
  have : Rnd 1 1 10 false 4652218415073722368 := by
    refine rnd_vl 1 10 _ false 1085 0 (by omega) (by omega) (by omega) ?_
    rw [vl_un, un_is (m := 4503599627370496) (E := 1032) (by decide) (by decide), show (4503599627370496 : Int) = 2 ^ 52 by decide, ← Nm.two_add, ← Nm.two_succ, Int.pow_zero, Int.one_mul, Int.mul_one]
  rw [hr, n1, Bool.false_and, hq.one (by decide) (by decide) this (a := 0) (a' := 0) (by omega) rfl]
  exact ⟨rfl, h1⟩
end Ie

set_option maxRecDepth 100000 in
set_option maxHeartbeats 2000000 in
theorem hawake_any (w : World) (hT : Tab w) :
    Calls Tryz.prog 5 #[] w fun e w' => e = .returned (.bool true) ∧ Below w.heap.size w w' := by
  have T := hid (trunc_any 4612811918334230528 w hT (by omega) (by omega))
  have M := hid (fun (wx : World) (hx : Tab wx) => fmod_any 13841250504769798144 4611686018427387904 wx hx (by omega) (by omega) (by omega) (by omega))
  have S := hid (fun (wx : World) (hx : Tab wx) => scale_any 4613937818241073152 (-1075) wx hx (by omega) (by omega))
  have P := hid (fun (wx : World) (hx : Tab wx) => power6_any 4611686018427387904 10 wx hx (by omega) (by omega))
  have HT := hid hT
  clear hT
  go_enter Tryz.func5, Tryz.ntmps5
  go_wp2_with fail
  refine T.out.mono ?_
  rintro e w1 ⟨r, rfl, h, hB⟩
  obtain rfl := Ie.trunc25 h
  have HB1 := hid hB
  clear h hB T
  go_wp2_with fail
  refine (M.out _ (HT.out.below HB1.out)).mono ?_
  rintro e w2 ⟨r, rfl, h, hB⟩
  obtain rfl := Ie.fmod55 h
  have HB2 := hid (HB1.out.trans (hB.mono HB1.out.size))
  clear h hB M HB1
  go_wp2_with fail
  refine (S.out _ (HT.out.below HB2.out)).mono ?_
  rintro e w3 ⟨r, rfl, h, hB⟩
  obtain rfl := Ie.scale3 h
  have HB3 := hid (HB2.out.trans (hB.mono HB2.out.size))
  clear h hB S HB2
  go_wp2_with fail
  refine (P.out _ (HT.out.below HB3.out)).mono ?_
  rintro e w4 ⟨r, f, rfl, h, hB⟩
  obtain ⟨rfl, rfl⟩ := Ie.power210 h
  have HB4 := hid (HB3.out.trans (hB.mono HB3.out.size))
  clear h hB P HB3
  go_wp2_with fail
  go_ret
  exact ⟨rfl, HB4.out⟩
end Go.Proofs.YtmakkfekomnpbaaGreatDoor

namespace Go.Proofs.YtmakkfekomnpbaaGreatDoor
open Go.RowKit Go.Deep Go.ChangeShapes Go.WideShapes Go.ChangeAt

/-- A list of limbs that was read, wherever it stands. -/
theorem open_list {H : Type} {enc : TypeId × Value → H} {W : World} {fuel : Nat} {c : Value} {y : DataW H × List MemPlace} (hf : DataW.trod enc Tryz.prog W 0 (fun _ => true) true fuel 43 [c] = some y)
    (hsz : ∀ n ∈ y.1.weights Tryz.prog 43, n ≤ reachBytes) : ∃ p n cap zs, c = .slice p n cap ∧ Arg W p n cap zs ∧ cap ≤ 17592186043904 := by
  rcases open_ints Tryz.underlying43 Tryz.underlying26 (by kernel_rfl) hf with ⟨hcs, _⟩ | ⟨x, l, cp, zs, hcs, _, hl, hm, hz, hx, hcell, hwz⟩
  · simp only [List.cons.injEq, and_true] at hcs
    exact ⟨none, 0, 0, [], hcs, ⟨rfl, Nat.le_refl _, by omega, Lies.nil _ _, Nm.Limbs.nil⟩, by omega⟩
  · simp only [List.cons.injEq, and_true] at hcs
    have hz' : zs.length = cp := by simpa using hz
    have hr := hsz (((lits (H := H) .u64 (zs.take l)).length + (lits (H := H) .u64 (zs.drop l)).length) * Tryz.prog.bytesOf 26) (by rw [hx]; simp [DataW.weights, Tryz.underlying43])
    rw [show Tryz.prog.bytesOf 26 = 8 by kernel_rfl] at hr
    simp only [lits, List.length_map, List.length_take, List.length_drop, reachBytes] at hr
    have hb : cp ≤ 17592186043904 := by omega
    exact ⟨some x, l, cp, _, hcs, arg_open hl hz' hb hcell hwz, hb⟩

theorem all_mem {H : Type} {P : Program} {e : TypeId} : ∀ {l : List (DataW H)} {d : DataW H}, d ∈ l → ∀ n ∈ d.weights P e, n ∈ DataW.weightsAll P e l
  | [], _, h, _, _ => by simp at h
  | x :: r, d, h, n, hn => by
    simp only [DataW.weightsAll, List.mem_append]
    rcases List.mem_cons.1 h with rfl | h
    · exact .inl hn
    · exact .inr (all_mem h n hn)

/-- What can be told of each place can be told of a list. -/
theorem list_of_each {α : Type} {Q : Nat → α → Prop} : ∀ n, (∀ i, i < n → ∃ x, Q i x) → ∃ l : List α, l.length = n ∧ ∀ i x, l[i]? = some x → Q i x
  | 0, _ => ⟨[], rfl, by simp⟩
  | n + 1, h => by
    obtain ⟨l, h1, h2⟩ := list_of_each n (fun i hi => h i (by omega))
    obtain ⟨x, hx⟩ := h n (by omega)
    refine ⟨l ++ [x], by simp [h1], fun i y hy => ?_⟩
    by_cases hi : i < l.length
    · rw [List.getElem?_append_left hi] at hy
      exact h2 i y hy
    · have hlt := (List.getElem?_eq_some_iff.1 hy).1
      simp only [List.length_append, List.length_cons, List.length_nil] at hlt
      obtain rfl : i = n := by omega
      rw [List.getElem?_append_right (by omega), h1, Nat.sub_self] at hy
      simp at hy
      subst hy
      exact hx
end Go.Proofs.YtmakkfekomnpbaaGreatDoor

namespace Go.Proofs.YtmakkfekomnpbaaGreatDoor
open Go.RowKit Go.Deep Go.ChangeShapes Go.WideShapes Go.ChangeAt

/-- A call that was read. -/
structure O6 where
  K : Int
  X : Int
  Y : Int
  N : Int

/-- Its four cells stand there. -/
def O6.Cells (w : World) (b o : Nat) (it : O6) : Prop :=
  w.cell? ⟨b, o, none⟩ = some (.int .i64 it.K) ∧ w.cell? ⟨b, o + 1, none⟩ = some (.int .u64 it.X) ∧ w.cell? ⟨b, o + 2, none⟩ = some (.int .u64 it.Y) ∧ w.cell? ⟨b, o + 3, none⟩ = some (.int .i64 it.N)

def O6.Bd (it : O6) : Prop := (0 ≤ it.X ∧ it.X < 18446744073709551616) ∧ (0 ≤ it.Y ∧ it.Y < 18446744073709551616)

def O6.Holds (w : World) (a : Option Addr) (its : List O6) : Prop := its = [] ∨ ∃ b off, a = some ⟨b, off, none⟩ ∧ ∀ i it, its[i]? = some it → O6.Cells w b (off + i * 4) it

theorem list4o {α : Type} {l : List α} (h : l.length = 4) : ∃ c0 c1 c2 c3, l = [c0, c1, c2, c3] := by
  match l, h with
  | [c0, c1, c2, c3], _ => exact ⟨c0, c1, c2, c3, rfl⟩

theorem open_op6 {H : Type} {enc : TypeId × Value → H} {W : World} {fuel : Nat} {a0 a1 a2 a3 : Value} {y : DataW H × List MemPlace} (hf : DataW.trod enc Tryz.prog W 0 (fun _ => true) true fuel 28 [a0, a1, a2, a3] = some y) :
    ∃ it : O6, a0 = .int .i64 it.K ∧ a1 = .int .u64 it.X ∧ a2 = .int .u64 it.Y ∧ a3 = .int .i64 it.N ∧ it.Bd := by
  obtain ⟨xs, n, _, hx, _, hlen, hfs⟩ := DataW.trod_struct Tryz.underlying28 hf
  obtain ⟨y0, y1, y2, y3, rfl⟩ := list4o hlen
  have ci : Tryz.prog.cellsOf 3 = 1 := by kernel_rfl
  have cu : Tryz.prog.cellsOf 26 = 1 := by kernel_rfl
  have f0 : DataW.trod enc Tryz.prog W 0 (fun _ => true) true n 3 [a0] = some y0 := by simpa [ci, cu] using hfs 0 _ rfl
  have f1 : DataW.trod enc Tryz.prog W 0 (fun _ => true) true n 26 [a1] = some y1 := by simpa [ci, cu] using hfs 1 _ rfl
  have f2 : DataW.trod enc Tryz.prog W 0 (fun _ => true) true n 26 [a2] = some y2 := by simpa [ci, cu] using hfs 2 _ rfl
  have f3 : DataW.trod enc Tryz.prog W 0 (fun _ => true) true n 3 [a3] = some y3 := by simpa [ci, cu] using hfs 3 _ rfl
  obtain ⟨K, e0, _, w0⟩ := DataW.trod_int Tryz.underlying3 f0
  obtain ⟨X, e1, _, w1⟩ := DataW.trod_int Tryz.underlying26 f1
  obtain ⟨Y, e2, _, w2⟩ := DataW.trod_int Tryz.underlying26 f2
  obtain ⟨N, e3, _, w3⟩ := DataW.trod_int Tryz.underlying3 f3
  have b1 := bounds_u64 w1
  have b2 := bounds_u64 w2
  have bX : 0 ≤ X ∧ X < 18446744073709551616 := by omega
  have bY : 0 ≤ Y ∧ Y < 18446744073709551616 := by omega
  exact ⟨⟨K, X, Y, N⟩, (List.cons.inj e0).1, (List.cons.inj e1).1, (List.cons.inj e2).1, (List.cons.inj e3).1, bX, bY⟩

theorem open_ops6 {H : Type} {enc : TypeId × Value → H} {W : World} {a : Option Addr} {len cap : Nat} {d : DataW H} {p : List MemPlace} (h : DataW.Trod enc Tryz.prog W 0 (fun _ => true) true 22 (.slice a len cap) d p)
    (hsz : ∀ n ∈ d.weights Tryz.prog 22, n ≤ reachBytes) : ∃ its : List O6, its.length = len ∧ len ≤ cap ∧ cap ≤ 17592186044416 ∧ O6.Holds W a its ∧ ∀ it ∈ its, O6.Bd it := by
  obtain ⟨fuel, hf⟩ := h
  rcases DataW.trod_slice Tryz.underlying22 hf with ⟨hcs, _⟩ | ⟨x, l, c, elems, rest, n, _, hcs, hx, _, hl, hm, he, hel, hsp, _⟩
  · simp [Value.cells] at hcs
    obtain ⟨rfl, rfl, rfl⟩ := hcs
    exact ⟨[], rfl, Nat.le_refl _, by omega, .inl rfl, by intro it h; simp at h⟩
  · simp [Value.cells] at hcs
    obtain ⟨rfl, rfl, rfl⟩ := hcs
    have hd : d = .slice (elems.map (·.1)) (rest.map (·.1)) := (Prod.mk.inj hx).1
    have hw : ∀ n ∈ (DataW.slice (elems.map (·.1)) (rest.map (·.1)) : DataW H).weights Tryz.prog 22, n ≤ reachBytes := by rw [← hd]; exact hsz
    simp only [DataW.weights, Tryz.underlying22] at hw
    have hr := hw _ List.mem_cons_self
    rw [show Tryz.prog.bytesOf 28 = 32 by kernel_rfl] at hr
    have hrl := (hsp rfl).1
    simp only [List.length_map, reachBytes] at hr
    have hcap : cap ≤ 17592186044416 := by omega
    rw [show Tryz.prog.cellsOf 28 = 4 by kernel_rfl] at hel
    obtain ⟨its, i1, i2⟩ := list_of_each (Q := fun i (it : O6) => (W.cell? (x.add (i * 4)) = some (.int .i64 it.K) ∧ W.cell? ((x.add (i * 4)).add 1) = some (.int .u64 it.X) ∧ W.cell? ((x.add (i * 4)).add 2) = some (.int .u64 it.Y) ∧ W.cell? ((x.add (i * 4)).add 3) = some (.int .i64 it.N)) ∧ it.Bd) len (fun i hi => by
      have h1 := hel i hi
      have h2 : elems[i]? = some elems[i] := List.getElem?_eq_getElem (by omega)
      rw [h2] at h1
      obtain ⟨cs, h3, h4⟩ := Option.bind_eq_some_iff.1 h1
      obtain ⟨_, h5, h6⟩ := World.cells?_some h3
      obtain ⟨v0, v1, v2, v3, rfl⟩ := list4o h5
      have e0 := h6 0 (by omega)
      have e1 := h6 1 (by omega)
      have e2 := h6 2 (by omega)
      have e3 := h6 3 (by omega)
      have h8 : (x.add (i * 4)).add 0 = x.add (i * 4) := by simp [Addr.add]
      rw [h8] at e0
      obtain ⟨it, q0, q1, q2, q3, hA⟩ := open_op6 h4
      subst q0
      subst q1
      subst q2
      subst q3
      exact ⟨it, ⟨e0, e1, e2, e3⟩, hA⟩)
    refine ⟨its, i1, hl, hcap, ?_, ?_⟩
    · rcases Nat.eq_zero_or_pos its.length with h0 | h0
      · exact .inl (List.eq_nil_of_length_eq_zero h0)
      · obtain ⟨b, off, spot⟩ := x
        have hspot : spot = none := by simpa [Addr.add] using World.cell?_spot (i2 0 _ (List.getElem?_eq_getElem h0)).1.1
        subst hspot
        refine .inr ⟨b, off, rfl, fun i it hi => ?_⟩
        obtain ⟨⟨q0, q1, q2, q3⟩, _⟩ := i2 i it hi
        rw [Go.WideShapes.add_plain] at q0 q1 q2 q3
        rw [Go.WideShapes.add_plain] at q1 q2 q3
        exact ⟨q0, q1, q2, q3⟩
    · intro it hit
      obtain ⟨i, hi⟩ := List.getElem?_of_mem hit
      exact (i2 i it hi).2
end Go.Proofs.YtmakkfekomnpbaaGreatDoor

namespace Go.Proofs.YtmakkfekomnpbaaGreatDoor
open Go Go.RowKit Go.Deep

/-- A call in its box. -/
def One6 (w wx : World) (b : Nat) (K X Y N : Int) : Prop := Below w.heap.size w wx ∧ Row4 wx b 28 (.int .i64 K) (.int .u64 X) (.int .u64 Y) (.int .i64 N)

theorem One6.on {w wx w' : World} {b : Nat} {K X Y N : Int} (h : One6 w wx b K X Y N) (hB : Below wx.heap.size wx w') : One6 w w' b K X Y N :=
  ⟨h.1.trans (hB.mono h.1.size), h.2.below hB h.2.lt⟩

theorem One6.flat {w wx : World} {b : Nat} {K X Y N : Int} (h : One6 w wx b K X Y N) :
    wx.cell? ⟨b, 1, none⟩ = some (.int .u64 X) ∧ wx.cell? ⟨b, 2, none⟩ = some (.int .u64 Y) ∧ wx.cell? ⟨b, 3, none⟩ = some (.int .i64 N) := by
  obtain ⟨⟨-, p1, p2, p3⟩, -⟩ := h.2.cells
  exact ⟨p1, p2, p3⟩

theorem udrew6 (w : World) : Below w.heap.size w w.drew := ⟨rfl, rfl, rfl, Nat.le_refl _, fun _ _ => rfl⟩

theorem O6.Holds.below {w w' : World} {a : Option Addr} {its : List O6} (h : O6.Holds w a its) (hb : Below w.heap.size w w') : O6.Holds w' a its := by
  rcases h with rfl | ⟨b, off, rfl, h⟩
  · exact .inl rfl
  · refine .inr ⟨b, off, rfl, fun i it hi => ?_⟩
    obtain ⟨h0, h1, h2, h3⟩ := h i it hi
    exact ⟨by rw [hb.cell (p := ⟨b, off + i * 4, none⟩) (cell_lt h0)]; exact h0, by rw [hb.cell (p := ⟨b, off + i * 4 + 1, none⟩) (cell_lt h1)]; exact h1, by rw [hb.cell (p := ⟨b, off + i * 4 + 2, none⟩) (cell_lt h2)]; exact h2, by rw [hb.cell (p := ⟨b, off + i * 4 + 3, none⟩) (cell_lt h3)]; exact h3⟩

set_option maxRecDepth 100000 in
set_option maxHeartbeats 8000000 in
theorem upTo_of (a : Option Addr) (len cap : Nat) (its : List O6) (w : World) (hl : its.length = len) (hc : len ≤ cap) (hm : cap ≤ 17592186044416) (hp : O6.Holds w a its) (hi : ∀ it ∈ its, O6.Bd it)
    (aw : Calls Tryz.prog 5 #[] w fun e w' => e = .returned (.bool true) ∧ Below w.heap.size w w')
    (wh : ∀ (K X Y N : Int) (wx : World), Below w.heap.size w wx → 0 ≤ X → X < 18446744073709551616 → 1 ≤ K → K ≤ 5 → Calls Tryz.prog 6 #[.agg #[.int .i64 K, .int .u64 X, .int .u64 Y, .int .i64 N]] wx fun e w' => e = .returned (.bool true) ∧ Below wx.heap.size wx w')
    (m6 : ∀ (X Y N : Int) (wx : World), Below w.heap.size w wx → 0 ≤ X → X < 18446744073709551616 → 0 ≤ Y → Y < 18446744073709551616 → Calls Tryz.prog 7 #[.agg #[.int .i64 6, .int .u64 X, .int .u64 Y, .int .i64 N]] wx fun e w' => e = .returned (.bool true) ∧ Below wx.heap.size wx w')
    (m7 : ∀ (X Y N : Int) (wx : World), Below w.heap.size w wx → 0 ≤ X → X < 18446744073709551616 → 0 ≤ Y → Y < 18446744073709551616 → Calls Tryz.prog 7 #[.agg #[.int .i64 7, .int .u64 X, .int .u64 Y, .int .i64 N]] wx fun e w' => e = .returned (.bool true) ∧ Below wx.heap.size wx w')
    (p9 : ∀ (X Y N : Int) (wx : World), Below w.heap.size w wx → 0 ≤ X → X < 18446744073709551616 → Calls Tryz.prog 10 #[.agg #[.int .i64 9, .int .u64 X, .int .u64 Y, .int .i64 N]] wx fun e w' => e = .returned (.bool true) ∧ Below wx.heap.size wx w')
    (p10 : ∀ (X Y N : Int) (wx : World), Below w.heap.size w wx → 0 ≤ X → X < 18446744073709551616 → 0 ≤ Y → Y < 18446744073709551616 → Calls Tryz.prog 10 #[.agg #[.int .i64 10, .int .u64 X, .int .u64 Y, .int .i64 N]] wx fun e w' => e = .returned (.bool true) ∧ Below wx.heap.size wx w')
    (Q : Int → Int → Int → Prop) (one : ∀ X N r r', Q X N r → Q X N r' → r = r')
    (sm : ∀ (X N : Int) (wx : World), Below w.heap.size w wx → 0 ≤ X → X < 18446744073709551616 → Calls Tryz.prog 8 #[.int .u64 X, .int .i64 N] wx fun e w' => ∃ r, e = .returned (.int .u64 r) ∧ Q X N r ∧ Below wx.heap.size wx w')
    (su : ∀ (X N : Int) (wx : World), Below w.heap.size w wx → 0 ≤ X → X < 18446744073709551616 → Calls Tryz.prog 9 #[.int .u64 X, .int .i64 N] wx fun e w' => ∃ r, e = .returned (.int .u64 r) ∧ Q X N r ∧ Below wx.heap.size wx w') :
    Calls Tryz.prog 4 #[.slice a len cap, .int .i64 1, .int .i64 10] w fun e w' => e = .returned (.bool true) ∧ Below w.heap.size w w' := by
  have HL := hid hl
  have HP := hid hp
  have HI := hid hi
  have AW := hid aw
  replace wh := hid wh
  replace m6 := hid m6
  replace m7 := hid m7
  replace p9 := hid p9
  replace p10 := hid p10
  replace one := hid one
  replace sm := hid sm
  replace su := hid su
  have TR' : Hid (∀ wx w' : World, Below w.heap.size w wx → Below wx.heap.size wx w' → Below w.heap.size w w') := fun wx w' x y => x.trans (y.mono x.size)
  clear hl hp hi aw
  go_enter Tryz.func4, Tryz.ntmps4
  go_wp2_with fail
  refine AW.out.mono ?_
  rintro e w1 ⟨rfl, hB⟩
  have D1 := hid hB
  clear hB AW
  go_wp2_with fail
  go_loopw [7, 8, 9] (fun ok i _ wr => ∃ j : Nat, j ≤ len ∧ ok = .bool true ∧ i = .int .i64 j ∧ Hid (Below w.heap.size w wr)) (fun _ i _ _ => len - (intOf i).toNat)
  case atStart => exact ⟨0, Nat.zero_le _, rfl, rfl, D1.out⟩
  case round =>
    clear D1
    obtain ⟨j, hj, rfl, rfl, D⟩ := hrel
    by_cases hlt : j < len
    · obtain ⟨it, hit⟩ : ∃ it, its[j]? = some it := ⟨_, List.getElem?_eq_getElem (by have := HL.out; omega)⟩
      have hPH := HP.out.below D.out
      obtain ⟨⟨x0, x1⟩, ⟨y0, y1⟩⟩ := HI.out it (List.mem_of_getElem? hit)
      rcases hPH with h | ⟨b0, off, rfl, h⟩
      · rw [h] at hit
        simp at hit
      · obtain ⟨c0, c1, c2, c3⟩ := h j it hit
        obtain ⟨K, X, Y, N⟩ := it
        simp only at c0 c1 c2 c3 x0 x1 y0 y1
        have hjl : (j : Int) < (len : Int) := by omega
        clear h hit HP HI HL
        by_cases hin : 1 ≤ K ∧ K ≤ 10
        · obtain ⟨k1, k10⟩ := hin
          go_upto_region 7 with fail
          have S0 : Hid (One6 w (wr.alloc (.cells #[.int .i64 K, .int .u64 X, .int .u64 Y, .int .i64 N] 28)) wr.heap.size K X Y N) := ⟨TR'.out _ _ D.out (alloc_b wr _), Row4.new wr _ _ _ _ _⟩
          generalize wr.alloc (.cells #[.int .i64 K, .int .u64 X, .int .u64 Y, .int .i64 N] 28) = wA at *
          generalize wr.heap.size = b at *
          obtain ⟨⟨p0, p1, p2, p3⟩, -⟩ := S0.out.2.cells
          clear c0 c1 c2 c3 D
          rcases (show K ≤ 5 ∨ K = 6 ∨ K = 7 ∨ K = 8 ∨ K = 9 ∨ K = 10 by omega) with k5 | rfl | rfl | rfl | rfl | rfl
          · have WC := hid (wh.out K X Y N wA S0.out.1 x0 x1 k1 k5)
            go_wp2_with fail
            refine (WC.out).mono ?_
            rintro e w2 ⟨rfl, hB⟩
            have D2 := hid (TR'.out _ _ S0.out.1 hB)
            clear hB S0 p0 p1 p2 p3
            go_wp2_with fail
            go_roundw
            case rel => exact ⟨j + 1, by omega, rfl, by go_num, D2.out⟩
            case measure => simp [intOf]; omega
          · have WC := hid (m6.out X Y N wA S0.out.1 x0 x1 y0 y1)
            go_wp2_with fail
            refine (WC.out).mono ?_
            rintro e w2 ⟨rfl, hB⟩
            have D2 := hid (TR'.out _ _ S0.out.1 hB)
            clear hB S0 p0 p1 p2 p3
            go_wp2_with fail
            go_roundw
            case rel => exact ⟨j + 1, by omega, rfl, by go_num, D2.out⟩
            case measure => simp [intOf]; omega
          · have WC := hid (m7.out X Y N wA S0.out.1 x0 x1 y0 y1)
            go_wp2_with fail
            refine (WC.out).mono ?_
            rintro e w2 ⟨rfl, hB⟩
            have D2 := hid (TR'.out _ _ S0.out.1 hB)
            clear hB S0 p0 p1 p2 p3
            go_wp2_with fail
            go_roundw
            case rel => exact ⟨j + 1, by omega, rfl, by go_num, D2.out⟩
            case measure => simp [intOf]; omega
          · have TP := hid (fun (wx : World) (hx : Below w.heap.size w wx) => sm.out X N wx hx x0 x1)
            have TR := hid (fun (wx : World) (hx : Below w.heap.size w wx) => su.out X N wx hx x0 x1)
            have ONE := hid (fun (r r' : Int) => one.out X N r r')
            go_upto_region 12 with fail
            have SD := hid (S0.out.on (udrew6 wA))
            go_region_held3 (fun w' => w'.cell? ⟨b, 1, none⟩ = some (.int .u64 X) ∧ w'.cell? ⟨b, 2, none⟩ = some (.int .u64 Y) ∧ w'.cell? ⟨b, 3, none⟩ = some (.int .i64 N)) (first | (with_reducible exact T2.out.flat) | (with_reducible exact T1.out.flat) | (with_reducible exact SD.out.flat)) (first
              | (go_at_call 8; (first
                  | (refine (TP.out _ T1.out.1).mono ?_; rintro e w2 ⟨rp, rfl, hr, hB⟩; have T2 := hid (T1.out.on hB); have e1 := ONE.out _ _ HR.out hr; subst e1; have bb : (rr == rr) = true := beq_self_eq_true _; clear hr hB)
                  | (refine (TP.out _ SD.out.1).mono ?_; rintro e w1 ⟨rp, rfl, hr, hB⟩; have T1 := hid (SD.out.on hB); have HP := hid hr; obtain ⟨g1, g2, g3⟩ := T1.out.flat; clear hr hB)))
              | (go_at_call 9; (first
                  | (refine (TR.out _ T1.out.1).mono ?_; rintro e w2 ⟨rr, rfl, hr, hB⟩; have T2 := hid (T1.out.on hB); have e1 := ONE.out _ _ HP.out hr; subst e1; have bb : (rp == rp) = true := beq_self_eq_true _; clear hr hB)
                  | (refine (TR.out _ SD.out.1).mono ?_; rintro e w1 ⟨rr, rfl, hr, hB⟩; have T1 := hid (SD.out.on hB); have HR := hid hr; obtain ⟨g1, g2, g3⟩ := T1.out.flat; clear hr hB))))
            all_goals (go_wp2_with fail; go_roundw; all_goals (first | exact ⟨j + 1, by omega, rfl, by go_num, T2.out.1⟩ | (simp [intOf]; omega)))
          · have WC := hid (p9.out X Y N wA S0.out.1 x0 x1)
            go_wp2_with fail
            refine (WC.out).mono ?_
            rintro e w2 ⟨rfl, hB⟩
            have D2 := hid (TR'.out _ _ S0.out.1 hB)
            clear hB S0 p0 p1 p2 p3
            go_wp2_with fail
            go_roundw
            case rel => exact ⟨j + 1, by omega, rfl, by go_num, D2.out⟩
            case measure => simp [intOf]; omega
          · have WC := hid (p10.out X Y N wA S0.out.1 x0 x1 y0 y1)
            go_wp2_with fail
            refine (WC.out).mono ?_
            rintro e w2 ⟨rfl, hB⟩
            have D2 := hid (TR'.out _ _ S0.out.1 hB)
            clear hB S0 p0 p1 p2 p3
            go_wp2_with fail
            go_roundw
            case rel => exact ⟨j + 1, by omega, rfl, by go_num, D2.out⟩
            case measure => simp [intOf]; omega
        · have DB := hid (TR'.out _ _ D.out (alloc_b wr (.cells #[.int .i64 K, .int .u64 X, .int .u64 Y, .int .i64 N] 28)))
          rcases (show K < 1 ∨ 10 < K by omega) with kk | kk
          · go_wp2_with fail
            go_roundw
            case rel => exact ⟨j + 1, by omega, rfl, by go_num, DB.out⟩
            case measure => simp [intOf]; omega
          · have k1 : ¬ K < 1 := by omega
            go_wp2_with fail
            go_roundw
            case rel => exact ⟨j + 1, by omega, rfl, by go_num, DB.out⟩
            case measure => simp [intOf]; omega
    · go_wp2_with fail
      go_ret
      exact ⟨rfl, D.out⟩
end Go.Proofs.YtmakkfekomnpbaaGreatDoor

namespace Go.Proofs.YtmakkfekomnpbaaGreatDoor
open Go Go.RowKit Go.Deep

theorem wholes_any (K X Y N : Int) (w : World) (hT : Tab w) (x0 : 0 ≤ X) (x1 : X < 18446744073709551616) (k1 : 1 ≤ K) (k5 : K ≤ 5) :
    Calls Tryz.prog 6 #[.agg #[.int .i64 K, .int .u64 X, .int .u64 Y, .int .i64 N]] w fun e w' => e = .returned (.bool true) ∧ Below w.heap.size w w' := by
  rcases (show K = 1 ∨ K = 2 ∨ K = 3 ∨ K = 4 ∨ K = 5 by omega) with rfl | rfl | rfl | rfl | rfl
  · exact whole_1 X Y N w hT x0 x1
  · exact whole_2 X Y N w hT x0 x1
  · exact whole_3 X Y N w hT x0 x1
  · exact whole_4 X Y N w hT x0 x1
  · exact whole_5 X Y N w hT x0 x1

set_option maxRecDepth 100000 in
theorem remainAll_law (a : Option Addr) (len cap : Nat) (its : List O6) (w : World) (hl : its.length = len) (hc : len ≤ cap) (hm : cap ≤ 17592186044416) (hp : O6.Holds w a its) (hi : ∀ it ∈ its, O6.Bd it) (hT : Tab w) :
    Calls Tryz.prog 3 #[.slice a len cap] w fun e w' => e = .returned (.bool true) ∧ Below w.heap.size w w' := by
  have U := hid (upTo_of a len cap its w hl hc hm hp hi (hawake_any w hT)
    (fun K X Y N wx hx x0 x1 k1 k5 => wholes_any K X Y N wx (hT.below hx) x0 x1 k1 k5)
    (fun X Y N wx hx x0 x1 y0 y1 => mods_6 X Y N wx (hT.below hx) x0 x1 y0 y1)
    (fun X Y N wx hx x0 x1 y0 y1 => mods_7 X Y N wx (hT.below hx) x0 x1 y0 y1)
    (fun X Y N wx hx x0 x1 => powers_9 X Y N wx (hT.below hx) x0 x1)
    (fun X Y N wx hx x0 x1 y0 y1 => powers_10 X Y N wx (hT.below hx) x0 x1 y0 y1)
    Ie.ScaleIs (fun X N r r' h h' => h.one h')
    (fun X N wx hx x0 x1 => scale_any X N wx (hT.below hx) x0 x1)
    (fun X N wx hx x0 x1 => uscale_any X N wx x0 x1))
  clear hl hp hi hT hc hm
  go_enter Tryz.func3, Tryz.ntmps3
  go_wp2_with fail
  refine U.out.mono ?_
  rintro e w1 ⟨rfl, hB⟩
  have D1 := hid hB
  clear hB U
  go_wp2_with fail
  go_ret
  exact ⟨rfl, D1.out⟩
end Go.Proofs.YtmakkfekomnpbaaGreatDoor
