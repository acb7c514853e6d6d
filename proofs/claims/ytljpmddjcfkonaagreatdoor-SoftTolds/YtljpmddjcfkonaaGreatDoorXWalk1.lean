import Derived.Test.YtljpmddjcfkonaaGreatDoorXDef
import Derived.Test.YtljpmddjcfkonaaGreatDoorFromW
import Derived.Test.YtljpmddjcfkonaaGreatDoorXMem
import Derived.Test.YtljpmddjcfkonaaGreatDoorXNum
import Derived.Deep.RegionWith
/-
  soft: nan, infinite, zero, number.
-/
namespace Go.Proofs.YtljpmddjcfkonaaGreatDoor
open Go Go.RowKit Go.Deep

set_option maxRecDepth 100000 in
theorem nan_any (d : Int) (w : World) (h0 : 0 ≤ d) (h1 : d < 18446744073709551616) :
    Calls Tryz.prog 29 #[.int .u64 d] w fun e w' => e = .returned (.bool (Ie.isn d)) ∧ w' = w := by
  have CL := hid (class_any d w h0 h1)
  have E := hid (Ie.isn_cls d)
  generalize Ie.cls d = c at CL E
  go_enter Tryz.func29, Tryz.ntmps29
  go_wp2_with fail
  refine CL.out.mono ?_
  rintro e w' ⟨rfl, rfl⟩
  go_wp2_with fail
  go_ret
  exact ⟨by rw [E.out]; rfl, rfl⟩

set_option maxRecDepth 100000 in
theorem infinite_any (d : Int) (w : World) (h0 : 0 ≤ d) (h1 : d < 18446744073709551616) :
    Calls Tryz.prog 30 #[.int .u64 d] w fun e w' => e = .returned (.bool (Ie.isi d)) ∧ w' = w := by
  have CL := hid (class_any d w h0 h1)
  have E := hid (Ie.isi_cls d)
  generalize Ie.cls d = c at CL E
  go_enter Tryz.func30, Tryz.ntmps30
  go_wp2_with fail
  refine CL.out.mono ?_
  rintro e w' ⟨rfl, rfl⟩
  go_wp2_with fail
  go_ret
  exact ⟨by rw [E.out]; rfl, rfl⟩

/-- What number answers. -/
def NumTold (d : Int) (w : World) (e : Ending) (w' : World) : Prop :=
  ∃ p os, e = .returned (exactOf (Ie.ngd d) p (List.length os) (List.length os) (Ie.de d) false) ∧ Ans w.heap.size w' p os (Ie.dm d) ∧ Below w.heap.size w w'

set_option maxRecDepth 100000 in
set_option maxHeartbeats 2000000 in
theorem number_any (d : Int) (w : World) (h0 : 0 ≤ d) (h1 : d < 18446744073709551616) (hf : Ie.fin d) :
    Calls Tryz.prog 33 #[.int .u64 d] w fun e w' => NumTold d w e w' := by
  have D := hid (fun (wx : World) => decode_any d wx h0 h1)
  rw [← Ie.ngd] at D
  obtain ⟨⟨m0, m1⟩, -, -, -⟩ := Ie.dec_f d hf
  have FU := hid (fun (wx : World) => fromUint_any (Ie.dm d) wx m0 (by omega))
  have WT : Hid (∀ (w2 : World) (p : Option Addr) (os : List Int), Ans (w.heap.size + 1) w2 p os (Ie.dm d) → Row4 w2 w.heap.size 54 (.bool false) (.slice none 0 0) (.int .i64 0) (.bool false) → Below w.heap.size w w2 →
      NumTold d w (.returned (exactOf (Ie.ngd d) p (List.length os) (List.length os) (Ie.de d) false)) ((((w2.setCell ⟨w.heap.size, 0, none⟩ (.bool (Ie.ngd d))).setCell ⟨w.heap.size, 1, none⟩ (.slice p os.length os.length)).setCell ⟨w.heap.size, 2, none⟩ (.int .i64 (Ie.de d))).setCell ⟨w.heap.size, 3, none⟩ (.bool false))) := by
    intro w2 p os A R hB
    have A' := A.set4 (b := w.heap.size) (u0 := .bool (Ie.ngd d)) (u1 := .slice p os.length os.length) (u2 := .int .i64 (Ie.de d)) (u3 := .bool false) (by omega)
    exact ⟨p, os, rfl, ⟨A'.1, A'.2.1, A'.2.2.1, A'.2.2.2.1, fun a h => by have := A'.2.2.2.2 a h; omega⟩, set4_below hB (Nat.le_refl _)⟩
  simp only [partsOf] at D
  generalize Ie.ngd d = neg at *
  generalize Ie.dm d = m at *
  generalize Ie.de d = x at *
  generalize Ie.cls d = c at *
  clear hf
  go_enter Tryz.func33, Tryz.ntmps33
  go_wp2_with fail
  refine (D.out _).mono ?_
  rintro e w1 ⟨rfl, hB⟩
  have R0 := Row4.new w 54 (.bool false) (.slice none 0 0) (.int .i64 0) (.bool false)
  have sz : (w.alloc (Obj.cells #[Value.bool false, Value.slice none 0 0, Value.int IntKind.i64 0, Value.bool false] 54)).heap.size = w.heap.size + 1 := by simp
  have R1 := R0.below hB (by omega)
  have HB := (alloc_b w _).trans (hB.mono (alloc_b w _).size)
  have s1 : w.heap.size + 1 ≤ w1.heap.size := by have := hB.size; omega
  clear hB R0 sz D
  go_wp2_with fail
  have HB1 := hid (Below.alloc HB HB.size (.cells #[.bool neg, .int .i64 c, .int .u64 m, .int .i64 x] 64))
  have R2 := R1.below (Below.alloc (w := w1) (Below.refl w1.heap.size w1) (Nat.le_refl _) (.cells #[.bool neg, .int .i64 c, .int .u64 m, .int .i64 x] 64)) R1.lt
  have P := Row4.new w1 64 (.bool neg) (.int .i64 c) (.int .u64 m) (.int .i64 x)
  clear R1 HB
  generalize w1.alloc (.cells #[.bool neg, .int .i64 c, .int .u64 m, .int .i64 x] 64) = wA at *
  obtain ⟨⟨p0, p1, p2, p3⟩, -⟩ := P.cells
  have HS := hid s1
  have CA : Hid (∀ w2 : World, Below wA.drew.heap.size wA.drew w2 → (Below w.heap.size w w2 ∧ Row4 w2 w.heap.size 54 (.bool false) (.slice none 0 0) (.int .i64 0) (.bool false)) ∧ Row4 w2 w1.heap.size 64 (.bool neg) (.int .i64 c) (.int .u64 m) (.int .i64 x)) := by
    intro w2 hB2
    have d := drew_b HB1.out
    exact ⟨⟨d.trans (hB2.mono d.size), (R2.heap (w' := wA.drew) rfl).below hB2 R2.lt⟩, (P.heap (w' := wA.drew) rfl).below hB2 P.lt⟩
  have LE := hid (show w.heap.size + 1 ≤ wA.drew.heap.size from Nat.le_trans s1 (Nat.le_of_lt P.lt))
  clear R2 P s1
  go_region_with (go_at_call 66; refine (FU.out _).mono ?_; rintro e w2 ⟨p, os, rfl, A, hB2⟩; obtain ⟨⟨c1, c2⟩, c3⟩ := CA.out w2 hB2; have KK := hid (WT.out w2 p os ⟨A.1, A.2.1, A.2.2.1, A.2.2.2.1, fun a h => Nat.le_trans LE.out (A.2.2.2.2 a h)⟩ c2 c1); obtain ⟨⟨r0, r1, r2, r3⟩, ⟨f0, f1, f2, f3⟩⟩ := c2.cells; obtain ⟨⟨q0, q1, q2, q3⟩, -⟩ := c3.cells; have RR := hid c2; clear A hB2 c1 c2 c3)
  all_goals (go_wp2_with fail; (try simp only [Exit.inBlock, Exit.then]); refine bodyPost_ret (results_cell_row rfl _ _ w.heap.size 54 _ (0, 0) _ rfl (Row4.set RR.out) Tryz.underlying54 rfl (by kernel_rfl)) rfl ?_; exact KK.out)
end Go.Proofs.YtljpmddjcfkonaaGreatDoor
