import Derived.Test.YtjebdobopechfabDoorIKinds
import Derived.Test.YtjebdobopechfabDoorFromW
import Derived.Test.YtjebdobopechfabDoorXMem
import Derived.Test.YtjebdobopechfabDoorXNum
import Derived.Deep.RegionWith
/-
  soft: nan, infinite, zero, number.
-/
namespace Go.Proofs.YtjebdobopechfabDoor
open Go Go.RowKit Go.Deep

namespace Ie
/-- The bits without the sign. -/
def ab (d : Int) : Int := d % 9223372036854775808
/-- The sign. -/
def ngd (d : Int) : Bool := decide (9223372036854775808 ≤ d)
def isn (d : Int) : Bool := decide (9218868437227405312 < ab d)
def isi (d : Int) : Bool := decide (ab d = 9218868437227405312)
def isz (d : Int) : Bool := decide (ab d = 0)
/-- Finite. -/
def fin (d : Int) : Prop := ab d < 9218868437227405312

theorem isn_cls (d : Int) : (cls d == 4) = isn d := by
  rw [isn, Bool.eq_iff_iff]
  simp only [beq_iff_eq, decide_eq_true_eq]
  rcases dec_kinds d _ rfl with h | h | h | h | h <;> simp only [ab] <;> omega
theorem isi_cls (d : Int) : (cls d == 3) = isi d := by
  rw [isi, Bool.eq_iff_iff]
  simp only [beq_iff_eq, decide_eq_true_eq]
  rcases dec_kinds d _ rfl with h | h | h | h | h <;> simp only [ab] <;> omega
theorem isz_cls (d : Int) : (cls d == 0) = isz d := by
  rw [isz, Bool.eq_iff_iff]
  simp only [beq_iff_eq, decide_eq_true_eq]
  rcases dec_kinds d _ rfl with h | h | h | h | h <;> simp only [ab] <;> omega

theorem sb_ab (d : Int) (h0 : 0 ≤ d) (h1 : d < 18446744073709551616) : d = sb (ngd d) (ab d) := by
  rcases (show d < 9223372036854775808 ∨ 9223372036854775808 ≤ d by omega) with h | h
  · rw [ngd, decide_eq_false (by omega), sb, if_neg (by decide), ab]; omega
  · rw [ngd, decide_eq_true (by omega), sb, if_pos rfl, ab]; omega

theorem ab_sb (neg : Bool) (x : Int) (h0 : 0 ≤ x) (h1 : x < 9223372036854775808) : ab (sb neg x) = x ∧ ngd (sb neg x) = neg := by
  cases neg
  · rw [sb, if_neg (by decide), ab, ngd]; exact ⟨by omega, decide_eq_false (by omega)⟩
  · rw [sb, if_pos rfl, ab, ngd]; exact ⟨by omega, decide_eq_true (by omega)⟩

theorem ab_bd (d : Int) : 0 ≤ ab d ∧ ab d < 9223372036854775808 := by rw [ab]; omega

/-- What Decode tells of a finite double. -/
theorem dec_f (d : Int) (h : fin d) : (0 ≤ dm d ∧ dm d < 9007199254740992) ∧ (-1074 ≤ de d ∧ de d ≤ 971) ∧ (∀ k : Nat, (k : Int) = de d + 1074 → dm d * 2 ^ k = un (ab d)) ∧ (dm d = 0 ↔ ab d = 0) := by
  have b := ab_bd d
  have mb := man_nn (ab d) b.1
  rw [fin] at h
  rcases dec_kinds d _ rfl with ⟨c, m, x, k1⟩ | ⟨c, m, x, k1, k2⟩ | ⟨c, m, x, k1, k2⟩ | ⟨c, m, x, k1⟩ | ⟨c, m, x, k1, k2⟩ <;> rw [m, x]
  · rw [← ab] at k1
    rw [k1, un_zero]
    exact ⟨by omega, by omega, fun k _ => Int.zero_mul _, by omega⟩
  · rw [← ab] at k1 k2 ⊢
    refine ⟨by omega, by omega, fun k hk => ?_, by omega⟩
    have e0 : ex (ab d) = 0 := by rw [ex]; omega
    have m0 : man (ab d) = ab d := by rw [man, if_pos k2]
    rw [un, e0, m0, show k = 0 by omega]
  · rw [← ab] at k1 k2 ⊢
    have eb : (ex (ab d) : Int) ≤ 2045 := by simp only [ex]; omega
    have mp : 4503599627370496 ≤ man (ab d) := by rw [man, if_neg (by omega)]; omega
    refine ⟨mb, by omega, fun k hk => ?_, by omega⟩
    rw [un, show k = ex (ab d) by omega]
  · rw [← ab] at k1; omega
  · rw [← ab] at k1; omega
end Ie

set_option maxRecDepth 100000 in
theorem nan_any (d : Int) (w : World) (h0 : 0 ≤ d) (h1 : d < 18446744073709551616) :
    Calls Tryd.prog 54 #[.int .u64 d] w fun e w' => e = .returned (.bool (Ie.isn d)) ∧ w' = w := by
  have CL := hid (class_any d w h0 h1)
  have E := hid (Ie.isn_cls d)
  generalize Ie.cls d = c at CL E
  go_enter Tryd.func54, Tryd.ntmps54
  go_wp2_with fail
  refine CL.out.mono ?_
  rintro e w' ⟨rfl, rfl⟩
  go_wp2_with fail
  go_ret
  exact ⟨by rw [E.out]; rfl, rfl⟩

set_option maxRecDepth 100000 in
theorem infinite_any (d : Int) (w : World) (h0 : 0 ≤ d) (h1 : d < 18446744073709551616) :
    Calls Tryd.prog 64 #[.int .u64 d] w fun e w' => e = .returned (.bool (Ie.isi d)) ∧ w' = w := by
  have CL := hid (class_any d w h0 h1)
  have E := hid (Ie.isi_cls d)
  generalize Ie.cls d = c at CL E
  go_enter Tryd.func64, Tryd.ntmps64
  go_wp2_with fail
  refine CL.out.mono ?_
  rintro e w' ⟨rfl, rfl⟩
  go_wp2_with fail
  go_ret
  exact ⟨by rw [E.out]; rfl, rfl⟩

/-- What number answers. -/
def NumTold (d : Int) (w : World) (e : Ending) (w' : World) : Prop :=
  ∃ p os, e = .returned (exactOf (Ie.ngd d) p (List.length os) (List.length os) (Ie.de d) false) ∧ Ans w.heap.size w' p os (Ie.dm d) ∧ Below w.heap.size w w'

set_option maxRecDepth 100000 in
set_option maxHeartbeats 2000000 in
theorem number_any (d : Int) (w : World) (h0 : 0 ≤ d) (h1 : d < 18446744073709551616) (hf : Ie.fin d) :
    Calls Tryd.prog 56 #[.int .u64 d] w fun e w' => NumTold d w e w' := by
  have D := hid (fun (wx : World) => decode_any d wx h0 h1)
  rw [← Ie.ngd] at D
  obtain ⟨⟨m0, m1⟩, -, -, -⟩ := Ie.dec_f d hf
  have FU := hid (fun (wx : World) => fromUint_any (Ie.dm d) wx m0 (by omega))
  have WT : Hid (∀ (w2 : World) (p : Option Addr) (os : List Int), Ans (w.heap.size + 1) w2 p os (Ie.dm d) → Row4 w2 w.heap.size 69 (.bool false) (.slice none 0 0) (.int .i64 0) (.bool false) → Below w.heap.size w w2 →
      NumTold d w (.returned (exactOf (Ie.ngd d) p (List.length os) (List.length os) (Ie.de d) false)) ((((w2.setCell ⟨w.heap.size, 0, none⟩ (.bool (Ie.ngd d))).setCell ⟨w.heap.size, 1, none⟩ (.slice p os.length os.length)).setCell ⟨w.heap.size, 2, none⟩ (.int .i64 (Ie.de d))).setCell ⟨w.heap.size, 3, none⟩ (.bool false))) := by
    intro w2 p os A R hB
    have A' := A.set4 (b := w.heap.size) (u0 := .bool (Ie.ngd d)) (u1 := .slice p os.length os.length) (u2 := .int .i64 (Ie.de d)) (u3 := .bool false) (by omega)
    exact ⟨p, os, rfl, ⟨A'.1, A'.2.1, A'.2.2.1, A'.2.2.2.1, fun a h => by have := A'.2.2.2.2 a h; omega⟩, set4_below hB (Nat.le_refl _)⟩
  simp only [partsOf] at D
  generalize Ie.ngd d = neg at *
  generalize Ie.dm d = m at *
  generalize Ie.de d = x at *
  generalize Ie.cls d = c at *
  clear hf
  go_enter Tryd.func56, Tryd.ntmps56
  go_wp2_with fail
  refine (D.out _).mono ?_
  rintro e w1 ⟨rfl, hB⟩
  have R0 := Row4.new w 69 (.bool false) (.slice none 0 0) (.int .i64 0) (.bool false)
  have sz : (w.alloc (Obj.cells #[Value.bool false, Value.slice none 0 0, Value.int IntKind.i64 0, Value.bool false] 69)).heap.size = w.heap.size + 1 := by simp
  have R1 := R0.below hB (by omega)
  have HB := (alloc_b w _).trans (hB.mono (alloc_b w _).size)
  have s1 : w.heap.size + 1 ≤ w1.heap.size := by have := hB.size; omega
  clear hB R0 sz D
  go_wp2_with fail
  have HB1 := hid (Below.alloc HB HB.size (.cells #[.bool neg, .int .i64 c, .int .u64 m, .int .i64 x] 38))
  have R2 := R1.below (Below.alloc (w := w1) (Below.refl w1.heap.size w1) (Nat.le_refl _) (.cells #[.bool neg, .int .i64 c, .int .u64 m, .int .i64 x] 38)) R1.lt
  have P := Row4.new w1 38 (.bool neg) (.int .i64 c) (.int .u64 m) (.int .i64 x)
  clear R1 HB
  generalize w1.alloc (.cells #[.bool neg, .int .i64 c, .int .u64 m, .int .i64 x] 38) = wA at *
  obtain ⟨⟨p0, p1, p2, p3⟩, -⟩ := P.cells
  have HS := hid s1
  have CA : Hid (∀ w2 : World, Below wA.drew.heap.size wA.drew w2 → (Below w.heap.size w w2 ∧ Row4 w2 w.heap.size 69 (.bool false) (.slice none 0 0) (.int .i64 0) (.bool false)) ∧ Row4 w2 w1.heap.size 38 (.bool neg) (.int .i64 c) (.int .u64 m) (.int .i64 x)) := by
    intro w2 hB2
    have d := drew_b HB1.out
    exact ⟨⟨d.trans (hB2.mono d.size), (R2.heap (w' := wA.drew) rfl).below hB2 R2.lt⟩, (P.heap (w' := wA.drew) rfl).below hB2 P.lt⟩
  have LE := hid (show w.heap.size + 1 ≤ wA.drew.heap.size from Nat.le_trans s1 (Nat.le_of_lt P.lt))
  clear R2 P s1
  go_region_with (go_at_call 37; refine (FU.out _).mono ?_; rintro e w2 ⟨p, os, rfl, A, hB2⟩; obtain ⟨⟨c1, c2⟩, c3⟩ := CA.out w2 hB2; have KK := hid (WT.out w2 p os ⟨A.1, A.2.1, A.2.2.1, A.2.2.2.1, fun a h => Nat.le_trans LE.out (A.2.2.2.2 a h)⟩ c2 c1); obtain ⟨⟨r0, r1, r2, r3⟩, ⟨f0, f1, f2, f3⟩⟩ := c2.cells; obtain ⟨⟨q0, q1, q2, q3⟩, -⟩ := c3.cells; have RR := hid c2; clear A hB2 c1 c2 c3)
  all_goals (go_wp2_with fail; (try simp only [Exit.inBlock, Exit.then]); refine bodyPost_ret (results_cell_row rfl _ _ w.heap.size 69 _ (0, 0) _ rfl (Row4.set RR.out) Tryd.underlying69 rfl (by kernel_rfl)) rfl ?_; exact KK.out)
end Go.Proofs.YtjebdobopechfabDoor
