/-
  Texts put together: XDef, FromW, XWalk1, XIs, NToU, INear1, INear2, IRoundN, IRound, XRounded, XAddA, ZPut, ZDecA.
-/
import Derived.Test.YtnldfeojookaeaaDoorIKinds
import Derived.Test.YtnldfeojookaeaaDoorXNum
import Derived.Test.YtnldfeojookaeaaDoorSmallA
import Derived.Test.YtnldfeojookaeaaDoorXMem
import Derived.Deep.RegionWith
import Derived.Test.YtnldfeojookaeaaDoorTrailW
import Derived.BigQuiet
import Derived.Test.YtnldfeojookaeaaDoorWalk5a
import Derived.Test.YtnldfeojookaeaaDoorIShiftA
import Derived.Test.YtnldfeojookaeaaDoorIWalk1C
import Derived.Test.YtnldfeojookaeaaDoorINum2
import Derived.Test.YtnldfeojookaeaaDoorXPlusA
import Derived.Test.YtnldfeojookaeaaDoorIDec
/-
  A double's magnitude, sign and kinds; what Decode tells of a finite one.
-/
namespace Go.Proofs.YtnldfeojookaeaaDoor
namespace Ie
/-- The bits without the sign. -/
def ab (d : Int) : Int := d % 9223372036854775808
/-- The sign. -/
def ngd (d : Int) : Bool := decide (9223372036854775808 ≤ d)
def isn (d : Int) : Bool := decide (9218868437227405312 < ab d)
def isi (d : Int) : Bool := decide (ab d = 9218868437227405312)
def isz (d : Int) : Bool := decide (ab d = 0)
/-- Finite. -/
def fin (d : Int) : Prop := ab d < 9218868437227405312

theorem isn_cls (d : Int) : (cls d == 4) = isn d := by
  rw [isn, Bool.eq_iff_iff]
  simp only [beq_iff_eq, decide_eq_true_eq]
  rcases dec_kinds d _ rfl with h | h | h | h | h <;> simp only [ab] <;> omega
theorem isi_cls (d : Int) : (cls d == 3) = isi d := by
  rw [isi, Bool.eq_iff_iff]
  simp only [beq_iff_eq, decide_eq_true_eq]
  rcases dec_kinds d _ rfl with h | h | h | h | h <;> simp only [ab] <;> omega
theorem isz_cls (d : Int) : (cls d == 0) = isz d := by
  rw [isz, Bool.eq_iff_iff]
  simp only [beq_iff_eq, decide_eq_true_eq]
  rcases dec_kinds d _ rfl with h | h | h | h | h <;> simp only [ab] <;> omega

theorem sb_ab (d : Int) (h0 : 0 ≤ d) (h1 : d < 18446744073709551616) : d = sb (ngd d) (ab d) := by
  rcases (show d < 9223372036854775808 ∨ 9223372036854775808 ≤ d by omega) with h | h
  · rw [ngd, decide_eq_false (by omega), sb, if_neg (by decide), ab]; omega
  · rw [ngd, decide_eq_true (by omega), sb, if_pos rfl, ab]; omega

theorem ab_sb (neg : Bool) (x : Int) (h0 : 0 ≤ x) (h1 : x < 9223372036854775808) : ab (sb neg x) = x ∧ ngd (sb neg x) = neg := by
  cases neg
  · rw [sb, if_neg (by decide), ab, ngd]; exact ⟨by omega, decide_eq_false (by omega)⟩
  · rw [sb, if_pos rfl, ab, ngd]; exact ⟨by omega, decide_eq_true (by omega)⟩

theorem ab_bd (d : Int) : 0 ≤ ab d ∧ ab d < 9223372036854775808 := by rw [ab]; omega

/-- What Decode tells of a finite double. -/
theorem dec_f (d : Int) (h : fin d) : (0 ≤ dm d ∧ dm d < 9007199254740992) ∧ (-1074 ≤ de d ∧ de d ≤ 971) ∧ (∀ k : Nat, (k : Int) = de d + 1074 → dm d * 2 ^ k = un (ab d)) ∧ (dm d = 0 ↔ ab d = 0) := by
  have b := ab_bd d
  have mb := man_nn (ab d) b.1
  rw [fin] at h
  rcases dec_kinds d _ rfl with ⟨c, m, x, k1⟩ | ⟨c, m, x, k1, k2⟩ | ⟨c, m, x, k1, k2⟩ | ⟨c, m, x, k1⟩ | ⟨c, m, x, k1, k2⟩ <;> rw [m, x]
  · rw [← ab] at k1
    rw [k1, un_zero]
    exact ⟨by omega, by omega, fun k _ => Int.zero_mul _, by omega⟩
  · rw [← ab] at k1 k2 ⊢
    refine ⟨by omega, by omega, fun k hk => ?_, by omega⟩
    have e0 : ex (ab d) = 0 := by rw [ex]; omega
    have m0 : man (ab d) = ab d := by rw [man, if_pos k2]
    rw [un, e0, m0, show k = 0 by omega]
  · rw [← ab] at k1 k2 ⊢
    have eb : (ex (ab d) : Int) ≤ 2045 := by simp only [ex]; omega
    have mp : 4503599627370496 ≤ man (ab d) := by rw [man, if_neg (by omega)]; omega
    refine ⟨mb, by omega, fun k hk => ?_, by omega⟩
    rw [un, show k = ex (ab d) by omega]
  · rw [← ab] at k1; omega
  · rw [← ab] at k1; omega
end Ie
end Go.Proofs.YtnldfeojookaeaaDoor

namespace Go.Proofs.YtnldfeojookaeaaDoor
open Go.RowKit Go.Deep

theorem ans_none (B : Nat) (w : World) (p : Option Addr) (h : ∀ a, p = some a → B ≤ a.block) : Ans B w p [] 0 :=
  ⟨Lies.nil _ _, Nm.Limbs.nil, rfl, rfl, h⟩

theorem limb_one {x : Int} (h : 0 ≤ x ∧ x < 18446744073709551616) : Nm.Limbs [x] := Nm.Limbs.mk h.1 h.2 Nm.Limbs.nil

theorem fromUint_any (x : Int) (w : World) (h0 : 0 ≤ x) (h1 : x < 18446744073709551616) :
    Calls Tryd.prog 49 #[.int .u64 x] w fun e w' => ∃ r os, e = .returned (.slice r (List.length os) (List.length os)) ∧ Ans w.heap.size w' r os x ∧ Below w.heap.size w w' := by
  by_cases hx : x = 0
  · subst hx
    go_enter Tryd.func49, Tryd.ntmps49
    go_wp2
    go_ret
    exact ⟨none, [], rfl, ans_none _ _ _ (fun a h => by cases h), Below.refl _ _⟩
  · have hx' : (x == 0) = false := by rw [beq_eq_false_iff_ne]; exact hx
    have D : Hid (Below w.heap.size w (w.alloc (.cells #[.int .u64 x] 23))) := (Below.refl _ _).alloc (Nat.le_refl _) _
    have A : Hid (Ans w.heap.size (w.alloc (.cells #[.int .u64 x] 23)) (some ⟨w.heap.size, 0, none⟩) [x] x) := ⟨(Own.alloc w [x]).lies, limb_one ⟨h0, h1⟩, by simp [Nm.tsize, hx], by simp [Nm.val], fun a h => by cases h; exact Nat.le_refl _⟩
    go_enter Tryd.func49, Tryd.ntmps49
    go_wp2
    go_ret
    exact ⟨some ⟨w.heap.size, 0, none⟩, [x], rfl, A.out, D.out⟩
end Go.Proofs.YtnldfeojookaeaaDoor

/-
  soft: nan, infinite, zero, number.
-/
namespace Go.Proofs.YtnldfeojookaeaaDoor
open Go Go.RowKit Go.Deep

set_option maxRecDepth 100000 in
theorem nan_any (d : Int) (w : World) (h0 : 0 ≤ d) (h1 : d < 18446744073709551616) :
    Calls Tryd.prog 27 #[.int .u64 d] w fun e w' => e = .returned (.bool (Ie.isn d)) ∧ w' = w := by
  have CL := hid (class_any d w h0 h1)
  have E := hid (Ie.isn_cls d)
  generalize Ie.cls d = c at CL E
  go_enter Tryd.func27, Tryd.ntmps27
  go_wp2_with fail
  refine CL.out.mono ?_
  rintro e w' ⟨rfl, rfl⟩
  go_wp2_with fail
  go_ret
  exact ⟨by rw [E.out]; rfl, rfl⟩

set_option maxRecDepth 100000 in
theorem infinite_any (d : Int) (w : World) (h0 : 0 ≤ d) (h1 : d < 18446744073709551616) :
    Calls Tryd.prog 28 #[.int .u64 d] w fun e w' => e = .returned (.bool (Ie.isi d)) ∧ w' = w := by
  have CL := hid (class_any d w h0 h1)
  have E := hid (Ie.isi_cls d)
  generalize Ie.cls d = c at CL E
  go_enter Tryd.func28, Tryd.ntmps28
  go_wp2_with fail
  refine CL.out.mono ?_
  rintro e w' ⟨rfl, rfl⟩
  go_wp2_with fail
  go_ret
  exact ⟨by rw [E.out]; rfl, rfl⟩

/-- What number answers. -/
def NumTold (d : Int) (w : World) (e : Ending) (w' : World) : Prop :=
  ∃ p os, e = .returned (exactOf (Ie.ngd d) p (List.length os) (List.length os) (Ie.de d) false) ∧ Ans w.heap.size w' p os (Ie.dm d) ∧ Below w.heap.size w w'

set_option maxRecDepth 100000 in
set_option maxHeartbeats 2000000 in
theorem number_any (d : Int) (w : World) (h0 : 0 ≤ d) (h1 : d < 18446744073709551616) (hf : Ie.fin d) :
    Calls Tryd.prog 29 #[.int .u64 d] w fun e w' => NumTold d w e w' := by
  have D := hid (fun (wx : World) => decode_any d wx h0 h1)
  rw [← Ie.ngd] at D
  obtain ⟨⟨m0, m1⟩, -, -, -⟩ := Ie.dec_f d hf
  have FU := hid (fun (wx : World) => fromUint_any (Ie.dm d) wx m0 (by omega))
  have WT : Hid (∀ (w2 : World) (p : Option Addr) (os : List Int), Ans (w.heap.size + 1) w2 p os (Ie.dm d) → Row4 w2 w.heap.size 42 (.bool false) (.slice none 0 0) (.int .i64 0) (.bool false) → Below w.heap.size w w2 →
      NumTold d w (.returned (exactOf (Ie.ngd d) p (List.length os) (List.length os) (Ie.de d) false)) ((((w2.setCell ⟨w.heap.size, 0, none⟩ (.bool (Ie.ngd d))).setCell ⟨w.heap.size, 1, none⟩ (.slice p os.length os.length)).setCell ⟨w.heap.size, 2, none⟩ (.int .i64 (Ie.de d))).setCell ⟨w.heap.size, 3, none⟩ (.bool false))) := by
    intro w2 p os A R hB
    have A' := A.set4 (b := w.heap.size) (u0 := .bool (Ie.ngd d)) (u1 := .slice p os.length os.length) (u2 := .int .i64 (Ie.de d)) (u3 := .bool false) (by omega)
    exact ⟨p, os, rfl, ⟨A'.1, A'.2.1, A'.2.2.1, A'.2.2.2.1, fun a h => by have := A'.2.2.2.2 a h; omega⟩, set4_below hB (Nat.le_refl _)⟩
  simp only [partsOf] at D
  generalize Ie.ngd d = neg at *
  generalize Ie.dm d = m at *
  generalize Ie.de d = x at *
  generalize Ie.cls d = c at *
  clear hf
  go_enter Tryd.func29, Tryd.ntmps29
  go_wp2_with fail
  refine (D.out _).mono ?_
  rintro e w1 ⟨rfl, hB⟩
  have R0 := Row4.new w 42 (.bool false) (.slice none 0 0) (.int .i64 0) (.bool false)
  have sz : (w.alloc (Obj.cells #[Value.bool false, Value.slice none 0 0, Value.int IntKind.i64 0, Value.bool false] 42)).heap.size = w.heap.size + 1 := by simp
  have R1 := R0.below hB (by omega)
  have HB := (alloc_b w _).trans (hB.mono (alloc_b w _).size)
  have s1 : w.heap.size + 1 ≤ w1.heap.size := by have := hB.size; omega
  clear hB R0 sz D
  go_wp2_with fail
  have HB1 := hid (Below.alloc HB HB.size (.cells #[.bool neg, .int .i64 c, .int .u64 m, .int .i64 x] 54))
  have R2 := R1.below (Below.alloc (w := w1) (Below.refl w1.heap.size w1) (Nat.le_refl _) (.cells #[.bool neg, .int .i64 c, .int .u64 m, .int .i64 x] 54)) R1.lt
  have P := Row4.new w1 54 (.bool neg) (.int .i64 c) (.int .u64 m) (.int .i64 x)
  clear R1 HB
  generalize w1.alloc (.cells #[.bool neg, .int .i64 c, .int .u64 m, .int .i64 x] 54) = wA at *
  obtain ⟨⟨p0, p1, p2, p3⟩, -⟩ := P.cells
  have HS := hid s1
  have CA : Hid (∀ w2 : World, Below wA.drew.heap.size wA.drew w2 → (Below w.heap.size w w2 ∧ Row4 w2 w.heap.size 42 (.bool false) (.slice none 0 0) (.int .i64 0) (.bool false)) ∧ Row4 w2 w1.heap.size 54 (.bool neg) (.int .i64 c) (.int .u64 m) (.int .i64 x)) := by
    intro w2 hB2
    have d := drew_b HB1.out
    exact ⟨⟨d.trans (hB2.mono d.size), (R2.heap (w' := wA.drew) rfl).below hB2 R2.lt⟩, (P.heap (w' := wA.drew) rfl).below hB2 P.lt⟩
  have LE := hid (show w.heap.size + 1 ≤ wA.drew.heap.size from Nat.le_trans s1 (Nat.le_of_lt P.lt))
  clear R2 P s1
  go_region_with (go_at_call 49; refine (FU.out _).mono ?_; rintro e w2 ⟨p, os, rfl, A, hB2⟩; obtain ⟨⟨c1, c2⟩, c3⟩ := CA.out w2 hB2; have KK := hid (WT.out w2 p os ⟨A.1, A.2.1, A.2.2.1, A.2.2.2.1, fun a h => Nat.le_trans LE.out (A.2.2.2.2 a h)⟩ c2 c1); obtain ⟨⟨r0, r1, r2, r3⟩, ⟨f0, f1, f2, f3⟩⟩ := c2.cells; obtain ⟨⟨q0, q1, q2, q3⟩, -⟩ := c3.cells; have RR := hid c2; clear A hB2 c1 c2 c3)
  all_goals (go_wp2_with fail; (try simp only [Exit.inBlock, Exit.then]); refine bodyPost_ret (results_cell_row rfl _ _ w.heap.size 42 _ (0, 0) _ rfl (Row4.set RR.out) Tryd.underlying42 rfl (by kernel_rfl)) rfl ?_; exact KK.out)
end Go.Proofs.YtnldfeojookaeaaDoor

/-
  soft: is.
-/
namespace Go.Proofs.YtnldfeojookaeaaDoor
open Go Go.RowKit Go.Deep

theorem trl_ex : ∀ (n : Nat) (V : Int), 0 < V → V < 2 ^ n → ∃ t : Nat, t < n ∧ Nm.Trl V t
  | 0, V, h0, h1 => by rw [Int.pow_zero] at h1; omega
  | n + 1, V, h0, h1 => by
    rw [Nm.two_succ] at h1
    rcases (show V % 2 = 1 ∨ V % 2 = 0 by omega) with h | h
    · exact ⟨0, by omega, .inr ⟨V / 2, by rw [Int.pow_zero]; omega⟩⟩
    · obtain ⟨t, ht, g⟩ := trl_ex n (V / 2) (by omega) (by omega)
      rcases g with ⟨g, _⟩ | ⟨m, g⟩
      · omega
      · refine ⟨t + 1, by omega, .inr ⟨m, ?_⟩⟩
        rw [Nm.two_succ, Int.mul_assoc, ← g]
        omega

/-- What is answers: t the zeros at the end of V. -/
def Ie.isx (V e : Int) (more : Bool) (d : Int) (t : Nat) : Bool := decide (V = 0) || (!more && (!Ie.isi d && decide (Ie.de d ≤ e + t)))

theorem below_a {w : World} {A : Obj} {w' : World} (h : Below (w.alloc A).heap.size (w.alloc A) w') : Below w.heap.size w w' := (alloc_b w A).trans (h.mono (alloc_b w A).size)

set_option maxRecDepth 100000 in
set_option maxHeartbeats 4000000 in
theorem is_any (neg more : Bool) (p : Option Addr) (l c : Nat) (zs : List Int) (e V d : Int) (t : Nat) (w : World) (ha : Arg w p l c zs) (hT : Tab w) (hV : Nm.val zs = V) (hl : l = 0 ↔ V = 0) (ht : Nm.Trl V t) (tb : t ≤ 10000) (q1 : -10000 ≤ e) (q2 : e ≤ 10000) (d0 : 0 ≤ d) (d1 : d < 18446744073709551616) :
    Calls Tryd.prog 55 #[exactOf neg p l c e more, .int .u64 d] w fun r w' => r = .returned (.bool (Ie.isx V e more d t)) ∧ Below w.heap.size w w' := by
  have R0 := Row4.new w 42 (.bool neg) (.slice p l c) (.int .i64 e) (.bool more)
  obtain ⟨⟨r0, r1, r2, r3⟩, -⟩ := R0.cells
  simp only [exactOf]
  by_cases hz : V = 0
  · have l0 : l = 0 := hl.2 hz
    subst l0
    have E : Hid (Ie.isx V e more d t = true) := by rw [Hid, Ie.isx, decide_eq_true hz, Bool.true_or]
    clear ha hT hV hl ht tb q1 q2
    go_enter Tryd.func55, Tryd.ntmps55
    go_wp2_with fail
    go_ret
    exact ⟨by rw [E.out]; rfl, alloc_b w _⟩
  · have l0 : ((l : Int) == 0) = false := by rw [beq_eq_false_iff_ne]; omega
    have lb : (l : Int) ≤ 17592186044416 := by have := ha.2.1; have := ha.2.2.1; omega
    cases more
    · have IN := hid (fun (wx : World) => infinite_any d wx d0 d1)
      cases hi : Ie.isi d
      · rw [hi] at IN
        obtain ⟨x, hx⟩ : ∃ x, Ie.de d = x := ⟨_, rfl⟩
        have xb : -1074 ≤ x ∧ x ≤ 2047 := by
          rw [← hx, Ie.de]
          have := Ie.fld_bd d
          split
          · rename_i h
            have : Ie.fld d ≠ 0 := by
              intro h0
              rw [Ie.cls, if_pos h0] at h
              split at h <;> omega
            omega
          · split <;> omega
        obtain ⟨xb0, xb1⟩ := xb
        have DC := hid (fun (wx : World) => decode_any d wx d0 d1)
        rw [hx] at DC
        have TR : Hid (∀ wx : World, Below w.heap.size w wx → Calls Tryd.prog 77 #[.slice p l c] wx fun e w' => e = .returned (.int .i64 (t : Int)) ∧ w' = wx) := by
          intro wx hxx
          refine (trail_any p l c zs wx (ha.below hxx (Nat.le_refl _)) (hT.below hxx)).mono ?_
          rintro e w' ⟨t', rfl, g, rfl⟩
          rw [hV] at g
          rw [g.unique ht]
          exact ⟨rfl, rfl⟩
        have E : Hid (Ie.isx V e false d t = decide (x ≤ e + t)) := by rw [Hid, Ie.isx, decide_eq_false hz, hi, hx]; simp
        have tb' : (t : Int) ≤ 10000 := by omega
        have CA : Hid (∀ w2 : World, Below (w.alloc (.cells #[.bool neg, .slice p l c, .int .i64 e, .bool false] 42)).drew.heap.size (w.alloc (.cells #[.bool neg, .slice p l c, .int .i64 e, .bool false] 42)).drew w2 → Below w.heap.size w w2 ∧ Row4 w2 w.heap.size 42 (.bool neg) (.slice p l c) (.int .i64 e) (.bool false)) := by
          intro w2 hB
          have h1 := drew_b (alloc_b w (.cells #[.bool neg, .slice p l c, .int .i64 e, .bool false] 42))
          exact ⟨h1.trans (hB.mono h1.size), (R0.heap (w' := (w.alloc (.cells #[.bool neg, .slice p l c, .int .i64 e, .bool false] 42)).drew) rfl).below hB R0.lt⟩
        have D0 := hid (drew_b (alloc_b w (.cells #[.bool neg, .slice p l c, .int .i64 e, .bool false] 42)))
        simp only [partsOf] at DC
        generalize decide (9223372036854775808 ≤ d) = sgn at DC
        generalize Ie.cls d = cl at DC
        generalize Ie.dm d = mm at DC
        have FD : ∀ wx : World, (Instr.field 54 (.agg #[.bool sgn, .int .i64 cl, .int .u64 mm, .int .i64 x]) 3).run Tryd.prog wx = .ok (.int .i64 x) wx := fun _ => by kernel_rfl
        have WR : IntKind.i64.wrap (e + (t : Int)) = e + (t : Int) := by rw [IntKind.wrap_i64]; omega
        clear ha hT hV hl ht tb hz hi hx R0
        go_enter Tryd.func55, Tryd.ntmps55
        go_wp2_with fail
        generalize w.alloc (.cells #[.bool neg, .slice p l c, .int .i64 e, .bool false] 42) = wA at *
        go_region_with (first | (go_at_call 28; refine (IN.out _).mono ?_; rintro e w2 ⟨rfl, rfl⟩) | (go_at_call 77; refine (TR.out _ (by first | exact D0.out | exact HB2.out)).mono ?_; rintro e w3 ⟨rfl, rfl⟩) | (go_at_call 48; refine (DC.out _).mono ?_; rintro e w2 ⟨rfl, hB⟩; have HB2 := hid (CA.out w2 hB).1; obtain ⟨⟨s0, s1, s2, s3⟩, -⟩ := (CA.out w2 hB).2.cells; clear hB))
        all_goals (go_wp2_with fail; go_ret; exact ⟨by rw [E.out]; rfl, by first | exact HB2.out | exact D0.out⟩)
      · rw [hi] at IN
        have E : Hid (Ie.isx V e false d t = false) := by rw [Hid, Ie.isx, decide_eq_false hz, hi]; rfl
        have D0 := hid (alloc_b w (.cells #[.bool neg, .slice p l c, .int .i64 e, .bool false] 42))
        clear ha hT hV hl ht tb hz hi R0
        go_enter Tryd.func55, Tryd.ntmps55
        go_wp2_with fail
        generalize w.alloc (.cells #[.bool neg, .slice p l c, .int .i64 e, .bool false] 42) = wA at *
        go_quiet (with_reducible exact Calls.quiet_of_same (IN.out _))
        go_wp2_with fail
        go_ret
        exact ⟨by rw [E.out]; rfl, below_drewN D0.out _⟩
    · have E : Hid (Ie.isx V e true d t = false) := by rw [Hid, Ie.isx, decide_eq_false hz]; rfl
      have D0 := hid (alloc_b w (.cells #[.bool neg, .slice p l c, .int .i64 e, .bool true] 42))
      clear ha hT hV hl ht tb hz R0
      go_enter Tryd.func55, Tryd.ntmps55
      go_wp2_with fail
      generalize w.alloc (.cells #[.bool neg, .slice p l c, .int .i64 e, .bool true] 42) = wA at *
      go_quiet (fail)
      go_wp2_with fail
      go_ret
      exact ⟨by rw [E.out]; rfl, below_drewN D0.out _⟩
end Go.Proofs.YtnldfeojookaeaaDoor

namespace Go.Proofs.YtnldfeojookaeaaDoor
open Go.RowKit Go.Deep

/-- What ToUint answers: the limb, and whether it is one. -/
def toU (zs : List Int) : Int := if Nm.tsize zs = 1 then zs.getD 0 0 else 0

theorem ret_to {a b : Int} {c d : Bool} (h : a = b) (k : c = d) : Ending.returned (.tuple #[.int .u64 a, .bool c]) = .returned (.tuple #[.int .u64 b, .bool d]) := by rw [h, k]

theorem toUint_any (p : Option Addr) (n cap : Nat) (zs : List Int) (w : World) (ha : Arg w p n cap zs) :
    Calls Tryd.prog 95 #[.slice p n cap] w fun e w' => e = .returned (.tuple #[.int .u64 (toU zs), .bool (decide (Nm.tsize zs ≤ 1))]) ∧ w' = w := by
  obtain ⟨a1, a2, a3, a4, a5⟩ := ha
  have tl := Nm.tsize_le zs
  have S1 := trimmed_any p n cap zs w a1 a2 (by omega) a4
  rcases (show Nm.tsize zs = 0 ∨ Nm.tsize zs = 1 ∨ 1 < Nm.tsize zs by omega) with h | h | h
  · have E : Hid (0 = toU zs ∧ true = decide (Nm.tsize zs ≤ 1)) := by simp [Hid, toU, h]
    rw [h] at S1
    have HS := hid S1
    clear S1 h
    go_enter Tryd.func95, Tryd.ntmps95
    go_wp2_with fail
    refine HS.out.mono ?_
    rintro e w' ⟨rfl, rfl⟩
    go_wp2
    go_ret2
    exact ⟨ret_to E.out.1 E.out.2, rfl⟩
  · have E : Hid (zs.getD 0 0 = toU zs ∧ true = decide (Nm.tsize zs ≤ 1)) := by simp [Hid, toU, h]
    obtain ⟨b, off, rfl, hbw, HC⟩ := a4.at (by omega)
    have hc := HC.out 0 (by omega)
    rw [Nat.add_zero] at hc
    rw [h] at S1
    have HS := hid S1
    clear S1 h
    go_enter Tryd.func95, Tryd.ntmps95
    go_wp2_with fail
    refine HS.out.mono ?_
    rintro e w' ⟨rfl, rfl⟩
    go_wp2
    go_ret2
    exact ⟨ret_to E.out.1 E.out.2, rfl⟩
  · have E : Hid (0 = toU zs ∧ false = decide (Nm.tsize zs ≤ 1)) := by
      refine ⟨?_, ?_⟩
      · rw [toU, if_neg (by omega)]
      · simp; omega
    have h1 : ((Nm.tsize zs : Int) == 0) = false := by rw [beq_eq_false_iff_ne]; omega
    have h2 : ((Nm.tsize zs : Int) == 1) = false := by rw [beq_eq_false_iff_ne]; omega
    have HS := hid S1
    clear S1 h
    go_enter Tryd.func95, Tryd.ntmps95
    go_wp2_with fail
    refine HS.out.mono ?_
    rintro e w' ⟨rfl, rfl⟩
    go_wp2
    go_ret2
    exact ⟨ret_to E.out.1 E.out.2, rfl⟩

theorem toU_val {zs : List Int} (hl : Nm.Limbs zs) (hv : Nm.val zs < 18446744073709551616) : toU zs = Nm.val zs := by
  have h1 : Nm.tsize zs ≤ 1 := (Nm.tsize_le_iff hl 1).2 (by simpa [Nm.pw] using hv)
  by_cases h : Nm.tsize zs = 1
  · rw [toU, if_pos h, ← Nm.val_trim zs, Nm.trim, h]
    cases zs with
    | nil => simp [Nm.val]
    | cons z zs => simp [Nm.val]
  · have h0 : Nm.tsize zs = 0 := by omega
    rw [toU, if_neg h, ← Nm.val_trim zs, Nm.trim, h0]
    simp [Nm.val]
end Go.Proofs.YtnldfeojookaeaaDoor

/-
  ieee: scaled, roundsUp.
-/
namespace Go.Proofs.YtnldfeojookaeaaDoor
open Go Go.RowKit Go.Deep

theorem toU_is (p : Option Addr) (n cap : Nat) (zs : List Int) (w : World) (ha : Arg w p n cap zs) (V : Int) (hV : Nm.val zs = V) (h : V < 18446744073709551616) :
    Calls Tryd.prog 95 #[.slice p n cap] w fun e w' => e = .returned (.tuple #[.int .u64 V, .bool true]) ∧ w' = w := by
  have h1 := toUint_any p n cap zs w ha
  rw [toU_val ha.2.2.2.2 (by rw [hV]; exact h), hV] at h1
  have h2 : Nm.tsize zs ≤ 1 := (Nm.tsize_le_iff ha.2.2.2.2 1).2 (by rw [hV]; exact h)
  simpa [h2] using h1

set_option maxRecDepth 100000 in
set_option maxHeartbeats 1000000 in
theorem scaled_up (p : Option Addr) (n cap : Nat) (zs : List Int) (w : World) (ha : Arg w p n cap zs) (V s : Int) (j : Nat) (hV : Nm.val zs = V) (hs : s = (j : Int)) (hj : 0 < j) (hj2 : j ≤ 64) (h : V * 2 ^ j < 18446744073709551616) :
    Calls Tryd.prog 87 #[.slice p n cap, .int .i64 s] w fun e w' => e = .returned (.int .u64 (V * 2 ^ j)) ∧ w' = w := by
  subst hs
  have v0 : 0 ≤ V := by rw [← hV]; exact (Nm.val_bd zs ha.2.2.2.2).1
  have hp := Nm.two_pos j
  have v1 : V < 18446744073709551616 := by
    have : V * 1 ≤ V * 2 ^ j := Int.mul_le_mul_of_nonneg_left (by omega) v0
    omega
  have T := hid (toU_is p n cap zs w ha V hV v1)
  have m0 : 0 ≤ V * 2 ^ j := Int.mul_nonneg v0 (by omega)
  have W : IntKind.u64.wrap (V * 2 ^ j) = V * 2 ^ j := by rw [IntKind.wrap_u64]; omega
  have hj' : (0 : Int) < (j : Int) := by omega
  have hj3 : (j : Int) ≤ 64 := by omega
  clear ha hV hp v1 h m0 hj
  go_enter Tryd.func87, Tryd.ntmps87
  go_wp2_with fail
  refine T.out.mono ?_
  rintro e w' ⟨rfl, rfl⟩
  go_wp2_with fail
  go_ret
  exact ⟨rfl, rfl⟩

set_option maxRecDepth 100000 in
set_option maxHeartbeats 1000000 in
theorem scaled_down (p : Option Addr) (n cap : Nat) (zs : List Int) (w : World) (ha : Arg w p n cap zs) (hT : Tab w) (tz : Nm.tsize zs ≤ 4096) (V s : Int) (k : Nat) (hV : Nm.val zs = V) (hs : s = -(k : Int)) (hk : k ≤ 8000000) (h : V / 2 ^ k < 18446744073709551616) :
    Calls Tryd.prog 87 #[.slice p n cap, .int .i64 s] w fun e w' => e = .returned (.int .u64 (V / 2 ^ k)) ∧ Below w.heap.size w w' := by
  subst hs
  have H := hid (fun (kk : Int) (hkk : kk = (k : Int)) => shr_any p n cap zs kk k w ha hT tz hkk)
  have hk0 : ¬ (0 : Int) < -(k : Int) := by omega
  have hk1 : (k : Int) ≤ 8000000 := by omega
  have HV := hid hV
  have HH := hid h
  clear ha hT tz hV h hk
  go_enter Tryd.func87, Tryd.ntmps87
  go_wp2_with fail
  refine (H.out _ (by omega)).mono ?_
  rintro e w' ⟨r, os, rfl, A, hB⟩
  rw [HV.out] at A
  have A1 : os.length ≤ 17592186044416 := by
    have := (Nm.tsize_le_iff A.2.1 1).2 (by rw [A.2.2.2.1]; exact HH.out)
    rw [A.2.2.1] at this
    omega
  have T := hid (toU_is r _ _ os w' (A.arg A1) _ A.2.2.2.1 HH.out)
  have HB := hid hB
  clear A A1 hB H
  go_wp2_with fail
  refine T.out.mono ?_
  rintro e w'' ⟨rfl, rfl⟩
  go_wp2_with fail
  go_ret
  exact ⟨rfl, HB.out⟩

theorem up_none (p : Option Addr) (n cap : Nat) (w : World) (s : Int) (half : Bool) (hs : s ≤ 0) (hs2 : -8000000 ≤ s) :
    Calls Tryd.prog 88 #[.slice p n cap, .int .i64 s, .bool half] w fun e w' => e = .returned (.bool false) ∧ w' = w := by
  have H := hid (fun (i : Int) (hi : i < 0) => bit_neg p n cap i w hi)
  go_enter Tryd.func88, Tryd.ntmps88
  go_wp2_with fail
  refine (H.out _ (by omega)).mono ?_
  rintro e w' ⟨rfl, rfl⟩
  go_wp2_with fail
  go_ret
  exact ⟨rfl, rfl⟩

set_option maxRecDepth 100000 in
set_option maxHeartbeats 1000000 in
theorem up_some (p : Option Addr) (n cap : Nat) (zs : List Int) (w : World) (ha : Arg w p n cap zs) (hT : Tab w) (V s : Int) (k : Nat) (half : Bool) (hV : Nm.val zs = V) (hv : 0 < V) (hs : s = (k : Int) + 1) (hk : k ≤ 8000000) :
    Calls Tryd.prog 88 #[.slice p n cap, .int .i64 s, .bool half] w fun e w' => ∃ up, e = .returned (.bool up) ∧ (up = true ↔ (V / 2 ^ k % 2 = 1 ∧ (half = true ∨ V % 2 ^ k ≠ 0))) ∧ w' = w := by
  subst hs
  obtain ⟨b, hb⟩ : ∃ b, V / 2 ^ k % 2 = b := ⟨_, rfl⟩
  have H : Hid (∀ i : Int, i = (k : Int) → Calls Tryd.prog 97 #[.slice p n cap, .int .i64 i] w fun e w' => e = .returned (.int .i64 b) ∧ w' = w) := by
    intro i hi
    have := bit_any p n cap zs k i w ha (by omega) hi
    rw [hV, hb] at this
    exact this
  have T := hid (trail_any p n cap zs w ha hT)
  have HV := hid hV
  have hb2 : b = 0 ∨ b = 1 := by omega
  have HB := hid hb
  have hvv := hid hv
  have hk1 : (k : Int) ≤ 8000000 := by omega
  clear ha hT hV hb hv hk
  rcases hb2 with rfl | rfl
  · go_enter Tryd.func88, Tryd.ntmps88
    go_wp2_with fail
    refine (H.out _ (by omega)).mono ?_
    rintro e w' ⟨rfl, rfl⟩
    go_wp2_with fail
    go_ret
    exact ⟨false, rfl, ⟨fun h => (by cases h), fun h => (by have := HB.out; omega)⟩, rfl⟩
  · cases half
    · go_enter Tryd.func88, Tryd.ntmps88
      go_wp2_with fail
      refine (H.out _ (by omega)).mono ?_
      rintro e w' ⟨rfl, rfl⟩
      go_wp2_with fail
      refine T.out.mono ?_
      rintro e w' ⟨t, rfl, ht, rfl⟩
      rw [HV.out] at ht
      have E := hid (Sh.lost_iff (n := k) ht hvv.out)
      clear ht
      go_wp2_with fail
      go_ret
      refine ⟨_, rfl, ?_, rfl⟩
      have E1 : (t : Int) < (k : Int) ↔ V % 2 ^ k ≠ 0 := by simpa only [decide_eq_decide] using E.out
      rw [decide_eq_true_iff]
      constructor
      · intro h
        exact ⟨HB.out, .inr (E1.1 (by omega))⟩
      · rintro ⟨_, h | h⟩
        · cases h
        · have := E1.2 h
          omega
    · go_enter Tryd.func88, Tryd.ntmps88
      go_wp2_with fail
      refine (H.out _ (by omega)).mono ?_
      rintro e w' ⟨rfl, rfl⟩
      go_wp2_with fail
      go_ret
      refine ⟨true, rfl, ?_, rfl⟩
      have := HB.out
      simp [this]
end Go.Proofs.YtnldfeojookaeaaDoor

/-
  ieee: nearest (made by mknear.py).
-/
namespace Go.Proofs.YtnldfeojookaeaaDoor
open Go Go.RowKit Go.Deep

set_option maxRecDepth 100000 in
set_option maxHeartbeats 2000000 in
theorem nearest_up (p : Option Addr) (n cap : Nat) (zs : List Int) (w : World) (ha : Arg w p n cap zs) (hT : Tab w) (tz : Nm.tsize zs ≤ 4096) (V e u : Int) (L j U : Nat) (more : Bool) (hV : Nm.val zs = V) (hL : blen zs = (L : Int)) (hL0 : 0 < L) (hL2 : L ≤ 262144) (hbig : (L : Int) + e ≤ 1024) (hsm : -8000000 ≤ e)
    (hj : e - u = (j : Int)) (hj2 : j ≤ 64) (hU : u + 1074 = (U : Int)) (hU2 : U ≤ 2045) (hm : V * 2 ^ j < 9007199254740992) (hmax : ((L : Int) + e - 53 < -1074 ∧ u = -1074) ∨ (-1074 ≤ (L : Int) + e - 53 ∧ u = (L : Int) + e - 53)) :
    Calls Tryd.prog 75 #[.slice p n cap, .int .i64 e, .bool more] w fun r w' => r = .returned (.int .u64 ((U : Int) * 4503599627370496 + V * 2 ^ j)) ∧ Below w.heap.size w w' := by
  have v0 : 0 ≤ V := by rw [← hV]; exact (Nm.val_bd zs ha.2.2.2.2).1
  have BL : Hid (Calls Tryd.prog 56 #[.slice p n cap] w fun e w' => e = .returned (.int .i64 (L : Int)) ∧ w' = w) := by
    have := bitLen_any p n cap zs w ha
    rw [hL] at this
    exact this
  obtain ⟨m, hme⟩ : ∃ m, V * 2 ^ j = m := ⟨_, rfl⟩
  have SC : Hid (∀ s : Int, s = (j : Int) → Calls Tryd.prog 87 #[.slice p n cap, .int .i64 s] w fun e w' => e = .returned (.int .u64 m) ∧ Below w.heap.size w w') := by
    intro s hs
    rcases Nat.eq_zero_or_pos j with hj0 | hj0
    · subst hj0
      have e1 : V / 2 ^ 0 = m := by rw [← hme, Int.pow_zero, Int.mul_one, Int.ediv_one]
      have := scaled_down p n cap zs w ha hT tz V s 0 hV (by omega) (by omega) (by rw [e1]; omega)
      rw [e1] at this
      exact this
    · have := scaled_up p n cap zs w ha V s j hV hs hj0 hj2 (by omega)
      rw [hme] at this
      refine this.mono ?_
      rintro e' w' ⟨rfl, rfl⟩
      exact ⟨rfl, Below.refl _ _⟩
  have RU := hid (fun (wx : World) (s : Int) (half : Bool) (h : s ≤ 0) (h2 : -8000000 ≤ s) => up_none p n cap wx s half h h2)
  have m0 : 0 ≤ m := by rw [← hme]; exact Int.mul_nonneg v0 (by have := Nm.two_pos j; omega)
  rw [hme] at hm ⊢
  have B := Ib.one_and m m0 (by omega)
  have l0 : ((L : Int) == 0) = false := by rw [beq_eq_false_iff_ne]; omega
  have l1 : ¬ 1024 < (L : Int) + e := by omega
  have l2 : (L : Int) ≤ 262144 := by omega
  clear ha hV hL hme hL2 v0 hT tz
  rcases hmax with ⟨h, rfl⟩ | ⟨h, rfl⟩ <;> cases more
  · go_enter Tryd.func75, Tryd.ntmps75
    go_wp2_with fail
    refine BL.out.mono ?_
    rintro e' w' ⟨rfl, rfl⟩
    go_wp2_with fail
    refine (SC.out _ (by omega)).mono ?_
    rintro e' w' ⟨rfl, HB⟩
    have HB := hid HB
    go_wp2_with fail
    refine (RU.out _ _ _ (by omega) (by omega)).mono ?_
    rintro e' w' ⟨rfl, rfl⟩
    go_wp2_with fail
    go_ret
    exact ⟨i_retU (by omega), HB.out⟩
  · go_enter Tryd.func75, Tryd.ntmps75
    go_wp2_with fail
    refine BL.out.mono ?_
    rintro e' w' ⟨rfl, rfl⟩
    go_wp2_with fail
    refine (SC.out _ (by omega)).mono ?_
    rintro e' w' ⟨rfl, HB⟩
    have HB := hid HB
    go_wp2_with fail
    refine (RU.out _ _ _ (by omega) (by omega)).mono ?_
    rintro e' w' ⟨rfl, rfl⟩
    go_wp2_with fail
    go_ret
    exact ⟨i_retU (by omega), HB.out⟩
  · go_enter Tryd.func75, Tryd.ntmps75
    go_wp2_with fail
    refine BL.out.mono ?_
    rintro e' w' ⟨rfl, rfl⟩
    go_wp2_with fail
    refine (SC.out _ (by omega)).mono ?_
    rintro e' w' ⟨rfl, HB⟩
    have HB := hid HB
    go_wp2_with fail
    refine (RU.out _ _ _ (by omega) (by omega)).mono ?_
    rintro e' w' ⟨rfl, rfl⟩
    go_wp2_with fail
    go_ret
    exact ⟨i_retU (by omega), HB.out⟩
  · go_enter Tryd.func75, Tryd.ntmps75
    go_wp2_with fail
    refine BL.out.mono ?_
    rintro e' w' ⟨rfl, rfl⟩
    go_wp2_with fail
    refine (SC.out _ (by omega)).mono ?_
    rintro e' w' ⟨rfl, HB⟩
    have HB := hid HB
    go_wp2_with fail
    refine (RU.out _ _ _ (by omega) (by omega)).mono ?_
    rintro e' w' ⟨rfl, rfl⟩
    go_wp2_with fail
    go_ret
    exact ⟨i_retU (by omega), HB.out⟩

set_option maxRecDepth 100000 in
set_option maxHeartbeats 2000000 in
theorem nearest_down (p : Option Addr) (n cap : Nat) (zs : List Int) (w : World) (ha : Arg w p n cap zs) (hT : Tab w) (tz : Nm.tsize zs ≤ 4096) (V e u : Int) (L k U : Nat) (more : Bool) (hV : Nm.val zs = V) (hv : 0 < V) (hL : blen zs = (L : Int)) (hL0 : 0 < L) (hL2 : L ≤ 262144) (hbig : (L : Int) + e ≤ 1024) (hsm : -7000000 ≤ e)
    (hk : u - e = (k : Int) + 1) (hU : u + 1074 = (U : Int)) (hU2 : U ≤ 2045) (hm : V / 2 ^ (k + 1) < 9007199254740992) (hmax : ((L : Int) + e - 53 < -1074 ∧ u = -1074) ∨ (-1074 ≤ (L : Int) + e - 53 ∧ u = (L : Int) + e - 53)) :
    Calls Tryd.prog 75 #[.slice p n cap, .int .i64 e, .bool more] w fun r w' => ∃ up : Bool, r = .returned (.int .u64 ((U : Int) * 4503599627370496 + V / 2 ^ (k + 1) + if up = true then 1 else 0)) ∧
      (up = true ↔ (V / 2 ^ k % 2 = 1 ∧ ((more = true ∨ V / 2 ^ (k + 1) % 2 = 1) ∨ V % 2 ^ k ≠ 0))) ∧ Below w.heap.size w w' := by
  have BL : Hid (Calls Tryd.prog 56 #[.slice p n cap] w fun e w' => e = .returned (.int .i64 (L : Int)) ∧ w' = w) := by
    have := bitLen_any p n cap zs w ha
    rw [hL] at this
    exact this
  obtain ⟨m, hme⟩ : ∃ m, V / 2 ^ (k + 1) = m := ⟨_, rfl⟩
  have SC : Hid (∀ s : Int, s = -((k + 1 : Nat) : Int) → Calls Tryd.prog 87 #[.slice p n cap, .int .i64 s] w fun e w' => e = .returned (.int .u64 m) ∧ Below w.heap.size w w') := by
    intro s hs
    have := scaled_down p n cap zs w ha hT tz V s (k + 1) hV hs (by omega) (by omega)
    rw [hme] at this
    exact this
  have RS : Hid (∀ w' : World, Below w.heap.size w w' → ∀ (s : Int) (half : Bool), s = (k : Int) + 1 → Calls Tryd.prog 88 #[.slice p n cap, .int .i64 s, .bool half] w' fun e w'' => ∃ up, e = .returned (.bool up) ∧ (up = true ↔ (V / 2 ^ k % 2 = 1 ∧ (half = true ∨ V % 2 ^ k ≠ 0))) ∧ w'' = w') := by
    intro w' hB s half hs
    exact up_some p n cap zs w' (ha.below hB (Nat.le_refl _)) (hT.below hB) V s k half hV hv hs (by omega)
  have m0 : 0 ≤ m := by rw [← hme]; exact Int.ediv_nonneg (by omega) (by have := Nm.two_pos (k + 1); omega)
  rw [hme] at hm ⊢
  have B := Ib.one_and m m0 (by omega)
  have l0 : ((L : Int) == 0) = false := by rw [beq_eq_false_iff_ne]; omega
  have l1 : ¬ 1024 < (L : Int) + e := by omega
  have l2 : (L : Int) ≤ 262144 := by omega
  clear ha hV hL hme hL2 hT tz hv
  rcases hmax with ⟨h, rfl⟩ | ⟨h, rfl⟩ <;> cases more
  · go_enter Tryd.func75, Tryd.ntmps75
    go_wp2_with fail
    refine BL.out.mono ?_
    rintro e' w' ⟨rfl, rfl⟩
    go_wp2_with fail
    refine (SC.out _ (by omega)).mono ?_
    rintro e' w' ⟨rfl, HB⟩
    have RU := hid (RS.out w' HB)
    have HB := hid HB
    go_wp2_with fail
    refine (RU.out _ _ (by omega)).mono ?_
    rintro e' w'' ⟨up, rfl, hup, rfl⟩
    have UP := hid hup
    clear hup
    cases up
    · go_wp2_with fail
      go_ret
      exact ⟨false, i_retU (by simp; omega), by simpa using UP.out, HB.out⟩
    · go_wp2_with fail
      go_ret
      exact ⟨true, i_retU (by simp; omega), by simpa using UP.out, HB.out⟩
  · go_enter Tryd.func75, Tryd.ntmps75
    go_wp2_with fail
    refine BL.out.mono ?_
    rintro e' w' ⟨rfl, rfl⟩
    go_wp2_with fail
    refine (SC.out _ (by omega)).mono ?_
    rintro e' w' ⟨rfl, HB⟩
    have RU := hid (RS.out w' HB)
    have HB := hid HB
    go_wp2_with fail
    refine (RU.out _ _ (by omega)).mono ?_
    rintro e' w'' ⟨up, rfl, hup, rfl⟩
    have UP := hid hup
    clear hup
    cases up
    · go_wp2_with fail
      go_ret
      exact ⟨false, i_retU (by simp; omega), by simpa using UP.out, HB.out⟩
    · go_wp2_with fail
      go_ret
      exact ⟨true, i_retU (by simp; omega), by simpa using UP.out, HB.out⟩
  · go_enter Tryd.func75, Tryd.ntmps75
    go_wp2_with fail
    refine BL.out.mono ?_
    rintro e' w' ⟨rfl, rfl⟩
    go_wp2_with fail
    refine (SC.out _ (by omega)).mono ?_
    rintro e' w' ⟨rfl, HB⟩
    have RU := hid (RS.out w' HB)
    have HB := hid HB
    go_wp2_with fail
    refine (RU.out _ _ (by omega)).mono ?_
    rintro e' w'' ⟨up, rfl, hup, rfl⟩
    have UP := hid hup
    clear hup
    cases up
    · go_wp2_with fail
      go_ret
      exact ⟨false, i_retU (by simp; omega), by simpa using UP.out, HB.out⟩
    · go_wp2_with fail
      go_ret
      exact ⟨true, i_retU (by simp; omega), by simpa using UP.out, HB.out⟩
  · go_enter Tryd.func75, Tryd.ntmps75
    go_wp2_with fail
    refine BL.out.mono ?_
    rintro e' w' ⟨rfl, rfl⟩
    go_wp2_with fail
    refine (SC.out _ (by omega)).mono ?_
    rintro e' w' ⟨rfl, HB⟩
    have RU := hid (RS.out w' HB)
    have HB := hid HB
    go_wp2_with fail
    refine (RU.out _ _ (by omega)).mono ?_
    rintro e' w'' ⟨up, rfl, hup, rfl⟩
    have UP := hid hup
    clear hup
    cases up
    · go_wp2_with fail
      go_ret
      exact ⟨false, i_retU (by simp; omega), by simpa using UP.out, HB.out⟩
    · go_wp2_with fail
      go_ret
      exact ⟨true, i_retU (by simp; omega), by simpa using UP.out, HB.out⟩

set_option maxRecDepth 100000 in
theorem nearest_any (p : Option Addr) (n cap : Nat) (zs : List Int) (w : World) (ha : Arg w p n cap zs) (hT : Tab w) (tz : Nm.tsize zs ≤ 4096) (V e : Int) (more : Bool) (hV : Nm.val zs = V) (h0 : -7000000 ≤ e) (h1 : e ≤ 7000000) :
    Calls Tryd.prog 75 #[.slice p n cap, .int .i64 e, .bool more] w fun r w' => ∃ x, r = .returned (.int .u64 x) ∧ Ie.Rnd V 1 e more x ∧ Below w.heap.size w w' := by
  obtain ⟨L, hL, BL, hl, _⟩ := blen_is zs ha.2.2.2.2
  have v0 : 0 ≤ V := by rw [← hV]; exact (Nm.val_bd zs ha.2.2.2.2).1
  rw [hV] at BL
  have hL2 : L ≤ 262144 := by omega
  have B : Hid (Calls Tryd.prog 56 #[.slice p n cap] w fun e w' => e = .returned (.int .i64 (L : Int)) ∧ w' = w) := by
    have := bitLen_any p n cap zs w ha
    rw [hL] at this
    exact this
  rcases (show V = 0 ∨ 0 < V by omega) with hv | hv
  · have hL0 : L = 0 := BL.2.1 hv
    subst hL0
    have R := hid (Ie.rnd_zero 1 e more (by omega))
    rw [hv]
    clear ha hT tz hV hL BL hl hL2 v0 hv
    go_enter Tryd.func75, Tryd.ntmps75
    go_wp2_with fail
    refine B.out.mono ?_
    rintro e' w' ⟨rfl, rfl⟩
    go_wp2_with fail
    go_ret
    exact ⟨0, rfl, R.out, Below.refl _ _⟩
  · obtain ⟨hL1, hp⟩ := BL.2.2 hv
    rcases (show 1024 < (L : Int) + e ∨ (L : Int) + e ≤ 1024 by omega) with hb | hb
    · have R := hid (Ie.rnd_inf V 1 e (L - 1) 0 more hp (by decide) (by omega))
      have l0 : ((L : Int) == 0) = false := by rw [beq_eq_false_iff_ne]; omega
      have l2 : (L : Int) ≤ 262144 := by omega
      clear ha hT tz hV hL BL hl hL2 v0 hv hp hL1
      go_enter Tryd.func75, Tryd.ntmps75
      go_wp2_with fail
      refine B.out.mono ?_
      rintro e' w' ⟨rfl, rfl⟩
      go_wp2_with fail
      go_ret
      exact ⟨_, rfl, R.out, Below.refl _ _⟩
    · obtain ⟨u, hu⟩ : ∃ u : Int, ((L : Int) + e - 53 < -1074 ∧ u = -1074) ∨ (-1074 ≤ (L : Int) + e - 53 ∧ u = (L : Int) + e - 53) := by
        rcases (show (L : Int) + e - 53 < -1074 ∨ -1074 ≤ (L : Int) + e - 53 by omega) with h | h
        · exact ⟨_, .inl ⟨h, rfl⟩⟩
        · exact ⟨_, .inr ⟨h, rfl⟩⟩
      obtain ⟨U, hU⟩ : ∃ U : Nat, u + 1074 = (U : Int) := ⟨(u + 1074).toNat, by omega⟩
      have e53 : (2 : Int) ^ 53 = 9007199254740992 := by decide
      rcases (show u ≤ e ∨ e < u by omega) with hd | hd
      · obtain ⟨j, hj⟩ : ∃ j : Nat, e - u = (j : Int) := ⟨(e - u).toNat, by omega⟩
        have hj53 : L + j ≤ 53 := by omega
        have hm : V * 2 ^ j < 9007199254740992 := by
          have g1 : V * 2 ^ j < 2 ^ (L + j) := by rw [Nm.two_add]; exact Int.mul_lt_mul_of_pos_right BL.1 (Nm.two_pos j)
          have g2 := Nm.two_mono hj53
          omega
        refine (nearest_up p n cap zs w ha hT tz V e u L j U more hV hL (by omega) hL2 hb (by omega) hj (by omega) hU (by omega) hm hu).mono ?_
        rintro r w' ⟨rfl, hB⟩
        exact ⟨_, rfl, Ie.rnd_exact V e L j U more hv hp hL1 BL.1 hj53 (by omega) (by omega) (by omega), hB⟩
      · obtain ⟨k, hk⟩ : ∃ k : Nat, u - e = (k : Int) + 1 := ⟨(u - e - 1).toNat, by omega⟩
        have hk53 : L ≤ k + 1 + 53 := by omega
        have hm : V / 2 ^ (k + 1) < 9007199254740992 := by
          rw [Int.ediv_lt_iff_lt_mul (Nm.two_pos _)]
          have g := Nm.two_mono hk53
          rw [Nm.two_add, e53] at g
          rw [Int.mul_comm]
          have := BL.1
          omega
        refine (nearest_down p n cap zs w ha hT tz V e u L k U more hV hv hL (by omega) hL2 hb (by omega) hk hU (by omega) hm hu).mono ?_
        rintro r w' ⟨up, rfl, hup, hB⟩
        refine ⟨_, rfl, Ie.rnd_cut V e L (k + 1) U more up hv hp hL1 BL.1 (by omega) (by omega) (by omega) (by omega) ?_, hB⟩
        rw [hup, Nat.add_sub_cancel]
        constructor
        · rintro ⟨g1, (g | g) | g⟩
          · exact ⟨by omega, g1, .inl g⟩
          · exact ⟨by omega, g1, .inr (.inl g)⟩
          · exact ⟨by omega, g1, .inr (.inr g)⟩
        · rintro ⟨_, g1, g | g | g⟩
          · exact ⟨g1, .inl (.inl g)⟩
          · exact ⟨g1, .inl (.inr g)⟩
          · exact ⟨g1, .inr g⟩
end Go.Proofs.YtnldfeojookaeaaDoor

/-
  ieee: Round.
-/
namespace Go.Proofs.YtnldfeojookaeaaDoor
open Go Go.RowKit Go.Deep

namespace Ie
theorem win_ok {n d e x : Int} {more : Bool} (L M : Nat) (n0 : 0 ≤ n) (hn : n < 2 ^ L) (d0 : 0 < d) (hd : d ≤ 2 ^ M) (hL : L ≤ 262144) (hM : M ≤ 262144) (h : Rnd n d (win e) more x) : Rnd n d e more x := by
  rcases (show win e = e ∨ (win e = 2097152 ∧ 2097152 < e) ∨ (win e = -2097152 ∧ e < -2097152) by simp only [win]; omega) with g | ⟨g, g'⟩ | ⟨g, g'⟩
  · rw [g] at h; exact h
  · rw [g] at h
    rcases (show n = 0 ∨ 0 < n by omega) with h0 | h0
    · subst h0
      have := h.one d0 d0 (rnd_zero d 2097152 more d0) (a := 0) (a' := 0) (by omega) rfl
      rw [this]
      exact rnd_zero d e more d0
    · have p0 : (2 : Int) ^ 0 ≤ n := by rw [Int.pow_zero]; omega
      have := h.one d0 d0 (rnd_inf n d 2097152 0 M more p0 hd (by omega)) (a := 0) (a' := 0) (by omega) rfl
      rw [this]
      exact rnd_inf n d e 0 M more p0 hd (by omega)
  · rw [g] at h
    have p0 : (2 : Int) ^ 0 ≤ d := by rw [Int.pow_zero]; omega
    have := h.one d0 d0 (rnd_small n d (-2097152) L 0 more hn p0 (by omega)) (a := 0) (a' := 0) (by omega) rfl
    rw [this]
    exact rnd_small n d e L 0 more hn p0 (by omega)

theorem win_bd (e : Int) : -2097152 ≤ win e ∧ win e ≤ 2097152 := by simp only [win]; omega
end Ie
end Go.Proofs.YtnldfeojookaeaaDoor

/-
  ieee: Round.
-/
namespace Go.Proofs.YtnldfeojookaeaaDoor
open Go Go.RowKit Go.Deep


set_option maxRecDepth 100000 in
set_option maxHeartbeats 2000000 in
theorem round_any (neg : Bool) (p : Option Addr) (n cap : Nat) (zs : List Int) (w : World) (ha : Arg w p n cap zs) (hT : Tab w) (tz : Nm.tsize zs ≤ 4096) (V e : Int) (more : Bool) (hV : Nm.val zs = V) :
    Calls Tryd.prog 54 #[.bool neg, .slice p n cap, .int .i64 e, .bool more] w fun r w' => ∃ x, r = .returned (.tuple #[.int .u64 (Ie.sg neg x), .int .i64 0]) ∧ Ie.Rnd V 1 e more x ∧ Below w.heap.size w w' := by
  obtain ⟨L, hL, BL, hl, _⟩ := blen_is zs ha.2.2.2.2
  rw [hV] at BL
  have B1 := hid (bitLen_n L p n cap zs w ha hL)
  have v0 : 0 ≤ V := by rw [← hV]; exact (Nm.val_bd zs ha.2.2.2.2).1
  have WI := hid (fun (x : Int) => Ie.win_ok (n := V) (d := 1) (e := e) (x := x) (more := more) L 0 v0 BL.1 (by omega) (by decide) (by omega) (by omega))
  have W0 := hid (within_any e w)
  obtain ⟨we, hwe⟩ : ∃ we, Ie.win e = we := ⟨_, rfl⟩
  have wb := Ie.win_bd e
  rw [hwe] at wb W0 WI
  have NR := hid (nearest_any p n cap zs w ha hT tz V we more hV (by omega) (by omega))
  have l1 : decide (262144 < (L : Int)) = false := by simp; omega
  clear ha hT tz hV hL BL hl v0 hwe wb
  go_enter Tryd.func54, Tryd.ntmps54
  go_wp2_with fail
  refine B1.out.mono ?_
  rintro e' w' ⟨rfl, rfl⟩
  go_wp2_with fail
  refine W0.out.mono ?_
  rintro e' w' ⟨rfl, rfl⟩
  go_wp2_with fail
  refine NR.out.mono ?_
  rintro e' w1 ⟨x, rfl, R, hB⟩
  have bd := R.bd
  have R1 := hid (WI.out x R)
  have SG := hid (signed_any neg x w1 bd.1 (by omega))
  have HB := hid hB
  clear R bd hB
  go_wp2_with fail
  refine SG.out.mono ?_
  rintro e' w2 ⟨rfl, rfl⟩
  go_wp2_with fail
  go_ret2
  exact ⟨x, rfl, R1.out, HB.out⟩
end Go.Proofs.YtnldfeojookaeaaDoor

/-
  soft: rounded.
-/
namespace Go.Proofs.YtnldfeojookaeaaDoor
open Go Go.RowKit Go.Deep

/-- The flags that a rounding raises: the result V * 2^e (or a trifle above), the double x, L the bits of V, t the zeros at its end. -/
def Ie.flg (V e : Int) (more : Bool) (d : Int) (t L : Nat) : Int :=
  if Ie.isx V e more d t = true then 0 else 16 + (if Ie.isi d = true then 4 else 0) + (if (L : Int) + e ≤ -1022 then 8 else 0)

/-- What rounded answers. -/
def RoundedTold (neg : Bool) (V e : Int) (more : Bool) (w : World) (r : Ending) (w' : World) : Prop :=
  ∃ (x : Int) (t L : Nat), r = .returned (.tuple #[.int .u64 (Ie.sg neg x), .int .i64 (Ie.flg V e more (Ie.sg neg x) t L)]) ∧ Ie.Rnd V 1 e more x ∧ Nm.Trl V t ∧ Nm.BLen V L ∧ Below w.heap.size w w'

theorem ret_ui {a b c d : Int} (h : a = b) (k : c = d) : Ending.returned (.tuple #[.int .u64 a, .int .i64 c]) = .returned (.tuple #[.int .u64 b, .int .i64 d]) := by rw [h, k]

set_option maxRecDepth 100000 in
set_option maxHeartbeats 4000000 in
theorem rounded_any (neg more : Bool) (p : Option Addr) (l c : Nat) (zs : List Int) (e V : Int) (w : World) (ha : Arg w p l c zs) (hT : Tab w) (hV : Nm.val zs = V) (hl : l = 0 ↔ V = 0) (hb : V < 2 ^ 5000) (q1 : -10000 ≤ e) (q2 : e ≤ 10000) :
    Calls Tryd.prog 31 #[exactOf neg p l c e more] w fun r w' => RoundedTold neg V e more w r w' := by
  have v0 : 0 ≤ V := by rw [← hV]; exact (Nm.val_bd zs ha.2.2.2.2).1
  have tz : Nm.tsize zs ≤ 4096 := (Nm.tsize_le_iff ha.2.2.2.2 4096).2 (by rw [hV, pw_4096]; have := Nm.two_mono (show 5000 ≤ 262144 by omega); omega)
  obtain ⟨L, hL, BL, hl2, _⟩ := blen_is zs ha.2.2.2.2
  rw [hV] at BL
  have Lb : (L : Int) ≤ 262144 := by omega
  obtain ⟨t, tb, ht⟩ : ∃ t : Nat, t ≤ 10000 ∧ Nm.Trl V t := by
    rcases (show V = 0 ∨ 0 < V by omega) with h | h
    · exact ⟨0, by omega, .inl ⟨h, rfl⟩⟩
    · obtain ⟨t, h1, h2⟩ := trl_ex 5000 V h hb
      exact ⟨t, by omega, h2⟩
  have R0 := Row4.new w 42 (.bool neg) (.slice p l c) (.int .i64 e) (.bool more)
  have B0 := alloc_b w (.cells #[.bool neg, .slice p l c, .int .i64 e, .bool more] 42)
  have RD := hid (round_any neg p l c zs _ (ha.below B0 (Nat.le_refl _)) (hT.below B0) tz V e more hV)
  have IS := hid (fun (d : Int) (wx : World) (hx : Below w.heap.size w wx) (d0 : 0 ≤ d) (d1 : d < 18446744073709551616) => is_any neg more p l c zs e V d t wx (ha.below hx (Nat.le_refl _)) (hT.below hx) hV hl ht tb q1 q2 d0 d1)
  have BL1 := hid (fun (wx : World) (hx : Below w.heap.size w wx) => bitLen_n L p l c zs wx (ha.below hx (Nat.le_refl _)) hL)
  have IN := hid (fun (d : Int) (wx : World) (d0 : 0 ≤ d) (d1 : d < 18446744073709551616) => infinite_any d wx d0 d1)
  have FF : Hid (∀ (x f : Int) (w' : World), f = Ie.flg V e more (Ie.sg neg x) t L → Ie.Rnd V 1 e more x → Below w.heap.size w w' → RoundedTold neg V e more w (.returned (.tuple #[.int .u64 (Ie.sg neg x), .int .i64 f])) w') := by
    intro x f w' hf hR hB
    exact ⟨x, t, L, by rw [hf], hR, ht, BL, hB⟩
  obtain ⟨⟨r0, r1, r2, r3⟩, -⟩ := R0.cells
  have HR0 := hid R0
  have HB0 := hid B0
  simp only [exactOf] at IS ⊢
  clear ha hT hV hl hb v0 tz hL BL hl2 ht tb R0 B0
  go_enter Tryd.func31, Tryd.ntmps31
  go_wp2_with fail
  generalize hwA : w.alloc (.cells #[.bool neg, .slice p l c, .int .i64 e, .bool more] 42) = wA at *
  refine RD.out.mono ?_
  rintro r wa ⟨x, rfl, R, hB⟩
  have bd := R.bd
  obtain ⟨x0, x1⟩ := bd
  have sg0 : 0 ≤ Ie.sg neg x ∧ Ie.sg neg x < 18446744073709551616 := by simp only [Ie.sg]; split <;> omega
  obtain ⟨g0, g1⟩ := sg0
  have Ra := HR0.out.below hB HR0.out.lt
  have Ba := HB0.out.trans (hB.mono HB0.out.size)
  have IS1 := hid (IS.out _ wa Ba g0 g1)
  have F1 := hid (fun (f : Int) (w' : World) (h : f = Ie.flg V e more (Ie.sg neg x) t L) (hB : Below w.heap.size w w') => FF.out x f w' h R hB)
  have HBa := hid Ba
  have HRa := hid Ra
  obtain ⟨⟨s0, s1, s2, s3⟩, -⟩ := Ra.cells
  clear hB Ra Ba IS FF RD HR0 HB0 R r0 r1 r2 r3
  generalize hd : Ie.sg neg x = d at *
  go_wp2_with fail
  refine IS1.out.mono ?_
  rintro r wb ⟨rfl, hB⟩
  have Rb := HRa.out.below hB HRa.out.lt
  have Bb := HBa.out.trans (hB.mono HBa.out.size)
  have HBb := hid Bb
  have BQ := hid (fun (k : Nat) => BL1.out (wb.drewN k) (below_drewN Bb k))
  have IN1 := hid (fun (wx : World) => IN.out d wx g0 g1)
  clear s0 s1 s2 s3
  obtain ⟨⟨s0, s1, s2, s3⟩, -⟩ := Rb.cells
  have F2 : Hid (∀ (f : Int) (w' : World), f = (if Ie.isx V e more d t = true then 0 else 16 + (if Ie.isi d = true then 4 else 0) + (if (L : Int) + e ≤ -1022 then 8 else 0)) → Below w.heap.size w w' → RoundedTold neg V e more w (.returned (.tuple #[.int .u64 d, .int .i64 f])) w') := fun f w' h hB => F1.out f w' h hB
  have O1 : bits .or .i64 16 4 = 20 := by decide
  have O2 : bits .or .i64 16 8 = 24 := by decide
  have O3 : bits .or .i64 20 8 = 28 := by decide
  clear hB HRa HBa IS1 IN BL1 Rb Bb F1
  cases hx : Ie.isx V e more d t
  · rw [hx] at F2
    cases hi : Ie.isi d <;> rw [hi] at F2 IN1
    · by_cases hu : (L : Int) + e ≤ -1022
      · have dd : decide ((L : Int) + e ≤ -1022) = true := by simp; omega
        have F3 := hid (fun (w' : World) (hB : Below w.heap.size w w') => F2.out 24 w' (by simp [hu]) hB)
        clear F2 hx hi hu
        go_wp2_with fail
        refine (IN1.out _).mono ?_
        rintro r wc ⟨rfl, rfl⟩
        go_wp2_with fail
        go_quiet ((go_at_call 56; with_reducible exact Calls.quiet_of_same (BQ.out _)))
        go_wp2_with fail
        go_ret2
        exact F3.out _ (below_drewN HBb.out _)
      · have dd : decide ((L : Int) + e ≤ -1022) = false := by simp; omega
        have F3 := hid (fun (w' : World) (hB : Below w.heap.size w w') => F2.out 16 w' (by simp [hu]) hB)
        clear F2 hx hi hu
        go_wp2_with fail
        refine (IN1.out _).mono ?_
        rintro r wc ⟨rfl, rfl⟩
        go_wp2_with fail
        go_quiet ((go_at_call 56; with_reducible exact Calls.quiet_of_same (BQ.out _)))
        go_wp2_with fail
        go_ret2
        exact F3.out _ (below_drewN HBb.out _)
    · by_cases hu : (L : Int) + e ≤ -1022
      · have dd : decide ((L : Int) + e ≤ -1022) = true := by simp; omega
        have F3 := hid (fun (w' : World) (hB : Below w.heap.size w w') => F2.out 28 w' (by simp [hu]) hB)
        clear F2 hx hi hu
        go_wp2_with fail
        refine (IN1.out _).mono ?_
        rintro r wc ⟨rfl, rfl⟩
        go_wp2_with fail
        go_quiet ((go_at_call 56; with_reducible exact Calls.quiet_of_same (BQ.out _)))
        go_wp2_with fail
        go_ret2
        exact F3.out _ (below_drewN HBb.out _)
      · have dd : decide ((L : Int) + e ≤ -1022) = false := by simp; omega
        have F3 := hid (fun (w' : World) (hB : Below w.heap.size w w') => F2.out 20 w' (by simp [hu]) hB)
        clear F2 hx hi hu
        go_wp2_with fail
        refine (IN1.out _).mono ?_
        rintro r wc ⟨rfl, rfl⟩
        go_wp2_with fail
        go_quiet ((go_at_call 56; with_reducible exact Calls.quiet_of_same (BQ.out _)))
        go_wp2_with fail
        go_ret2
        exact F3.out _ (below_drewN HBb.out _)
  · rw [hx] at F2
    have F3 := hid (fun (w' : World) (hB : Below w.heap.size w w') => F2.out 0 w' (by simp) hB)
    clear F2 hx
    go_wp2_with fail
    go_ret2
    exact F3.out _ HBb.out
end Go.Proofs.YtnldfeojookaeaaDoor

/-
  What soft's functions tell.
-/
namespace Go.Proofs.YtnldfeojookaeaaDoor
open Go Go.RowKit Go.Deep

theorem Ans.len0 {B : Nat} {w : World} {p : Option Addr} {ys : List Int} {n : Int} (h : Ans B w p ys n) : ys.length = 0 ↔ n = 0 := by
  have h1 := Nm.tsize_zero_iff h.2.1
  rw [h.2.2.1, h.2.2.2.1] at h1
  exact h1

namespace Ie
/-- What a rounded result is: the double r, the flags f, of sn neg V * 2^e (or a trifle above). -/
def Res (neg : Bool) (V e : Int) (more : Bool) (r f : Int) : Prop :=
  ∃ (x : Int) (t L : Nat), r = sg neg x ∧ f = flg V e more (sg neg x) t L ∧ Rnd V 1 e more x ∧ Nm.Trl V t ∧ Nm.BLen V L

/-- What add answers. -/
def AddIs (a b r f : Int) : Prop :=
  if isn a = true ∨ isn b = true then r = 9221120237041090560 ∧ f = 0
  else if isi a = true ∧ isi b = true ∧ a ≠ b then r = 9221120237041090560 ∧ f = 1
  else if isi a = true then r = a ∧ f = 0
  else if isi b = true then r = b ∧ f = 0
  else ∃ neg V e, SumIs (ngd a) (dm a) (de a) (ngd b) (dm b) (de b) neg V e ∧ Res neg V e false r f

theorem fin_of {d : Int} (h0 : isn d = false) (h1 : isi d = false) : fin d := by
  rw [isn, decide_eq_false_iff_not] at h0
  rw [isi, decide_eq_false_iff_not] at h1
  rw [fin]; omega
theorem not_both {d : Int} (h : isi d = true) : isn d = false := by
  rw [isi, decide_eq_true_eq] at h
  rw [isn, h]; rfl
end Ie

/-- An answer and its flags, told. -/
def Told2 (P : Int → Int → Prop) (w : World) (e : Ending) (w' : World) : Prop := ∃ r f, e = .returned (.tuple #[.int .u64 r, .int .i64 f]) ∧ P r f ∧ Below w.heap.size w w'

/-- An answer, told. -/
def Told1 (P : Int → Int → Prop) (w : World) (e : Ending) (w' : World) : Prop := ∃ r f, e = .returned (.int .u64 r) ∧ P r f ∧ Below w.heap.size w w'
end Go.Proofs.YtnldfeojookaeaaDoor

namespace Go.Proofs.YtnldfeojookaeaaDoor
open Go Go.RowKit Go.Deep

set_option maxRecDepth 100000 in
theorem zput_any (neg : Bool) (e f : Int) (w : World) (e0 : 0 ≤ e) (e1 : e ≤ 2047) (f0 : 0 ≤ f) (f1 : f ≤ 9007199254740992) (h : e * 4503599627370496 + f < 9223372036854775808) :
    Calls Tryd.prog 61 #[.bool neg, .int .i64 e, .int .u64 f] w fun r w' => r = .returned (.int .u64 (Ie.sg neg (e * 4503599627370496 + f))) ∧ w' = w := by
  cases neg
  · go_enter Tryd.func61, Tryd.ntmps61
    go_wp2
    go_ret
    exact ⟨rfl, rfl⟩
  · go_enter Tryd.func61, Tryd.ntmps61
    go_wp2
    go_ret
    exact ⟨rfl, rfl⟩

theorem ret_sg {neg : Bool} {a b : Int} (h : a = b) : Ending.returned (.tuple #[.int .u64 (Ie.sg neg a), .int .i64 0]) = .returned (.tuple #[.int .u64 (Ie.sg neg b), .int .i64 0]) := by rw [h]
end Go.Proofs.YtnldfeojookaeaaDoor

/-
  The document's put and Decode.
-/
namespace Go.Proofs.YtnldfeojookaeaaDoor
open Go Go.RowKit Go.Deep

set_option maxRecDepth 100000 in
set_option maxHeartbeats 4000000 in
theorem zdecode_any (d : Int) (w : World) (h0 : 0 ≤ d) (h1 : d < 18446744073709551616) :
    Calls Tryd.prog 45 #[.int .u64 d] w fun e w' => e = .returned (partsOf (decide (9223372036854775808 ≤ d)) (Ie.cls d) (Ie.dm d) (Ie.de d)) ∧ Below w.heap.size w w' := by
  obtain ⟨f, hf⟩ : ∃ f, d / 4503599627370496 % 2048 = f := ⟨_, rfl⟩
  obtain ⟨y, hy⟩ : ∃ y, d % 4503599627370496 = y := ⟨_, rfl⟩
  obtain ⟨sv, hs⟩ : ∃ sv, d / 9223372036854775808 = sv := ⟨_, rfl⟩
  have hf' : Ie.fld d = f := hf
  have fb0 : 0 ≤ f := by omega
  have fb1 : f < 2048 := by omega
  have y0 : 0 ≤ y := by omega
  have y1 : y < 4503599627370496 := by omega
  have sc : (sv = 0 ∧ decide (9223372036854775808 ≤ d) = false) ∨ (sv = 1 ∧ decide (9223372036854775808 ≤ d) = true) := by
    rcases (show d < 9223372036854775808 ∨ 9223372036854775808 ≤ d by omega) with h | h
    · left; exact ⟨by omega, by simp; omega⟩
    · right; exact ⟨by omega, by simp; omega⟩
  have hc : Ie.cls d = if f = 0 then (if y = 0 then 0 else 1) else if f = 2047 then (if y = 0 then 3 else 4) else 2 := by rw [Ie.cls, hf', hy]
  have hm : Ie.dm d = if Ie.cls d = 2 then 4503599627370496 + y else if Ie.cls d = 1 ∨ Ie.cls d = 4 then y else 0 := by rw [Ie.dm, hy]
  have he : Ie.de d = if Ie.cls d = 2 then f - 1075 else if Ie.cls d = 1 then -1074 else 0 := by rw [Ie.de, hf']
  rcases sc with ⟨hv, sn⟩ | ⟨hv, sn⟩ <;> rw [sn] <;> rw [hv] at hs <;> clear hv sn
  · by_cases a : f = 0
    · subst a
      by_cases b : y = 0
      · subst b
        rw [if_pos rfl, if_pos rfl] at hc
        rw [hm, he, hc]
        show Calls _ _ _ _ fun e w' => e = .returned (partsOf _ 0 0 0) ∧ _
        go_enter Tryd.func45, Tryd.ntmps45
        go_wp2_with fail
        (try simp only [Exit.inBlock, Exit.then])
        refine bodyPost_ret (results_cell_row rfl _ _ w.heap.size 54 _ (0, 0) _ rfl (heap_alloc_new _ _) Tryd.underlying54 rfl (by kernel_rfl)) rfl ?_
        exact ⟨rfl, Below.alloc (Below.refl _ _) (Nat.le_refl _) _⟩
      · have b' : (y == 0) = false := by rw [beq_eq_false_iff_ne]; exact b
        rw [if_pos rfl, if_neg b] at hc
        rw [hm, he, hc]
        show Calls _ _ _ _ fun e w' => e = .returned (partsOf _ 1 y (-1074)) ∧ _
        go_enter Tryd.func45, Tryd.ntmps45
        go_wp2_with fail
        (try simp only [Exit.inBlock, Exit.then])
        refine bodyPost_ret (results_cell_row rfl _ _ w.heap.size 54 _ (0, 0) _ rfl (heap_alloc_new _ _) Tryd.underlying54 rfl (by kernel_rfl)) rfl ?_
        exact ⟨rfl, Below.alloc (Below.refl _ _) (Nat.le_refl _) _⟩
    · have a' : (f == 0) = false := by rw [beq_eq_false_iff_ne]; exact a
      have ap : 0 < f := by omega
      by_cases a2 : f = 2047
      · subst a2
        by_cases b : y = 0
        · subst b
          rw [if_neg a, if_pos rfl, if_pos rfl] at hc
          rw [hm, he, hc]
          show Calls _ _ _ _ fun e w' => e = .returned (partsOf _ 3 0 0) ∧ _
          go_enter Tryd.func45, Tryd.ntmps45
          go_wp2_with fail
          (try simp only [Exit.inBlock, Exit.then])
          refine bodyPost_ret (results_cell_row rfl _ _ w.heap.size 54 _ (0, 0) _ rfl (heap_alloc_new _ _) Tryd.underlying54 rfl (by kernel_rfl)) rfl ?_
          exact ⟨rfl, Below.alloc (Below.refl _ _) (Nat.le_refl _) _⟩
        · have b' : (y == 0) = false := by rw [beq_eq_false_iff_ne]; exact b
          rw [if_neg a, if_pos rfl, if_neg b] at hc
          rw [hm, he, hc]
          show Calls _ _ _ _ fun e w' => e = .returned (partsOf _ 4 y 0) ∧ _
          go_enter Tryd.func45, Tryd.ntmps45
          go_wp2_with fail
          (try simp only [Exit.inBlock, Exit.then])
          refine bodyPost_ret (results_cell_row rfl _ _ w.heap.size 54 _ (0, 0) _ rfl (heap_alloc_new _ _) Tryd.underlying54 rfl (by kernel_rfl)) rfl ?_
          exact ⟨rfl, Below.alloc (Below.refl _ _) (Nat.le_refl _) _⟩
      · have a2' : (f == 2047) = false := by rw [beq_eq_false_iff_ne]; exact a2
        rw [if_neg a, if_neg a2] at hc
        rw [hm, he, hc]
        show Calls _ _ _ _ fun e w' => e = .returned (partsOf _ 2 (4503599627370496 + y) (f - 1075)) ∧ _
        go_enter Tryd.func45, Tryd.ntmps45
        go_wp2_with fail
        (try simp only [Exit.inBlock, Exit.then])
        refine bodyPost_ret (results_cell_row rfl _ _ w.heap.size 54 _ (0, 0) _ rfl (heap_alloc_new _ _) Tryd.underlying54 rfl (by kernel_rfl)) rfl ?_
        exact ⟨rfl, Below.alloc (Below.refl _ _) (Nat.le_refl _) _⟩
  · by_cases a : f = 0
    · subst a
      by_cases b : y = 0
      · subst b
        rw [if_pos rfl, if_pos rfl] at hc
        rw [hm, he, hc]
        show Calls _ _ _ _ fun e w' => e = .returned (partsOf _ 0 0 0) ∧ _
        go_enter Tryd.func45, Tryd.ntmps45
        go_wp2_with fail
        (try simp only [Exit.inBlock, Exit.then])
        refine bodyPost_ret (results_cell_row rfl _ _ w.heap.size 54 _ (0, 0) _ rfl (heap_alloc_new _ _) Tryd.underlying54 rfl (by kernel_rfl)) rfl ?_
        exact ⟨rfl, Below.alloc (Below.refl _ _) (Nat.le_refl _) _⟩
      · have b' : (y == 0) = false := by rw [beq_eq_false_iff_ne]; exact b
        rw [if_pos rfl, if_neg b] at hc
        rw [hm, he, hc]
        show Calls _ _ _ _ fun e w' => e = .returned (partsOf _ 1 y (-1074)) ∧ _
        go_enter Tryd.func45, Tryd.ntmps45
        go_wp2_with fail
        (try simp only [Exit.inBlock, Exit.then])
        refine bodyPost_ret (results_cell_row rfl _ _ w.heap.size 54 _ (0, 0) _ rfl (heap_alloc_new _ _) Tryd.underlying54 rfl (by kernel_rfl)) rfl ?_
        exact ⟨rfl, Below.alloc (Below.refl _ _) (Nat.le_refl _) _⟩
    · have a' : (f == 0) = false := by rw [beq_eq_false_iff_ne]; exact a
      have ap : 0 < f := by omega
      by_cases a2 : f = 2047
      · subst a2
        by_cases b : y = 0
        · subst b
          rw [if_neg a, if_pos rfl, if_pos rfl] at hc
          rw [hm, he, hc]
          show Calls _ _ _ _ fun e w' => e = .returned (partsOf _ 3 0 0) ∧ _
          go_enter Tryd.func45, Tryd.ntmps45
          go_wp2_with fail
          (try simp only [Exit.inBlock, Exit.then])
          refine bodyPost_ret (results_cell_row rfl _ _ w.heap.size 54 _ (0, 0) _ rfl (heap_alloc_new _ _) Tryd.underlying54 rfl (by kernel_rfl)) rfl ?_
          exact ⟨rfl, Below.alloc (Below.refl _ _) (Nat.le_refl _) _⟩
        · have b' : (y == 0) = false := by rw [beq_eq_false_iff_ne]; exact b
          rw [if_neg a, if_pos rfl, if_neg b] at hc
          rw [hm, he, hc]
          show Calls _ _ _ _ fun e w' => e = .returned (partsOf _ 4 y 0) ∧ _
          go_enter Tryd.func45, Tryd.ntmps45
          go_wp2_with fail
          (try simp only [Exit.inBlock, Exit.then])
          refine bodyPost_ret (results_cell_row rfl _ _ w.heap.size 54 _ (0, 0) _ rfl (heap_alloc_new _ _) Tryd.underlying54 rfl (by kernel_rfl)) rfl ?_
          exact ⟨rfl, Below.alloc (Below.refl _ _) (Nat.le_refl _) _⟩
      · have a2' : (f == 2047) = false := by rw [beq_eq_false_iff_ne]; exact a2
        rw [if_neg a, if_neg a2] at hc
        rw [hm, he, hc]
        show Calls _ _ _ _ fun e w' => e = .returned (partsOf _ 2 (4503599627370496 + y) (f - 1075)) ∧ _
        go_enter Tryd.func45, Tryd.ntmps45
        go_wp2_with fail
        (try simp only [Exit.inBlock, Exit.then])
        refine bodyPost_ret (results_cell_row rfl _ _ w.heap.size 54 _ (0, 0) _ rfl (heap_alloc_new _ _) Tryd.underlying54 rfl (by kernel_rfl)) rfl ?_
        exact ⟨rfl, Below.alloc (Below.refl _ _) (Nat.le_refl _) _⟩
end Go.Proofs.YtnldfeojookaeaaDoor
