/-
  Texts put together: XBox, XPlusA, XWalk1, XIs, XRounded, XAddA, XSpec, TLeftN, XPlus, XAddL, XAddT, IWalk1A.
-/
import Derived.Test.YtkmadibfiikleaaDoorXMem
import Derived.Test.YtkmadibfiikleaaDoorXNum
import Derived.Test.YtkmadibfiikleaaDoorIS
import Derived.Test.YtkmadibfiikleaaDoorXDef
import Derived.Test.YtkmadibfiikleaaDoorFromW
import Derived.Deep.RegionWith
import Derived.Test.YtkmadibfiikleaaDoorTrailW
import Derived.BigQuiet
import Derived.Test.YtkmadibfiikleaaDoorIRound
import Derived.Test.YtkmadibfiikleaaDoorXSpecA
import Derived.Test.YtkmadibfiikleaaDoorGN
import Derived.Test.YtkmadibfiikleaaDoorML
import Derived.Test.YtkmadibfiikleaaDoorIO
import Derived.Test.YtkmadibfiikleaaDoorSub
import Derived.Test.YtkmadibfiikleaaDoorSmall
import Derived.Test.YtkmadibfiikleaaDoorIWalk1B
/-
  Two exacts in boxes of their own, and room for the answer.
-/
namespace Go.Proofs.YtkmadibfiikleaaDoor
open Go Go.RowKit Go.Deep

/-- Two exacts in boxes of their own, and room for the answer. -/
def Box (w wx : World) (x0 x1 x2 x3 y0 y1 y2 y3 : Value) : Prop :=
  (Row4 wx w.heap.size 47 x0 x1 x2 x3 ∧ Row4 wx (w.heap.size + 1) 47 y0 y1 y2 y3 ∧ Row4 wx (w.heap.size + 2) 47 (.bool false) (.slice none 0 0) (.int .i64 0) (.bool false)) ∧ Below w.heap.size w wx ∧ w.heap.size + 3 ≤ wx.heap.size

theorem Box.new (w : World) (x0 x1 x2 x3 y0 y1 y2 y3 : Value) :
    Box w (((w.alloc (.cells #[x0, x1, x2, x3] 47)).alloc (.cells #[y0, y1, y2, y3] 47)).alloc (.cells #[.bool false, .slice none 0 0, .int .i64 0, .bool false] 47)) x0 x1 x2 x3 y0 y1 y2 y3 := by
  have s1 : (w.alloc (.cells #[x0, x1, x2, x3] 47)).heap.size = w.heap.size + 1 := by simp
  have s2 : ((w.alloc (.cells #[x0, x1, x2, x3] 47)).alloc (.cells #[y0, y1, y2, y3] 47)).heap.size = w.heap.size + 2 := by simp
  have r0 := Row4.new w 47 x0 x1 x2 x3
  have r1 := Row4.new (w.alloc (.cells #[x0, x1, x2, x3] 47)) 47 y0 y1 y2 y3
  have r2 := Row4.new ((w.alloc (.cells #[x0, x1, x2, x3] 47)).alloc (.cells #[y0, y1, y2, y3] 47)) 47 (.bool false) (.slice none 0 0) (.int .i64 0) (.bool false)
  rw [s1] at r1
  rw [s2] at r2
  refine ⟨⟨?_, ?_, r2⟩, ?_, ?_⟩
  · exact (r0.below (alloc_b _ _) (by omega)).below (alloc_b _ _) (by omega)
  · exact r1.below (alloc_b _ _) (by omega)
  · have h1 := alloc_b w (.cells #[x0, x1, x2, x3] 47)
    have h2 := Below.alloc h1 h1.size (.cells #[y0, y1, y2, y3] 47)
    exact Below.alloc h2 h2.size _
  · simp

theorem Box.on {w wx w' : World} {x0 x1 x2 x3 y0 y1 y2 y3 : Value} (h : Box w wx x0 x1 x2 x3 y0 y1 y2 y3) (hB : Below wx.heap.size wx w') : Box w w' x0 x1 x2 x3 y0 y1 y2 y3 := by
  obtain ⟨⟨a, b, c⟩, d, e⟩ := h
  exact ⟨⟨a.below hB a.lt, b.below hB b.lt, c.below hB c.lt⟩, d.trans (hB.mono d.size), by have := hB.size; omega⟩

theorem Box.cells {w wx : World} {x0 x1 x2 x3 y0 y1 y2 y3 : Value} (h : Box w wx x0 x1 x2 x3 y0 y1 y2 y3) :
    (wx.cell? ⟨w.heap.size, 0, none⟩ = some x0 ∧ wx.cell? ⟨w.heap.size, 1, none⟩ = some x1 ∧ wx.cell? ⟨w.heap.size, 2, none⟩ = some x2) ∧
    (wx.cell? ⟨w.heap.size + 1, 0, none⟩ = some y0 ∧ wx.cell? ⟨w.heap.size + 1, 1, none⟩ = some y1 ∧ wx.cell? ⟨w.heap.size + 1, 2, none⟩ = some y2) ∧
    ((wx.cell? ⟨w.heap.size + 2, 0, none⟩ = some (.bool false) ∧ wx.cell? ⟨w.heap.size + 2, 1, none⟩ = some (.slice none 0 0) ∧ wx.cell? ⟨w.heap.size + 2, 2, none⟩ = some (.int .i64 0) ∧ wx.cell? ⟨w.heap.size + 2, 3, none⟩ = some (.bool false)) ∧
      (wx.frozen? ⟨w.heap.size + 2, 0, none⟩ = false ∧ wx.frozen? ⟨w.heap.size + 2, 1, none⟩ = false ∧ wx.frozen? ⟨w.heap.size + 2, 2, none⟩ = false ∧ wx.frozen? ⟨w.heap.size + 2, 3, none⟩ = false)) := by
  obtain ⟨⟨a, b, c⟩, -, -⟩ := h
  exact ⟨⟨a.cells.1.1, a.cells.1.2.1, a.cells.1.2.2.1⟩, ⟨b.cells.1.1, b.cells.1.2.1, b.cells.1.2.2.1⟩, c.cells⟩
end Go.Proofs.YtkmadibfiikleaaDoor

/-
  soft: plus (made by mkplus.py).
-/
namespace Go.Proofs.YtkmadibfiikleaaDoor
open Go Go.RowKit Go.Deep

namespace Ie
/-- What plus tells: the sum of both, at the lower exponent (or nothing at 0). -/
def SumIs (n1 : Bool) (V1 e1 : Int) (n2 : Bool) (V2 e2 : Int) (neg : Bool) (V x : Int) : Prop :=
  (x = min e1 e2 ∨ (V = 0 ∧ x = 0)) ∧ (V = 0 → neg = (n1 && n2)) ∧ (0 ≤ V ∧ V < 2 ^ 5000) ∧
  ∀ B a b c : Nat, (a : Int) = e1 + B → (b : Int) = e2 + B → (c : Int) = x + B → sn neg V * 2 ^ c = sn n1 V1 * 2 ^ a + sn n2 V2 * 2 ^ b

theorem sum_at {n1 n2 neg : Bool} {V1 V2 V e1 e2 m : Int} {k1 k2 : Nat} (hm : min e1 e2 = m) (hk1 : (k1 : Int) = e1 - m) (hk2 : (k2 : Int) = e2 - m) (h : sn neg V = sn n1 (V1 * 2 ^ k1) + sn n2 (V2 * 2 ^ k2)) (h0 : V = 0 → neg = (n1 && n2)) (v0 : 0 ≤ V) (v1 : V < 2 ^ 5000) : SumIs n1 V1 e1 n2 V2 e2 neg V m := by
  refine ⟨.inl hm.symm, h0, ⟨v0, v1⟩, fun B a b c ha hb hc => ?_⟩
  rw [h, ← sn_mul_right, ← sn_mul_right, Int.add_mul, Int.mul_assoc, Int.mul_assoc, ← Nm.two_add, ← Nm.two_add, show k1 + c = a by omega, show k2 + c = b by omega]

theorem sum_none {n1 n2 : Bool} {V1 V2 e1 e2 m : Int} {k1 k2 : Nat} (hm : min e1 e2 = m) (hk1 : (k1 : Int) = e1 - m) (hk2 : (k2 : Int) = e2 - m) (hn : n1 ≠ n2) (h : V1 * 2 ^ k1 = V2 * 2 ^ k2) : SumIs n1 V1 e1 n2 V2 e2 false 0 0 := by
  refine ⟨.inr ⟨rfl, rfl⟩, fun _ => ?_, ⟨by omega, Nm.two_pos _⟩, fun B a b c ha hb hc => ?_⟩
  · cases n1 <;> cases n2 <;> first | rfl | exact absurd rfl hn
  · have key : V1 * 2 ^ a = V2 * 2 ^ b := by
      have q : (a : Int) = k1 + (m + B) ∧ (b : Int) = k2 + (m + B) := by omega
      obtain ⟨j, hj⟩ : ∃ j : Nat, (j : Int) = m + B := ⟨(m + B).toNat, by omega⟩
      rw [show a = k1 + j by omega, show b = k2 + j by omega, Nm.two_add, Nm.two_add, ← Int.mul_assoc, ← Int.mul_assoc, h]
    rw [sn_zero, Int.zero_mul, sn_mul_right, sn_mul_right, key]
    cases n1 <;> cases n2 <;> simp only [sn, Bool.false_eq_true, if_true, if_false] <;> first | exact absurd rfl hn | omega

theorem up_lt {V : Int} {k K : Nat} (v1 : V < 2 ^ 200) (hk : k ≤ K) : V * 2 ^ k < 2 ^ (200 + K) := by
  have h1 : V * 2 ^ k < 2 ^ 200 * 2 ^ k := Int.mul_lt_mul_of_pos_right v1 (Nm.two_pos k)
  rw [← Nm.two_add] at h1
  have := Nm.two_mono (show 200 + k ≤ 200 + K by omega)
  omega
end Ie

/-- What plus answers. -/
def PlusTold (n1 : Bool) (V1 e1 : Int) (n2 : Bool) (V2 e2 : Int) (w : World) (e : Ending) (w' : World) : Prop :=
  ∃ neg p os V x, e = .returned (exactOf neg p (List.length os) (List.length os) x false) ∧ Ans w.heap.size w' p os V ∧ Below w.heap.size w w' ∧ Ie.SumIs n1 V1 e1 n2 V2 e2 neg V x

theorem Ans.tl {B : Nat} {w : World} {p : Option Addr} {ys : List Int} {n : Int} (h : Ans B w p ys n) {K : Nat} (hn : n < 2 ^ K) (hK : K ≤ 262144) : Nm.tsize ys ≤ 4096 ∧ ys.length ≤ 4096 ∧ n < Nm.pw 4096 := by
  have e := pw_4096
  have := Nm.two_mono hK
  have h1 : n < Nm.pw 4096 := by omega
  have h2 := (Nm.tsize_le_iff h.2.1 4096).2 (by rw [h.2.2.2.1]; exact h1)
  exact ⟨h2, by rw [← h.2.2.1]; exact h2, h1⟩
end Go.Proofs.YtkmadibfiikleaaDoor

/-
  soft: nan, infinite, zero, number.
-/
namespace Go.Proofs.YtkmadibfiikleaaDoor
open Go Go.RowKit Go.Deep

set_option maxRecDepth 100000 in
theorem nan_any (d : Int) (w : World) (h0 : 0 ≤ d) (h1 : d < 18446744073709551616) :
    Calls Tryd.prog 27 #[.int .u64 d] w fun e w' => e = .returned (.bool (Ie.isn d)) ∧ w' = w := by
  have CL := hid (class_any d w h0 h1)
  have E := hid (Ie.isn_cls d)
  generalize Ie.cls d = c at CL E
  go_enter Tryd.func27, Tryd.ntmps27
  go_wp2_with fail
  refine CL.out.mono ?_
  rintro e w' ⟨rfl, rfl⟩
  go_wp2_with fail
  go_ret
  exact ⟨by rw [E.out]; rfl, rfl⟩

set_option maxRecDepth 100000 in
theorem infinite_any (d : Int) (w : World) (h0 : 0 ≤ d) (h1 : d < 18446744073709551616) :
    Calls Tryd.prog 46 #[.int .u64 d] w fun e w' => e = .returned (.bool (Ie.isi d)) ∧ w' = w := by
  have CL := hid (class_any d w h0 h1)
  have E := hid (Ie.isi_cls d)
  generalize Ie.cls d = c at CL E
  go_enter Tryd.func46, Tryd.ntmps46
  go_wp2_with fail
  refine CL.out.mono ?_
  rintro e w' ⟨rfl, rfl⟩
  go_wp2_with fail
  go_ret
  exact ⟨by rw [E.out]; rfl, rfl⟩

/-- What number answers. -/
def NumTold (d : Int) (w : World) (e : Ending) (w' : World) : Prop :=
  ∃ p os, e = .returned (exactOf (Ie.ngd d) p (List.length os) (List.length os) (Ie.de d) false) ∧ Ans w.heap.size w' p os (Ie.dm d) ∧ Below w.heap.size w w'

set_option maxRecDepth 100000 in
set_option maxHeartbeats 2000000 in
theorem number_any (d : Int) (w : World) (h0 : 0 ≤ d) (h1 : d < 18446744073709551616) (hf : Ie.fin d) :
    Calls Tryd.prog 29 #[.int .u64 d] w fun e w' => NumTold d w e w' := by
  have D := hid (fun (wx : World) => decode_any d wx h0 h1)
  rw [← Ie.ngd] at D
  obtain ⟨⟨m0, m1⟩, -, -, -⟩ := Ie.dec_f d hf
  have FU := hid (fun (wx : World) => fromUint_any (Ie.dm d) wx m0 (by omega))
  have WT : Hid (∀ (w2 : World) (p : Option Addr) (os : List Int), Ans (w.heap.size + 1) w2 p os (Ie.dm d) → Row4 w2 w.heap.size 47 (.bool false) (.slice none 0 0) (.int .i64 0) (.bool false) → Below w.heap.size w w2 →
      NumTold d w (.returned (exactOf (Ie.ngd d) p (List.length os) (List.length os) (Ie.de d) false)) ((((w2.setCell ⟨w.heap.size, 0, none⟩ (.bool (Ie.ngd d))).setCell ⟨w.heap.size, 1, none⟩ (.slice p os.length os.length)).setCell ⟨w.heap.size, 2, none⟩ (.int .i64 (Ie.de d))).setCell ⟨w.heap.size, 3, none⟩ (.bool false))) := by
    intro w2 p os A R hB
    have A' := A.set4 (b := w.heap.size) (u0 := .bool (Ie.ngd d)) (u1 := .slice p os.length os.length) (u2 := .int .i64 (Ie.de d)) (u3 := .bool false) (by omega)
    exact ⟨p, os, rfl, ⟨A'.1, A'.2.1, A'.2.2.1, A'.2.2.2.1, fun a h => by have := A'.2.2.2.2 a h; omega⟩, set4_below hB (Nat.le_refl _)⟩
  simp only [partsOf] at D
  generalize Ie.ngd d = neg at *
  generalize Ie.dm d = m at *
  generalize Ie.de d = x at *
  generalize Ie.cls d = c at *
  clear hf
  go_enter Tryd.func29, Tryd.ntmps29
  go_wp2_with fail
  refine (D.out _).mono ?_
  rintro e w1 ⟨rfl, hB⟩
  have R0 := Row4.new w 47 (.bool false) (.slice none 0 0) (.int .i64 0) (.bool false)
  have sz : (w.alloc (Obj.cells #[Value.bool false, Value.slice none 0 0, Value.int IntKind.i64 0, Value.bool false] 47)).heap.size = w.heap.size + 1 := by simp
  have R1 := R0.below hB (by omega)
  have HB := (alloc_b w _).trans (hB.mono (alloc_b w _).size)
  have s1 : w.heap.size + 1 ≤ w1.heap.size := by have := hB.size; omega
  clear hB R0 sz D
  go_wp2_with fail
  have HB1 := hid (Below.alloc HB HB.size (.cells #[.bool neg, .int .i64 c, .int .u64 m, .int .i64 x] 68))
  have R2 := R1.below (Below.alloc (w := w1) (Below.refl w1.heap.size w1) (Nat.le_refl _) (.cells #[.bool neg, .int .i64 c, .int .u64 m, .int .i64 x] 68)) R1.lt
  have P := Row4.new w1 68 (.bool neg) (.int .i64 c) (.int .u64 m) (.int .i64 x)
  clear R1 HB
  generalize w1.alloc (.cells #[.bool neg, .int .i64 c, .int .u64 m, .int .i64 x] 68) = wA at *
  obtain ⟨⟨p0, p1, p2, p3⟩, -⟩ := P.cells
  have HS := hid s1
  have CA : Hid (∀ w2 : World, Below wA.drew.heap.size wA.drew w2 → (Below w.heap.size w w2 ∧ Row4 w2 w.heap.size 47 (.bool false) (.slice none 0 0) (.int .i64 0) (.bool false)) ∧ Row4 w2 w1.heap.size 68 (.bool neg) (.int .i64 c) (.int .u64 m) (.int .i64 x)) := by
    intro w2 hB2
    have d := drew_b HB1.out
    exact ⟨⟨d.trans (hB2.mono d.size), (R2.heap (w' := wA.drew) rfl).below hB2 R2.lt⟩, (P.heap (w' := wA.drew) rfl).below hB2 P.lt⟩
  have LE := hid (show w.heap.size + 1 ≤ wA.drew.heap.size from Nat.le_trans s1 (Nat.le_of_lt P.lt))
  clear R2 P s1
  go_region_with (go_at_call 49; refine (FU.out _).mono ?_; rintro e w2 ⟨p, os, rfl, A, hB2⟩; obtain ⟨⟨c1, c2⟩, c3⟩ := CA.out w2 hB2; have KK := hid (WT.out w2 p os ⟨A.1, A.2.1, A.2.2.1, A.2.2.2.1, fun a h => Nat.le_trans LE.out (A.2.2.2.2 a h)⟩ c2 c1); obtain ⟨⟨r0, r1, r2, r3⟩, ⟨f0, f1, f2, f3⟩⟩ := c2.cells; obtain ⟨⟨q0, q1, q2, q3⟩, -⟩ := c3.cells; have RR := hid c2; clear A hB2 c1 c2 c3)
  all_goals (go_wp2_with fail; (try simp only [Exit.inBlock, Exit.then]); refine bodyPost_ret (results_cell_row rfl _ _ w.heap.size 47 _ (0, 0) _ rfl (Row4.set RR.out) Tryd.underlying47 rfl (by kernel_rfl)) rfl ?_; exact KK.out)
end Go.Proofs.YtkmadibfiikleaaDoor

/-
  soft: is.
-/
namespace Go.Proofs.YtkmadibfiikleaaDoor
open Go Go.RowKit Go.Deep

theorem trl_ex : ∀ (n : Nat) (V : Int), 0 < V → V < 2 ^ n → ∃ t : Nat, t < n ∧ Nm.Trl V t
  | 0, V, h0, h1 => by rw [Int.pow_zero] at h1; omega
  | n + 1, V, h0, h1 => by
    rw [Nm.two_succ] at h1
    rcases (show V % 2 = 1 ∨ V % 2 = 0 by omega) with h | h
    · exact ⟨0, by omega, .inr ⟨V / 2, by rw [Int.pow_zero]; omega⟩⟩
    · obtain ⟨t, ht, g⟩ := trl_ex n (V / 2) (by omega) (by omega)
      rcases g with ⟨g, _⟩ | ⟨m, g⟩
      · omega
      · refine ⟨t + 1, by omega, .inr ⟨m, ?_⟩⟩
        rw [Nm.two_succ, Int.mul_assoc, ← g]
        omega

/-- What is answers: t the zeros at the end of V. -/
def Ie.isx (V e : Int) (more : Bool) (d : Int) (t : Nat) : Bool := decide (V = 0) || (!more && (!Ie.isi d && decide (Ie.de d ≤ e + t)))

theorem below_a {w : World} {A : Obj} {w' : World} (h : Below (w.alloc A).heap.size (w.alloc A) w') : Below w.heap.size w w' := (alloc_b w A).trans (h.mono (alloc_b w A).size)

set_option maxRecDepth 100000 in
set_option maxHeartbeats 4000000 in
theorem is_any (neg more : Bool) (p : Option Addr) (l c : Nat) (zs : List Int) (e V d : Int) (t : Nat) (w : World) (ha : Arg w p l c zs) (hT : Tab w) (hV : Nm.val zs = V) (hl : l = 0 ↔ V = 0) (ht : Nm.Trl V t) (tb : t ≤ 10000) (q1 : -10000 ≤ e) (q2 : e ≤ 10000) (d0 : 0 ≤ d) (d1 : d < 18446744073709551616) :
    Calls Tryd.prog 51 #[exactOf neg p l c e more, .int .u64 d] w fun r w' => r = .returned (.bool (Ie.isx V e more d t)) ∧ Below w.heap.size w w' := by
  have R0 := Row4.new w 47 (.bool neg) (.slice p l c) (.int .i64 e) (.bool more)
  obtain ⟨⟨r0, r1, r2, r3⟩, -⟩ := R0.cells
  simp only [exactOf]
  by_cases hz : V = 0
  · have l0 : l = 0 := hl.2 hz
    subst l0
    have E : Hid (Ie.isx V e more d t = true) := by rw [Hid, Ie.isx, decide_eq_true hz, Bool.true_or]
    clear ha hT hV hl ht tb q1 q2
    go_enter Tryd.func51, Tryd.ntmps51
    go_wp2_with fail
    go_ret
    exact ⟨by rw [E.out]; rfl, alloc_b w _⟩
  · have l0 : ((l : Int) == 0) = false := by rw [beq_eq_false_iff_ne]; omega
    have lb : (l : Int) ≤ 17592186044416 := by have := ha.2.1; have := ha.2.2.1; omega
    cases more
    · have IN := hid (fun (wx : World) => infinite_any d wx d0 d1)
      cases hi : Ie.isi d
      · rw [hi] at IN
        obtain ⟨x, hx⟩ : ∃ x, Ie.de d = x := ⟨_, rfl⟩
        have xb : -1074 ≤ x ∧ x ≤ 2047 := by
          rw [← hx, Ie.de]
          have := Ie.fld_bd d
          split
          · rename_i h
            have : Ie.fld d ≠ 0 := by
              intro h0
              rw [Ie.cls, if_pos h0] at h
              split at h <;> omega
            omega
          · split <;> omega
        obtain ⟨xb0, xb1⟩ := xb
        have DC := hid (fun (wx : World) => decode_any d wx d0 d1)
        rw [hx] at DC
        have TR : Hid (∀ wx : World, Below w.heap.size w wx → Calls Tryd.prog 78 #[.slice p l c] wx fun e w' => e = .returned (.int .i64 (t : Int)) ∧ w' = wx) := by
          intro wx hxx
          refine (trail_any p l c zs wx (ha.below hxx (Nat.le_refl _)) (hT.below hxx)).mono ?_
          rintro e w' ⟨t', rfl, g, rfl⟩
          rw [hV] at g
          rw [g.unique ht]
          exact ⟨rfl, rfl⟩
        have E : Hid (Ie.isx V e false d t = decide (x ≤ e + t)) := by rw [Hid, Ie.isx, decide_eq_false hz, hi, hx]; simp
        have tb' : (t : Int) ≤ 10000 := by omega
        have CA : Hid (∀ w2 : World, Below (w.alloc (.cells #[.bool neg, .slice p l c, .int .i64 e, .bool false] 47)).drew.heap.size (w.alloc (.cells #[.bool neg, .slice p l c, .int .i64 e, .bool false] 47)).drew w2 → Below w.heap.size w w2 ∧ Row4 w2 w.heap.size 47 (.bool neg) (.slice p l c) (.int .i64 e) (.bool false)) := by
          intro w2 hB
          have h1 := drew_b (alloc_b w (.cells #[.bool neg, .slice p l c, .int .i64 e, .bool false] 47))
          exact ⟨h1.trans (hB.mono h1.size), (R0.heap (w' := (w.alloc (.cells #[.bool neg, .slice p l c, .int .i64 e, .bool false] 47)).drew) rfl).below hB R0.lt⟩
        have D0 := hid (drew_b (alloc_b w (.cells #[.bool neg, .slice p l c, .int .i64 e, .bool false] 47)))
        simp only [partsOf] at DC
        generalize decide (9223372036854775808 ≤ d) = sgn at DC
        generalize Ie.cls d = cl at DC
        generalize Ie.dm d = mm at DC
        have FD : ∀ wx : World, (Instr.field 68 (.agg #[.bool sgn, .int .i64 cl, .int .u64 mm, .int .i64 x]) 3).run Tryd.prog wx = .ok (.int .i64 x) wx := fun _ => by kernel_rfl
        have WR : IntKind.i64.wrap (e + (t : Int)) = e + (t : Int) := by rw [IntKind.wrap_i64]; omega
        clear ha hT hV hl ht tb hz hi hx R0
        go_enter Tryd.func51, Tryd.ntmps51
        go_wp2_with fail
        generalize w.alloc (.cells #[.bool neg, .slice p l c, .int .i64 e, .bool false] 47) = wA at *
        go_region_with (first | (go_at_call 46; refine (IN.out _).mono ?_; rintro e w2 ⟨rfl, rfl⟩) | (go_at_call 78; refine (TR.out _ (by first | exact D0.out | exact HB2.out)).mono ?_; rintro e w3 ⟨rfl, rfl⟩) | (go_at_call 48; refine (DC.out _).mono ?_; rintro e w2 ⟨rfl, hB⟩; have HB2 := hid (CA.out w2 hB).1; obtain ⟨⟨s0, s1, s2, s3⟩, -⟩ := (CA.out w2 hB).2.cells; clear hB))
        all_goals (go_wp2_with fail; go_ret; exact ⟨by rw [E.out]; rfl, by first | exact HB2.out | exact D0.out⟩)
      · rw [hi] at IN
        have E : Hid (Ie.isx V e false d t = false) := by rw [Hid, Ie.isx, decide_eq_false hz, hi]; rfl
        have D0 := hid (alloc_b w (.cells #[.bool neg, .slice p l c, .int .i64 e, .bool false] 47))
        clear ha hT hV hl ht tb hz hi R0
        go_enter Tryd.func51, Tryd.ntmps51
        go_wp2_with fail
        generalize w.alloc (.cells #[.bool neg, .slice p l c, .int .i64 e, .bool false] 47) = wA at *
        go_quiet (with_reducible exact Calls.quiet_of_same (IN.out _))
        go_wp2_with fail
        go_ret
        exact ⟨by rw [E.out]; rfl, below_drewN D0.out _⟩
    · have E : Hid (Ie.isx V e true d t = false) := by rw [Hid, Ie.isx, decide_eq_false hz]; rfl
      have D0 := hid (alloc_b w (.cells #[.bool neg, .slice p l c, .int .i64 e, .bool true] 47))
      clear ha hT hV hl ht tb hz R0
      go_enter Tryd.func51, Tryd.ntmps51
      go_wp2_with fail
      generalize w.alloc (.cells #[.bool neg, .slice p l c, .int .i64 e, .bool true] 47) = wA at *
      go_quiet (fail)
      go_wp2_with fail
      go_ret
      exact ⟨by rw [E.out]; rfl, below_drewN D0.out _⟩
end Go.Proofs.YtkmadibfiikleaaDoor

/-
  soft: rounded.
-/
namespace Go.Proofs.YtkmadibfiikleaaDoor
open Go Go.RowKit Go.Deep

/-- The flags that a rounding raises: the result V * 2^e (or a trifle above), the double x, L the bits of V, t the zeros at its end. -/
def Ie.flg (V e : Int) (more : Bool) (d : Int) (t L : Nat) : Int :=
  if Ie.isx V e more d t = true then 0 else 16 + (if Ie.isi d = true then 4 else 0) + (if (L : Int) + e ≤ -1022 then 8 else 0)

/-- What rounded answers. -/
def RoundedTold (neg : Bool) (V e : Int) (more : Bool) (w : World) (r : Ending) (w' : World) : Prop :=
  ∃ (x : Int) (t L : Nat), r = .returned (.tuple #[.int .u64 (Ie.sg neg x), .int .i64 (Ie.flg V e more (Ie.sg neg x) t L)]) ∧ Ie.Rnd V 1 e more x ∧ Nm.Trl V t ∧ Nm.BLen V L ∧ Below w.heap.size w w'

theorem ret_ui {a b c d : Int} (h : a = b) (k : c = d) : Ending.returned (.tuple #[.int .u64 a, .int .i64 c]) = .returned (.tuple #[.int .u64 b, .int .i64 d]) := by rw [h, k]

set_option maxRecDepth 100000 in
set_option maxHeartbeats 4000000 in
theorem rounded_any (neg more : Bool) (p : Option Addr) (l c : Nat) (zs : List Int) (e V : Int) (w : World) (ha : Arg w p l c zs) (hT : Tab w) (hV : Nm.val zs = V) (hl : l = 0 ↔ V = 0) (hb : V < 2 ^ 5000) (q1 : -10000 ≤ e) (q2 : e ≤ 10000) :
    Calls Tryd.prog 31 #[exactOf neg p l c e more] w fun r w' => RoundedTold neg V e more w r w' := by
  have v0 : 0 ≤ V := by rw [← hV]; exact (Nm.val_bd zs ha.2.2.2.2).1
  have tz : Nm.tsize zs ≤ 4096 := (Nm.tsize_le_iff ha.2.2.2.2 4096).2 (by rw [hV, pw_4096]; have := Nm.two_mono (show 5000 ≤ 262144 by omega); omega)
  obtain ⟨L, hL, BL, hl2, _⟩ := blen_is zs ha.2.2.2.2
  rw [hV] at BL
  have Lb : (L : Int) ≤ 262144 := by omega
  obtain ⟨t, tb, ht⟩ : ∃ t : Nat, t ≤ 10000 ∧ Nm.Trl V t := by
    rcases (show V = 0 ∨ 0 < V by omega) with h | h
    · exact ⟨0, by omega, .inl ⟨h, rfl⟩⟩
    · obtain ⟨t, h1, h2⟩ := trl_ex 5000 V h hb
      exact ⟨t, by omega, h2⟩
  have R0 := Row4.new w 47 (.bool neg) (.slice p l c) (.int .i64 e) (.bool more)
  have B0 := alloc_b w (.cells #[.bool neg, .slice p l c, .int .i64 e, .bool more] 47)
  have RD := hid (round_any neg p l c zs _ (ha.below B0 (Nat.le_refl _)) (hT.below B0) tz V e more hV)
  have IS := hid (fun (d : Int) (wx : World) (hx : Below w.heap.size w wx) (d0 : 0 ≤ d) (d1 : d < 18446744073709551616) => is_any neg more p l c zs e V d t wx (ha.below hx (Nat.le_refl _)) (hT.below hx) hV hl ht tb q1 q2 d0 d1)
  have BL1 := hid (fun (wx : World) (hx : Below w.heap.size w wx) => bitLen_n L p l c zs wx (ha.below hx (Nat.le_refl _)) hL)
  have IN := hid (fun (d : Int) (wx : World) (d0 : 0 ≤ d) (d1 : d < 18446744073709551616) => infinite_any d wx d0 d1)
  have FF : Hid (∀ (x f : Int) (w' : World), f = Ie.flg V e more (Ie.sg neg x) t L → Ie.Rnd V 1 e more x → Below w.heap.size w w' → RoundedTold neg V e more w (.returned (.tuple #[.int .u64 (Ie.sg neg x), .int .i64 f])) w') := by
    intro x f w' hf hR hB
    exact ⟨x, t, L, by rw [hf], hR, ht, BL, hB⟩
  obtain ⟨⟨r0, r1, r2, r3⟩, -⟩ := R0.cells
  have HR0 := hid R0
  have HB0 := hid B0
  simp only [exactOf] at IS ⊢
  clear ha hT hV hl hb v0 tz hL BL hl2 ht tb R0 B0
  go_enter Tryd.func31, Tryd.ntmps31
  go_wp2_with fail
  generalize hwA : w.alloc (.cells #[.bool neg, .slice p l c, .int .i64 e, .bool more] 47) = wA at *
  refine RD.out.mono ?_
  rintro r wa ⟨x, rfl, R, hB⟩
  have bd := R.bd
  obtain ⟨x0, x1⟩ := bd
  have sg0 : 0 ≤ Ie.sg neg x ∧ Ie.sg neg x < 18446744073709551616 := by simp only [Ie.sg]; split <;> omega
  obtain ⟨g0, g1⟩ := sg0
  have Ra := HR0.out.below hB HR0.out.lt
  have Ba := HB0.out.trans (hB.mono HB0.out.size)
  have IS1 := hid (IS.out _ wa Ba g0 g1)
  have F1 := hid (fun (f : Int) (w' : World) (h : f = Ie.flg V e more (Ie.sg neg x) t L) (hB : Below w.heap.size w w') => FF.out x f w' h R hB)
  have HBa := hid Ba
  have HRa := hid Ra
  obtain ⟨⟨s0, s1, s2, s3⟩, -⟩ := Ra.cells
  clear hB Ra Ba IS FF RD HR0 HB0 R r0 r1 r2 r3
  generalize hd : Ie.sg neg x = d at *
  go_wp2_with fail
  refine IS1.out.mono ?_
  rintro r wb ⟨rfl, hB⟩
  have Rb := HRa.out.below hB HRa.out.lt
  have Bb := HBa.out.trans (hB.mono HBa.out.size)
  have HBb := hid Bb
  have BQ := hid (fun (k : Nat) => BL1.out (wb.drewN k) (below_drewN Bb k))
  have IN1 := hid (fun (wx : World) => IN.out d wx g0 g1)
  clear s0 s1 s2 s3
  obtain ⟨⟨s0, s1, s2, s3⟩, -⟩ := Rb.cells
  have F2 : Hid (∀ (f : Int) (w' : World), f = (if Ie.isx V e more d t = true then 0 else 16 + (if Ie.isi d = true then 4 else 0) + (if (L : Int) + e ≤ -1022 then 8 else 0)) → Below w.heap.size w w' → RoundedTold neg V e more w (.returned (.tuple #[.int .u64 d, .int .i64 f])) w') := fun f w' h hB => F1.out f w' h hB
  have O1 : bits .or .i64 16 4 = 20 := by decide
  have O2 : bits .or .i64 16 8 = 24 := by decide
  have O3 : bits .or .i64 20 8 = 28 := by decide
  clear hB HRa HBa IS1 IN BL1 Rb Bb F1
  cases hx : Ie.isx V e more d t
  · rw [hx] at F2
    cases hi : Ie.isi d <;> rw [hi] at F2 IN1
    · by_cases hu : (L : Int) + e ≤ -1022
      · have dd : decide ((L : Int) + e ≤ -1022) = true := by simp; omega
        have F3 := hid (fun (w' : World) (hB : Below w.heap.size w w') => F2.out 24 w' (by simp [hu]) hB)
        clear F2 hx hi hu
        go_wp2_with fail
        refine (IN1.out _).mono ?_
        rintro r wc ⟨rfl, rfl⟩
        go_wp2_with fail
        go_quiet ((go_at_call 52; with_reducible exact Calls.quiet_of_same (BQ.out _)))
        go_wp2_with fail
        go_ret2
        exact F3.out _ (below_drewN HBb.out _)
      · have dd : decide ((L : Int) + e ≤ -1022) = false := by simp; omega
        have F3 := hid (fun (w' : World) (hB : Below w.heap.size w w') => F2.out 16 w' (by simp [hu]) hB)
        clear F2 hx hi hu
        go_wp2_with fail
        refine (IN1.out _).mono ?_
        rintro r wc ⟨rfl, rfl⟩
        go_wp2_with fail
        go_quiet ((go_at_call 52; with_reducible exact Calls.quiet_of_same (BQ.out _)))
        go_wp2_with fail
        go_ret2
        exact F3.out _ (below_drewN HBb.out _)
    · by_cases hu : (L : Int) + e ≤ -1022
      · have dd : decide ((L : Int) + e ≤ -1022) = true := by simp; omega
        have F3 := hid (fun (w' : World) (hB : Below w.heap.size w w') => F2.out 28 w' (by simp [hu]) hB)
        clear F2 hx hi hu
        go_wp2_with fail
        refine (IN1.out _).mono ?_
        rintro r wc ⟨rfl, rfl⟩
        go_wp2_with fail
        go_quiet ((go_at_call 52; with_reducible exact Calls.quiet_of_same (BQ.out _)))
        go_wp2_with fail
        go_ret2
        exact F3.out _ (below_drewN HBb.out _)
      · have dd : decide ((L : Int) + e ≤ -1022) = false := by simp; omega
        have F3 := hid (fun (w' : World) (hB : Below w.heap.size w w') => F2.out 20 w' (by simp [hu]) hB)
        clear F2 hx hi hu
        go_wp2_with fail
        refine (IN1.out _).mono ?_
        rintro r wc ⟨rfl, rfl⟩
        go_wp2_with fail
        go_quiet ((go_at_call 52; with_reducible exact Calls.quiet_of_same (BQ.out _)))
        go_wp2_with fail
        go_ret2
        exact F3.out _ (below_drewN HBb.out _)
  · rw [hx] at F2
    have F3 := hid (fun (w' : World) (hB : Below w.heap.size w w') => F2.out 0 w' (by simp) hB)
    clear F2 hx
    go_wp2_with fail
    go_ret2
    exact F3.out _ HBb.out
end Go.Proofs.YtkmadibfiikleaaDoor

/-
  What soft's functions tell.
-/
namespace Go.Proofs.YtkmadibfiikleaaDoor
open Go Go.RowKit Go.Deep

theorem Ans.len0 {B : Nat} {w : World} {p : Option Addr} {ys : List Int} {n : Int} (h : Ans B w p ys n) : ys.length = 0 ↔ n = 0 := by
  have h1 := Nm.tsize_zero_iff h.2.1
  rw [h.2.2.1, h.2.2.2.1] at h1
  exact h1

namespace Ie
/-- What a rounded result is: the double r, the flags f, of sn neg V * 2^e (or a trifle above). -/
def Res (neg : Bool) (V e : Int) (more : Bool) (r f : Int) : Prop :=
  ∃ (x : Int) (t L : Nat), r = sg neg x ∧ f = flg V e more (sg neg x) t L ∧ Rnd V 1 e more x ∧ Nm.Trl V t ∧ Nm.BLen V L

/-- What add answers. -/
def AddIs (a b r f : Int) : Prop :=
  if isn a = true ∨ isn b = true then r = 9221120237041090560 ∧ f = 0
  else if isi a = true ∧ isi b = true ∧ a ≠ b then r = 9221120237041090560 ∧ f = 1
  else if isi a = true then r = a ∧ f = 0
  else if isi b = true then r = b ∧ f = 0
  else ∃ neg V e, SumIs (ngd a) (dm a) (de a) (ngd b) (dm b) (de b) neg V e ∧ Res neg V e false r f

theorem fin_of {d : Int} (h0 : isn d = false) (h1 : isi d = false) : fin d := by
  rw [isn, decide_eq_false_iff_not] at h0
  rw [isi, decide_eq_false_iff_not] at h1
  rw [fin]; omega
theorem not_both {d : Int} (h : isi d = true) : isn d = false := by
  rw [isi, decide_eq_true_eq] at h
  rw [isn, h]; rfl
end Ie

/-- An answer and its flags, told. -/
def Told2 (P : Int → Int → Prop) (w : World) (e : Ending) (w' : World) : Prop := ∃ r f, e = .returned (.tuple #[.int .u64 r, .int .i64 f]) ∧ P r f ∧ Below w.heap.size w w'

/-- An answer, told. -/
def Told1 (P : Int → Int → Prop) (w : World) (e : Ending) (w' : World) : Prop := ∃ r f, e = .returned (.int .u64 r) ∧ P r f ∧ Below w.heap.size w w'
end Go.Proofs.YtkmadibfiikleaaDoor

/-
  What add answers of finite doubles: the exact sum, rounded; closed sums: 1 + 2, 3 - 2.
-/
namespace Go.Proofs.YtkmadibfiikleaaDoor
namespace Ie

theorem AddIs.get {a b r f : Int} (fa : fin a) (fb : fin b) (h : AddIs a b r f) : ∃ neg V e, SumIs (ngd a) (dm a) (de a) (ngd b) (dm b) (de b) neg V e ∧ Res neg V e false r f := by
  rw [AddIs, (fin_not fa).1, (fin_not fa).2, (fin_not fb).1, (fin_not fb).2] at h
  simp only [Bool.false_eq_true, or_self, false_and, if_false] at h
  exact h

theorem SumIs.at {n1 n2 neg : Bool} {V1 e1 V2 e2 V e : Int} (h : SumIs n1 V1 e1 n2 V2 e2 neg V e) (B : Nat) (h1 : 0 ≤ e1 + B) (h2 : 0 ≤ e2 + B) {u1 u2 : Int} (g1 : ∀ k : Nat, (k : Int) = e1 + B → V1 * 2 ^ k = u1) (g2 : ∀ k : Nat, (k : Int) = e2 + B → V2 * 2 ^ k = u2) :
    ∃ c : Nat, (c : Int) = e + B ∧ sn neg (V * 2 ^ c) = sn n1 u1 + sn n2 u2 ∧ (sn n1 u1 + sn n2 u2 = 0 → neg = (n1 && n2)) := by
  have e0 : 0 ≤ e + B := by rcases h.1 with h | h <;> omega
  obtain ⟨a, ha⟩ : ∃ k : Nat, (k : Int) = e1 + B := ⟨(e1 + B).toNat, by omega⟩
  obtain ⟨b, hb⟩ : ∃ k : Nat, (k : Int) = e2 + B := ⟨(e2 + B).toNat, by omega⟩
  obtain ⟨c, hc⟩ : ∃ k : Nat, (k : Int) = e + B := ⟨(e + B).toNat, by omega⟩
  have key := h.2.2.2 B a b c ha hb hc
  rw [sn_mul_right, sn_mul_right, sn_mul_right, g1 a ha, g2 b hb] at key
  refine ⟨c, hc, key, fun h0 => ?_⟩
  rw [h0] at key
  have := sn_eq_zero key
  rcases Int.mul_eq_zero.1 this with g | g
  · exact h.2.1 g
  · have := Nm.two_pos c; omega

theorem AddIs.rs {a b r f : Int} (fa : fin a) (fb : fin b) (h : AddIs a b r f) : RS (uv a + uv b) 1 (ngd a && ngd b) r := by
  obtain ⟨neg, V, e, hS, x, t, L, rfl, -, hR, -, -⟩ := h.get fa fb
  obtain ⟨_, ⟨ea0, ea1⟩, ga, _⟩ := dec_f a fa
  obtain ⟨_, ⟨eb0, eb1⟩, gb, _⟩ := dec_f b fb
  obtain ⟨c, hc, key, h0⟩ := hS.at 1074 (by omega) (by omega) ga gb
  exact rs_of hR hS.2.2.1.1 c 0 (by omega) key.symm rfl h0

theorem add_12 {r f : Int} (h : AddIs 4607182418800017408 4611686018427387904 r f) : r = 4613937818241073152 := by
  refine (h.rs (by rw [fin]; decide) (by rw [fin]; decide)).lit (by omega) _ (by omega) (by omega) ?_
  rw [uv_pos (by omega) (by omega), uv_pos (by omega) (by omega), un_1, un_2, un_3, p1022.1]
  generalize (2 : Int) ^ 1022 = P
  omega

theorem sub_32 {r f : Int} (h : AddIs 4613937818241073152 (ng 4611686018427387904) r f) : r = 4607182418800017408 := by
  have e : ng 4611686018427387904 = 4611686018427387904 + 9223372036854775808 := by decide
  rw [e] at h
  refine (h.rs (by rw [fin]; decide) (by rw [fin]; decide)).lit (by omega) _ (by omega) (by omega) ?_
  rw [uv_pos (by omega) (by omega), uv_neg (by omega) (by omega), un_1, un_2, un_3, p1022.1]
  generalize (2 : Int) ^ 1022 = P
  omega
end Ie
end Go.Proofs.YtkmadibfiikleaaDoor

namespace Go.Proofs.YtkmadibfiikleaaDoor
namespace Ga

theorem un_7 : Ie.un 4619567317775286272 = 7 * (4503599627370496 * 2 ^ 1022) := by
  rw [Ie.un_lit (m := 7881299347898368) (E := 1024) (by decide) (by decide), Ie.p1022.2.1]
  generalize (2 : Int) ^ 1022 = P
  omega
theorem un_33 : Ie.un 4613937818241073152 = 3 * (4503599627370496 * 2 ^ 1022) := by
  rw [Ie.un_3, Ie.p1022.1]
  generalize (2 : Int) ^ 1022 = P
  omega

theorem fmod73 {r : Int} (h : Ie.LeftIs 4619567317775286272 4613937818241073152 false r) : r = 4607182418800017408 := by
  have hp : (0 : Int) < 4503599627370496 * 2 ^ 1022 := by have := Nm.two_pos 1022; omega
  have a1 : Ie.ab 4619567317775286272 = 4619567317775286272 := by decide
  have a2 : Ie.ab 4613937818241073152 = 4613937818241073152 := by decide
  obtain ⟨y, hr, y0, y1, q⟩ := h.2.2 (by rw [Ie.fin, a1]; decide) (by rw [Ie.fin, a2]; decide) (by rw [a2]; decide)
  rw [a1, a2, un_7, un_33, Ie.lft, if_neg (by decide), Ie.emod_scale _ _ _ hp] at q
  have e : Ie.un y = Ie.un 4607182418800017408 := by
    rw [q, Ie.un_1, show (7 : Int) % 3 = 1 by decide, Int.one_mul]
  rw [hr, Ie.un_inj y0 (by decide) e]
  decide

/-- Halves: what is left nearest is at most half of b. -/
theorem rup_half {A B : Int} (hB : 0 < B) : 2 * Ie.lft A B (Ie.rup A B) ≤ B ∧ 0 ≤ Ie.lft A B (Ie.rup A B) := by
  have h0 := Int.emod_nonneg A (show B ≠ 0 by omega)
  have h1 := Int.emod_lt_of_pos A hB
  generalize hR : A % B = R at *
  cases hu : Ie.rup A B
  · rw [Ie.lft, if_neg (by decide), hR]
    refine ⟨?_, h0⟩
    rw [Ie.rup, hR, Ie.nup] at hu
    rcases (show 2 * R ≤ B ∨ B < 2 * R by omega) with g | g
    · exact g
    · exfalso
      rw [show cmpI (2 * R) B = 1 by rw [cmpI, if_neg (by omega), if_neg (by omega)]] at hu
      revert hu
      simp
  · rw [Ie.lft, if_pos rfl, hR]
    refine ⟨?_, by omega⟩
    rw [Ie.rup, hR, Ie.nup] at hu
    rcases (show B ≤ 2 * R ∨ 2 * R < B by omega) with g | g
    · omega
    · exfalso
      rw [show cmpI (2 * R) B = -1 by rw [cmpI, if_pos (by omega)]] at hu
      revert hu
      simp

theorem okd_fin {x : Int} (h0 : 0 ≤ x) (h1 : x ≤ 9218868437227405312) : Ie.okd x = true := by rw [Ie.okd, decide_eq_true_iff]; omega
theorem cmv_pos {x y : Int} (x0 : 0 ≤ x) (x1 : x ≤ 9218868437227405312) (y0 : 0 ≤ y) (y1 : y ≤ 9218868437227405312) : Ie.cmv x y = if x < y then -1 else if y < x then 1 else 0 := by
  have rx : Ie.rk x = x := by rw [Ie.rk, if_pos (by omega)]
  have ry : Ie.rk y = y := by rw [Ie.rk, if_pos (by omega)]
  rw [Ie.cmv, if_pos ⟨okd_fin x0 x1, okd_fin y0 y1⟩, Ie.cm, rx, ry]

/-- A double below 0 or above, in parts. -/
theorem sg_parts {neg : Bool} {y : Int} (y0 : 0 ≤ y) (y1 : y < 9218868437227405312) : Ie.sg neg y % 9223372036854775808 = y ∧ Ie.sg neg y / 9223372036854775808 = (if neg = true then 1 else 0) ∧ (0 ≤ Ie.sg neg y ∧ Ie.sg neg y < 18446744073709551616) ∧ Ie.uv (Ie.sg neg y) = Ie.sn neg (Ie.un y) ∧ Ie.fin (Ie.sg neg y) := by
  obtain ⟨p, q⟩ := Ie.ab_sb neg y y0 (by omega)
  have e : Ie.sg neg y = Ie.sb neg y := rfl
  rw [e]
  refine ⟨p, ?_, ?_, by rw [Ie.uv, p, q], by rw [Ie.fin, p]; exact y1⟩
  · cases neg
    · rw [Ie.sb, if_neg (by decide), if_neg (by decide)]; omega
    · rw [Ie.sb, if_pos rfl, if_pos rfl]; omega
  · cases neg
    · rw [Ie.sb, if_neg (by decide)]; omega
    · rw [Ie.sb, if_pos rfl]; omega

/-- Twice a small one is no more. -/
theorem twice_le {y b s f : Int} (y0 : 0 ≤ y) (y1 : y < 9218868437227405312) (b0 : 0 ≤ b) (b1 : b < 9218868437227405312) (h : 2 * Ie.un y ≤ Ie.un b) (k : Ie.AddIs y y s f) : 0 ≤ s ∧ s ≤ b := by
  have fy : Ie.fin y := fin_lit (by omega)
  have R := k.rs fy fy
  obtain ⟨neg, V, x, rfl, hS, hV, hN, hz⟩ := R
  have ny : Ie.ngd y = false := by rw [Ie.ngd, decide_eq_false]; omega
  have uy := Ie.un_nn y0
  rw [Ie.uv_pos y0 (by omega)] at hS hz
  rw [ny, Bool.and_self] at hz
  have hn : neg = false := by
    cases neg
    · rfl
    · rw [Ie.sn_true] at hS
      exact hz (by omega)
  subst hn
  rw [Ie.sn_false] at hS
  rw [Ie.sb, if_neg (by decide)]
  have B := Ie.near_self b 1 false (by decide) b0 b1
  refine ⟨hN.1.1, hN.mono (by decide) (by decide) B ?_⟩
  rcases (show 2 * V * 1 < 2 * (Ie.un b * 1) * 1 ∨ 2 * V * 1 = 2 * (Ie.un b * 1) * 1 by omega) with q | q
  · exact .inl q
  · exact .inr ⟨q, id⟩

/-- The difference of what is left both ways. -/
theorem away_is {r near d : Int} {sa up : Bool} {R B : Int} (fr : Ie.fin r) (fn : Ie.fin near) (b : Int) (b0 : 0 < b) (b1 : b < 9218868437227405312) (hb : Ie.un b = B) (ur : Ie.uv r = Ie.sn sa R) (un' : Ie.uv near = Ie.sn (sa != up) (if up = true then B - R else R))
    (h : (none.dots ([r, near].zip [4607182418800017408, 13830554455654793216])).Is 1 d) : (0 ≤ d ∧ d < 18446744073709551616) ∧ (Ie.ab d = 0 ∨ Ie.ab d = b) := by
  have e : none.dots ([r, near].zip [4607182418800017408, 13830554455654793216]) = (none.mul r 4607182418800017408).mul near 13830554455654793216 := rfl
  rw [e] at h
  have m1 : none.mul r 4607182418800017408 = none.prod r 4607182418800017408 := by rw [St.mul, if_pos (by decide)]
  have M1 := prod_fin none fr fin_one
  rw [← m1] at M1
  have c1 : (none.mul r 4607182418800017408).c = 1 := M1.c
  obtain ⟨s1, hs1⟩ : ∃ s, none.mul r 4607182418800017408 = s := ⟨_, rfl⟩
  rw [hs1] at M1 c1 h
  have M2 := prod_fin s1 fn (fin_lit (by decide) : Ie.fin 13830554455654793216)
  rw [show s1.prod near 13830554455654793216 = s1.mul near 13830554455654793216 by rw [St.mul, if_pos (by rw [c1]; decide)]] at M2
  obtain ⟨s2, hs2⟩ : ∃ s, s1.mul near 13830554455654793216 = s := ⟨_, rfl⟩
  rw [hs2] at M2 h
  have um : Ie.uv 13830554455654793216 = -2 ^ 1074 := by
    rw [show (13830554455654793216 : Int) = 4607182418800017408 + 9223372036854775808 by decide, Ie.uv_neg (by decide) (by decide), Ie.un_1, show (4503599627370496 : Int) = 2 ^ 52 by decide, ← Nm.two_add]
  rw [St.Is, if_neg (by rw [M2.odd, M1.odd]; exact not_odd_none), M2.T, M1.T, show none.P - none.N = 0 from rfl, Int.zero_add, Int.mul_one, uv_one, um, Int.mul_neg] at h
  have hQ := Nm.two_pos 1074
  have eT : Ie.uv r * 2 ^ 1074 + -(Ie.uv near * 2 ^ 1074) = (Ie.uv r - Ie.uv near) * 2 ^ 1074 := by rw [Int.sub_mul]; omega
  rw [eT] at h
  have sbb : ∀ (neg : Bool) (y : Int), 0 ≤ y → y < 9218868437227405312 → 0 ≤ Ie.sb neg y ∧ Ie.sb neg y < 18446744073709551616 := fun neg y h0 h1 => by
    cases neg
    · rw [Ie.sb, if_neg (by decide)]; omega
    · rw [Ie.sb, if_pos rfl]; omega
  cases up
  · rw [ur, un', Bool.bne_false, if_neg (by decide), Int.sub_self] at h
    obtain ⟨neg, rfl, -, -⟩ := h.exact hQ 0 (by decide) (by decide) (by rw [Int.zero_mul, Ie.un_zero, Int.zero_mul]; rfl)
    exact ⟨sbb neg 0 (by decide) (by decide), .inl (Ie.ab_sb neg 0 (by decide) (by decide)).1⟩
  · rw [ur, un', if_pos rfl] at h
    have eS : Ie.sn sa R - Ie.sn (sa != true) (B - R) = Ie.sn sa B := by
      cases sa <;> simp only [Bool.bne_true, Bool.not_false, Bool.not_true, Ie.sn_true, Ie.sn_false] <;> omega
    rw [eS, Ie.sn_mul_right, ← hb] at h
    obtain ⟨neg, rfl, -, -⟩ := h.exact hQ b (by omega) b1 (Ie.az_sn sa _ (Int.mul_nonneg (Ie.un_nn (by omega)) (Int.le_of_lt hQ)))
    exact ⟨sbb neg b (by omega) b1, .inr (Ie.ab_sb neg b (by omega) (by omega)).1⟩

/-- What is left, of two finite doubles, the second not nothing. -/
theorem left_got {a b r : Int} {up : Bool} (fa : Ie.fin a) (fb : Ie.fin b) (zb : Ie.ab b ≠ 0) (h : Ie.LeftIs a b up r) : ∃ y, r = Ie.sg (Ie.ngd a != up) y ∧ 0 ≤ y ∧ y < 9218868437227405312 ∧ Ie.un y = Ie.lft (Ie.un (Ie.ab a)) (Ie.un (Ie.ab b)) up := h.2.2 fa fb zb
end Ga
end Go.Proofs.YtkmadibfiikleaaDoor

/-
  soft: plus.
-/
namespace Go.Proofs.YtkmadibfiikleaaDoor
open Go Go.RowKit Go.Deep

set_option maxRecDepth 100000 in
set_option maxHeartbeats 8000000 in
theorem plus_at (n1 n2 m1 m2 : Bool) (p1 p2 : Option Addr) (l1 c1 l2 c2 : Nat) (z1 z2 : List Int) (e1 e2 V1 V2 : Int) (w : World) (a1 : Arg w p1 l1 c1 z1) (a2 : Arg w p2 l2 c2 z2) (hV1 : Nm.val z1 = V1) (hV2 : Nm.val z2 = V2) (b1 : V1 < 2 ^ 200) (b2 : V2 < 2 ^ 200)
    (q1 : -2200 ≤ e1) (q2 : e1 ≤ 2000) (q3 : -2200 ≤ e2) (q4 : e2 ≤ 2000) (m : Int) (k1 k2 : Nat) (hm : min e1 e2 = m) (hk1 : (k1 : Int) = e1 - m) (hk2 : (k2 : Int) = e2 - m) :
    Calls Tryd.prog 47 #[exactOf n1 p1 l1 c1 e1 m1, exactOf n2 p2 l2 c2 e2 m2] w fun e w' => PlusTold n1 V1 e1 n2 V2 e2 w e w' := by
  have kk : k1 ≤ 4200 ∧ k2 ≤ 4200 := by omega
  have v1 : 0 ≤ V1 := by rw [← hV1]; exact (Nm.val_bd z1 a1.2.2.2.2).1
  have v2 : 0 ≤ V2 := by rw [← hV2]; exact (Nm.val_bd z2 a2.2.2.2.2).1
  have u1 := Ie.up_lt b1 kk.1
  have u2 := Ie.up_lt b2 kk.2
  have x1 : 0 ≤ V1 * 2 ^ k1 := Int.mul_nonneg v1 (by have := Nm.two_pos k1; omega)
  have x2 : 0 ≤ V2 * 2 ^ k2 := Int.mul_nonneg v2 (by have := Nm.two_pos k2; omega)
  have e4096 := pw_4096
  have big := Nm.two_mono (show 4401 ≤ 262144 by omega)
  have two : (2 : Int) ^ 4401 = 2 * 2 ^ 4400 := Nm.two_succ 4400
  have five := Nm.two_mono (show 4401 ≤ 5000 by omega)
  have t1 : Nm.tsize z1 ≤ 4096 := (Nm.tsize_le_iff a1.2.2.2.2 4096).2 (by rw [hV1]; have := Nm.two_mono (show 200 ≤ 4400 by omega); omega)
  have t2 : Nm.tsize z2 ≤ 4096 := (Nm.tsize_le_iff a2.2.2.2.2 4096).2 (by rw [hV2]; have := Nm.two_mono (show 200 ≤ 4400 by omega); omega)
  have S1 : Hid (∀ (wx : World) (d : Int), Below w.heap.size w wx → d = e1 - m → Calls Tryd.prog 40 #[.slice p1 l1 c1, .int .i64 d] wx fun e w' => ∃ r os, e = .returned (.tuple #[.slice r (List.length os) (List.length os), .int .i64 0]) ∧ Ans wx.heap.size w' r os (V1 * 2 ^ k1) ∧ Below wx.heap.size wx w') := by
    intro wx d hx hd
    have := shl_any p1 l1 c1 z1 d k1 wx (a1.below hx (Nat.le_refl _)) t1 (by omega) (by rw [hV1]; omega)
    rw [hV1] at this
    exact this
  have S2 : Hid (∀ (wx : World) (d : Int), Below w.heap.size w wx → d = e2 - m → Calls Tryd.prog 40 #[.slice p2 l2 c2, .int .i64 d] wx fun e w' => ∃ r os, e = .returned (.tuple #[.slice r (List.length os) (List.length os), .int .i64 0]) ∧ Ans wx.heap.size w' r os (V2 * 2 ^ k2) ∧ Below wx.heap.size wx w') := by
    intro wx d hx hd
    have := shl_any p2 l2 c2 z2 d k2 wx (a2.below hx (Nat.le_refl _)) t2 (by omega) (by rw [hV2]; omega)
    rw [hV2] at this
    exact this
  have FIN : Hid (∀ (w3 : World) (neg : Bool) (p : Option Addr) (os : List Int) (V x : Int) (x0 x1 x2 x3 y0 y1 y2 y3 : Value), Box w w3 x0 x1 x2 x3 y0 y1 y2 y3 → Ans (w.heap.size + 3) w3 p os V → Ie.SumIs n1 V1 e1 n2 V2 e2 neg V x →
      PlusTold n1 V1 e1 n2 V2 e2 w (.returned (exactOf neg p (List.length os) (List.length os) x false)) ((((w3.setCell ⟨w.heap.size + 2, 0, none⟩ (.bool neg)).setCell ⟨w.heap.size + 2, 1, none⟩ (.slice p os.length os.length)).setCell ⟨w.heap.size + 2, 2, none⟩ (.int .i64 x)).setCell ⟨w.heap.size + 2, 3, none⟩ (.bool false))) := by
    intro w3 neg p os V x x0 x1 x2 x3 y0 y1 y2 y3 hb A hS
    have A' := A.set4 (b := w.heap.size + 2) (u0 := .bool neg) (u1 := .slice p os.length os.length) (u2 := .int .i64 x) (u3 := .bool false) (by omega)
    exact ⟨neg, p, os, V, x, rfl, ⟨A'.1, A'.2.1, A'.2.2.1, A'.2.2.2.1, fun a h => by have := A'.2.2.2.2 a h; omega⟩, set4_below hb.2.1 (by omega), hS⟩
  have B0 := Box.new w (.bool n1) (.slice p1 l1 c1) (.int .i64 e1) (.bool m1) (.bool n2) (.slice p2 l2 c2) (.int .i64 e2) (.bool m2)
  have SA : Hid (∀ (neg : Bool) (V : Int), Ie.sn neg V = Ie.sn n1 (V1 * 2 ^ k1) + Ie.sn n2 (V2 * 2 ^ k2) → (V = 0 → neg = (n1 && n2)) → 0 ≤ V → V < 2 ^ 5000 → Ie.SumIs n1 V1 e1 n2 V2 e2 neg V m) := fun neg V h h0 h1 h2 => Ie.sum_at hm hk1 hk2 h h0 h1 h2
  have SN : Hid (n1 ≠ n2 → V1 * 2 ^ k1 = V2 * 2 ^ k2 → Ie.SumIs n1 V1 e1 n2 V2 e2 false 0 0) := fun h h' => Ie.sum_none hm hk1 hk2 h h'
  have U1 := hid u1
  have U2 := hid u2
  have BG : Hid ((V1 * 2 ^ k1 + V2 * 2 ^ k2 < Nm.pw 4096 ∧ V1 * 2 ^ k1 + V2 * 2 ^ k2 < 2 ^ 5000) ∧ (V1 * 2 ^ k1 < 2 ^ 5000 ∧ V2 * 2 ^ k2 < 2 ^ 5000)) := by
    have e : (2 : Int) ^ (200 + 4200) = 2 ^ 4400 := rfl
    rw [e] at u1 u2
    refine ⟨⟨?_, ?_⟩, ?_, ?_⟩ <;> omega
  clear hV1 hV2 b1 b2 a1 a2 v1 v2 kk u1 u2 big two five t1 t2 e4096 hk1 hk2
  generalize hX1 : V1 * 2 ^ k1 = X1 at *
  generalize hX2 : V2 * 2 ^ k2 = X2 at *
  clear hX1 hX2
  simp only [exactOf]
  by_cases hn : n1 = n2
  · subst hn
    have nn : (n1 == n1) = true := by simp
    go_enter Tryd.func47, Tryd.ntmps47
    go_wp2_with fail
    refine (S1.out _ _ B0.2.1 (by omega)).mono ?_
    rintro e wa ⟨r1, o1, rfl, A1, hB1⟩
    have Ba := B0.on hB1
    obtain ⟨⟨cx0, cx1, cx2⟩, ⟨cy0, cy1, cy2⟩, -⟩ := Ba.cells
    have s0 := B0.2.2
    have AA := hid A1
    clear hB1 A1 S1
    go_wp2_with fail
    refine (S2.out _ _ Ba.2.1 (by omega)).mono ?_
    rintro e wb ⟨r2, o2, rfl, A2, hB2⟩
    have Bb := Ba.on hB2
    have A1 := AA.out.below hB2 (Nat.le_refl _)
    have sa := Ba.2.2
    obtain ⟨⟨h1, h2⟩, h3, h4⟩ := BG.out
    obtain ⟨t1, l1', y1⟩ := A1.tl U1.out (by omega)
    obtain ⟨t2, l2', y2⟩ := A2.tl U2.out (by omega)
    clear cx0 cx1 cx2 cy0 cy1 cy2
    obtain ⟨⟨cx0, cx1, cx2⟩, ⟨cy0, cy1, cy2⟩, -⟩ := Bb.cells
    have g1 := A1.arg (by omega)
    have g2 := A2.arg (by omega)
    have CC := hid (add_ok r1 r2 _ _ _ _ o1 o2 wb g1 g2 (by rw [A1.2.2.2.1, A2.2.2.2.1]; omega))
    rw [A1.2.2.2.1, A2.2.2.2.1] at CC
    have HH := hid (And.intro h2 (And.intro h3 h4))
    have BB := hid Bb
    have SS := hid (And.intro s0 sa)
    clear S2 hB2 A1 A2 AA Ba Bb U1 U2 BG t1 t2 l1' l2' y1 y2 g1 g2 h1 h2 h3 h4 s0 sa B0
    go_wp2_with fail
    refine CC.out.mono ?_
    rintro e wc ⟨r3, o3, rfl, A3, hB3⟩
    have Bc := BB.out.on hB3
    have KF := FIN.out wc n1 r3 o3 (X1 + X2) m _ _ _ _ _ _ _ _ Bc ⟨A3.1, A3.2.1, A3.2.2.1, A3.2.2.2.1, fun a h => by have := A3.2.2.2.2 a h; have := BB.out.2.2; omega⟩ (SA.out n1 (X1 + X2) (by cases n1 <;> simp only [Ie.sn, Bool.false_eq_true, if_true, if_false] <;> omega) (fun _ => by simp) (by omega) HH.out.1)
    clear A3 hB3 CC BB cx0 cx1 cx2 cy0 cy1 cy2
    obtain ⟨⟨cx0, cx1, cx2⟩, ⟨cy0, cy1, cy2⟩, ⟨⟨r0, r1', r2', r3⟩, ⟨f0, f1, f2, f3⟩⟩⟩ := Bc.cells
    have RR := hid Bc.1.2.2
    have KK := hid KF
    clear Bc KF
    go_wp2_with fail
    (try simp only [Exit.inBlock, Exit.then])
    refine bodyPost_ret (results_cell_row rfl _ _ (w.heap.size + 2) 47 _ (0, 0) _ rfl (Row4.set RR.out) Tryd.underlying47 rfl (by kernel_rfl)) rfl ?_
    exact KK.out
  · have nn : (n1 == n2) = false := by rw [beq_eq_false_iff_ne]; exact hn
    rcases (show X2 < X1 ∨ X1 < X2 ∨ X1 = X2 by omega) with ho | ho | ho
    · have CI : cmpI X1 X2 = 1 := cmpI_gt ho
      go_enter Tryd.func47, Tryd.ntmps47
      go_wp2_with fail
      refine (S1.out _ _ B0.2.1 (by omega)).mono ?_
      rintro e wa ⟨r1, o1, rfl, A1, hB1⟩
      have Ba := B0.on hB1
      obtain ⟨⟨cx0, cx1, cx2⟩, ⟨cy0, cy1, cy2⟩, -⟩ := Ba.cells
      have s0 := B0.2.2
      have AA := hid A1
      clear hB1 A1 S1
      go_wp2_with fail
      refine (S2.out _ _ Ba.2.1 (by omega)).mono ?_
      rintro e wb ⟨r2, o2, rfl, A2, hB2⟩
      have Bb := Ba.on hB2
      have A1 := AA.out.below hB2 (Nat.le_refl _)
      have sa := Ba.2.2
      obtain ⟨⟨h1, h2⟩, h3, h4⟩ := BG.out
      obtain ⟨t1, l1', y1⟩ := A1.tl U1.out (by omega)
      obtain ⟨t2, l2', y2⟩ := A2.tl U2.out (by omega)
      clear cx0 cx1 cx2 cy0 cy1 cy2
      obtain ⟨⟨cx0, cx1, cx2⟩, ⟨cy0, cy1, cy2⟩, -⟩ := Bb.cells
      have g1 := A1.arg (by omega)
      have g2 := A2.arg (by omega)
      have C0 := hid (cmp_is (cmpI X1 X2) r1 r2 _ _ _ _ o1 o2 wb g1 g2 (by rw [A1.2.2.2.1, A2.2.2.2.1]))
      rw [CI] at C0
      have CC := hid (fun (wx : World) (hx : Below wb.heap.size wb wx) => sub_ok r1 r2 _ _ _ _ o1 o2 wx (g1.below hx (Nat.le_refl _)) (g2.below hx (Nat.le_refl _)) t1 (by rw [A1.2.2.2.1, A2.2.2.2.1]; omega))
      rw [A1.2.2.2.1, A2.2.2.2.1] at CC
      have HH := hid (And.intro h2 (And.intro h3 h4))
      have BB := hid Bb
      have SS := hid (And.intro s0 sa)
      clear S2 hB2 A1 A2 AA Ba Bb U1 U2 BG t1 t2 l1' l2' y1 y2 g1 g2 h1 h2 h3 h4 s0 sa B0 CI
      go_wp2_with fail
      refine C0.out.mono ?_
      rintro e wz ⟨rfl, hBz⟩
      have Bz := BB.out.on hBz
      have C1 := hid (CC.out wz hBz)
      have ZZ := hid Bz
      clear CC hBz Bz BB cx0 cx1 cx2 cy0 cy1 cy2
      go_wp2_with fail
      refine C1.out.mono ?_
      rintro e wc ⟨r3, o3, rfl, A3, hB3⟩
      have Bc := ZZ.out.on hB3
      have KF := FIN.out wc n1 r3 o3 (X1 - X2) m _ _ _ _ _ _ _ _ Bc ⟨A3.1, A3.2.1, A3.2.2.1, A3.2.2.2.1, fun a h => by have := A3.2.2.2.2 a h; have := ZZ.out.2.2; omega⟩ (SA.out n1 (X1 - X2) (by cases n1 <;> cases n2 <;> simp only [Ie.sn, Bool.false_eq_true, if_true, if_false] <;> first | exact absurd rfl hn | omega) (fun h => by omega) (by omega) (by have := HH.out; omega))
      clear A3 hB3 C1 ZZ C0
      obtain ⟨⟨cx0, cx1, cx2⟩, ⟨cy0, cy1, cy2⟩, ⟨⟨r0, r1', r2', r3⟩, ⟨f0, f1, f2, f3⟩⟩⟩ := Bc.cells
      have RR := hid Bc.1.2.2
      have KK := hid KF
      clear Bc KF
      go_wp2_with fail
      (try simp only [Exit.inBlock, Exit.then])
      refine bodyPost_ret (results_cell_row rfl _ _ (w.heap.size + 2) 47 _ (0, 0) _ rfl (Row4.set RR.out) Tryd.underlying47 rfl (by kernel_rfl)) rfl ?_
      exact KK.out
    · have CI : cmpI X1 X2 = -1 := cmpI_lt ho
      go_enter Tryd.func47, Tryd.ntmps47
      go_wp2_with fail
      refine (S1.out _ _ B0.2.1 (by omega)).mono ?_
      rintro e wa ⟨r1, o1, rfl, A1, hB1⟩
      have Ba := B0.on hB1
      obtain ⟨⟨cx0, cx1, cx2⟩, ⟨cy0, cy1, cy2⟩, -⟩ := Ba.cells
      have s0 := B0.2.2
      have AA := hid A1
      clear hB1 A1 S1
      go_wp2_with fail
      refine (S2.out _ _ Ba.2.1 (by omega)).mono ?_
      rintro e wb ⟨r2, o2, rfl, A2, hB2⟩
      have Bb := Ba.on hB2
      have A1 := AA.out.below hB2 (Nat.le_refl _)
      have sa := Ba.2.2
      obtain ⟨⟨h1, h2⟩, h3, h4⟩ := BG.out
      obtain ⟨t1, l1', y1⟩ := A1.tl U1.out (by omega)
      obtain ⟨t2, l2', y2⟩ := A2.tl U2.out (by omega)
      clear cx0 cx1 cx2 cy0 cy1 cy2
      obtain ⟨⟨cx0, cx1, cx2⟩, ⟨cy0, cy1, cy2⟩, -⟩ := Bb.cells
      have g1 := A1.arg (by omega)
      have g2 := A2.arg (by omega)
      have C0 := hid (cmp_is (cmpI X1 X2) r1 r2 _ _ _ _ o1 o2 wb g1 g2 (by rw [A1.2.2.2.1, A2.2.2.2.1]))
      rw [CI] at C0
      have CC := hid (fun (wx : World) (hx : Below wb.heap.size wb wx) => sub_ok r2 r1 _ _ _ _ o2 o1 wx (g2.below hx (Nat.le_refl _)) (g1.below hx (Nat.le_refl _)) t2 (by rw [A1.2.2.2.1, A2.2.2.2.1]; omega))
      rw [A1.2.2.2.1, A2.2.2.2.1] at CC
      have HH := hid (And.intro h2 (And.intro h3 h4))
      have BB := hid Bb
      have SS := hid (And.intro s0 sa)
      clear S2 hB2 A1 A2 AA Ba Bb U1 U2 BG t1 t2 l1' l2' y1 y2 g1 g2 h1 h2 h3 h4 s0 sa B0 CI
      go_wp2_with fail
      refine C0.out.mono ?_
      rintro e wz ⟨rfl, hBz⟩
      have Bz := BB.out.on hBz
      have C1 := hid (CC.out wz hBz)
      have ZZ := hid Bz
      clear CC hBz Bz BB cx0 cx1 cx2 cy0 cy1 cy2
      go_wp2_with fail
      refine C1.out.mono ?_
      rintro e wc ⟨r3, o3, rfl, A3, hB3⟩
      have Bc := ZZ.out.on hB3
      have KF := FIN.out wc n2 r3 o3 (X2 - X1) m _ _ _ _ _ _ _ _ Bc ⟨A3.1, A3.2.1, A3.2.2.1, A3.2.2.2.1, fun a h => by have := A3.2.2.2.2 a h; have := ZZ.out.2.2; omega⟩ (SA.out n2 (X2 - X1) (by cases n1 <;> cases n2 <;> simp only [Ie.sn, Bool.false_eq_true, if_true, if_false] <;> first | exact absurd rfl hn | omega) (fun h => by omega) (by omega) (by have := HH.out; omega))
      clear A3 hB3 C1 ZZ C0
      obtain ⟨⟨cx0, cx1, cx2⟩, ⟨cy0, cy1, cy2⟩, ⟨⟨r0, r1', r2', r3⟩, ⟨f0, f1, f2, f3⟩⟩⟩ := Bc.cells
      have RR := hid Bc.1.2.2
      have KK := hid KF
      clear Bc KF
      go_wp2_with fail
      (try simp only [Exit.inBlock, Exit.then])
      refine bodyPost_ret (results_cell_row rfl _ _ (w.heap.size + 2) 47 _ (0, 0) _ rfl (Row4.set RR.out) Tryd.underlying47 rfl (by kernel_rfl)) rfl ?_
      exact KK.out
    · have CI : cmpI X1 X2 = 0 := cmpI_eq ho
      go_enter Tryd.func47, Tryd.ntmps47
      go_wp2_with fail
      refine (S1.out _ _ B0.2.1 (by omega)).mono ?_
      rintro e wa ⟨r1, o1, rfl, A1, hB1⟩
      have Ba := B0.on hB1
      obtain ⟨⟨cx0, cx1, cx2⟩, ⟨cy0, cy1, cy2⟩, -⟩ := Ba.cells
      have s0 := B0.2.2
      have AA := hid A1
      clear hB1 A1 S1
      go_wp2_with fail
      refine (S2.out _ _ Ba.2.1 (by omega)).mono ?_
      rintro e wb ⟨r2, o2, rfl, A2, hB2⟩
      have Bb := Ba.on hB2
      have A1 := AA.out.below hB2 (Nat.le_refl _)
      have sa := Ba.2.2
      obtain ⟨⟨h1, h2⟩, h3, h4⟩ := BG.out
      obtain ⟨t1, l1', y1⟩ := A1.tl U1.out (by omega)
      obtain ⟨t2, l2', y2⟩ := A2.tl U2.out (by omega)
      clear cx0 cx1 cx2 cy0 cy1 cy2
      obtain ⟨⟨cx0, cx1, cx2⟩, ⟨cy0, cy1, cy2⟩, -⟩ := Bb.cells
      have g1 := A1.arg (by omega)
      have g2 := A2.arg (by omega)
      have C0 := hid (cmp_is (cmpI X1 X2) r1 r2 _ _ _ _ o1 o2 wb g1 g2 (by rw [A1.2.2.2.1, A2.2.2.2.1]))
      rw [CI] at C0
      have HH := hid (And.intro h2 (And.intro h3 h4))
      have BB := hid Bb
      have SS := hid (And.intro s0 sa)
      clear S2 hB2 A1 A2 AA Ba Bb U1 U2 BG t1 t2 l1' l2' y1 y2 g1 g2 h1 h2 h3 h4 s0 sa B0 CI
      go_wp2_with fail
      refine C0.out.mono ?_
      rintro e wz ⟨rfl, hBz⟩
      have Bz := BB.out.on hBz
      have Bc := Bz
      have KF := FIN.out wz false none [] 0 0 _ _ _ _ _ _ _ _ Bc ⟨Lies.nil _ _, Nm.Limbs.nil, rfl, rfl, fun a h => by cases h⟩ (SN.out hn ho)
      clear BB Bz hBz cx0 cx1 cx2 cy0 cy1 cy2 C0
      obtain ⟨⟨cx0, cx1, cx2⟩, ⟨cy0, cy1, cy2⟩, ⟨⟨r0, r1', r2', r3⟩, ⟨f0, f1, f2, f3⟩⟩⟩ := Bc.cells
      have RR := hid Bc.1.2.2
      have KK := hid KF
      clear Bc KF
      go_wp2_with fail
      (try simp only [Exit.inBlock, Exit.then])
      refine bodyPost_ret (results_cell_row rfl _ _ (w.heap.size + 2) 47 _ (0, 0) _ rfl (Row4.set RR.out) Tryd.underlying47 rfl (by kernel_rfl)) rfl ?_
      exact KK.out

theorem plus_any (n1 n2 m1 m2 : Bool) (p1 p2 : Option Addr) (l1 c1 l2 c2 : Nat) (z1 z2 : List Int) (e1 e2 V1 V2 : Int) (w : World) (a1 : Arg w p1 l1 c1 z1) (a2 : Arg w p2 l2 c2 z2) (hV1 : Nm.val z1 = V1) (hV2 : Nm.val z2 = V2) (b1 : V1 < 2 ^ 200) (b2 : V2 < 2 ^ 200)
    (q1 : -2200 ≤ e1) (q2 : e1 ≤ 2000) (q3 : -2200 ≤ e2) (q4 : e2 ≤ 2000) :
    Calls Tryd.prog 47 #[exactOf n1 p1 l1 c1 e1 m1, exactOf n2 p2 l2 c2 e2 m2] w fun e w' => PlusTold n1 V1 e1 n2 V2 e2 w e w' :=
  plus_at n1 n2 m1 m2 p1 p2 l1 c1 l2 c2 z1 z2 e1 e2 V1 V2 w a1 a2 hV1 hV2 b1 b2 q1 q2 q3 q4 (min e1 e2) (e1 - min e1 e2).toNat (e2 - min e1 e2).toNat rfl (by omega) (by omega)
end Go.Proofs.YtkmadibfiikleaaDoor

/-
  soft: add, sub, Add, Sub.
-/
namespace Go.Proofs.YtkmadibfiikleaaDoor
open Go Go.RowKit Go.Deep

set_option maxRecDepth 100000 in
set_option maxHeartbeats 4000000 in
theorem add_fin (a b : Int) (w : World) (a0 : 0 ≤ a) (a1 : a < 18446744073709551616) (b0 : 0 ≤ b) (b1 : b < 18446744073709551616) (hT : Tab w) (na : Ie.isn a = false) (ia : Ie.isi a = false) (nb : Ie.isn b = false) (ib : Ie.isi b = false) :
    Calls Tryd.prog 26 #[.int .u64 a, .int .u64 b] w fun e w' => Told2 (Ie.AddIs a b) w e w' := by
  have fa := Ie.fin_of na ia
  have fb := Ie.fin_of nb ib
  have FI : Hid (∀ (neg : Bool) (V e r f : Int), Ie.SumIs (Ie.ngd a) (Ie.dm a) (Ie.de a) (Ie.ngd b) (Ie.dm b) (Ie.de b) neg V e → Ie.Res neg V e false r f → Ie.AddIs a b r f) := by
    intro neg V e r f h1 h2
    rw [Ie.AddIs, na, nb, ia, ib]
    simp only [Bool.false_eq_true, or_self, false_and, if_false]
    exact ⟨neg, V, e, h1, h2⟩
  have NA := hid (fun (wx : World) => nan_any a wx a0 a1)
  rw [na] at NA
  have NB := hid (fun (wx : World) => nan_any b wx b0 b1)
  rw [nb] at NB
  have IA := hid (fun (wx : World) => infinite_any a wx a0 a1)
  rw [ia] at IA
  have IB := hid (fun (wx : World) => infinite_any b wx b0 b1)
  rw [ib] at IB
  obtain ⟨⟨da0, da1⟩, ⟨ea0, ea1⟩, -, -⟩ := Ie.dec_f a fa
  obtain ⟨⟨db0, db1⟩, ⟨eb0, eb1⟩, -, -⟩ := Ie.dec_f b fb
  have e60 : (2 : Int) ^ 60 = 1152921504606846976 := by decide
  have da2 : Ie.dm a < 2 ^ 60 := by omega
  have db2 : Ie.dm b < 2 ^ 60 := by omega
  have UA := hid (fun (wx : World) => number_any a wx a0 a1 fa)
  have UB := hid (fun (wx : World) => number_any b wx b0 b1 fb)
  have e200 := Nm.two_mono (show 60 ≤ 200 by omega)
  have HT := hid hT
  clear fa fb na nb ia ib hT
  have RU : Hid (∀ (w2 : World) (pa pb : Option Addr) (oa ob : List Int) (B B' : Nat), Below w.heap.size w w2 → Ans B w2 pa oa (Ie.dm a) → Ans B' w2 pb ob (Ie.dm b) → Calls Tryd.prog 47 #[exactOf (Ie.ngd a) pa oa.length oa.length (Ie.de a) false, exactOf (Ie.ngd b) pb ob.length ob.length (Ie.de b) false] w2 fun e w' => PlusTold (Ie.ngd a) (Ie.dm a) (Ie.de a) (Ie.ngd b) (Ie.dm b) (Ie.de b) w2 e w') := by
    intro w2 pa pb oa ob B B' hB A1 A2
    exact plus_any _ _ _ _ _ _ _ _ _ _ oa ob _ _ _ _ w2 (A1.arg (by have := A1.tl da2 (show 60 ≤ 262144 by omega); omega)) (A2.arg (by have := A2.tl db2 (show 60 ≤ 262144 by omega); omega)) A1.2.2.2.1 A2.2.2.2.1 (by omega) (by omega) (by omega) (by omega) (by omega) (by omega)
  have RO : Hid (∀ (w3 : World) (neg : Bool) (p : Option Addr) (os : List Int) (V e : Int) (B : Nat), Below w.heap.size w w3 → Ans B w3 p os V → Ie.SumIs (Ie.ngd a) (Ie.dm a) (Ie.de a) (Ie.ngd b) (Ie.dm b) (Ie.de b) neg V e → Calls Tryd.prog 31 #[exactOf neg p os.length os.length e false] w3 fun r w' => RoundedTold neg V e false w3 r w') := by
    intro w3 neg p os V e B hB A hS
    have vb := hS.2.2.1.2
    have eb : -10000 ≤ e ∧ e ≤ 10000 := by rcases hS.1 with h | ⟨_, h⟩ <;> omega
    exact rounded_any neg false p _ _ os e V w3 (A.arg (by have := A.tl vb (show 5000 ≤ 262144 by omega); omega)) (HT.out.below hB) A.2.2.2.1 A.len0 vb eb.1 eb.2
  clear da0 da1 ea0 ea1 db0 db1 eb0 eb1 e60 da2 db2 e200 HT
  go_enter Tryd.func26, Tryd.ntmps26
  go_wp2_with fail
  refine (NA.out _).mono ?_
  rintro e wz ⟨rfl, hz⟩
  replace hz := hz.symm
  subst hz
  go_wp2_with fail
  refine (NB.out _).mono ?_
  rintro e wz ⟨rfl, hz⟩
  replace hz := hz.symm
  subst hz
  go_wp2_with fail
  refine (IA.out _).mono ?_
  rintro e wz ⟨rfl, hz⟩
  replace hz := hz.symm
  subst hz
  go_wp2_with fail
  refine (IA.out _).mono ?_
  rintro e wz ⟨rfl, hz⟩
  replace hz := hz.symm
  subst hz
  go_wp2_with fail
  refine (IB.out _).mono ?_
  rintro e wz ⟨rfl, hz⟩
  replace hz := hz.symm
  subst hz
  go_wp2_with fail
  refine (UA.out _).mono ?_
  rintro e w1 ⟨pa, oa, rfl, A1, hB1⟩
  have H1 := hid (And.intro A1 hB1)
  clear A1 hB1
  simp only [exactOf]
  go_wp2_with fail
  refine (UB.out _).mono ?_
  rintro e w2 ⟨pb, ob, rfl, A2, hB2⟩
  have A1 := H1.out.1.below hB2 (Nat.le_refl _)
  have Bw := H1.out.2.trans (hB2.mono H1.out.2.size)
  have PL := hid (RU.out w2 pa pb oa ob _ _ Bw A1 A2)
  have HB := hid Bw
  simp only [exactOf] at PL ⊢
  clear A1 A2 hB2 Bw H1 RU
  go_wp2_with fail
  refine PL.out.mono ?_
  rintro e w3 ⟨neg, p, os, V, x, rfl, A3, hB3, hS⟩
  have Bw := HB.out.trans (hB3.mono HB.out.size)
  have RR := hid (RO.out w3 neg p os V x _ Bw A3 hS)
  have HS := hid hS
  have HC := hid Bw
  simp only [exactOf] at RR ⊢
  clear A3 hB3 hS Bw RO PL HB
  go_wp2_with fail
  refine RR.out.mono ?_
  rintro e w4 ⟨d, t, L, rfl, h1, h2, h3, hB4⟩
  have KK : Hid (Told2 (Ie.AddIs a b) w (.returned (.tuple #[.int .u64 (Ie.sg neg d), .int .i64 (Ie.flg V x false (Ie.sg neg d) t L)])) w4) :=
    ⟨_, _, rfl, FI.out neg V x _ _ HS.out ⟨d, t, L, rfl, rfl, h1, h2, h3⟩, HC.out.trans (hB4.mono HC.out.size)⟩
  clear h1 h2 h3 hB4 HS HC RR FI
  go_wp2_with fail
  go_ret2
  exact KK.out

set_option maxRecDepth 100000 in
set_option maxHeartbeats 4000000 in
theorem add_any (a b : Int) (w : World) (a0 : 0 ≤ a) (a1 : a < 18446744073709551616) (b0 : 0 ≤ b) (b1 : b < 18446744073709551616) (hT : Tab w) :
    Calls Tryd.prog 26 #[.int .u64 a, .int .u64 b] w fun e w' => Told2 (Ie.AddIs a b) w e w' := by
  have NA := hid (fun (wx : World) => nan_any a wx a0 a1)
  have NB := hid (fun (wx : World) => nan_any b wx b0 b1)
  have IA := hid (fun (wx : World) => infinite_any a wx a0 a1)
  have IB := hid (fun (wx : World) => infinite_any b wx b0 b1)
  have KK : Hid (∀ (e : Ending) (r f : Int), e = .returned (.tuple #[.int .u64 r, .int .i64 f]) → Ie.AddIs a b r f → Told2 (Ie.AddIs a b) w e w) := fun e r f h1 h2 => ⟨r, f, h1, h2, Below.refl _ _⟩
  cases na : Ie.isn a
  · cases nb : Ie.isn b
    · cases ia : Ie.isi a
      · cases ib : Ie.isi b
        · exact add_fin a b w a0 a1 b0 b1 hT na ia nb ib
        · have SP : Hid (Ie.AddIs a b b 0) := by rw [Hid, Ie.AddIs, na, nb, ia, ib]; simp
          rw [na] at NA
          rw [nb] at NB
          rw [ia] at IA
          rw [ib] at IB
          clear na nb ia ib hT
          go_enter Tryd.func26, Tryd.ntmps26
          go_wp2_with fail
          refine (NA.out _).mono ?_
          rintro e wz ⟨rfl, rfl⟩
          go_wp2_with fail
          refine (NB.out _).mono ?_
          rintro e wz ⟨rfl, rfl⟩
          go_wp2_with fail
          refine (IA.out _).mono ?_
          rintro e wz ⟨rfl, rfl⟩
          go_wp2_with fail
          refine (IA.out _).mono ?_
          rintro e wz ⟨rfl, rfl⟩
          go_wp2_with fail
          refine (IB.out _).mono ?_
          rintro e wz ⟨rfl, rfl⟩
          go_wp2_with fail
          go_ret2
          exact KK.out _ _ _ rfl SP.out
      · cases ib : Ie.isi b
        · have SP : Hid (Ie.AddIs a b a 0) := by rw [Hid, Ie.AddIs, na, nb, ia, ib]; simp
          rw [na] at NA
          rw [nb] at NB
          rw [ia] at IA
          rw [ib] at IB
          clear na nb ia ib hT
          go_enter Tryd.func26, Tryd.ntmps26
          go_wp2_with fail
          refine (NA.out _).mono ?_
          rintro e wz ⟨rfl, rfl⟩
          go_wp2_with fail
          refine (NB.out _).mono ?_
          rintro e wz ⟨rfl, rfl⟩
          go_wp2_with fail
          refine (IA.out _).mono ?_
          rintro e wz ⟨rfl, rfl⟩
          go_wp2_with fail
          refine (IB.out _).mono ?_
          rintro e wz ⟨rfl, rfl⟩
          go_wp2_with fail
          refine (IA.out _).mono ?_
          rintro e wz ⟨rfl, rfl⟩
          go_wp2_with fail
          go_ret2
          exact KK.out _ _ _ rfl SP.out
        · rw [na] at NA
          rw [nb] at NB
          rw [ia] at IA
          rw [ib] at IB
          by_cases hab : a = b
          · have SP : Hid (Ie.AddIs a b a 0) := by rw [Hid, Ie.AddIs, na, nb, ia, ib]; simp [hab]
            subst hab
            clear na nb ia ib hT
            go_enter Tryd.func26, Tryd.ntmps26
            go_wp2_with fail
            refine (NA.out _).mono ?_
            rintro e wz ⟨rfl, rfl⟩
            go_wp2_with fail
            refine (NB.out _).mono ?_
            rintro e wz ⟨rfl, rfl⟩
            go_wp2_with fail
            refine (IA.out _).mono ?_
            rintro e wz ⟨rfl, rfl⟩
            go_wp2_with fail
            refine (IB.out _).mono ?_
            rintro e wz ⟨rfl, rfl⟩
            go_wp2_with fail
            refine (IA.out _).mono ?_
            rintro e wz ⟨rfl, rfl⟩
            go_wp2_with fail
            go_ret2
            exact KK.out _ _ _ rfl SP.out
          · have SP : Hid (Ie.AddIs a b 9221120237041090560 1) := by rw [Hid, Ie.AddIs, na, nb, ia, ib]; simp [hab]
            have hab' : (a == b) = false := by rw [beq_eq_false_iff_ne]; exact hab
            clear na nb ia ib hT
            go_enter Tryd.func26, Tryd.ntmps26
            go_wp2_with fail
            refine (NA.out _).mono ?_
            rintro e wz ⟨rfl, rfl⟩
            go_wp2_with fail
            refine (NB.out _).mono ?_
            rintro e wz ⟨rfl, rfl⟩
            go_wp2_with fail
            refine (IA.out _).mono ?_
            rintro e wz ⟨rfl, rfl⟩
            go_wp2_with fail
            refine (IB.out _).mono ?_
            rintro e wz ⟨rfl, rfl⟩
            go_wp2_with fail
            go_ret2
            exact KK.out _ _ _ rfl SP.out
    · have SP : Hid (Ie.AddIs a b 9221120237041090560 0) := by rw [Hid, Ie.AddIs, na, nb]; simp
      rw [na] at NA
      rw [nb] at NB
      clear na nb hT
      go_enter Tryd.func26, Tryd.ntmps26
      go_wp2_with fail
      refine (NA.out _).mono ?_
      rintro e wz ⟨rfl, rfl⟩
      go_wp2_with fail
      refine (NB.out _).mono ?_
      rintro e wz ⟨rfl, rfl⟩
      go_wp2_with fail
      go_ret2
      exact KK.out _ _ _ rfl SP.out
  · have SP : Hid (Ie.AddIs a b 9221120237041090560 0) := by rw [Hid, Ie.AddIs, na]; simp
    rw [na] at NA
    clear na hT
    go_enter Tryd.func26, Tryd.ntmps26
    go_wp2_with fail
    refine (NA.out _).mono ?_
    rintro e wz ⟨rfl, rfl⟩
    go_wp2_with fail
    go_ret2
    exact KK.out _ _ _ rfl SP.out

end Go.Proofs.YtkmadibfiikleaaDoor

/-
  soft: Add.
-/
namespace Go.Proofs.YtkmadibfiikleaaDoor
open Go Go.RowKit Go.Deep

set_option maxRecDepth 100000 in
set_option maxHeartbeats 4000000 in
theorem softAdd_any (a b : Int) (w : World) (a0 : 0 ≤ a) (a1 : a < 18446744073709551616) (b0 : 0 ≤ b) (b1 : b < 18446744073709551616) (hT : Tab w) :
    Calls Tryd.prog 15 #[.int .u64 a, .int .u64 b] w fun e w' => Told1 (Ie.AddIs a b) w e w' := by
  have AD := hid (add_any a b w a0 a1 b0 b1 hT)
  clear hT
  go_enter Tryd.func15, Tryd.ntmps15
  go_wp2_with fail
  refine AD.out.mono ?_
  rintro e w1 ⟨r, f, rfl, h, hB⟩
  have KK : Hid (Told1 (Ie.AddIs a b) w (.returned (.int .u64 r)) w1) := ⟨r, f, rfl, h, hB⟩
  clear h hB AD
  go_wp2_with fail
  go_ret
  exact KK.out
end Go.Proofs.YtkmadibfiikleaaDoor

/-
  ieee: Neg.
-/
namespace Go.Proofs.YtkmadibfiikleaaDoor
open Go Go.RowKit Go.Deep

set_option maxRecDepth 100000 in
theorem neg_any (d : Int) (w : World) (h0 : 0 ≤ d) (h1 : d < 18446744073709551616) :
    Calls Tryd.prog 16 #[.int .u64 d] w fun e w' => e = .returned (.int .u64 (Ie.ng d)) ∧ w' = w := by
  have B : bits .xor .u64 d 9223372036854775808 = Ie.ng d := Ib.sign_xor d h0 h1
  go_enter Tryd.func16, Tryd.ntmps16
  go_wp2
  go_ret
  exact ⟨rfl, rfl⟩
end Go.Proofs.YtkmadibfiikleaaDoor
