/-
  Texts put together: XBox, XPlusA, XWalk1, XIs, IRound, XRounded, XAddA.
-/
import Derived.Test.YtkmadibfiikleaaDoorXMem
import Derived.Test.YtkmadibfiikleaaDoorXNum
import Derived.Test.YtkmadibfiikleaaDoorIS
import Derived.Test.YtkmadibfiikleaaDoorXDef
import Derived.Test.YtkmadibfiikleaaDoorFromW
import Derived.Deep.RegionWith
import Derived.Test.YtkmadibfiikleaaDoorTrailW
import Derived.BigQuiet
/-
  Two exacts in boxes of their own, and room for the answer.
-/
namespace Go.Proofs.YtkmadibfiikleaaDoor
open Go Go.RowKit Go.Deep

/-- Two exacts in boxes of their own, and room for the answer. -/
def Box (w wx : World) (x0 x1 x2 x3 y0 y1 y2 y3 : Value) : Prop :=
  (Row4 wx w.heap.size 47 x0 x1 x2 x3 ∧ Row4 wx (w.heap.size + 1) 47 y0 y1 y2 y3 ∧ Row4 wx (w.heap.size + 2) 47 (.bool false) (.slice none 0 0) (.int .i64 0) (.bool false)) ∧ Below w.heap.size w wx ∧ w.heap.size + 3 ≤ wx.heap.size

theorem Box.new (w : World) (x0 x1 x2 x3 y0 y1 y2 y3 : Value) :
    Box w (((w.alloc (.cells #[x0, x1, x2, x3] 47)).alloc (.cells #[y0, y1, y2, y3] 47)).alloc (.cells #[.bool false, .slice none 0 0, .int .i64 0, .bool false] 47)) x0 x1 x2 x3 y0 y1 y2 y3 := by
  have s1 : (w.alloc (.cells #[x0, x1, x2, x3] 47)).heap.size = w.heap.size + 1 := by simp
  have s2 : ((w.alloc (.cells #[x0, x1, x2, x3] 47)).alloc (.cells #[y0, y1, y2, y3] 47)).heap.size = w.heap.size + 2 := by simp
  have r0 := Row4.new w 47 x0 x1 x2 x3
  have r1 := Row4.new (w.alloc (.cells #[x0, x1, x2, x3] 47)) 47 y0 y1 y2 y3
  have r2 := Row4.new ((w.alloc (.cells #[x0, x1, x2, x3] 47)).alloc (.cells #[y0, y1, y2, y3] 47)) 47 (.bool false) (.slice none 0 0) (.int .i64 0) (.bool false)
  rw [s1] at r1
  rw [s2] at r2
  refine ⟨⟨?_, ?_, r2⟩, ?_, ?_⟩
  · exact (r0.below (alloc_b _ _) (by omega)).below (alloc_b _ _) (by omega)
  · exact r1.below (alloc_b _ _) (by omega)
  · have h1 := alloc_b w (.cells #[x0, x1, x2, x3] 47)
    have h2 := Below.alloc h1 h1.size (.cells #[y0, y1, y2, y3] 47)
    exact Below.alloc h2 h2.size _
  · simp

theorem Box.on {w wx w' : World} {x0 x1 x2 x3 y0 y1 y2 y3 : Value} (h : Box w wx x0 x1 x2 x3 y0 y1 y2 y3) (hB : Below wx.heap.size wx w') : Box w w' x0 x1 x2 x3 y0 y1 y2 y3 := by
  obtain ⟨⟨a, b, c⟩, d, e⟩ := h
  exact ⟨⟨a.below hB a.lt, b.below hB b.lt, c.below hB c.lt⟩, d.trans (hB.mono d.size), by have := hB.size; omega⟩

theorem Box.cells {w wx : World} {x0 x1 x2 x3 y0 y1 y2 y3 : Value} (h : Box w wx x0 x1 x2 x3 y0 y1 y2 y3) :
    (wx.cell? ⟨w.heap.size, 0, none⟩ = some x0 ∧ wx.cell? ⟨w.heap.size, 1, none⟩ = some x1 ∧ wx.cell? ⟨w.heap.size, 2, none⟩ = some x2) ∧
    (wx.cell? ⟨w.heap.size + 1, 0, none⟩ = some y0 ∧ wx.cell? ⟨w.heap.size + 1, 1, none⟩ = some y1 ∧ wx.cell? ⟨w.heap.size + 1, 2, none⟩ = some y2) ∧
    ((wx.cell? ⟨w.heap.size + 2, 0, none⟩ = some (.bool false) ∧ wx.cell? ⟨w.heap.size + 2, 1, none⟩ = some (.slice none 0 0) ∧ wx.cell? ⟨w.heap.size + 2, 2, none⟩ = some (.int .i64 0) ∧ wx.cell? ⟨w.heap.size + 2, 3, none⟩ = some (.bool false)) ∧
      (wx.frozen? ⟨w.heap.size + 2, 0, none⟩ = false ∧ wx.frozen? ⟨w.heap.size + 2, 1, none⟩ = false ∧ wx.frozen? ⟨w.heap.size + 2, 2, none⟩ = false ∧ wx.frozen? ⟨w.heap.size + 2, 3, none⟩ = false)) := by
  obtain ⟨⟨a, b, c⟩, -, -⟩ := h
  exact ⟨⟨a.cells.1.1, a.cells.1.2.1, a.cells.1.2.2.1⟩, ⟨b.cells.1.1, b.cells.1.2.1, b.cells.1.2.2.1⟩, c.cells⟩
end Go.Proofs.YtkmadibfiikleaaDoor

/-
  soft: plus (made by mkplus.py).
-/
namespace Go.Proofs.YtkmadibfiikleaaDoor
open Go Go.RowKit Go.Deep

namespace Ie
/-- What plus tells: the sum of both, at the lower exponent (or nothing at 0). -/
def SumIs (n1 : Bool) (V1 e1 : Int) (n2 : Bool) (V2 e2 : Int) (neg : Bool) (V x : Int) : Prop :=
  (x = min e1 e2 ∨ (V = 0 ∧ x = 0)) ∧ (V = 0 → neg = (n1 && n2)) ∧ (0 ≤ V ∧ V < 2 ^ 5000) ∧
  ∀ B a b c : Nat, (a : Int) = e1 + B → (b : Int) = e2 + B → (c : Int) = x + B → sn neg V * 2 ^ c = sn n1 V1 * 2 ^ a + sn n2 V2 * 2 ^ b

theorem sum_at {n1 n2 neg : Bool} {V1 V2 V e1 e2 m : Int} {k1 k2 : Nat} (hm : min e1 e2 = m) (hk1 : (k1 : Int) = e1 - m) (hk2 : (k2 : Int) = e2 - m) (h : sn neg V = sn n1 (V1 * 2 ^ k1) + sn n2 (V2 * 2 ^ k2)) (h0 : V = 0 → neg = (n1 && n2)) (v0 : 0 ≤ V) (v1 : V < 2 ^ 5000) : SumIs n1 V1 e1 n2 V2 e2 neg V m := by
  refine ⟨.inl hm.symm, h0, ⟨v0, v1⟩, fun B a b c ha hb hc => ?_⟩
  rw [h, ← sn_mul_right, ← sn_mul_right, Int.add_mul, Int.mul_assoc, Int.mul_assoc, ← Nm.two_add, ← Nm.two_add, show k1 + c = a by omega, show k2 + c = b by omega]

theorem sum_none {n1 n2 : Bool} {V1 V2 e1 e2 m : Int} {k1 k2 : Nat} (hm : min e1 e2 = m) (hk1 : (k1 : Int) = e1 - m) (hk2 : (k2 : Int) = e2 - m) (hn : n1 ≠ n2) (h : V1 * 2 ^ k1 = V2 * 2 ^ k2) : SumIs n1 V1 e1 n2 V2 e2 false 0 0 := by
  refine ⟨.inr ⟨rfl, rfl⟩, fun _ => ?_, ⟨by omega, Nm.two_pos _⟩, fun B a b c ha hb hc => ?_⟩
  · cases n1 <;> cases n2 <;> first | rfl | exact absurd rfl hn
  · have key : V1 * 2 ^ a = V2 * 2 ^ b := by
      have q : (a : Int) = k1 + (m + B) ∧ (b : Int) = k2 + (m + B) := by omega
      obtain ⟨j, hj⟩ : ∃ j : Nat, (j : Int) = m + B := ⟨(m + B).toNat, by omega⟩
      rw [show a = k1 + j by omega, show b = k2 + j by omega, Nm.two_add, Nm.two_add, ← Int.mul_assoc, ← Int.mul_assoc, h]
    rw [sn_zero, Int.zero_mul, sn_mul_right, sn_mul_right, key]
    cases n1 <;> cases n2 <;> simp only [sn, Bool.false_eq_true, if_true, if_false] <;> first | exact absurd rfl hn | omega

theorem up_lt {V : Int} {k K : Nat} (v1 : V < 2 ^ 200) (hk : k ≤ K) : V * 2 ^ k < 2 ^ (200 + K) := by
  have h1 : V * 2 ^ k < 2 ^ 200 * 2 ^ k := Int.mul_lt_mul_of_pos_right v1 (Nm.two_pos k)
  rw [← Nm.two_add] at h1
  have := Nm.two_mono (show 200 + k ≤ 200 + K by omega)
  omega
end Ie

/-- What plus answers. -/
def PlusTold (n1 : Bool) (V1 e1 : Int) (n2 : Bool) (V2 e2 : Int) (w : World) (e : Ending) (w' : World) : Prop :=
  ∃ neg p os V x, e = .returned (exactOf neg p (List.length os) (List.length os) x false) ∧ Ans w.heap.size w' p os V ∧ Below w.heap.size w w' ∧ Ie.SumIs n1 V1 e1 n2 V2 e2 neg V x

theorem Ans.tl {B : Nat} {w : World} {p : Option Addr} {ys : List Int} {n : Int} (h : Ans B w p ys n) {K : Nat} (hn : n < 2 ^ K) (hK : K ≤ 262144) : Nm.tsize ys ≤ 4096 ∧ ys.length ≤ 4096 ∧ n < Nm.pw 4096 := by
  have e := pw_4096
  have := Nm.two_mono hK
  have h1 : n < Nm.pw 4096 := by omega
  have h2 := (Nm.tsize_le_iff h.2.1 4096).2 (by rw [h.2.2.2.1]; exact h1)
  exact ⟨h2, by rw [← h.2.2.1]; exact h2, h1⟩
end Go.Proofs.YtkmadibfiikleaaDoor

/-
  soft: nan, infinite, zero, number.
-/
namespace Go.Proofs.YtkmadibfiikleaaDoor
open Go Go.RowKit Go.Deep

set_option maxRecDepth 100000 in
theorem nan_any (d : Int) (w : World) (h0 : 0 ≤ d) (h1 : d < 18446744073709551616) :
    Calls Tryd.prog 27 #[.int .u64 d] w fun e w' => e = .returned (.bool (Ie.isn d)) ∧ w' = w := by
  have CL := hid (class_any d w h0 h1)
  have E := hid (Ie.isn_cls d)
  generalize Ie.cls d = c at CL E
  go_enter Tryd.func27, Tryd.ntmps27
  go_wp2_with fail
  refine CL.out.mono ?_
  rintro e w' ⟨rfl, rfl⟩
  go_wp2_with fail
  go_ret
  exact ⟨by rw [E.out]; rfl, rfl⟩

set_option maxRecDepth 100000 in
theorem infinite_any (d : Int) (w : World) (h0 : 0 ≤ d) (h1 : d < 18446744073709551616) :
    Calls Tryd.prog 46 #[.int .u64 d] w fun e w' => e = .returned (.bool (Ie.isi d)) ∧ w' = w := by
  have CL := hid (class_any d w h0 h1)
  have E := hid (Ie.isi_cls d)
  generalize Ie.cls d = c at CL E
  go_enter Tryd.func46, Tryd.ntmps46
  go_wp2_with fail
  refine CL.out.mono ?_
  rintro e w' ⟨rfl, rfl⟩
  go_wp2_with fail
  go_ret
  exact ⟨by rw [E.out]; rfl, rfl⟩

/-- What number answers. -/
def NumTold (d : Int) (w : World) (e : Ending) (w' : World) : Prop :=
  ∃ p os, e = .returned (exactOf (Ie.ngd d) p (List.length os) (List.length os) (Ie.de d) false) ∧ Ans w.heap.size w' p os (Ie.dm d) ∧ Below w.heap.size w w'

set_option maxRecDepth 100000 in
set_option maxHeartbeats 2000000 in
theorem number_any (d : Int) (w : World) (h0 : 0 ≤ d) (h1 : d < 18446744073709551616) (hf : Ie.fin d) :
    Calls Tryd.prog 29 #[.int .u64 d] w fun e w' => NumTold d w e w' := by
  have D := hid (fun (wx : World) => decode_any d wx h0 h1)
  rw [← Ie.ngd] at D
  obtain ⟨⟨m0, m1⟩, -, -, -⟩ := Ie.dec_f d hf
  have FU := hid (fun (wx : World) => fromUint_any (Ie.dm d) wx m0 (by omega))
  have WT : Hid (∀ (w2 : World) (p : Option Addr) (os : List Int), Ans (w.heap.size + 1) w2 p os (Ie.dm d) → Row4 w2 w.heap.size 47 (.bool false) (.slice none 0 0) (.int .i64 0) (.bool false) → Below w.heap.size w w2 →
      NumTold d w (.returned (exactOf (Ie.ngd d) p (List.length os) (List.length os) (Ie.de d) false)) ((((w2.setCell ⟨w.heap.size, 0, none⟩ (.bool (Ie.ngd d))).setCell ⟨w.heap.size, 1, none⟩ (.slice p os.length os.length)).setCell ⟨w.heap.size, 2, none⟩ (.int .i64 (Ie.de d))).setCell ⟨w.heap.size, 3, none⟩ (.bool false))) := by
    intro w2 p os A R hB
    have A' := A.set4 (b := w.heap.size) (u0 := .bool (Ie.ngd d)) (u1 := .slice p os.length os.length) (u2 := .int .i64 (Ie.de d)) (u3 := .bool false) (by omega)
    exact ⟨p, os, rfl, ⟨A'.1, A'.2.1, A'.2.2.1, A'.2.2.2.1, fun a h => by have := A'.2.2.2.2 a h; omega⟩, set4_below hB (Nat.le_refl _)⟩
  simp only [partsOf] at D
  generalize Ie.ngd d = neg at *
  generalize Ie.dm d = m at *
  generalize Ie.de d = x at *
  generalize Ie.cls d = c at *
  clear hf
  go_enter Tryd.func29, Tryd.ntmps29
  go_wp2_with fail
  refine (D.out _).mono ?_
  rintro e w1 ⟨rfl, hB⟩
  have R0 := Row4.new w 47 (.bool false) (.slice none 0 0) (.int .i64 0) (.bool false)
  have sz : (w.alloc (Obj.cells #[Value.bool false, Value.slice none 0 0, Value.int IntKind.i64 0, Value.bool false] 47)).heap.size = w.heap.size + 1 := by simp
  have R1 := R0.below hB (by omega)
  have HB := (alloc_b w _).trans (hB.mono (alloc_b w _).size)
  have s1 : w.heap.size + 1 ≤ w1.heap.size := by have := hB.size; omega
  clear hB R0 sz D
  go_wp2_with fail
  have HB1 := hid (Below.alloc HB HB.size (.cells #[.bool neg, .int .i64 c, .int .u64 m, .int .i64 x] 68))
  have R2 := R1.below (Below.alloc (w := w1) (Below.refl w1.heap.size w1) (Nat.le_refl _) (.cells #[.bool neg, .int .i64 c, .int .u64 m, .int .i64 x] 68)) R1.lt
  have P := Row4.new w1 68 (.bool neg) (.int .i64 c) (.int .u64 m) (.int .i64 x)
  clear R1 HB
  generalize w1.alloc (.cells #[.bool neg, .int .i64 c, .int .u64 m, .int .i64 x] 68) = wA at *
  obtain ⟨⟨p0, p1, p2, p3⟩, -⟩ := P.cells
  have HS := hid s1
  have CA : Hid (∀ w2 : World, Below wA.drew.heap.size wA.drew w2 → (Below w.heap.size w w2 ∧ Row4 w2 w.heap.size 47 (.bool false) (.slice none 0 0) (.int .i64 0) (.bool false)) ∧ Row4 w2 w1.heap.size 68 (.bool neg) (.int .i64 c) (.int .u64 m) (.int .i64 x)) := by
    intro w2 hB2
    have d := drew_b HB1.out
    exact ⟨⟨d.trans (hB2.mono d.size), (R2.heap (w' := wA.drew) rfl).below hB2 R2.lt⟩, (P.heap (w' := wA.drew) rfl).below hB2 P.lt⟩
  have LE := hid (show w.heap.size + 1 ≤ wA.drew.heap.size from Nat.le_trans s1 (Nat.le_of_lt P.lt))
  clear R2 P s1
  go_region_with (go_at_call 49; refine (FU.out _).mono ?_; rintro e w2 ⟨p, os, rfl, A, hB2⟩; obtain ⟨⟨c1, c2⟩, c3⟩ := CA.out w2 hB2; have KK := hid (WT.out w2 p os ⟨A.1, A.2.1, A.2.2.1, A.2.2.2.1, fun a h => Nat.le_trans LE.out (A.2.2.2.2 a h)⟩ c2 c1); obtain ⟨⟨r0, r1, r2, r3⟩, ⟨f0, f1, f2, f3⟩⟩ := c2.cells; obtain ⟨⟨q0, q1, q2, q3⟩, -⟩ := c3.cells; have RR := hid c2; clear A hB2 c1 c2 c3)
  all_goals (go_wp2_with fail; (try simp only [Exit.inBlock, Exit.then]); refine bodyPost_ret (results_cell_row rfl _ _ w.heap.size 47 _ (0, 0) _ rfl (Row4.set RR.out) Tryd.underlying47 rfl (by kernel_rfl)) rfl ?_; exact KK.out)
end Go.Proofs.YtkmadibfiikleaaDoor

/-
  soft: is.
-/
namespace Go.Proofs.YtkmadibfiikleaaDoor
open Go Go.RowKit Go.Deep

theorem trl_ex : ∀ (n : Nat) (V : Int), 0 < V → V < 2 ^ n → ∃ t : Nat, t < n ∧ Nm.Trl V t
  | 0, V, h0, h1 => by rw [Int.pow_zero] at h1; omega
  | n + 1, V, h0, h1 => by
    rw [Nm.two_succ] at h1
    rcases (show V % 2 = 1 ∨ V % 2 = 0 by omega) with h | h
    · exact ⟨0, by omega, .inr ⟨V / 2, by rw [Int.pow_zero]; omega⟩⟩
    · obtain ⟨t, ht, g⟩ := trl_ex n (V / 2) (by omega) (by omega)
      rcases g with ⟨g, _⟩ | ⟨m, g⟩
      · omega
      · refine ⟨t + 1, by omega, .inr ⟨m, ?_⟩⟩
        rw [Nm.two_succ, Int.mul_assoc, ← g]
        omega

/-- What is answers: t the zeros at the end of V. -/
def Ie.isx (V e : Int) (more : Bool) (d : Int) (t : Nat) : Bool := decide (V = 0) || (!more && (!Ie.isi d && decide (Ie.de d ≤ e + t)))

theorem below_a {w : World} {A : Obj} {w' : World} (h : Below (w.alloc A).heap.size (w.alloc A) w') : Below w.heap.size w w' := (alloc_b w A).trans (h.mono (alloc_b w A).size)

set_option maxRecDepth 100000 in
set_option maxHeartbeats 4000000 in
theorem is_any (neg more : Bool) (p : Option Addr) (l c : Nat) (zs : List Int) (e V d : Int) (t : Nat) (w : World) (ha : Arg w p l c zs) (hT : Tab w) (hV : Nm.val zs = V) (hl : l = 0 ↔ V = 0) (ht : Nm.Trl V t) (tb : t ≤ 10000) (q1 : -10000 ≤ e) (q2 : e ≤ 10000) (d0 : 0 ≤ d) (d1 : d < 18446744073709551616) :
    Calls Tryd.prog 51 #[exactOf neg p l c e more, .int .u64 d] w fun r w' => r = .returned (.bool (Ie.isx V e more d t)) ∧ Below w.heap.size w w' := by
  have R0 := Row4.new w 47 (.bool neg) (.slice p l c) (.int .i64 e) (.bool more)
  obtain ⟨⟨r0, r1, r2, r3⟩, -⟩ := R0.cells
  simp only [exactOf]
  by_cases hz : V = 0
  · have l0 : l = 0 := hl.2 hz
    subst l0
    have E : Hid (Ie.isx V e more d t = true) := by rw [Hid, Ie.isx, decide_eq_true hz, Bool.true_or]
    clear ha hT hV hl ht tb q1 q2
    go_enter Tryd.func51, Tryd.ntmps51
    go_wp2_with fail
    go_ret
    exact ⟨by rw [E.out]; rfl, alloc_b w _⟩
  · have l0 : ((l : Int) == 0) = false := by rw [beq_eq_false_iff_ne]; omega
    have lb : (l : Int) ≤ 17592186044416 := by have := ha.2.1; have := ha.2.2.1; omega
    cases more
    · have IN := hid (fun (wx : World) => infinite_any d wx d0 d1)
      cases hi : Ie.isi d
      · rw [hi] at IN
        obtain ⟨x, hx⟩ : ∃ x, Ie.de d = x := ⟨_, rfl⟩
        have xb : -1074 ≤ x ∧ x ≤ 2047 := by
          rw [← hx, Ie.de]
          have := Ie.fld_bd d
          split
          · rename_i h
            have : Ie.fld d ≠ 0 := by
              intro h0
              rw [Ie.cls, if_pos h0] at h
              split at h <;> omega
            omega
          · split <;> omega
        obtain ⟨xb0, xb1⟩ := xb
        have DC := hid (fun (wx : World) => decode_any d wx d0 d1)
        rw [hx] at DC
        have TR : Hid (∀ wx : World, Below w.heap.size w wx → Calls Tryd.prog 78 #[.slice p l c] wx fun e w' => e = .returned (.int .i64 (t : Int)) ∧ w' = wx) := by
          intro wx hxx
          refine (trail_any p l c zs wx (ha.below hxx (Nat.le_refl _)) (hT.below hxx)).mono ?_
          rintro e w' ⟨t', rfl, g, rfl⟩
          rw [hV] at g
          rw [g.unique ht]
          exact ⟨rfl, rfl⟩
        have E : Hid (Ie.isx V e false d t = decide (x ≤ e + t)) := by rw [Hid, Ie.isx, decide_eq_false hz, hi, hx]; simp
        have tb' : (t : Int) ≤ 10000 := by omega
        have CA : Hid (∀ w2 : World, Below (w.alloc (.cells #[.bool neg, .slice p l c, .int .i64 e, .bool false] 47)).drew.heap.size (w.alloc (.cells #[.bool neg, .slice p l c, .int .i64 e, .bool false] 47)).drew w2 → Below w.heap.size w w2 ∧ Row4 w2 w.heap.size 47 (.bool neg) (.slice p l c) (.int .i64 e) (.bool false)) := by
          intro w2 hB
          have h1 := drew_b (alloc_b w (.cells #[.bool neg, .slice p l c, .int .i64 e, .bool false] 47))
          exact ⟨h1.trans (hB.mono h1.size), (R0.heap (w' := (w.alloc (.cells #[.bool neg, .slice p l c, .int .i64 e, .bool false] 47)).drew) rfl).below hB R0.lt⟩
        have D0 := hid (drew_b (alloc_b w (.cells #[.bool neg, .slice p l c, .int .i64 e, .bool false] 47)))
        simp only [partsOf] at DC
        generalize decide (9223372036854775808 ≤ d) = sgn at DC
        generalize Ie.cls d = cl at DC
        generalize Ie.dm d = mm at DC
        have FD : ∀ wx : World, (Instr.field 68 (.agg #[.bool sgn, .int .i64 cl, .int .u64 mm, .int .i64 x]) 3).run Tryd.prog wx = .ok (.int .i64 x) wx := fun _ => by kernel_rfl
        have WR : IntKind.i64.wrap (e + (t : Int)) = e + (t : Int) := by rw [IntKind.wrap_i64]; omega
        clear ha hT hV hl ht tb hz hi hx R0
        go_enter Tryd.func51, Tryd.ntmps51
        go_wp2_with fail
        generalize w.alloc (.cells #[.bool neg, .slice p l c, .int .i64 e, .bool false] 47) = wA at *
        go_region_with (first | (go_at_call 46; refine (IN.out _).mono ?_; rintro e w2 ⟨rfl, rfl⟩) | (go_at_call 78; refine (TR.out _ (by first | exact D0.out | exact HB2.out)).mono ?_; rintro e w3 ⟨rfl, rfl⟩) | (go_at_call 48; refine (DC.out _).mono ?_; rintro e w2 ⟨rfl, hB⟩; have HB2 := hid (CA.out w2 hB).1; obtain ⟨⟨s0, s1, s2, s3⟩, -⟩ := (CA.out w2 hB).2.cells; clear hB))
        all_goals (go_wp2_with fail; go_ret; exact ⟨by rw [E.out]; rfl, by first | exact HB2.out | exact D0.out⟩)
      · rw [hi] at IN
        have E : Hid (Ie.isx V e false d t = false) := by rw [Hid, Ie.isx, decide_eq_false hz, hi]; rfl
        have D0 := hid (alloc_b w (.cells #[.bool neg, .slice p l c, .int .i64 e, .bool false] 47))
        clear ha hT hV hl ht tb hz hi R0
        go_enter Tryd.func51, Tryd.ntmps51
        go_wp2_with fail
        generalize w.alloc (.cells #[.bool neg, .slice p l c, .int .i64 e, .bool false] 47) = wA at *
        go_quiet (with_reducible exact Calls.quiet_of_same (IN.out _))
        go_wp2_with fail
        go_ret
        exact ⟨by rw [E.out]; rfl, below_drewN D0.out _⟩
    · have E : Hid (Ie.isx V e true d t = false) := by rw [Hid, Ie.isx, decide_eq_false hz]; rfl
      have D0 := hid (alloc_b w (.cells #[.bool neg, .slice p l c, .int .i64 e, .bool true] 47))
      clear ha hT hV hl ht tb hz R0
      go_enter Tryd.func51, Tryd.ntmps51
      go_wp2_with fail
      generalize w.alloc (.cells #[.bool neg, .slice p l c, .int .i64 e, .bool true] 47) = wA at *
      go_quiet (fail)
      go_wp2_with fail
      go_ret
      exact ⟨by rw [E.out]; rfl, below_drewN D0.out _⟩
end Go.Proofs.YtkmadibfiikleaaDoor

/-
  ieee: Round.
-/
namespace Go.Proofs.YtkmadibfiikleaaDoor
open Go Go.RowKit Go.Deep


set_option maxRecDepth 100000 in
set_option maxHeartbeats 2000000 in
theorem round_any (neg : Bool) (p : Option Addr) (n cap : Nat) (zs : List Int) (w : World) (ha : Arg w p n cap zs) (hT : Tab w) (tz : Nm.tsize zs ≤ 4096) (V e : Int) (more : Bool) (hV : Nm.val zs = V) :
    Calls Tryd.prog 44 #[.bool neg, .slice p n cap, .int .i64 e, .bool more] w fun r w' => ∃ x, r = .returned (.tuple #[.int .u64 (Ie.sg neg x), .int .i64 0]) ∧ Ie.Rnd V 1 e more x ∧ Below w.heap.size w w' := by
  obtain ⟨L, hL, BL, hl, _⟩ := blen_is zs ha.2.2.2.2
  rw [hV] at BL
  have B1 := hid (bitLen_n L p n cap zs w ha hL)
  have v0 : 0 ≤ V := by rw [← hV]; exact (Nm.val_bd zs ha.2.2.2.2).1
  have WI := hid (fun (x : Int) => Ie.win_ok (n := V) (d := 1) (e := e) (x := x) (more := more) L 0 v0 BL.1 (by omega) (by decide) (by omega) (by omega))
  have W0 := hid (within_any e w)
  obtain ⟨we, hwe⟩ : ∃ we, Ie.win e = we := ⟨_, rfl⟩
  have wb := Ie.win_bd e
  rw [hwe] at wb W0 WI
  have NR := hid (nearest_any p n cap zs w ha hT tz V we more hV (by omega) (by omega))
  have l1 : decide (262144 < (L : Int)) = false := by simp; omega
  clear ha hT tz hV hL BL hl v0 hwe wb
  go_enter Tryd.func44, Tryd.ntmps44
  go_wp2_with fail
  refine B1.out.mono ?_
  rintro e' w' ⟨rfl, rfl⟩
  go_wp2_with fail
  refine W0.out.mono ?_
  rintro e' w' ⟨rfl, rfl⟩
  go_wp2_with fail
  refine NR.out.mono ?_
  rintro e' w1 ⟨x, rfl, R, hB⟩
  have bd := R.bd
  have R1 := hid (WI.out x R)
  have SG := hid (signed_any neg x w1 bd.1 (by omega))
  have HB := hid hB
  clear R bd hB
  go_wp2_with fail
  refine SG.out.mono ?_
  rintro e' w2 ⟨rfl, rfl⟩
  go_wp2_with fail
  go_ret2
  exact ⟨x, rfl, R1.out, HB.out⟩
end Go.Proofs.YtkmadibfiikleaaDoor

/-
  soft: rounded.
-/
namespace Go.Proofs.YtkmadibfiikleaaDoor
open Go Go.RowKit Go.Deep

/-- The flags that a rounding raises: the result V * 2^e (or a trifle above), the double x, L the bits of V, t the zeros at its end. -/
def Ie.flg (V e : Int) (more : Bool) (d : Int) (t L : Nat) : Int :=
  if Ie.isx V e more d t = true then 0 else 16 + (if Ie.isi d = true then 4 else 0) + (if (L : Int) + e ≤ -1022 then 8 else 0)

/-- What rounded answers. -/
def RoundedTold (neg : Bool) (V e : Int) (more : Bool) (w : World) (r : Ending) (w' : World) : Prop :=
  ∃ (x : Int) (t L : Nat), r = .returned (.tuple #[.int .u64 (Ie.sg neg x), .int .i64 (Ie.flg V e more (Ie.sg neg x) t L)]) ∧ Ie.Rnd V 1 e more x ∧ Nm.Trl V t ∧ Nm.BLen V L ∧ Below w.heap.size w w'

theorem ret_ui {a b c d : Int} (h : a = b) (k : c = d) : Ending.returned (.tuple #[.int .u64 a, .int .i64 c]) = .returned (.tuple #[.int .u64 b, .int .i64 d]) := by rw [h, k]

set_option maxRecDepth 100000 in
set_option maxHeartbeats 4000000 in
theorem rounded_any (neg more : Bool) (p : Option Addr) (l c : Nat) (zs : List Int) (e V : Int) (w : World) (ha : Arg w p l c zs) (hT : Tab w) (hV : Nm.val zs = V) (hl : l = 0 ↔ V = 0) (hb : V < 2 ^ 5000) (q1 : -10000 ≤ e) (q2 : e ≤ 10000) :
    Calls Tryd.prog 31 #[exactOf neg p l c e more] w fun r w' => RoundedTold neg V e more w r w' := by
  have v0 : 0 ≤ V := by rw [← hV]; exact (Nm.val_bd zs ha.2.2.2.2).1
  have tz : Nm.tsize zs ≤ 4096 := (Nm.tsize_le_iff ha.2.2.2.2 4096).2 (by rw [hV, pw_4096]; have := Nm.two_mono (show 5000 ≤ 262144 by omega); omega)
  obtain ⟨L, hL, BL, hl2, _⟩ := blen_is zs ha.2.2.2.2
  rw [hV] at BL
  have Lb : (L : Int) ≤ 262144 := by omega
  obtain ⟨t, tb, ht⟩ : ∃ t : Nat, t ≤ 10000 ∧ Nm.Trl V t := by
    rcases (show V = 0 ∨ 0 < V by omega) with h | h
    · exact ⟨0, by omega, .inl ⟨h, rfl⟩⟩
    · obtain ⟨t, h1, h2⟩ := trl_ex 5000 V h hb
      exact ⟨t, by omega, h2⟩
  have R0 := Row4.new w 47 (.bool neg) (.slice p l c) (.int .i64 e) (.bool more)
  have B0 := alloc_b w (.cells #[.bool neg, .slice p l c, .int .i64 e, .bool more] 47)
  have RD := hid (round_any neg p l c zs _ (ha.below B0 (Nat.le_refl _)) (hT.below B0) tz V e more hV)
  have IS := hid (fun (d : Int) (wx : World) (hx : Below w.heap.size w wx) (d0 : 0 ≤ d) (d1 : d < 18446744073709551616) => is_any neg more p l c zs e V d t wx (ha.below hx (Nat.le_refl _)) (hT.below hx) hV hl ht tb q1 q2 d0 d1)
  have BL1 := hid (fun (wx : World) (hx : Below w.heap.size w wx) => bitLen_n L p l c zs wx (ha.below hx (Nat.le_refl _)) hL)
  have IN := hid (fun (d : Int) (wx : World) (d0 : 0 ≤ d) (d1 : d < 18446744073709551616) => infinite_any d wx d0 d1)
  have FF : Hid (∀ (x f : Int) (w' : World), f = Ie.flg V e more (Ie.sg neg x) t L → Ie.Rnd V 1 e more x → Below w.heap.size w w' → RoundedTold neg V e more w (.returned (.tuple #[.int .u64 (Ie.sg neg x), .int .i64 f])) w') := by
    intro x f w' hf hR hB
    exact ⟨x, t, L, by rw [hf], hR, ht, BL, hB⟩
  obtain ⟨⟨r0, r1, r2, r3⟩, -⟩ := R0.cells
  have HR0 := hid R0
  have HB0 := hid B0
  simp only [exactOf] at IS ⊢
  clear ha hT hV hl hb v0 tz hL BL hl2 ht tb R0 B0
  go_enter Tryd.func31, Tryd.ntmps31
  go_wp2_with fail
  generalize hwA : w.alloc (.cells #[.bool neg, .slice p l c, .int .i64 e, .bool more] 47) = wA at *
  refine RD.out.mono ?_
  rintro r wa ⟨x, rfl, R, hB⟩
  have bd := R.bd
  obtain ⟨x0, x1⟩ := bd
  have sg0 : 0 ≤ Ie.sg neg x ∧ Ie.sg neg x < 18446744073709551616 := by simp only [Ie.sg]; split <;> omega
  obtain ⟨g0, g1⟩ := sg0
  have Ra := HR0.out.below hB HR0.out.lt
  have Ba := HB0.out.trans (hB.mono HB0.out.size)
  have IS1 := hid (IS.out _ wa Ba g0 g1)
  have F1 := hid (fun (f : Int) (w' : World) (h : f = Ie.flg V e more (Ie.sg neg x) t L) (hB : Below w.heap.size w w') => FF.out x f w' h R hB)
  have HBa := hid Ba
  have HRa := hid Ra
  obtain ⟨⟨s0, s1, s2, s3⟩, -⟩ := Ra.cells
  clear hB Ra Ba IS FF RD HR0 HB0 R r0 r1 r2 r3
  generalize hd : Ie.sg neg x = d at *
  go_wp2_with fail
  refine IS1.out.mono ?_
  rintro r wb ⟨rfl, hB⟩
  have Rb := HRa.out.below hB HRa.out.lt
  have Bb := HBa.out.trans (hB.mono HBa.out.size)
  have HBb := hid Bb
  have BQ := hid (fun (k : Nat) => BL1.out (wb.drewN k) (below_drewN Bb k))
  have IN1 := hid (fun (wx : World) => IN.out d wx g0 g1)
  clear s0 s1 s2 s3
  obtain ⟨⟨s0, s1, s2, s3⟩, -⟩ := Rb.cells
  have F2 : Hid (∀ (f : Int) (w' : World), f = (if Ie.isx V e more d t = true then 0 else 16 + (if Ie.isi d = true then 4 else 0) + (if (L : Int) + e ≤ -1022 then 8 else 0)) → Below w.heap.size w w' → RoundedTold neg V e more w (.returned (.tuple #[.int .u64 d, .int .i64 f])) w') := fun f w' h hB => F1.out f w' h hB
  have O1 : bits .or .i64 16 4 = 20 := by decide
  have O2 : bits .or .i64 16 8 = 24 := by decide
  have O3 : bits .or .i64 20 8 = 28 := by decide
  clear hB HRa HBa IS1 IN BL1 Rb Bb F1
  cases hx : Ie.isx V e more d t
  · rw [hx] at F2
    cases hi : Ie.isi d <;> rw [hi] at F2 IN1
    · by_cases hu : (L : Int) + e ≤ -1022
      · have dd : decide ((L : Int) + e ≤ -1022) = true := by simp; omega
        have F3 := hid (fun (w' : World) (hB : Below w.heap.size w w') => F2.out 24 w' (by simp [hu]) hB)
        clear F2 hx hi hu
        go_wp2_with fail
        refine (IN1.out _).mono ?_
        rintro r wc ⟨rfl, rfl⟩
        go_wp2_with fail
        go_quiet ((go_at_call 52; with_reducible exact Calls.quiet_of_same (BQ.out _)))
        go_wp2_with fail
        go_ret2
        exact F3.out _ (below_drewN HBb.out _)
      · have dd : decide ((L : Int) + e ≤ -1022) = false := by simp; omega
        have F3 := hid (fun (w' : World) (hB : Below w.heap.size w w') => F2.out 16 w' (by simp [hu]) hB)
        clear F2 hx hi hu
        go_wp2_with fail
        refine (IN1.out _).mono ?_
        rintro r wc ⟨rfl, rfl⟩
        go_wp2_with fail
        go_quiet ((go_at_call 52; with_reducible exact Calls.quiet_of_same (BQ.out _)))
        go_wp2_with fail
        go_ret2
        exact F3.out _ (below_drewN HBb.out _)
    · by_cases hu : (L : Int) + e ≤ -1022
      · have dd : decide ((L : Int) + e ≤ -1022) = true := by simp; omega
        have F3 := hid (fun (w' : World) (hB : Below w.heap.size w w') => F2.out 28 w' (by simp [hu]) hB)
        clear F2 hx hi hu
        go_wp2_with fail
        refine (IN1.out _).mono ?_
        rintro r wc ⟨rfl, rfl⟩
        go_wp2_with fail
        go_quiet ((go_at_call 52; with_reducible exact Calls.quiet_of_same (BQ.out _)))
        go_wp2_with fail
        go_ret2
        exact F3.out _ (below_drewN HBb.out _)
      · have dd : decide ((L : Int) + e ≤ -1022) = false := by simp; omega
        have F3 := hid (fun (w' : World) (hB : Below w.heap.size w w') => F2.out 20 w' (by simp [hu]) hB)
        clear F2 hx hi hu
        go_wp2_with fail
        refine (IN1.out _).mono ?_
        rintro r wc ⟨rfl, rfl⟩
        go_wp2_with fail
        go_quiet ((go_at_call 52; with_reducible exact Calls.quiet_of_same (BQ.out _)))
        go_wp2_with fail
        go_ret2
        exact F3.out _ (below_drewN HBb.out _)
  · rw [hx] at F2
    have F3 := hid (fun (w' : World) (hB : Below w.heap.size w w') => F2.out 0 w' (by simp) hB)
    clear F2 hx
    go_wp2_with fail
    go_ret2
    exact F3.out _ HBb.out
end Go.Proofs.YtkmadibfiikleaaDoor

/-
  What soft's functions tell.
-/
namespace Go.Proofs.YtkmadibfiikleaaDoor
open Go Go.RowKit Go.Deep

theorem Ans.len0 {B : Nat} {w : World} {p : Option Addr} {ys : List Int} {n : Int} (h : Ans B w p ys n) : ys.length = 0 ↔ n = 0 := by
  have h1 := Nm.tsize_zero_iff h.2.1
  rw [h.2.2.1, h.2.2.2.1] at h1
  exact h1

namespace Ie
/-- What a rounded result is: the double r, the flags f, of sn neg V * 2^e (or a trifle above). -/
def Res (neg : Bool) (V e : Int) (more : Bool) (r f : Int) : Prop :=
  ∃ (x : Int) (t L : Nat), r = sg neg x ∧ f = flg V e more (sg neg x) t L ∧ Rnd V 1 e more x ∧ Nm.Trl V t ∧ Nm.BLen V L

/-- What add answers. -/
def AddIs (a b r f : Int) : Prop :=
  if isn a = true ∨ isn b = true then r = 9221120237041090560 ∧ f = 0
  else if isi a = true ∧ isi b = true ∧ a ≠ b then r = 9221120237041090560 ∧ f = 1
  else if isi a = true then r = a ∧ f = 0
  else if isi b = true then r = b ∧ f = 0
  else ∃ neg V e, SumIs (ngd a) (dm a) (de a) (ngd b) (dm b) (de b) neg V e ∧ Res neg V e false r f

theorem fin_of {d : Int} (h0 : isn d = false) (h1 : isi d = false) : fin d := by
  rw [isn, decide_eq_false_iff_not] at h0
  rw [isi, decide_eq_false_iff_not] at h1
  rw [fin]; omega
theorem not_both {d : Int} (h : isi d = true) : isn d = false := by
  rw [isi, decide_eq_true_eq] at h
  rw [isn, h]; rfl
end Ie

/-- An answer and its flags, told. -/
def Told2 (P : Int → Int → Prop) (w : World) (e : Ending) (w' : World) : Prop := ∃ r f, e = .returned (.tuple #[.int .u64 r, .int .i64 f]) ∧ P r f ∧ Below w.heap.size w w'

/-- An answer, told. -/
def Told1 (P : Int → Int → Prop) (w : World) (e : Ending) (w' : World) : Prop := ∃ r f, e = .returned (.int .u64 r) ∧ P r f ∧ Below w.heap.size w w'
end Go.Proofs.YtkmadibfiikleaaDoor
