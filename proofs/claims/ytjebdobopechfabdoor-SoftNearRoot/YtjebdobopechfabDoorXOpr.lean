/-
  Texts put together: XTimes, XSign, XDiv, XMul, XFma, XSpec2, QRoot, QSquaresRoot, XRoot, XSqrt, XSpec3.
-/
import Derived.Test.YtjebdobopechfabDoorXPlus
import Derived.Test.YtjebdobopechfabDoorWalk4
import Derived.Test.YtjebdobopechfabDoorQAll
import Derived.Test.YtjebdobopechfabDoorXAdd
import Derived.Test.YtjebdobopechfabDoorXSpec
import Derived.Test.YtjebdobopechfabDoorShr
import Derived.Test.YtjebdobopechfabDoorWalk3
import Derived.Deep.LoopGhost
import Derived.Test.YtjebdobopechfabDoorFromW
import Derived.Test.YtjebdobopechfabDoorSmall
import Derived.Test.YtjebdobopechfabDoorXNum
/-
  soft: times, over (made by mktimes5.py).
-/
namespace Go.Proofs.YtjebdobopechfabDoor
open Go Go.RowKit Go.Deep

theorem ret_exact {n n' : Bool} {p p' : Option Addr} {l l' c c' : Nat} {e e' : Int} {m m' : Bool} (h0 : n = n') (h1 : e = e') (h2 : m = m') (h3 : p = p') (h4 : l = l') (h5 : c = c') : exactOf n p l c e m = exactOf n' p' l' c' e' m' := by rw [h0, h1, h2, h3, h4, h5]

/-- What times answers. -/
def TimesTold (n1 : Bool) (V1 e1 : Int) (n2 : Bool) (V2 e2 : Int) (w : World) (e : Ending) (w' : World) : Prop :=
  ∃ p os, e = .returned (exactOf (n1 != n2) p (List.length os) (List.length os) (e1 + e2) false) ∧ Ans w.heap.size w' p os (V1 * V2) ∧ Below w.heap.size w w'

/-- What over answers. -/
def OverTold (n1 : Bool) (V1 e1 : Int) (n2 : Bool) (V2 e2 : Int) (w : World) (e : Ending) (w' : World) : Prop :=
  ∃ p os, e = .returned (exactOf (n1 != n2) p (List.length os) (List.length os) (e1 - 128 - e2) (decide (V1 * 2 ^ 128 % V2 ≠ 0))) ∧ Ans w.heap.size w' p os (V1 * 2 ^ 128 / V2) ∧ Below w.heap.size w w'

theorem tell4 {w w3 : World} {p : Option Addr} {os : List Int} {V : Int} {x0 x1 x2 x3 y0 y1 y2 y3 u0 u2 u3 : Value} (hb : Box w w3 x0 x1 x2 x3 y0 y1 y2 y3) (A : Ans (w.heap.size + 3) w3 p os V) :
    Ans w.heap.size ((((w3.setCell ⟨w.heap.size + 2, 0, none⟩ u0).setCell ⟨w.heap.size + 2, 1, none⟩ (.slice p os.length os.length)).setCell ⟨w.heap.size + 2, 2, none⟩ u2).setCell ⟨w.heap.size + 2, 3, none⟩ u3) p os V ∧
    Below w.heap.size w ((((w3.setCell ⟨w.heap.size + 2, 0, none⟩ u0).setCell ⟨w.heap.size + 2, 1, none⟩ (.slice p os.length os.length)).setCell ⟨w.heap.size + 2, 2, none⟩ u2).setCell ⟨w.heap.size + 2, 3, none⟩ u3) := by
  have A' := A.set4 (b := w.heap.size + 2) (u0 := u0) (u1 := .slice p os.length os.length) (u2 := u2) (u3 := u3) (by omega)
  exact ⟨⟨A'.1, A'.2.1, A'.2.2.1, A'.2.2.2.1, fun a h => by have := A'.2.2.2.2 a h; omega⟩, set4_below hb.2.1 (by omega)⟩

set_option maxRecDepth 100000 in
set_option maxHeartbeats 4000000 in
theorem times_xany (n1 n2 m1 m2 : Bool) (p1 p2 : Option Addr) (l1 c1 l2 c2 : Nat) (z1 z2 : List Int) (e1 e2 V1 V2 : Int) (w : World) (a1 : Arg w p1 l1 c1 z1) (a2 : Arg w p2 l2 c2 z2) (hV1 : Nm.val z1 = V1) (hV2 : Nm.val z2 = V2) (b1 : V1 < 2 ^ 60) (b2 : V2 < 2 ^ 60)
    (q1 : -1100 ≤ e1) (q2 : e1 ≤ 1000) (q3 : -1100 ≤ e2) (q4 : e2 ≤ 1000) :
    Calls Tryd.prog 67 #[exactOf n1 p1 l1 c1 e1 m1, exactOf n2 p2 l2 c2 e2 m2] w fun e w' => TimesTold n1 V1 e1 n2 V2 e2 w e w' := by
  have v1 : 0 ≤ V1 := by rw [← hV1]; exact (Nm.val_bd z1 a1.2.2.2.2).1
  have v2 : 0 ≤ V2 := by rw [← hV2]; exact (Nm.val_bd z2 a2.2.2.2.2).1
  have e4096 := pw_4096
  have big := Nm.two_mono (show 120 ≤ 262144 by omega)
  have b60 := Nm.two_mono (show 60 ≤ 120 by omega)
  have pr : V1 * V2 < 2 ^ 120 := by
    have h1 : V1 * V2 ≤ V1 * 2 ^ 60 := Int.mul_le_mul_of_nonneg_left (by omega) v1
    have h2 : V1 * 2 ^ 60 < 2 ^ 60 * 2 ^ 60 := Int.mul_lt_mul_of_pos_right b1 (Nm.two_pos 60)
    rw [← Nm.two_add] at h2
    omega
  have t1 : Nm.tsize z1 ≤ 4096 := (Nm.tsize_le_iff a1.2.2.2.2 4096).2 (by rw [hV1]; omega)
  have t2 : Nm.tsize z2 ≤ 4096 := (Nm.tsize_le_iff a2.2.2.2.2 4096).2 (by rw [hV2]; omega)
  have M1 : Hid (∀ wx : World, Below w.heap.size w wx → Calls Tryd.prog 34 #[.slice p1 l1 c1, .slice p2 l2 c2] wx fun e w' => ∃ r os, e = .returned (.tuple #[.slice r (List.length os) (List.length os), .int .i64 0]) ∧ Ans wx.heap.size w' r os (V1 * V2) ∧ Below wx.heap.size wx w') := by
    intro wx hx
    have := mul_ok p1 p2 l1 c1 l2 c2 z1 z2 wx (a1.below hx (Nat.le_refl _)) (a2.below hx (Nat.le_refl _)) t1 t2 (by rw [hV1, hV2]; omega)
    rw [hV1, hV2] at this
    exact this
  have B0 := Box.new w (.bool n1) (.slice p1 l1 c1) (.int .i64 e1) (.bool m1) (.bool n2) (.slice p2 l2 c2) (.int .i64 e2) (.bool m2)
  clear hV1 hV2 b1 b2 a1 a2 v1 v2 big b60 pr t1 t2 e4096
  have TT : Hid (∀ (e : Ending) (w' : World), (∃ p os, e = .returned (exactOf (n1 != n2) p (List.length os) (List.length os) (e1 + e2) false) ∧ Ans w.heap.size w' p os (V1 * V2) ∧ Below w.heap.size w w') → TimesTold n1 V1 e1 n2 V2 e2 w e w') := fun _ _ h => h
  generalize V1 * V2 = X at *
  simp only [exactOf]
  go_enter Tryd.func67, Tryd.ntmps67
  go_wp2_with fail
  refine (M1.out _ B0.2.1).mono ?_
  rintro e wa ⟨r1, o1, rfl, A1, hB1⟩
  have Ba := B0.on hB1
  have s0 := B0.2.2
  have KF := tell4 (u0 := .bool (n1 != n2)) (u2 := .int .i64 (e1 + e2)) (u3 := .bool false) Ba ⟨A1.1, A1.2.1, A1.2.2.1, A1.2.2.2.1, fun a h => by have := A1.2.2.2.2 a h; omega⟩
  obtain ⟨⟨cx0, cx1, cx2⟩, ⟨cy0, cy1, cy2⟩, ⟨⟨r0, r1', r2', r3⟩, ⟨f0, f1, f2, f3⟩⟩⟩ := Ba.cells
  have RR := hid Ba.1.2.2
  have KK := hid KF
  clear KF A1 hB1 M1 Ba B0 s0
  go_wp2_with fail
  (try simp only [Exit.inBlock, Exit.then])
  refine bodyPost_ret (results_cell_row rfl _ _ (w.heap.size + 2) 69 _ (0, 0) _ rfl (Row4.set RR.out) Tryd.underlying69 rfl (by kernel_rfl)) rfl ?_
  exact TT.out _ _ ⟨r1, o1, rfl, KK.out⟩

set_option maxRecDepth 100000 in
set_option maxHeartbeats 4000000 in
theorem over_xany (n1 n2 m1 m2 : Bool) (p1 p2 : Option Addr) (l1 c1 l2 c2 : Nat) (z1 z2 : List Int) (e1 e2 V1 V2 : Int) (w : World) (a1 : Arg w p1 l1 c1 z1) (a2 : Arg w p2 l2 c2 z2) (hV1 : Nm.val z1 = V1) (hV2 : Nm.val z2 = V2) (b1 : V1 < 2 ^ 60) (b2 : V2 < 2 ^ 60) (d0 : 0 < V2)
    (q1 : -1100 ≤ e1) (q2 : e1 ≤ 1000) (q3 : -1100 ≤ e2) (q4 : e2 ≤ 1000) :
    Calls Tryd.prog 68 #[exactOf n1 p1 l1 c1 e1 m1, exactOf n2 p2 l2 c2 e2 m2] w fun e w' => OverTold n1 V1 e1 n2 V2 e2 w e w' := by
  have v1 : 0 ≤ V1 := by rw [← hV1]; exact (Nm.val_bd z1 a1.2.2.2.2).1
  have e4096 := pw_4096
  have big := Nm.two_mono (show 188 ≤ 262144 by omega)
  have b60 := Nm.two_mono (show 60 ≤ 188 by omega)
  have pr : V1 * 2 ^ 128 < 2 ^ 188 := by
    have h2 : V1 * 2 ^ 128 < 2 ^ 60 * 2 ^ 128 := Int.mul_lt_mul_of_pos_right b1 (Nm.two_pos 128)
    rw [← Nm.two_add] at h2
    exact h2
  have t1 : Nm.tsize z1 ≤ 4096 := (Nm.tsize_le_iff a1.2.2.2.2 4096).2 (by rw [hV1]; omega)
  have t2 : Nm.tsize z2 ≤ 4096 := (Nm.tsize_le_iff a2.2.2.2.2 4096).2 (by rw [hV2]; omega)
  have t3 : 0 < Nm.tsize z2 := tsize_pos a2.2.2.2.2 (by rw [hV2]; exact d0)
  have S1 : Hid (∀ (wx : World), Below w.heap.size w wx → Calls Tryd.prog 36 #[.slice p1 l1 c1, .int .i64 128] wx fun e w' => ∃ r os, e = .returned (.tuple #[.slice r (List.length os) (List.length os), .int .i64 0]) ∧ Ans wx.heap.size w' r os (V1 * 2 ^ 128) ∧ Below wx.heap.size wx w') := by
    intro wx hx
    have := shl_any p1 l1 c1 z1 128 128 wx (a1.below hx (Nat.le_refl _)) t1 (by omega) (by rw [hV1]; omega)
    rw [hV1] at this
    exact this
  have D1 : Hid (∀ (wx : World) (r : Option Addr) (os : List Int) (B : Nat), Below w.heap.size w wx → Ans B wx r os (V1 * 2 ^ 128) → Calls Tryd.prog 81 #[.slice r os.length os.length, .slice p2 l2 c2] wx fun e w' => ∃ (s : Option Addr) (qs : List Int) (t : Option Addr) (rs : List Int), e = .returned (.tuple #[.slice s (List.length qs) (List.length qs), .slice t (List.length rs) (List.length rs), .int .i64 0]) ∧ Ans wx.heap.size w' s qs (V1 * 2 ^ 128 / V2) ∧ decide (0 < List.length rs) = decide (V1 * 2 ^ 128 % V2 ≠ 0) ∧ Below wx.heap.size wx w') := by
    intro wx r os B hx A
    obtain ⟨g1, g2, g3⟩ := A.tl pr (by omega)
    have := divMod_ok r p2 _ _ l2 c2 os z2 wx (A.arg (by omega)) (a2.below hx (Nat.le_refl _)) g1 t2 t3
    rw [A.2.2.2.1, hV2] at this
    refine this.mono ?_
    rintro e w' ⟨s, qs, t, rs, rfl, A1, A2, hB⟩
    refine ⟨s, qs, t, rs, rfl, A1, ?_, hB⟩
    have h1 := Nm.tsize_zero_iff A2.2.1
    rw [A2.2.2.1, A2.2.2.2.1] at h1
    rw [Bool.eq_iff_iff]
    simp only [decide_eq_true_eq]
    omega
  have B0 := Box.new w (.bool n1) (.slice p1 l1 c1) (.int .i64 e1) (.bool m1) (.bool n2) (.slice p2 l2 c2) (.int .i64 e2) (.bool m2)
  have TT : Hid (∀ (e : Ending) (w' : World), (∃ p os, e = .returned (exactOf (n1 != n2) p (List.length os) (List.length os) (e1 - 128 - e2) (decide (V1 * 2 ^ 128 % V2 ≠ 0))) ∧ Ans w.heap.size w' p os (V1 * 2 ^ 128 / V2) ∧ Below w.heap.size w w') → OverTold n1 V1 e1 n2 V2 e2 w e w') := fun _ _ h => h
  clear hV1 hV2 b1 b2 a1 a2 v1 big b60 pr t1 t2 t3 e4096 d0
  generalize decide (V1 * 2 ^ 128 % V2 ≠ 0) = more at *
  generalize V1 * 2 ^ 128 / V2 = Q at *
  generalize V1 * 2 ^ 128 = X at *
  simp only [exactOf]
  go_enter Tryd.func68, Tryd.ntmps68
  go_wp2_with fail
  refine (S1.out _ B0.2.1).mono ?_
  rintro e wa ⟨r1, o1, rfl, A1, hB1⟩
  have Ba := B0.on hB1
  have s0 := B0.2.2
  obtain ⟨⟨cx0, cx1, cx2⟩, ⟨cy0, cy1, cy2⟩, -⟩ := Ba.cells
  have D2 := hid (D1.out wa r1 o1 _ Ba.2.1 A1)
  have BB := hid Ba
  clear A1 hB1 S1 D1 Ba B0 s0
  go_wp2_with fail
  refine D2.out.mono ?_
  rintro e wb ⟨s, qs, t, rs, rfl, A2, hr, hB2⟩
  have Bb := BB.out.on hB2
  have s1 := BB.out.2.2
  have KF := tell4 (u0 := .bool (n1 != n2)) (u2 := .int .i64 (e1 - 128 - e2)) (u3 := .bool more) Bb ⟨A2.1, A2.2.1, A2.2.2.1, A2.2.2.2.1, fun a h => by have := A2.2.2.2.2 a h; omega⟩
  clear cx0 cx1 cx2 cy0 cy1 cy2
  obtain ⟨⟨cx0, cx1, cx2⟩, ⟨cy0, cy1, cy2⟩, ⟨⟨r0, r1', r2', r3⟩, ⟨f0, f1, f2, f3⟩⟩⟩ := Bb.cells
  have RR := hid Bb.1.2.2
  have KK := hid KF
  clear KF A2 hB2 D2 BB Bb s1
  go_wp2_with fail
  (try simp only [Exit.inBlock, Exit.then])
  refine bodyPost_ret (results_cell_row rfl _ _ (w.heap.size + 2) 69 _ (0, 0) _ rfl (Row4.set RR.out) Tryd.underlying69 rfl (by kernel_rfl)) rfl ?_
  exact TT.out _ _ ⟨s, qs, rfl, KK.out⟩
end Go.Proofs.YtjebdobopechfabDoor

/-
  soft: zero, sign (made by mkmul.py).
-/
namespace Go.Proofs.YtjebdobopechfabDoor
open Go Go.RowKit Go.Deep

theorem Ie.sign_two (a b : Int) (a0 : 0 ≤ a) (a1 : a < 18446744073709551616) (b0 : 0 ≤ b) (b1 : b < 18446744073709551616) : bits .and .u64 (bits .xor .u64 a b) 9223372036854775808 = Ie.sb (Ie.ngd a != Ie.ngd b) 0 := by
  obtain ⟨x, rfl⟩ := Int.eq_ofNat_of_zero_le a0
  obtain ⟨y, rfl⟩ := Int.eq_ofNat_of_zero_le b0
  have h := u64_xor_nat x y (by omega) (by omega)
  have hl : x ^^^ y < 2 ^ 64 := Nat.xor_lt_two_pow (by omega) (by omega)
  have hd : (x ^^^ y) / 2 ^ 63 = x / 2 ^ 63 ^^^ y / 2 ^ 63 := Nat.xor_div_two_pow
  rw [show (2 : Nat) ^ 63 = 9223372036854775808 from rfl] at hd
  rw [h]
  have g := Ib.sign_and ((x ^^^ y : Nat) : Int) (by omega) (by omega)
  rw [g]
  rcases (show x / 9223372036854775808 = 0 ∨ x / 9223372036854775808 = 1 by omega) with hx | hx <;> rcases (show y / 9223372036854775808 = 0 ∨ y / 9223372036854775808 = 1 by omega) with hy | hy <;> rw [hx, hy] at hd <;> rw [Ie.ngd, Ie.ngd]
  · rw [decide_eq_false (by omega), decide_eq_false (by omega)]
    have : (x ^^^ y) / 9223372036854775808 = 0 := hd
    simp only [Ie.sb, bne_self_eq_false, Bool.false_eq_true, if_false]; omega
  · rw [decide_eq_false (by omega), decide_eq_true (by omega)]
    have : (x ^^^ y) / 9223372036854775808 = 1 := hd
    simp only [Ie.sb, show (false != true) = true from rfl, if_true]; omega
  · rw [decide_eq_true (by omega), decide_eq_false (by omega)]
    have : (x ^^^ y) / 9223372036854775808 = 1 := hd
    simp only [Ie.sb, show (true != false) = true from rfl, if_true]; omega
  · rw [decide_eq_true (by omega), decide_eq_true (by omega)]
    have : (x ^^^ y) / 9223372036854775808 = 0 := hd
    simp only [Ie.sb, bne_self_eq_false, Bool.false_eq_true, if_false]; omega

theorem Ie.inf_or (n : Bool) : bits .or .u64 9218868437227405312 (Ie.sb n 0) = Ie.sb n 9218868437227405312 := by cases n <;> decide

set_option maxRecDepth 100000 in
theorem zero_any (d : Int) (w : World) (h0 : 0 ≤ d) (h1 : d < 18446744073709551616) :
    Calls Tryd.prog 55 #[.int .u64 d] w fun e w' => e = .returned (.bool (Ie.isz d)) ∧ w' = w := by
  have CL := hid (class_any d w h0 h1)
  have E := hid (Ie.isz_cls d)
  generalize Ie.cls d = c at CL E
  go_enter Tryd.func55, Tryd.ntmps55
  go_wp2_with fail
  refine CL.out.mono ?_
  rintro e w' ⟨rfl, rfl⟩
  go_wp2_with fail
  go_ret
  exact ⟨by rw [E.out]; rfl, rfl⟩

set_option maxRecDepth 100000 in
theorem softSign_any (a b : Int) (w : World) (a0 : 0 ≤ a) (a1 : a < 18446744073709551616) (b0 : 0 ≤ b) (b1 : b < 18446744073709551616) :
    Calls Tryd.prog 66 #[.int .u64 a, .int .u64 b] w fun e w' => e = .returned (.int .u64 (Ie.sb (Ie.ngd a != Ie.ngd b) 0)) ∧ w' = w := by
  have E := Ie.sign_two a b a0 a1 b0 b1
  generalize Ie.sb (Ie.ngd a != Ie.ngd b) 0 = s at E
  go_enter Tryd.func66, Tryd.ntmps66
  go_wp2
  go_ret
  exact ⟨rfl, rfl⟩

namespace Ie
/-- What mul answers. -/
def MulIs (a b r f : Int) : Prop :=
  if isn a = true ∨ isn b = true then r = 9221120237041090560 ∧ f = 0
  else if (isi a = true ∧ isz b = true) ∨ (isz a = true ∧ isi b = true) then r = 9221120237041090560 ∧ f = 1
  else if isi a = true ∨ isi b = true then r = sb (ngd a != ngd b) 9218868437227405312 ∧ f = 0
  else Res (ngd a != ngd b) (dm a * dm b) (de a + de b) false r f

/-- What div answers. -/
def DivIs (a b r f : Int) : Prop :=
  if isn a = true ∨ isn b = true then r = 9221120237041090560 ∧ f = 0
  else if (isi a = true ∧ isi b = true) ∨ (isz a = true ∧ isz b = true) then r = 9221120237041090560 ∧ f = 1
  else if isi a = true then r = sb (ngd a != ngd b) 9218868437227405312 ∧ f = 0
  else if isi b = true then r = sb (ngd a != ngd b) 0 ∧ f = 0
  else if isz b = true then r = sb (ngd a != ngd b) 9218868437227405312 ∧ f = 2
  else Res (ngd a != ngd b) (dm a * 2 ^ 128 / dm b) (de a - 128 - de b) (decide (dm a * 2 ^ 128 % dm b ≠ 0)) r f

theorem not_iz {d : Int} (h : isi d = true) : isz d = false := by
  rw [isi, decide_eq_true_eq] at h
  rw [isz, h]; rfl
end Ie
end Go.Proofs.YtjebdobopechfabDoor

/-
  soft: div (made by mkmul.py).
-/
namespace Go.Proofs.YtjebdobopechfabDoor
open Go Go.RowKit Go.Deep

set_option maxRecDepth 100000 in
set_option maxHeartbeats 4000000 in
theorem div_fin (a b : Int) (w : World) (a0 : 0 ≤ a) (a1 : a < 18446744073709551616) (b0 : 0 ≤ b) (b1 : b < 18446744073709551616) (hT : Tab w) (na : Ie.isn a = false) (ia : Ie.isi a = false) (nb : Ie.isn b = false) (ib : Ie.isi b = false) (zb : Ie.isz b = false) :
    Calls Tryd.prog 49 #[.int .u64 a, .int .u64 b] w fun e w' => Told2 (Ie.DivIs a b) w e w' := by
  have fa := Ie.fin_of na ia
  have fb := Ie.fin_of nb ib
  have FI : Hid (∀ (r f : Int), Ie.Res (Ie.ngd a != Ie.ngd b) (Ie.dm a * 2 ^ 128 / Ie.dm b) (Ie.de a - 128 - Ie.de b) (decide (Ie.dm a * 2 ^ 128 % Ie.dm b ≠ 0)) r f → Ie.DivIs a b r f) := by
    intro r f h2
    rw [Ie.DivIs, na, nb, ia, ib, zb]
    simp only [Bool.false_eq_true, or_self, and_false, if_false]
    exact h2
  have NA := hid (fun (wx : World) => nan_any a wx a0 a1)
  rw [na] at NA
  have NB := hid (fun (wx : World) => nan_any b wx b0 b1)
  rw [nb] at NB
  have IA := hid (fun (wx : World) => infinite_any a wx a0 a1)
  rw [ia] at IA
  have IB := hid (fun (wx : World) => infinite_any b wx b0 b1)
  rw [ib] at IB
  have ZA := hid (fun (wx : World) => zero_any a wx a0 a1)
  have ZB := hid (fun (wx : World) => zero_any b wx b0 b1)
  rw [zb] at ZB
  obtain ⟨⟨da0, da1⟩, ⟨ea0, ea1⟩, -, -⟩ := Ie.dec_f a fa
  obtain ⟨⟨db0, db1⟩, ⟨eb0, eb1⟩, -, dbz⟩ := Ie.dec_f b fb
  have e60 : (2 : Int) ^ 60 = 1152921504606846976 := by decide
  have da2 : Ie.dm a < 2 ^ 60 := by omega
  have db2 : Ie.dm b < 2 ^ 60 := by omega
  have d0 : 0 < Ie.dm b := by
    rw [Ie.isz, decide_eq_false_iff_not] at zb
    omega
  have UA := hid (fun (wx : World) => number_any a wx a0 a1 fa)
  have UB := hid (fun (wx : World) => number_any b wx b0 b1 fb)
  have HT := hid hT
  have RU : Hid (∀ (w2 : World) (pa pb : Option Addr) (oa ob : List Int) (B B' : Nat), Ans B w2 pa oa (Ie.dm a) → Ans B' w2 pb ob (Ie.dm b) → Calls Tryd.prog 68 #[exactOf (Ie.ngd a) pa oa.length oa.length (Ie.de a) false, exactOf (Ie.ngd b) pb ob.length ob.length (Ie.de b) false] w2 fun e w' => ∃ p os, e = .returned (exactOf (Ie.ngd a != Ie.ngd b) p (List.length os) (List.length os) (Ie.de a - 128 - Ie.de b) (decide (Ie.dm a * 2 ^ 128 % Ie.dm b ≠ 0))) ∧ Ans w2.heap.size w' p os (Ie.dm a * 2 ^ 128 / Ie.dm b) ∧ Below w2.heap.size w2 w') := by
    intro w2 pa pb oa ob B B' A1 A2
    exact over_xany _ _ _ _ _ _ _ _ _ _ oa ob _ _ _ _ w2 (A1.arg (by have := A1.tl da2 (show 60 ≤ 262144 by omega); omega)) (A2.arg (by have := A2.tl db2 (show 60 ≤ 262144 by omega); omega)) A1.2.2.2.1 A2.2.2.2.1 da2 db2 d0 (by omega) (by omega) (by omega) (by omega)
  have vb : Ie.dm a * 2 ^ 128 / Ie.dm b < 2 ^ 5000 := by
    have h1 : Ie.dm a * 2 ^ 128 / Ie.dm b ≤ Ie.dm a * 2 ^ 128 := Int.ediv_le_self _ (Int.mul_nonneg da0 (by have := Nm.two_pos 128; omega))
    have h2 : Ie.dm a * 2 ^ 128 < 2 ^ 60 * 2 ^ 128 := Int.mul_lt_mul_of_pos_right da2 (Nm.two_pos 128)
    rw [← Nm.two_add] at h2
    have := Nm.two_mono (show 60 + 128 ≤ 5000 by omega)
    omega
  have RO : Hid (∀ (w3 : World) (p : Option Addr) (os : List Int) (B : Nat), Below w.heap.size w w3 → Ans B w3 p os (Ie.dm a * 2 ^ 128 / Ie.dm b) → Calls Tryd.prog 58 #[exactOf (Ie.ngd a != Ie.ngd b) p os.length os.length (Ie.de a - 128 - Ie.de b) (decide (Ie.dm a * 2 ^ 128 % Ie.dm b ≠ 0))] w3 fun r w' => RoundedTold (Ie.ngd a != Ie.ngd b) (Ie.dm a * 2 ^ 128 / Ie.dm b) (Ie.de a - 128 - Ie.de b) (decide (Ie.dm a * 2 ^ 128 % Ie.dm b ≠ 0)) w3 r w') := by
    intro w3 p os B hB A
    exact rounded_any _ _ p _ _ os _ _ w3 (A.arg (by have := A.tl vb (show 5000 ≤ 262144 by omega); omega)) (HT.out.below hB) A.2.2.2.1 A.len0 vb (by omega) (by omega)
  cases hza : Ie.isz a <;> rw [hza] at ZA
  · clear fa fb na nb ia ib hT da0 da1 ea0 ea1 db0 db1 eb0 eb1 dbz e60 da2 db2 vb HT hza d0 zb
    generalize hV : Ie.dm a * 2 ^ 128 / Ie.dm b = V at *
    generalize hE : Ie.de a - 128 - Ie.de b = E at *
    generalize hM : decide (Ie.dm a * 2 ^ 128 % Ie.dm b ≠ 0) = M at *
    clear hV hE hM
    go_enter Tryd.func49, Tryd.ntmps49
    go_wp2_with fail
    refine (NA.out _).mono ?_
    rintro e wz ⟨rfl, hz⟩
    replace hz := hz.symm
    subst hz
    go_wp2_with fail
    refine (NB.out _).mono ?_
    rintro e wz ⟨rfl, hz⟩
    replace hz := hz.symm
    subst hz
    go_wp2_with fail
    refine (IA.out _).mono ?_
    rintro e wz ⟨rfl, hz⟩
    replace hz := hz.symm
    subst hz
    go_wp2_with fail
    refine (ZA.out _).mono ?_
    rintro e wz ⟨rfl, hz⟩
    replace hz := hz.symm
    subst hz
    go_wp2_with fail
    refine (IA.out _).mono ?_
    rintro e wz ⟨rfl, hz⟩
    replace hz := hz.symm
    subst hz
    go_wp2_with fail
    refine (IB.out _).mono ?_
    rintro e wz ⟨rfl, hz⟩
    replace hz := hz.symm
    subst hz
    go_wp2_with fail
    refine (ZB.out _).mono ?_
    rintro e wz ⟨rfl, hz⟩
    replace hz := hz.symm
    subst hz
    go_wp2_with fail
    refine (UA.out _).mono ?_
    rintro e w1 ⟨pa, oa, rfl, A1, hB1⟩
    have H1 := hid (And.intro A1 hB1)
    clear A1 hB1
    simp only [exactOf]
    go_wp2_with fail
    refine (UB.out _).mono ?_
    rintro e w2 ⟨pb, ob, rfl, A2, hB2⟩
    have A1 := H1.out.1.below hB2 (Nat.le_refl _)
    have Bw := H1.out.2.trans (hB2.mono H1.out.2.size)
    have PL := hid (RU.out w2 pa pb oa ob _ _ A1 A2)
    have HB := hid Bw
    simp only [exactOf] at PL ⊢
    clear A1 A2 hB2 Bw H1 RU
    go_wp2_with fail
    refine PL.out.mono ?_
    rintro e w3 ⟨p, os, rfl, A3, hB3⟩
    have Bw := HB.out.trans (hB3.mono HB.out.size)
    have RR := hid (RO.out w3 p os _ Bw A3)
    have HC := hid Bw
    simp only [exactOf] at RR ⊢
    clear A3 hB3 Bw RO PL HB
    go_wp2_with fail
    refine RR.out.mono ?_
    rintro e w4 ⟨d, t, L, rfl, h1, h2, h3, hB4⟩
    have KK : Hid (Told2 (Ie.DivIs a b) w (.returned (.tuple #[.int .u64 (Ie.sg (Ie.ngd a != Ie.ngd b) d), .int .i64 (Ie.flg V E M (Ie.sg (Ie.ngd a != Ie.ngd b) d) t L)])) w4) :=
      ⟨_, _, rfl, FI.out _ _ ⟨d, t, L, rfl, rfl, h1, h2, h3⟩, HC.out.trans (hB4.mono HC.out.size)⟩
    clear h1 h2 h3 hB4 HC RR FI
    go_wp2_with fail
    go_ret2
    exact KK.out
  · clear fa fb na nb ia ib hT da0 da1 ea0 ea1 db0 db1 eb0 eb1 dbz e60 da2 db2 vb HT hza d0 zb
    generalize hV : Ie.dm a * 2 ^ 128 / Ie.dm b = V at *
    generalize hE : Ie.de a - 128 - Ie.de b = E at *
    generalize hM : decide (Ie.dm a * 2 ^ 128 % Ie.dm b ≠ 0) = M at *
    clear hV hE hM
    go_enter Tryd.func49, Tryd.ntmps49
    go_wp2_with fail
    refine (NA.out _).mono ?_
    rintro e wz ⟨rfl, hz⟩
    replace hz := hz.symm
    subst hz
    go_wp2_with fail
    refine (NB.out _).mono ?_
    rintro e wz ⟨rfl, hz⟩
    replace hz := hz.symm
    subst hz
    go_wp2_with fail
    refine (IA.out _).mono ?_
    rintro e wz ⟨rfl, hz⟩
    replace hz := hz.symm
    subst hz
    go_wp2_with fail
    refine (ZA.out _).mono ?_
    rintro e wz ⟨rfl, hz⟩
    replace hz := hz.symm
    subst hz
    go_wp2_with fail
    refine (ZB.out _).mono ?_
    rintro e wz ⟨rfl, hz⟩
    replace hz := hz.symm
    subst hz
    go_wp2_with fail
    refine (IA.out _).mono ?_
    rintro e wz ⟨rfl, hz⟩
    replace hz := hz.symm
    subst hz
    go_wp2_with fail
    refine (IB.out _).mono ?_
    rintro e wz ⟨rfl, hz⟩
    replace hz := hz.symm
    subst hz
    go_wp2_with fail
    refine (ZB.out _).mono ?_
    rintro e wz ⟨rfl, hz⟩
    replace hz := hz.symm
    subst hz
    go_wp2_with fail
    refine (UA.out _).mono ?_
    rintro e w1 ⟨pa, oa, rfl, A1, hB1⟩
    have H1 := hid (And.intro A1 hB1)
    clear A1 hB1
    simp only [exactOf]
    go_wp2_with fail
    refine (UB.out _).mono ?_
    rintro e w2 ⟨pb, ob, rfl, A2, hB2⟩
    have A1 := H1.out.1.below hB2 (Nat.le_refl _)
    have Bw := H1.out.2.trans (hB2.mono H1.out.2.size)
    have PL := hid (RU.out w2 pa pb oa ob _ _ A1 A2)
    have HB := hid Bw
    simp only [exactOf] at PL ⊢
    clear A1 A2 hB2 Bw H1 RU
    go_wp2_with fail
    refine PL.out.mono ?_
    rintro e w3 ⟨p, os, rfl, A3, hB3⟩
    have Bw := HB.out.trans (hB3.mono HB.out.size)
    have RR := hid (RO.out w3 p os _ Bw A3)
    have HC := hid Bw
    simp only [exactOf] at RR ⊢
    clear A3 hB3 Bw RO PL HB
    go_wp2_with fail
    refine RR.out.mono ?_
    rintro e w4 ⟨d, t, L, rfl, h1, h2, h3, hB4⟩
    have KK : Hid (Told2 (Ie.DivIs a b) w (.returned (.tuple #[.int .u64 (Ie.sg (Ie.ngd a != Ie.ngd b) d), .int .i64 (Ie.flg V E M (Ie.sg (Ie.ngd a != Ie.ngd b) d) t L)])) w4) :=
      ⟨_, _, rfl, FI.out _ _ ⟨d, t, L, rfl, rfl, h1, h2, h3⟩, HC.out.trans (hB4.mono HC.out.size)⟩
    clear h1 h2 h3 hB4 HC RR FI
    go_wp2_with fail
    go_ret2
    exact KK.out

set_option maxRecDepth 100000 in
set_option maxHeartbeats 4000000 in
theorem div_any (a b : Int) (w : World) (a0 : 0 ≤ a) (a1 : a < 18446744073709551616) (b0 : 0 ≤ b) (b1 : b < 18446744073709551616) (hT : Tab w) :
    Calls Tryd.prog 49 #[.int .u64 a, .int .u64 b] w fun e w' => Told2 (Ie.DivIs a b) w e w' := by
  have NA := hid (fun (wx : World) => nan_any a wx a0 a1)
  have NB := hid (fun (wx : World) => nan_any b wx b0 b1)
  have IA := hid (fun (wx : World) => infinite_any a wx a0 a1)
  have IB := hid (fun (wx : World) => infinite_any b wx b0 b1)
  have ZA := hid (fun (wx : World) => zero_any a wx a0 a1)
  have ZB := hid (fun (wx : World) => zero_any b wx b0 b1)
  have SG := hid (fun (wx : World) => softSign_any a b wx a0 a1 b0 b1)
  have OR := Ie.inf_or (Ie.ngd a != Ie.ngd b)
  have KK : Hid (∀ (e : Ending) (r f : Int), e = .returned (.tuple #[.int .u64 r, .int .i64 f]) → Ie.DivIs a b r f → Told2 (Ie.DivIs a b) w e w) := fun e r f h1 h2 => ⟨r, f, h1, h2, Below.refl _ _⟩
  cases na : Ie.isn a
  · cases nb : Ie.isn b
    · cases ia : Ie.isi a
      · cases ib : Ie.isi b
        · skip
          cases za : Ie.isz a
          · skip
            cases zb : Ie.isz b
            · skip
              exact div_fin a b w a0 a1 b0 b1 hT na ia nb ib zb
            · skip
              have SP : Hid (Ie.DivIs a b (Ie.sb (Ie.ngd a != Ie.ngd b) 9218868437227405312) 2) := by rw [Hid, Ie.DivIs, na, nb, ia, ib, za, zb]; simp
              rw [na] at NA
              rw [nb] at NB
              rw [ia] at IA
              rw [ib] at IB
              rw [za] at ZA
              rw [zb] at ZB
              clear na nb ia ib hT za zb
              generalize hI : Ie.sb (Ie.ngd a != Ie.ngd b) 9218868437227405312 = sI at *
              generalize hO : Ie.sb (Ie.ngd a != Ie.ngd b) 0 = sO at *
              clear hI hO
              go_enter Tryd.func49, Tryd.ntmps49
              go_wp2_with fail
              refine (NA.out _).mono ?_
              rintro e wz ⟨rfl, hz⟩
              replace hz := hz.symm
              subst hz
              go_wp2_with fail
              refine (NB.out _).mono ?_
              rintro e wz ⟨rfl, hz⟩
              replace hz := hz.symm
              subst hz
              go_wp2_with fail
              refine (IA.out _).mono ?_
              rintro e wz ⟨rfl, hz⟩
              replace hz := hz.symm
              subst hz
              go_wp2_with fail
              refine (ZA.out _).mono ?_
              rintro e wz ⟨rfl, hz⟩
              replace hz := hz.symm
              subst hz
              go_wp2_with fail
              refine (IA.out _).mono ?_
              rintro e wz ⟨rfl, hz⟩
              replace hz := hz.symm
              subst hz
              go_wp2_with fail
              refine (IB.out _).mono ?_
              rintro e wz ⟨rfl, hz⟩
              replace hz := hz.symm
              subst hz
              go_wp2_with fail
              refine (ZB.out _).mono ?_
              rintro e wz ⟨rfl, hz⟩
              replace hz := hz.symm
              subst hz
              go_wp2_with fail
              refine (SG.out _).mono ?_
              rintro e wz ⟨rfl, hz⟩
              replace hz := hz.symm
              subst hz
              go_wp2_with fail
              go_ret2
              exact KK.out _ _ _ rfl SP.out
          · skip
            cases zb : Ie.isz b
            · skip
              exact div_fin a b w a0 a1 b0 b1 hT na ia nb ib zb
            · skip
              have SP : Hid (Ie.DivIs a b 9221120237041090560 1) := by rw [Hid, Ie.DivIs, na, nb, ia, ib, za, zb]; simp
              rw [na] at NA
              rw [nb] at NB
              rw [ia] at IA
              rw [ib] at IB
              rw [za] at ZA
              rw [zb] at ZB
              clear na nb ia ib hT za zb
              go_enter Tryd.func49, Tryd.ntmps49
              go_wp2_with fail
              refine (NA.out _).mono ?_
              rintro e wz ⟨rfl, hz⟩
              replace hz := hz.symm
              subst hz
              go_wp2_with fail
              refine (NB.out _).mono ?_
              rintro e wz ⟨rfl, hz⟩
              replace hz := hz.symm
              subst hz
              go_wp2_with fail
              refine (IA.out _).mono ?_
              rintro e wz ⟨rfl, hz⟩
              replace hz := hz.symm
              subst hz
              go_wp2_with fail
              refine (ZA.out _).mono ?_
              rintro e wz ⟨rfl, hz⟩
              replace hz := hz.symm
              subst hz
              go_wp2_with fail
              refine (ZB.out _).mono ?_
              rintro e wz ⟨rfl, hz⟩
              replace hz := hz.symm
              subst hz
              go_wp2_with fail
              go_ret2
              exact KK.out _ _ _ rfl SP.out
        · skip
          cases za : Ie.isz a
          · skip
            have zb := Ie.not_iz ib
            have SP : Hid (Ie.DivIs a b (Ie.sb (Ie.ngd a != Ie.ngd b) 0) 0) := by rw [Hid, Ie.DivIs, na, nb, ia, ib, za, zb]; simp
            rw [na] at NA
            rw [nb] at NB
            rw [ia] at IA
            rw [ib] at IB
            rw [za] at ZA
            rw [zb] at ZB
            clear na nb ia ib hT za zb
            generalize hI : Ie.sb (Ie.ngd a != Ie.ngd b) 9218868437227405312 = sI at *
            generalize hO : Ie.sb (Ie.ngd a != Ie.ngd b) 0 = sO at *
            clear hI hO
            go_enter Tryd.func49, Tryd.ntmps49
            go_wp2_with fail
            refine (NA.out _).mono ?_
            rintro e wz ⟨rfl, hz⟩
            replace hz := hz.symm
            subst hz
            go_wp2_with fail
            refine (NB.out _).mono ?_
            rintro e wz ⟨rfl, hz⟩
            replace hz := hz.symm
            subst hz
            go_wp2_with fail
            refine (IA.out _).mono ?_
            rintro e wz ⟨rfl, hz⟩
            replace hz := hz.symm
            subst hz
            go_wp2_with fail
            refine (ZA.out _).mono ?_
            rintro e wz ⟨rfl, hz⟩
            replace hz := hz.symm
            subst hz
            go_wp2_with fail
            refine (IA.out _).mono ?_
            rintro e wz ⟨rfl, hz⟩
            replace hz := hz.symm
            subst hz
            go_wp2_with fail
            refine (IB.out _).mono ?_
            rintro e wz ⟨rfl, hz⟩
            replace hz := hz.symm
            subst hz
            go_wp2_with fail
            refine (SG.out _).mono ?_
            rintro e wz ⟨rfl, hz⟩
            replace hz := hz.symm
            subst hz
            go_wp2_with fail
            go_ret2
            exact KK.out _ _ _ rfl SP.out
          · skip
            have zb := Ie.not_iz ib
            have SP : Hid (Ie.DivIs a b (Ie.sb (Ie.ngd a != Ie.ngd b) 0) 0) := by rw [Hid, Ie.DivIs, na, nb, ia, ib, za, zb]; simp
            rw [na] at NA
            rw [nb] at NB
            rw [ia] at IA
            rw [ib] at IB
            rw [za] at ZA
            rw [zb] at ZB
            clear na nb ia ib hT za zb
            generalize hI : Ie.sb (Ie.ngd a != Ie.ngd b) 9218868437227405312 = sI at *
            generalize hO : Ie.sb (Ie.ngd a != Ie.ngd b) 0 = sO at *
            clear hI hO
            go_enter Tryd.func49, Tryd.ntmps49
            go_wp2_with fail
            refine (NA.out _).mono ?_
            rintro e wz ⟨rfl, hz⟩
            replace hz := hz.symm
            subst hz
            go_wp2_with fail
            refine (NB.out _).mono ?_
            rintro e wz ⟨rfl, hz⟩
            replace hz := hz.symm
            subst hz
            go_wp2_with fail
            refine (IA.out _).mono ?_
            rintro e wz ⟨rfl, hz⟩
            replace hz := hz.symm
            subst hz
            go_wp2_with fail
            refine (ZA.out _).mono ?_
            rintro e wz ⟨rfl, hz⟩
            replace hz := hz.symm
            subst hz
            go_wp2_with fail
            refine (ZB.out _).mono ?_
            rintro e wz ⟨rfl, hz⟩
            replace hz := hz.symm
            subst hz
            go_wp2_with fail
            refine (IA.out _).mono ?_
            rintro e wz ⟨rfl, hz⟩
            replace hz := hz.symm
            subst hz
            go_wp2_with fail
            refine (IB.out _).mono ?_
            rintro e wz ⟨rfl, hz⟩
            replace hz := hz.symm
            subst hz
            go_wp2_with fail
            refine (SG.out _).mono ?_
            rintro e wz ⟨rfl, hz⟩
            replace hz := hz.symm
            subst hz
            go_wp2_with fail
            go_ret2
            exact KK.out _ _ _ rfl SP.out
      · cases ib : Ie.isi b
        · skip
          have za := Ie.not_iz ia
          cases zb : Ie.isz b
          · skip
            have SP : Hid (Ie.DivIs a b (Ie.sb (Ie.ngd a != Ie.ngd b) 9218868437227405312) 0) := by rw [Hid, Ie.DivIs, na, nb, ia, ib, za, zb]; simp
            rw [na] at NA
            rw [nb] at NB
            rw [ia] at IA
            rw [ib] at IB
            rw [za] at ZA
            rw [zb] at ZB
            clear na nb ia ib hT za zb
            generalize hI : Ie.sb (Ie.ngd a != Ie.ngd b) 9218868437227405312 = sI at *
            generalize hO : Ie.sb (Ie.ngd a != Ie.ngd b) 0 = sO at *
            clear hI hO
            go_enter Tryd.func49, Tryd.ntmps49
            go_wp2_with fail
            refine (NA.out _).mono ?_
            rintro e wz ⟨rfl, hz⟩
            replace hz := hz.symm
            subst hz
            go_wp2_with fail
            refine (NB.out _).mono ?_
            rintro e wz ⟨rfl, hz⟩
            replace hz := hz.symm
            subst hz
            go_wp2_with fail
            refine (IA.out _).mono ?_
            rintro e wz ⟨rfl, hz⟩
            replace hz := hz.symm
            subst hz
            go_wp2_with fail
            refine (IB.out _).mono ?_
            rintro e wz ⟨rfl, hz⟩
            replace hz := hz.symm
            subst hz
            go_wp2_with fail
            refine (ZA.out _).mono ?_
            rintro e wz ⟨rfl, hz⟩
            replace hz := hz.symm
            subst hz
            go_wp2_with fail
            refine (IA.out _).mono ?_
            rintro e wz ⟨rfl, hz⟩
            replace hz := hz.symm
            subst hz
            go_wp2_with fail
            refine (SG.out _).mono ?_
            rintro e wz ⟨rfl, hz⟩
            replace hz := hz.symm
            subst hz
            go_wp2_with fail
            go_ret2
            exact KK.out _ _ _ rfl SP.out
          · skip
            have SP : Hid (Ie.DivIs a b (Ie.sb (Ie.ngd a != Ie.ngd b) 9218868437227405312) 0) := by rw [Hid, Ie.DivIs, na, nb, ia, ib, za, zb]; simp
            rw [na] at NA
            rw [nb] at NB
            rw [ia] at IA
            rw [ib] at IB
            rw [za] at ZA
            rw [zb] at ZB
            clear na nb ia ib hT za zb
            generalize hI : Ie.sb (Ie.ngd a != Ie.ngd b) 9218868437227405312 = sI at *
            generalize hO : Ie.sb (Ie.ngd a != Ie.ngd b) 0 = sO at *
            clear hI hO
            go_enter Tryd.func49, Tryd.ntmps49
            go_wp2_with fail
            refine (NA.out _).mono ?_
            rintro e wz ⟨rfl, hz⟩
            replace hz := hz.symm
            subst hz
            go_wp2_with fail
            refine (NB.out _).mono ?_
            rintro e wz ⟨rfl, hz⟩
            replace hz := hz.symm
            subst hz
            go_wp2_with fail
            refine (IA.out _).mono ?_
            rintro e wz ⟨rfl, hz⟩
            replace hz := hz.symm
            subst hz
            go_wp2_with fail
            refine (IB.out _).mono ?_
            rintro e wz ⟨rfl, hz⟩
            replace hz := hz.symm
            subst hz
            go_wp2_with fail
            refine (ZA.out _).mono ?_
            rintro e wz ⟨rfl, hz⟩
            replace hz := hz.symm
            subst hz
            go_wp2_with fail
            refine (IA.out _).mono ?_
            rintro e wz ⟨rfl, hz⟩
            replace hz := hz.symm
            subst hz
            go_wp2_with fail
            refine (SG.out _).mono ?_
            rintro e wz ⟨rfl, hz⟩
            replace hz := hz.symm
            subst hz
            go_wp2_with fail
            go_ret2
            exact KK.out _ _ _ rfl SP.out
        · skip
          have za := Ie.not_iz ia
          have zb := Ie.not_iz ib
          have SP : Hid (Ie.DivIs a b 9221120237041090560 1) := by rw [Hid, Ie.DivIs, na, nb, ia, ib, za, zb]; simp
          rw [na] at NA
          rw [nb] at NB
          rw [ia] at IA
          rw [ib] at IB
          rw [za] at ZA
          rw [zb] at ZB
          clear na nb ia ib hT za zb
          go_enter Tryd.func49, Tryd.ntmps49
          go_wp2_with fail
          refine (NA.out _).mono ?_
          rintro e wz ⟨rfl, hz⟩
          replace hz := hz.symm
          subst hz
          go_wp2_with fail
          refine (NB.out _).mono ?_
          rintro e wz ⟨rfl, hz⟩
          replace hz := hz.symm
          subst hz
          go_wp2_with fail
          refine (IA.out _).mono ?_
          rintro e wz ⟨rfl, hz⟩
          replace hz := hz.symm
          subst hz
          go_wp2_with fail
          refine (IB.out _).mono ?_
          rintro e wz ⟨rfl, hz⟩
          replace hz := hz.symm
          subst hz
          go_wp2_with fail
          go_ret2
          exact KK.out _ _ _ rfl SP.out
    · have SP : Hid (Ie.DivIs a b 9221120237041090560 0) := by rw [Hid, Ie.DivIs, na, nb]; simp
      rw [na] at NA
      rw [nb] at NB
      clear na nb hT
      go_enter Tryd.func49, Tryd.ntmps49
      go_wp2_with fail
      refine (NA.out _).mono ?_
      rintro e wz ⟨rfl, hz⟩
      replace hz := hz.symm
      subst hz
      go_wp2_with fail
      refine (NB.out _).mono ?_
      rintro e wz ⟨rfl, hz⟩
      replace hz := hz.symm
      subst hz
      go_wp2_with fail
      go_ret2
      exact KK.out _ _ _ rfl SP.out
  · have SP : Hid (Ie.DivIs a b 9221120237041090560 0) := by rw [Hid, Ie.DivIs, na]; simp
    rw [na] at NA
    clear na hT
    go_enter Tryd.func49, Tryd.ntmps49
    go_wp2_with fail
    refine (NA.out _).mono ?_
    rintro e wz ⟨rfl, hz⟩
    replace hz := hz.symm
    subst hz
    go_wp2_with fail
    go_ret2
    exact KK.out _ _ _ rfl SP.out

set_option maxRecDepth 100000 in
set_option maxHeartbeats 4000000 in
theorem softDiv_any (a b : Int) (w : World) (a0 : 0 ≤ a) (a1 : a < 18446744073709551616) (b0 : 0 ≤ b) (b1 : b < 18446744073709551616) (hT : Tab w) :
    Calls Tryd.prog 28 #[.int .u64 a, .int .u64 b] w fun e w' => Told1 (Ie.DivIs a b) w e w' := by
  have AD := hid (div_any a b w a0 a1 b0 b1 hT)
  clear hT
  go_enter Tryd.func28, Tryd.ntmps28
  go_wp2_with fail
  refine AD.out.mono ?_
  rintro e w1 ⟨r, f, rfl, h, hB⟩
  have KK : Hid (Told1 (Ie.DivIs a b) w (.returned (.int .u64 r)) w1) := ⟨r, f, rfl, h, hB⟩
  clear h hB AD
  go_wp2_with fail
  go_ret
  exact KK.out

end Go.Proofs.YtjebdobopechfabDoor

/-
  soft: mul (made by mkmul.py).
-/
namespace Go.Proofs.YtjebdobopechfabDoor
open Go Go.RowKit Go.Deep

set_option maxRecDepth 100000 in
set_option maxHeartbeats 4000000 in
theorem mul_fin (a b : Int) (w : World) (a0 : 0 ≤ a) (a1 : a < 18446744073709551616) (b0 : 0 ≤ b) (b1 : b < 18446744073709551616) (hT : Tab w) (na : Ie.isn a = false) (ia : Ie.isi a = false) (nb : Ie.isn b = false) (ib : Ie.isi b = false) :
    Calls Tryd.prog 46 #[.int .u64 a, .int .u64 b] w fun e w' => Told2 (Ie.MulIs a b) w e w' := by
  have fa := Ie.fin_of na ia
  have fb := Ie.fin_of nb ib
  have FI : Hid (∀ (r f : Int), Ie.Res (Ie.ngd a != Ie.ngd b) (Ie.dm a * Ie.dm b) (Ie.de a + Ie.de b) false r f → Ie.MulIs a b r f) := by
    intro r f h2
    rw [Ie.MulIs, na, nb, ia, ib]
    simp only [Bool.false_eq_true, or_self, false_and, and_false, if_false]
    exact h2
  have NA := hid (fun (wx : World) => nan_any a wx a0 a1)
  rw [na] at NA
  have NB := hid (fun (wx : World) => nan_any b wx b0 b1)
  rw [nb] at NB
  have IA := hid (fun (wx : World) => infinite_any a wx a0 a1)
  rw [ia] at IA
  have IB := hid (fun (wx : World) => infinite_any b wx b0 b1)
  rw [ib] at IB
  have ZA := hid (fun (wx : World) => zero_any a wx a0 a1)
  have ZB := hid (fun (wx : World) => zero_any b wx b0 b1)
  obtain ⟨⟨da0, da1⟩, ⟨ea0, ea1⟩, -, -⟩ := Ie.dec_f a fa
  obtain ⟨⟨db0, db1⟩, ⟨eb0, eb1⟩, -, dbz⟩ := Ie.dec_f b fb
  have e60 : (2 : Int) ^ 60 = 1152921504606846976 := by decide
  have da2 : Ie.dm a < 2 ^ 60 := by omega
  have db2 : Ie.dm b < 2 ^ 60 := by omega
  have UA := hid (fun (wx : World) => number_any a wx a0 a1 fa)
  have UB := hid (fun (wx : World) => number_any b wx b0 b1 fb)
  have HT := hid hT
  have RU : Hid (∀ (w2 : World) (pa pb : Option Addr) (oa ob : List Int) (B B' : Nat), Ans B w2 pa oa (Ie.dm a) → Ans B' w2 pb ob (Ie.dm b) → Calls Tryd.prog 67 #[exactOf (Ie.ngd a) pa oa.length oa.length (Ie.de a) false, exactOf (Ie.ngd b) pb ob.length ob.length (Ie.de b) false] w2 fun e w' => ∃ p os, e = .returned (exactOf (Ie.ngd a != Ie.ngd b) p (List.length os) (List.length os) (Ie.de a + Ie.de b) false) ∧ Ans w2.heap.size w' p os (Ie.dm a * Ie.dm b) ∧ Below w2.heap.size w2 w') := by
    intro w2 pa pb oa ob B B' A1 A2
    exact times_xany _ _ _ _ _ _ _ _ _ _ oa ob _ _ _ _ w2 (A1.arg (by have := A1.tl da2 (show 60 ≤ 262144 by omega); omega)) (A2.arg (by have := A2.tl db2 (show 60 ≤ 262144 by omega); omega)) A1.2.2.2.1 A2.2.2.2.1 da2 db2 (by omega) (by omega) (by omega) (by omega)
  have vb : Ie.dm a * Ie.dm b < 2 ^ 5000 := by
    have h1 : Ie.dm a * Ie.dm b ≤ Ie.dm a * 2 ^ 60 := Int.mul_le_mul_of_nonneg_left (by omega) da0
    have h2 : Ie.dm a * 2 ^ 60 < 2 ^ 60 * 2 ^ 60 := Int.mul_lt_mul_of_pos_right da2 (Nm.two_pos 60)
    rw [← Nm.two_add] at h2
    have := Nm.two_mono (show 60 + 60 ≤ 5000 by omega)
    omega
  have RO : Hid (∀ (w3 : World) (p : Option Addr) (os : List Int) (B : Nat), Below w.heap.size w w3 → Ans B w3 p os (Ie.dm a * Ie.dm b) → Calls Tryd.prog 58 #[exactOf (Ie.ngd a != Ie.ngd b) p os.length os.length (Ie.de a + Ie.de b) false] w3 fun r w' => RoundedTold (Ie.ngd a != Ie.ngd b) (Ie.dm a * Ie.dm b) (Ie.de a + Ie.de b) false w3 r w') := by
    intro w3 p os B hB A
    exact rounded_any _ _ p _ _ os _ _ w3 (A.arg (by have := A.tl vb (show 5000 ≤ 262144 by omega); omega)) (HT.out.below hB) A.2.2.2.1 A.len0 vb (by omega) (by omega)
  cases hza : Ie.isz a <;> rw [hza] at ZA
  · clear fa fb na nb ia ib hT da0 da1 ea0 ea1 db0 db1 eb0 eb1 dbz e60 da2 db2 vb HT hza
    generalize hV : Ie.dm a * Ie.dm b = V at *
    generalize hE : Ie.de a + Ie.de b = E at *
    clear hV hE
    go_enter Tryd.func46, Tryd.ntmps46
    go_wp2_with fail
    refine (NA.out _).mono ?_
    rintro e wz ⟨rfl, hz⟩
    replace hz := hz.symm
    subst hz
    go_wp2_with fail
    refine (NB.out _).mono ?_
    rintro e wz ⟨rfl, hz⟩
    replace hz := hz.symm
    subst hz
    go_wp2_with fail
    refine (IA.out _).mono ?_
    rintro e wz ⟨rfl, hz⟩
    replace hz := hz.symm
    subst hz
    go_wp2_with fail
    refine (ZA.out _).mono ?_
    rintro e wz ⟨rfl, hz⟩
    replace hz := hz.symm
    subst hz
    go_wp2_with fail
    refine (IA.out _).mono ?_
    rintro e wz ⟨rfl, hz⟩
    replace hz := hz.symm
    subst hz
    go_wp2_with fail
    refine (IB.out _).mono ?_
    rintro e wz ⟨rfl, hz⟩
    replace hz := hz.symm
    subst hz
    go_wp2_with fail
    refine (UA.out _).mono ?_
    rintro e w1 ⟨pa, oa, rfl, A1, hB1⟩
    have H1 := hid (And.intro A1 hB1)
    clear A1 hB1
    simp only [exactOf]
    go_wp2_with fail
    refine (UB.out _).mono ?_
    rintro e w2 ⟨pb, ob, rfl, A2, hB2⟩
    have A1 := H1.out.1.below hB2 (Nat.le_refl _)
    have Bw := H1.out.2.trans (hB2.mono H1.out.2.size)
    have PL := hid (RU.out w2 pa pb oa ob _ _ A1 A2)
    have HB := hid Bw
    simp only [exactOf] at PL ⊢
    clear A1 A2 hB2 Bw H1 RU
    go_wp2_with fail
    refine PL.out.mono ?_
    rintro e w3 ⟨p, os, rfl, A3, hB3⟩
    have Bw := HB.out.trans (hB3.mono HB.out.size)
    have RR := hid (RO.out w3 p os _ Bw A3)
    have HC := hid Bw
    simp only [exactOf] at RR ⊢
    clear A3 hB3 Bw RO PL HB
    go_wp2_with fail
    refine RR.out.mono ?_
    rintro e w4 ⟨d, t, L, rfl, h1, h2, h3, hB4⟩
    have KK : Hid (Told2 (Ie.MulIs a b) w (.returned (.tuple #[.int .u64 (Ie.sg (Ie.ngd a != Ie.ngd b) d), .int .i64 (Ie.flg V E false (Ie.sg (Ie.ngd a != Ie.ngd b) d) t L)])) w4) :=
      ⟨_, _, rfl, FI.out _ _ ⟨d, t, L, rfl, rfl, h1, h2, h3⟩, HC.out.trans (hB4.mono HC.out.size)⟩
    clear h1 h2 h3 hB4 HC RR FI
    go_wp2_with fail
    go_ret2
    exact KK.out
  · clear fa fb na nb ia ib hT da0 da1 ea0 ea1 db0 db1 eb0 eb1 dbz e60 da2 db2 vb HT hza
    generalize hV : Ie.dm a * Ie.dm b = V at *
    generalize hE : Ie.de a + Ie.de b = E at *
    clear hV hE
    go_enter Tryd.func46, Tryd.ntmps46
    go_wp2_with fail
    refine (NA.out _).mono ?_
    rintro e wz ⟨rfl, hz⟩
    replace hz := hz.symm
    subst hz
    go_wp2_with fail
    refine (NB.out _).mono ?_
    rintro e wz ⟨rfl, hz⟩
    replace hz := hz.symm
    subst hz
    go_wp2_with fail
    refine (IA.out _).mono ?_
    rintro e wz ⟨rfl, hz⟩
    replace hz := hz.symm
    subst hz
    go_wp2_with fail
    refine (ZA.out _).mono ?_
    rintro e wz ⟨rfl, hz⟩
    replace hz := hz.symm
    subst hz
    go_wp2_with fail
    refine (IB.out _).mono ?_
    rintro e wz ⟨rfl, hz⟩
    replace hz := hz.symm
    subst hz
    go_wp2_with fail
    refine (IA.out _).mono ?_
    rintro e wz ⟨rfl, hz⟩
    replace hz := hz.symm
    subst hz
    go_wp2_with fail
    refine (IB.out _).mono ?_
    rintro e wz ⟨rfl, hz⟩
    replace hz := hz.symm
    subst hz
    go_wp2_with fail
    refine (UA.out _).mono ?_
    rintro e w1 ⟨pa, oa, rfl, A1, hB1⟩
    have H1 := hid (And.intro A1 hB1)
    clear A1 hB1
    simp only [exactOf]
    go_wp2_with fail
    refine (UB.out _).mono ?_
    rintro e w2 ⟨pb, ob, rfl, A2, hB2⟩
    have A1 := H1.out.1.below hB2 (Nat.le_refl _)
    have Bw := H1.out.2.trans (hB2.mono H1.out.2.size)
    have PL := hid (RU.out w2 pa pb oa ob _ _ A1 A2)
    have HB := hid Bw
    simp only [exactOf] at PL ⊢
    clear A1 A2 hB2 Bw H1 RU
    go_wp2_with fail
    refine PL.out.mono ?_
    rintro e w3 ⟨p, os, rfl, A3, hB3⟩
    have Bw := HB.out.trans (hB3.mono HB.out.size)
    have RR := hid (RO.out w3 p os _ Bw A3)
    have HC := hid Bw
    simp only [exactOf] at RR ⊢
    clear A3 hB3 Bw RO PL HB
    go_wp2_with fail
    refine RR.out.mono ?_
    rintro e w4 ⟨d, t, L, rfl, h1, h2, h3, hB4⟩
    have KK : Hid (Told2 (Ie.MulIs a b) w (.returned (.tuple #[.int .u64 (Ie.sg (Ie.ngd a != Ie.ngd b) d), .int .i64 (Ie.flg V E false (Ie.sg (Ie.ngd a != Ie.ngd b) d) t L)])) w4) :=
      ⟨_, _, rfl, FI.out _ _ ⟨d, t, L, rfl, rfl, h1, h2, h3⟩, HC.out.trans (hB4.mono HC.out.size)⟩
    clear h1 h2 h3 hB4 HC RR FI
    go_wp2_with fail
    go_ret2
    exact KK.out

set_option maxRecDepth 100000 in
set_option maxHeartbeats 4000000 in
theorem mul_any (a b : Int) (w : World) (a0 : 0 ≤ a) (a1 : a < 18446744073709551616) (b0 : 0 ≤ b) (b1 : b < 18446744073709551616) (hT : Tab w) :
    Calls Tryd.prog 46 #[.int .u64 a, .int .u64 b] w fun e w' => Told2 (Ie.MulIs a b) w e w' := by
  have NA := hid (fun (wx : World) => nan_any a wx a0 a1)
  have NB := hid (fun (wx : World) => nan_any b wx b0 b1)
  have IA := hid (fun (wx : World) => infinite_any a wx a0 a1)
  have IB := hid (fun (wx : World) => infinite_any b wx b0 b1)
  have ZA := hid (fun (wx : World) => zero_any a wx a0 a1)
  have ZB := hid (fun (wx : World) => zero_any b wx b0 b1)
  have SG := hid (fun (wx : World) => softSign_any a b wx a0 a1 b0 b1)
  have OR := Ie.inf_or (Ie.ngd a != Ie.ngd b)
  have KK : Hid (∀ (e : Ending) (r f : Int), e = .returned (.tuple #[.int .u64 r, .int .i64 f]) → Ie.MulIs a b r f → Told2 (Ie.MulIs a b) w e w) := fun e r f h1 h2 => ⟨r, f, h1, h2, Below.refl _ _⟩
  cases na : Ie.isn a
  · cases nb : Ie.isn b
    · cases ia : Ie.isi a
      · cases ib : Ie.isi b
        · skip
          cases za : Ie.isz a
          · skip
            cases zb : Ie.isz b
            · skip
              exact mul_fin a b w a0 a1 b0 b1 hT na ia nb ib
            · skip
              exact mul_fin a b w a0 a1 b0 b1 hT na ia nb ib
          · skip
            cases zb : Ie.isz b
            · skip
              exact mul_fin a b w a0 a1 b0 b1 hT na ia nb ib
            · skip
              exact mul_fin a b w a0 a1 b0 b1 hT na ia nb ib
        · skip
          cases za : Ie.isz a
          · skip
            have zb := Ie.not_iz ib
            have SP : Hid (Ie.MulIs a b (Ie.sb (Ie.ngd a != Ie.ngd b) 9218868437227405312) 0) := by rw [Hid, Ie.MulIs, na, nb, ia, ib, za, zb]; simp
            rw [na] at NA
            rw [nb] at NB
            rw [ia] at IA
            rw [ib] at IB
            rw [za] at ZA
            rw [zb] at ZB
            clear na nb ia ib hT za zb
            generalize hI : Ie.sb (Ie.ngd a != Ie.ngd b) 9218868437227405312 = sI at *
            generalize hO : Ie.sb (Ie.ngd a != Ie.ngd b) 0 = sO at *
            clear hI hO
            go_enter Tryd.func46, Tryd.ntmps46
            go_wp2_with fail
            refine (NA.out _).mono ?_
            rintro e wz ⟨rfl, hz⟩
            replace hz := hz.symm
            subst hz
            go_wp2_with fail
            refine (NB.out _).mono ?_
            rintro e wz ⟨rfl, hz⟩
            replace hz := hz.symm
            subst hz
            go_wp2_with fail
            refine (IA.out _).mono ?_
            rintro e wz ⟨rfl, hz⟩
            replace hz := hz.symm
            subst hz
            go_wp2_with fail
            refine (ZA.out _).mono ?_
            rintro e wz ⟨rfl, hz⟩
            replace hz := hz.symm
            subst hz
            go_wp2_with fail
            refine (IA.out _).mono ?_
            rintro e wz ⟨rfl, hz⟩
            replace hz := hz.symm
            subst hz
            go_wp2_with fail
            refine (IB.out _).mono ?_
            rintro e wz ⟨rfl, hz⟩
            replace hz := hz.symm
            subst hz
            go_wp2_with fail
            refine (SG.out _).mono ?_
            rintro e wz ⟨rfl, hz⟩
            replace hz := hz.symm
            subst hz
            go_wp2_with fail
            go_ret2
            exact KK.out _ _ _ rfl SP.out
          · skip
            have zb := Ie.not_iz ib
            have SP : Hid (Ie.MulIs a b 9221120237041090560 1) := by rw [Hid, Ie.MulIs, na, nb, ia, ib, za, zb]; simp
            rw [na] at NA
            rw [nb] at NB
            rw [ia] at IA
            rw [ib] at IB
            rw [za] at ZA
            rw [zb] at ZB
            clear na nb ia ib hT za zb
            go_enter Tryd.func46, Tryd.ntmps46
            go_wp2_with fail
            refine (NA.out _).mono ?_
            rintro e wz ⟨rfl, hz⟩
            replace hz := hz.symm
            subst hz
            go_wp2_with fail
            refine (NB.out _).mono ?_
            rintro e wz ⟨rfl, hz⟩
            replace hz := hz.symm
            subst hz
            go_wp2_with fail
            refine (IA.out _).mono ?_
            rintro e wz ⟨rfl, hz⟩
            replace hz := hz.symm
            subst hz
            go_wp2_with fail
            refine (ZA.out _).mono ?_
            rintro e wz ⟨rfl, hz⟩
            replace hz := hz.symm
            subst hz
            go_wp2_with fail
            refine (IB.out _).mono ?_
            rintro e wz ⟨rfl, hz⟩
            replace hz := hz.symm
            subst hz
            go_wp2_with fail
            go_ret2
            exact KK.out _ _ _ rfl SP.out
      · cases ib : Ie.isi b
        · skip
          have za := Ie.not_iz ia
          cases zb : Ie.isz b
          · skip
            have SP : Hid (Ie.MulIs a b (Ie.sb (Ie.ngd a != Ie.ngd b) 9218868437227405312) 0) := by rw [Hid, Ie.MulIs, na, nb, ia, ib, za, zb]; simp
            rw [na] at NA
            rw [nb] at NB
            rw [ia] at IA
            rw [ib] at IB
            rw [za] at ZA
            rw [zb] at ZB
            clear na nb ia ib hT za zb
            generalize hI : Ie.sb (Ie.ngd a != Ie.ngd b) 9218868437227405312 = sI at *
            generalize hO : Ie.sb (Ie.ngd a != Ie.ngd b) 0 = sO at *
            clear hI hO
            go_enter Tryd.func46, Tryd.ntmps46
            go_wp2_with fail
            refine (NA.out _).mono ?_
            rintro e wz ⟨rfl, hz⟩
            replace hz := hz.symm
            subst hz
            go_wp2_with fail
            refine (NB.out _).mono ?_
            rintro e wz ⟨rfl, hz⟩
            replace hz := hz.symm
            subst hz
            go_wp2_with fail
            refine (IA.out _).mono ?_
            rintro e wz ⟨rfl, hz⟩
            replace hz := hz.symm
            subst hz
            go_wp2_with fail
            refine (ZB.out _).mono ?_
            rintro e wz ⟨rfl, hz⟩
            replace hz := hz.symm
            subst hz
            go_wp2_with fail
            refine (ZA.out _).mono ?_
            rintro e wz ⟨rfl, hz⟩
            replace hz := hz.symm
            subst hz
            go_wp2_with fail
            refine (IA.out _).mono ?_
            rintro e wz ⟨rfl, hz⟩
            replace hz := hz.symm
            subst hz
            go_wp2_with fail
            refine (SG.out _).mono ?_
            rintro e wz ⟨rfl, hz⟩
            replace hz := hz.symm
            subst hz
            go_wp2_with fail
            go_ret2
            exact KK.out _ _ _ rfl SP.out
          · skip
            have SP : Hid (Ie.MulIs a b 9221120237041090560 1) := by rw [Hid, Ie.MulIs, na, nb, ia, ib, za, zb]; simp
            rw [na] at NA
            rw [nb] at NB
            rw [ia] at IA
            rw [ib] at IB
            rw [za] at ZA
            rw [zb] at ZB
            clear na nb ia ib hT za zb
            go_enter Tryd.func46, Tryd.ntmps46
            go_wp2_with fail
            refine (NA.out _).mono ?_
            rintro e wz ⟨rfl, hz⟩
            replace hz := hz.symm
            subst hz
            go_wp2_with fail
            refine (NB.out _).mono ?_
            rintro e wz ⟨rfl, hz⟩
            replace hz := hz.symm
            subst hz
            go_wp2_with fail
            refine (IA.out _).mono ?_
            rintro e wz ⟨rfl, hz⟩
            replace hz := hz.symm
            subst hz
            go_wp2_with fail
            refine (ZB.out _).mono ?_
            rintro e wz ⟨rfl, hz⟩
            replace hz := hz.symm
            subst hz
            go_wp2_with fail
            go_ret2
            exact KK.out _ _ _ rfl SP.out
        · skip
          have za := Ie.not_iz ia
          have zb := Ie.not_iz ib
          have SP : Hid (Ie.MulIs a b (Ie.sb (Ie.ngd a != Ie.ngd b) 9218868437227405312) 0) := by rw [Hid, Ie.MulIs, na, nb, ia, ib, za, zb]; simp
          rw [na] at NA
          rw [nb] at NB
          rw [ia] at IA
          rw [ib] at IB
          rw [za] at ZA
          rw [zb] at ZB
          clear na nb ia ib hT za zb
          generalize hI : Ie.sb (Ie.ngd a != Ie.ngd b) 9218868437227405312 = sI at *
          generalize hO : Ie.sb (Ie.ngd a != Ie.ngd b) 0 = sO at *
          clear hI hO
          go_enter Tryd.func46, Tryd.ntmps46
          go_wp2_with fail
          refine (NA.out _).mono ?_
          rintro e wz ⟨rfl, hz⟩
          replace hz := hz.symm
          subst hz
          go_wp2_with fail
          refine (NB.out _).mono ?_
          rintro e wz ⟨rfl, hz⟩
          replace hz := hz.symm
          subst hz
          go_wp2_with fail
          refine (IA.out _).mono ?_
          rintro e wz ⟨rfl, hz⟩
          replace hz := hz.symm
          subst hz
          go_wp2_with fail
          refine (ZB.out _).mono ?_
          rintro e wz ⟨rfl, hz⟩
          replace hz := hz.symm
          subst hz
          go_wp2_with fail
          refine (ZA.out _).mono ?_
          rintro e wz ⟨rfl, hz⟩
          replace hz := hz.symm
          subst hz
          go_wp2_with fail
          refine (IA.out _).mono ?_
          rintro e wz ⟨rfl, hz⟩
          replace hz := hz.symm
          subst hz
          go_wp2_with fail
          refine (SG.out _).mono ?_
          rintro e wz ⟨rfl, hz⟩
          replace hz := hz.symm
          subst hz
          go_wp2_with fail
          go_ret2
          exact KK.out _ _ _ rfl SP.out
    · have SP : Hid (Ie.MulIs a b 9221120237041090560 0) := by rw [Hid, Ie.MulIs, na, nb]; simp
      rw [na] at NA
      rw [nb] at NB
      clear na nb hT
      go_enter Tryd.func46, Tryd.ntmps46
      go_wp2_with fail
      refine (NA.out _).mono ?_
      rintro e wz ⟨rfl, hz⟩
      replace hz := hz.symm
      subst hz
      go_wp2_with fail
      refine (NB.out _).mono ?_
      rintro e wz ⟨rfl, hz⟩
      replace hz := hz.symm
      subst hz
      go_wp2_with fail
      go_ret2
      exact KK.out _ _ _ rfl SP.out
  · have SP : Hid (Ie.MulIs a b 9221120237041090560 0) := by rw [Hid, Ie.MulIs, na]; simp
    rw [na] at NA
    clear na hT
    go_enter Tryd.func46, Tryd.ntmps46
    go_wp2_with fail
    refine (NA.out _).mono ?_
    rintro e wz ⟨rfl, hz⟩
    replace hz := hz.symm
    subst hz
    go_wp2_with fail
    go_ret2
    exact KK.out _ _ _ rfl SP.out

set_option maxRecDepth 100000 in
set_option maxHeartbeats 4000000 in
theorem softMul_any (a b : Int) (w : World) (a0 : 0 ≤ a) (a1 : a < 18446744073709551616) (b0 : 0 ≤ b) (b1 : b < 18446744073709551616) (hT : Tab w) :
    Calls Tryd.prog 24 #[.int .u64 a, .int .u64 b] w fun e w' => Told1 (Ie.MulIs a b) w e w' := by
  have AD := hid (mul_any a b w a0 a1 b0 b1 hT)
  clear hT
  go_enter Tryd.func24, Tryd.ntmps24
  go_wp2_with fail
  refine AD.out.mono ?_
  rintro e w1 ⟨r, f, rfl, h, hB⟩
  have KK : Hid (Told1 (Ie.MulIs a b) w (.returned (.int .u64 r)) w1) := ⟨r, f, rfl, h, hB⟩
  clear h hB AD
  go_wp2_with fail
  go_ret
  exact KK.out

end Go.Proofs.YtjebdobopechfabDoor

/-
  soft: fma, Fma (made by mkfma.py).
-/
namespace Go.Proofs.YtjebdobopechfabDoor
open Go Go.RowKit Go.Deep

namespace Ie
/-- What fma answers. -/
def FmaIs (a b c r f : Int) : Prop :=
  if isn a = true ∨ isn b = true ∨ isn c = true then r = 9221120237041090560 ∧ f = 0
  else if isi a = true ∨ isi b = true then (if isz a = true ∨ isz b = true then r = 9221120237041090560 ∧ f = 1 else AddIs (sb (ngd a != ngd b) 9218868437227405312) c r f)
  else if isi c = true then r = c ∧ f = 0
  else ∃ neg V e, SumIs (ngd a != ngd b) (dm a * dm b) (de a + de b) (ngd c) (dm c) (de c) neg V e ∧ Res neg V e false r f
end Ie

set_option maxRecDepth 100000 in
set_option maxHeartbeats 8000000 in
theorem fma_fin (a b c : Int) (w : World) (a0 : 0 ≤ a) (a1 : a < 18446744073709551616) (b0 : 0 ≤ b) (b1 : b < 18446744073709551616) (c0 : 0 ≤ c) (c1 : c < 18446744073709551616) (hT : Tab w) (na : Ie.isn a = false) (ia : Ie.isi a = false) (nb : Ie.isn b = false) (ib : Ie.isi b = false) (nc : Ie.isn c = false) (ic : Ie.isi c = false) :
    Calls Tryd.prog 47 #[.int .u64 a, .int .u64 b, .int .u64 c] w fun e w' => Told2 (Ie.FmaIs a b c) w e w' := by
  have fa := Ie.fin_of na ia
  have fb := Ie.fin_of nb ib
  have fc := Ie.fin_of nc ic
  have FI : Hid (∀ (neg : Bool) (V e r f : Int), Ie.SumIs (Ie.ngd a != Ie.ngd b) (Ie.dm a * Ie.dm b) (Ie.de a + Ie.de b) (Ie.ngd c) (Ie.dm c) (Ie.de c) neg V e → Ie.Res neg V e false r f → Ie.FmaIs a b c r f) := by
    intro neg V e r f h1 h2
    rw [Ie.FmaIs, na, nb, ia, ib, nc, ic]
    simp only [Bool.false_eq_true, or_self, if_false]
    exact ⟨neg, V, e, h1, h2⟩
  have NA := hid (fun (wx : World) => nan_any a wx a0 a1)
  rw [na] at NA
  have NB := hid (fun (wx : World) => nan_any b wx b0 b1)
  rw [nb] at NB
  have NC := hid (fun (wx : World) => nan_any c wx c0 c1)
  rw [nc] at NC
  have IA := hid (fun (wx : World) => infinite_any a wx a0 a1)
  rw [ia] at IA
  have IB := hid (fun (wx : World) => infinite_any b wx b0 b1)
  rw [ib] at IB
  have IC := hid (fun (wx : World) => infinite_any c wx c0 c1)
  rw [ic] at IC
  obtain ⟨⟨da0, da1⟩, ⟨ea0, ea1⟩, -, -⟩ := Ie.dec_f a fa
  obtain ⟨⟨db0, db1⟩, ⟨eb0, eb1⟩, -, -⟩ := Ie.dec_f b fb
  obtain ⟨⟨dc0, dc1⟩, ⟨ec0, ec1⟩, -, -⟩ := Ie.dec_f c fc
  have e60 : (2 : Int) ^ 60 = 1152921504606846976 := by decide
  have da2 : Ie.dm a < 2 ^ 60 := by omega
  have db2 : Ie.dm b < 2 ^ 60 := by omega
  have dc2 : Ie.dm c < 2 ^ 60 := by omega
  have e200 := Nm.two_mono (show 60 + 60 ≤ 200 by omega)
  have e201 := Nm.two_mono (show 60 ≤ 200 by omega)
  have pb : Ie.dm a * Ie.dm b < 2 ^ (60 + 60) := by
    have h1 : Ie.dm a * Ie.dm b ≤ Ie.dm a * 2 ^ 60 := Int.mul_le_mul_of_nonneg_left (by omega) da0
    have h2 : Ie.dm a * 2 ^ 60 < 2 ^ 60 * 2 ^ 60 := Int.mul_lt_mul_of_pos_right da2 (Nm.two_pos 60)
    rw [← Nm.two_add] at h2
    omega
  have UA := hid (fun (wx : World) => number_any a wx a0 a1 fa)
  have UB := hid (fun (wx : World) => number_any b wx b0 b1 fb)
  have UC := hid (fun (wx : World) => number_any c wx c0 c1 fc)
  have HT := hid hT
  have RT : Hid (∀ (w2 : World) (pa pb : Option Addr) (oa ob : List Int) (B B' : Nat), Ans B w2 pa oa (Ie.dm a) → Ans B' w2 pb ob (Ie.dm b) → Calls Tryd.prog 67 #[exactOf (Ie.ngd a) pa oa.length oa.length (Ie.de a) false, exactOf (Ie.ngd b) pb ob.length ob.length (Ie.de b) false] w2 fun e w' => ∃ p os, e = .returned (exactOf (Ie.ngd a != Ie.ngd b) p (List.length os) (List.length os) (Ie.de a + Ie.de b) false) ∧ Ans w2.heap.size w' p os (Ie.dm a * Ie.dm b) ∧ Below w2.heap.size w2 w') := by
    intro w2 pa pb oa ob B B' A1 A2
    exact times_xany _ _ _ _ _ _ _ _ _ _ oa ob _ _ _ _ w2 (A1.arg (by have := A1.tl da2 (show 60 ≤ 262144 by omega); omega)) (A2.arg (by have := A2.tl db2 (show 60 ≤ 262144 by omega); omega)) A1.2.2.2.1 A2.2.2.2.1 da2 db2 (by omega) (by omega) (by omega) (by omega)
  have RU : Hid (∀ (w2 : World) (pp pc : Option Addr) (op oc : List Int) (B B' : Nat), Ans B w2 pp op (Ie.dm a * Ie.dm b) → Ans B' w2 pc oc (Ie.dm c) → Calls Tryd.prog 65 #[exactOf (Ie.ngd a != Ie.ngd b) pp op.length op.length (Ie.de a + Ie.de b) false, exactOf (Ie.ngd c) pc oc.length oc.length (Ie.de c) false] w2 fun e w' => PlusTold (Ie.ngd a != Ie.ngd b) (Ie.dm a * Ie.dm b) (Ie.de a + Ie.de b) (Ie.ngd c) (Ie.dm c) (Ie.de c) w2 e w') := by
    intro w2 pp pc op oc B B' A1 A2
    exact plus_any _ _ _ _ _ _ _ _ _ _ op oc _ _ _ _ w2 (A1.arg (by have := A1.tl pb (show 60 + 60 ≤ 262144 by omega); omega)) (A2.arg (by have := A2.tl dc2 (show 60 ≤ 262144 by omega); omega)) A1.2.2.2.1 A2.2.2.2.1 (by omega) (by omega) (by omega) (by omega) (by omega) (by omega)
  have RO : Hid (∀ (w3 : World) (neg : Bool) (p : Option Addr) (os : List Int) (V e : Int) (B : Nat), Below w.heap.size w w3 → Ans B w3 p os V → Ie.SumIs (Ie.ngd a != Ie.ngd b) (Ie.dm a * Ie.dm b) (Ie.de a + Ie.de b) (Ie.ngd c) (Ie.dm c) (Ie.de c) neg V e → Calls Tryd.prog 58 #[exactOf neg p os.length os.length e false] w3 fun r w' => RoundedTold neg V e false w3 r w') := by
    intro w3 neg p os V e B hB A hS
    have vb := hS.2.2.1.2
    have eb : -10000 ≤ e ∧ e ≤ 10000 := by rcases hS.1 with h | ⟨_, h⟩ <;> omega
    exact rounded_any neg false p _ _ os e V w3 (A.arg (by have := A.tl vb (show 5000 ≤ 262144 by omega); omega)) (HT.out.below hB) A.2.2.2.1 A.len0 vb eb.1 eb.2
  clear fa fb fc na nb nc ia ib ic hT da0 da1 ea0 ea1 db0 db1 eb0 eb1 dc0 dc1 ec0 ec1 e60 da2 db2 dc2 e200 e201 pb HT
  go_enter Tryd.func47, Tryd.ntmps47
  go_wp2_with fail
  refine (NA.out _).mono ?_
  rintro e wz ⟨rfl, hz⟩
  replace hz := hz.symm
  subst hz
  go_wp2_with fail
  refine (NB.out _).mono ?_
  rintro e wz ⟨rfl, hz⟩
  replace hz := hz.symm
  subst hz
  go_wp2_with fail
  refine (NC.out _).mono ?_
  rintro e wz ⟨rfl, hz⟩
  replace hz := hz.symm
  subst hz
  go_wp2_with fail
  refine (IA.out _).mono ?_
  rintro e wz ⟨rfl, hz⟩
  replace hz := hz.symm
  subst hz
  go_wp2_with fail
  refine (IB.out _).mono ?_
  rintro e wz ⟨rfl, hz⟩
  replace hz := hz.symm
  subst hz
  go_wp2_with fail
  refine (IC.out _).mono ?_
  rintro e wz ⟨rfl, hz⟩
  replace hz := hz.symm
  subst hz
  go_wp2_with fail
  refine (UA.out _).mono ?_
  rintro e w1 ⟨pa, oa, rfl, A1, hB1⟩
  have H1 := hid (And.intro A1 hB1)
  clear A1 hB1
  simp only [exactOf]
  go_wp2_with fail
  refine (UB.out _).mono ?_
  rintro e w2 ⟨pb, ob, rfl, A2, hB2⟩
  have A1 := H1.out.1.below hB2 (Nat.le_refl _)
  have Bw := H1.out.2.trans (hB2.mono H1.out.2.size)
  have TM := hid (RT.out w2 pa pb oa ob _ _ A1 A2)
  have HB := hid Bw
  simp only [exactOf] at TM ⊢
  clear A1 A2 hB2 Bw H1 RT
  go_wp2_with fail
  refine TM.out.mono ?_
  rintro e w3 ⟨pp, op, rfl, A3, hB3⟩
  have H3 := hid (And.intro A3 (HB.out.trans (hB3.mono HB.out.size)))
  clear A3 hB3 HB TM
  go_wp2_with fail
  refine (UC.out _).mono ?_
  rintro e w4 ⟨pc, oc, rfl, A4, hB4⟩
  have A3 := H3.out.1.below hB4 (Nat.le_refl _)
  have Bw := H3.out.2.trans (hB4.mono H3.out.2.size)
  have PL := hid (RU.out w4 pp pc op oc _ _ A3 A4)
  have HB := hid Bw
  simp only [exactOf] at PL ⊢
  clear A3 A4 hB4 Bw H3 RU
  go_wp2_with fail
  refine PL.out.mono ?_
  rintro e w5 ⟨neg, p, os, V, x, rfl, A5, hB5, hS⟩
  have Bw := HB.out.trans (hB5.mono HB.out.size)
  have RR := hid (RO.out w5 neg p os V x _ Bw A5 hS)
  have HS := hid hS
  have HC := hid Bw
  simp only [exactOf] at RR ⊢
  clear A5 hB5 hS Bw RO PL HB
  go_wp2_with fail
  refine RR.out.mono ?_
  rintro e w6 ⟨d, t, L, rfl, h1, h2, h3, hB6⟩
  have KK : Hid (Told2 (Ie.FmaIs a b c) w (.returned (.tuple #[.int .u64 (Ie.sg neg d), .int .i64 (Ie.flg V x false (Ie.sg neg d) t L)])) w6) :=
    ⟨_, _, rfl, FI.out neg V x _ _ HS.out ⟨d, t, L, rfl, rfl, h1, h2, h3⟩, HC.out.trans (hB6.mono HC.out.size)⟩
  clear h1 h2 h3 hB6 HS HC RR FI
  go_wp2_with fail
  go_ret2
  exact KK.out

set_option maxRecDepth 100000 in
set_option maxHeartbeats 8000000 in
theorem fma_inf (a b c : Int) (w : World) (a0 : 0 ≤ a) (a1 : a < 18446744073709551616) (b0 : 0 ≤ b) (b1 : b < 18446744073709551616) (c0 : 0 ≤ c) (c1 : c < 18446744073709551616) (hT : Tab w) (na : Ie.isn a = false) (nb : Ie.isn b = false) (nc : Ie.isn c = false) (hi : Ie.isi a = true ∨ Ie.isi b = true) :
    Calls Tryd.prog 47 #[.int .u64 a, .int .u64 b, .int .u64 c] w fun e w' => Told2 (Ie.FmaIs a b c) w e w' := by
  have NA := hid (fun (wx : World) => nan_any a wx a0 a1)
  rw [na] at NA
  have NB := hid (fun (wx : World) => nan_any b wx b0 b1)
  rw [nb] at NB
  have NC := hid (fun (wx : World) => nan_any c wx c0 c1)
  rw [nc] at NC
  have IA := hid (fun (wx : World) => infinite_any a wx a0 a1)
  have IB := hid (fun (wx : World) => infinite_any b wx b0 b1)
  obtain ⟨p, fl, MU, KA⟩ : ∃ (p fl : Int), Hid (∀ wx : World, Below w.heap.size w wx → Calls Tryd.prog 46 #[.int .u64 a, .int .u64 b] wx fun e w' => e = .returned (.tuple #[.int .u64 p, .int .i64 fl]) ∧ Below wx.heap.size wx w') ∧
      Hid ((fl = 1 ∧ Ie.FmaIs a b c p 1) ∨ (fl = 0 ∧ (0 ≤ p ∧ p < 18446744073709551616) ∧ ∀ r f, Ie.AddIs p c r f → Ie.FmaIs a b c r f)) := by
    by_cases hz : Ie.isz a = true ∨ Ie.isz b = true
    · refine ⟨9221120237041090560, 1, fun wx hx => ?_, .inl ⟨rfl, ?_⟩⟩
      · refine (mul_any a b wx a0 a1 b0 b1 (hT.below hx)).mono ?_
        rintro e w' ⟨r, f, rfl, h, hB⟩
        rw [Ie.MulIs, na, nb] at h
        simp only [Bool.false_eq_true, or_self, if_false] at h
        have cond : (Ie.isi a = true ∧ Ie.isz b = true) ∨ (Ie.isz a = true ∧ Ie.isi b = true) := by
          rcases hi with hi | hi
          · rcases hz with hz | hz
            · rw [Ie.not_iz hi] at hz; cases hz
            · exact .inl ⟨hi, hz⟩
          · rcases hz with hz | hz
            · exact .inr ⟨hz, hi⟩
            · rw [Ie.not_iz hi] at hz; cases hz
        rw [if_pos cond] at h
        obtain ⟨rfl, rfl⟩ := h
        exact ⟨rfl, hB⟩
      · rw [Ie.FmaIs, na, nb, nc]
        simp only [Bool.false_eq_true, or_self, if_false]
        rw [if_pos hi, if_pos hz]
        simp
    · refine ⟨Ie.sb (Ie.ngd a != Ie.ngd b) 9218868437227405312, 0, fun wx hx => ?_, .inr ⟨rfl, ?_, fun r f h => ?_⟩⟩
      · refine (mul_any a b wx a0 a1 b0 b1 (hT.below hx)).mono ?_
        rintro e w' ⟨r, f, rfl, h, hB⟩
        rw [Ie.MulIs, na, nb] at h
        simp only [Bool.false_eq_true, or_self, if_false] at h
        have cond : ¬ ((Ie.isi a = true ∧ Ie.isz b = true) ∨ (Ie.isz a = true ∧ Ie.isi b = true)) := by
          rintro (⟨_, g⟩ | ⟨g, _⟩)
          · exact hz (.inr g)
          · exact hz (.inl g)
        rw [if_neg cond, if_pos hi] at h
        obtain ⟨rfl, rfl⟩ := h
        exact ⟨rfl, hB⟩
      · cases Ie.ngd a != Ie.ngd b <;> simp only [Ie.sb, Bool.false_eq_true, if_true, if_false] <;> omega
      · rw [Ie.FmaIs, na, nb, nc]
        simp only [Bool.false_eq_true, or_self, if_false]
        rw [if_pos hi, if_neg hz]
        exact h
  have AD := hid (fun (wx : World) (hx : Below w.heap.size w wx) (p0 : 0 ≤ p) (p1 : p < 18446744073709551616) => add_any p c wx p0 p1 c0 c1 (hT.below hx))
  rcases KA.out with ⟨rfl, KB⟩ | ⟨rfl, ⟨p0, p1⟩, KB⟩
  · have KC := hid KB
    clear KA KB
    cases ia : Ie.isi a
    · have ib : Ie.isi b = true := by
        rcases hi with h | h
        · rw [ia] at h; cases h
        · exact h
      rw [ia] at IA
      rw [ib] at IB
      clear ia ib na nb nc hT hi
      go_enter Tryd.func47, Tryd.ntmps47
      go_wp2_with fail
      refine (NA.out _).mono ?_
      rintro e wz ⟨rfl, hz⟩
      replace hz := hz.symm
      subst hz
      go_wp2_with fail
      refine (NB.out _).mono ?_
      rintro e wz ⟨rfl, hz⟩
      replace hz := hz.symm
      subst hz
      go_wp2_with fail
      refine (NC.out _).mono ?_
      rintro e wz ⟨rfl, hz⟩
      replace hz := hz.symm
      subst hz
      go_wp2_with fail
      refine (IA.out _).mono ?_
      rintro e wz ⟨rfl, hz⟩
      replace hz := hz.symm
      subst hz
      go_wp2_with fail
      refine (IB.out _).mono ?_
      rintro e wz ⟨rfl, hz⟩
      replace hz := hz.symm
      subst hz
      go_wp2_with fail
      refine (MU.out _ (Below.refl _ _)).mono ?_
      rintro e w1 ⟨rfl, hB1⟩
      have HB := hid hB1
      clear hB1 MU
      go_wp2_with fail
      go_ret2
      exact ⟨_, _, rfl, KC.out, HB.out⟩
    · rw [ia] at IA
      clear ia na nb nc hT hi
      go_enter Tryd.func47, Tryd.ntmps47
      go_wp2_with fail
      refine (NA.out _).mono ?_
      rintro e wz ⟨rfl, hz⟩
      replace hz := hz.symm
      subst hz
      go_wp2_with fail
      refine (NB.out _).mono ?_
      rintro e wz ⟨rfl, hz⟩
      replace hz := hz.symm
      subst hz
      go_wp2_with fail
      refine (NC.out _).mono ?_
      rintro e wz ⟨rfl, hz⟩
      replace hz := hz.symm
      subst hz
      go_wp2_with fail
      refine (IA.out _).mono ?_
      rintro e wz ⟨rfl, hz⟩
      replace hz := hz.symm
      subst hz
      go_wp2_with fail
      refine (MU.out _ (Below.refl _ _)).mono ?_
      rintro e w1 ⟨rfl, hB1⟩
      have HB := hid hB1
      clear hB1 MU
      go_wp2_with fail
      go_ret2
      exact ⟨_, _, rfl, KC.out, HB.out⟩
  · have KC := hid KB
    clear KA KB
    cases ia : Ie.isi a
    · have ib : Ie.isi b = true := by
        rcases hi with h | h
        · rw [ia] at h; cases h
        · exact h
      rw [ia] at IA
      rw [ib] at IB
      clear ia ib na nb nc hT hi
      go_enter Tryd.func47, Tryd.ntmps47
      go_wp2_with fail
      refine (NA.out _).mono ?_
      rintro e wz ⟨rfl, hz⟩
      replace hz := hz.symm
      subst hz
      go_wp2_with fail
      refine (NB.out _).mono ?_
      rintro e wz ⟨rfl, hz⟩
      replace hz := hz.symm
      subst hz
      go_wp2_with fail
      refine (NC.out _).mono ?_
      rintro e wz ⟨rfl, hz⟩
      replace hz := hz.symm
      subst hz
      go_wp2_with fail
      refine (IA.out _).mono ?_
      rintro e wz ⟨rfl, hz⟩
      replace hz := hz.symm
      subst hz
      go_wp2_with fail
      refine (IB.out _).mono ?_
      rintro e wz ⟨rfl, hz⟩
      replace hz := hz.symm
      subst hz
      go_wp2_with fail
      refine (MU.out _ (Below.refl _ _)).mono ?_
      rintro e w1 ⟨rfl, hB1⟩
      have HB := hid hB1
      clear hB1 MU
      have AD1 := hid (AD.out w1 HB.out p0 p1)
      clear AD
      go_wp2_with fail
      refine AD1.out.mono ?_
      rintro e w2 ⟨r, f, rfl, h, hB2⟩
      have KK : Hid (Told2 (Ie.FmaIs a b c) w (.returned (.tuple #[.int .u64 r, .int .i64 f])) w2) := ⟨r, f, rfl, KC.out r f h, HB.out.trans (hB2.mono HB.out.size)⟩
      clear h hB2 HB AD1 KC
      go_wp2_with fail
      go_ret2
      exact KK.out
    · rw [ia] at IA
      clear ia na nb nc hT hi
      go_enter Tryd.func47, Tryd.ntmps47
      go_wp2_with fail
      refine (NA.out _).mono ?_
      rintro e wz ⟨rfl, hz⟩
      replace hz := hz.symm
      subst hz
      go_wp2_with fail
      refine (NB.out _).mono ?_
      rintro e wz ⟨rfl, hz⟩
      replace hz := hz.symm
      subst hz
      go_wp2_with fail
      refine (NC.out _).mono ?_
      rintro e wz ⟨rfl, hz⟩
      replace hz := hz.symm
      subst hz
      go_wp2_with fail
      refine (IA.out _).mono ?_
      rintro e wz ⟨rfl, hz⟩
      replace hz := hz.symm
      subst hz
      go_wp2_with fail
      refine (MU.out _ (Below.refl _ _)).mono ?_
      rintro e w1 ⟨rfl, hB1⟩
      have HB := hid hB1
      clear hB1 MU
      have AD1 := hid (AD.out w1 HB.out p0 p1)
      clear AD
      go_wp2_with fail
      refine AD1.out.mono ?_
      rintro e w2 ⟨r, f, rfl, h, hB2⟩
      have KK : Hid (Told2 (Ie.FmaIs a b c) w (.returned (.tuple #[.int .u64 r, .int .i64 f])) w2) := ⟨r, f, rfl, KC.out r f h, HB.out.trans (hB2.mono HB.out.size)⟩
      clear h hB2 HB AD1 KC
      go_wp2_with fail
      go_ret2
      exact KK.out

set_option maxRecDepth 100000 in
set_option maxHeartbeats 8000000 in
theorem fma_any (a b c : Int) (w : World) (a0 : 0 ≤ a) (a1 : a < 18446744073709551616) (b0 : 0 ≤ b) (b1 : b < 18446744073709551616) (c0 : 0 ≤ c) (c1 : c < 18446744073709551616) (hT : Tab w) :
    Calls Tryd.prog 47 #[.int .u64 a, .int .u64 b, .int .u64 c] w fun e w' => Told2 (Ie.FmaIs a b c) w e w' := by
  have NA := hid (fun (wx : World) => nan_any a wx a0 a1)
  have NB := hid (fun (wx : World) => nan_any b wx b0 b1)
  have NC := hid (fun (wx : World) => nan_any c wx c0 c1)
  have IA := hid (fun (wx : World) => infinite_any a wx a0 a1)
  have IB := hid (fun (wx : World) => infinite_any b wx b0 b1)
  have IC := hid (fun (wx : World) => infinite_any c wx c0 c1)
  have KK : Hid (∀ (e : Ending) (r f : Int), e = .returned (.tuple #[.int .u64 r, .int .i64 f]) → Ie.FmaIs a b c r f → Told2 (Ie.FmaIs a b c) w e w) := fun e r f h1 h2 => ⟨r, f, h1, h2, Below.refl _ _⟩
  cases na : Ie.isn a
  · cases nb : Ie.isn b
    · cases nc : Ie.isn c
      · by_cases hi : Ie.isi a = true ∨ Ie.isi b = true
        · exact fma_inf a b c w a0 a1 b0 b1 c0 c1 hT na nb nc hi
        · have ia : Ie.isi a = false := by
            cases h : Ie.isi a
            · rfl
            · exact absurd (.inl h) hi
          have ib : Ie.isi b = false := by
            cases h : Ie.isi b
            · rfl
            · exact absurd (.inr h) hi
          cases ic : Ie.isi c
          · exact fma_fin a b c w a0 a1 b0 b1 c0 c1 hT na ia nb ib nc ic
          · have SP : Hid (Ie.FmaIs a b c c 0) := by rw [Hid, Ie.FmaIs, na, nb, nc, ia, ib, ic]; simp
            rw [na] at NA
            rw [nb] at NB
            rw [nc] at NC
            rw [ia] at IA
            rw [ib] at IB
            rw [ic] at IC
            clear na nb nc ia ib ic hT hi
            go_enter Tryd.func47, Tryd.ntmps47
            go_wp2_with fail
            refine (NA.out _).mono ?_
            rintro e wz ⟨rfl, hz⟩
            replace hz := hz.symm
            subst hz
            go_wp2_with fail
            refine (NB.out _).mono ?_
            rintro e wz ⟨rfl, hz⟩
            replace hz := hz.symm
            subst hz
            go_wp2_with fail
            refine (NC.out _).mono ?_
            rintro e wz ⟨rfl, hz⟩
            replace hz := hz.symm
            subst hz
            go_wp2_with fail
            refine (IA.out _).mono ?_
            rintro e wz ⟨rfl, hz⟩
            replace hz := hz.symm
            subst hz
            go_wp2_with fail
            refine (IB.out _).mono ?_
            rintro e wz ⟨rfl, hz⟩
            replace hz := hz.symm
            subst hz
            go_wp2_with fail
            refine (IC.out _).mono ?_
            rintro e wz ⟨rfl, hz⟩
            replace hz := hz.symm
            subst hz
            go_wp2_with fail
            go_ret2
            exact KK.out _ _ _ rfl SP.out
      · have SP : Hid (Ie.FmaIs a b c 9221120237041090560 0) := by rw [Hid, Ie.FmaIs, na, nb, nc]; simp
        rw [na] at NA
        rw [nb] at NB
        rw [nc] at NC
        clear na nb nc hT
        go_enter Tryd.func47, Tryd.ntmps47
        go_wp2_with fail
        refine (NA.out _).mono ?_
        rintro e wz ⟨rfl, hz⟩
        replace hz := hz.symm
        subst hz
        go_wp2_with fail
        refine (NB.out _).mono ?_
        rintro e wz ⟨rfl, hz⟩
        replace hz := hz.symm
        subst hz
        go_wp2_with fail
        refine (NC.out _).mono ?_
        rintro e wz ⟨rfl, hz⟩
        replace hz := hz.symm
        subst hz
        go_wp2_with fail
        go_ret2
        exact KK.out _ _ _ rfl SP.out
    · have SP : Hid (Ie.FmaIs a b c 9221120237041090560 0) := by rw [Hid, Ie.FmaIs, na, nb]; simp
      rw [na] at NA
      rw [nb] at NB
      clear na nb hT
      go_enter Tryd.func47, Tryd.ntmps47
      go_wp2_with fail
      refine (NA.out _).mono ?_
      rintro e wz ⟨rfl, hz⟩
      replace hz := hz.symm
      subst hz
      go_wp2_with fail
      refine (NB.out _).mono ?_
      rintro e wz ⟨rfl, hz⟩
      replace hz := hz.symm
      subst hz
      go_wp2_with fail
      go_ret2
      exact KK.out _ _ _ rfl SP.out
  · have SP : Hid (Ie.FmaIs a b c 9221120237041090560 0) := by rw [Hid, Ie.FmaIs, na]; simp
    rw [na] at NA
    clear na hT
    go_enter Tryd.func47, Tryd.ntmps47
    go_wp2_with fail
    refine (NA.out _).mono ?_
    rintro e wz ⟨rfl, hz⟩
    replace hz := hz.symm
    subst hz
    go_wp2_with fail
    go_ret2
    exact KK.out _ _ _ rfl SP.out

set_option maxRecDepth 100000 in
set_option maxHeartbeats 8000000 in
theorem softFma_any (a b c : Int) (w : World) (a0 : 0 ≤ a) (a1 : a < 18446744073709551616) (b0 : 0 ≤ b) (b1 : b < 18446744073709551616) (c0 : 0 ≤ c) (c1 : c < 18446744073709551616) (hT : Tab w) :
    Calls Tryd.prog 25 #[.int .u64 a, .int .u64 b, .int .u64 c] w fun e w' => Told1 (Ie.FmaIs a b c) w e w' := by
  have AD := hid (fma_any a b c w a0 a1 b0 b1 c0 c1 hT)
  clear hT
  go_enter Tryd.func25, Tryd.ntmps25
  go_wp2_with fail
  refine AD.out.mono ?_
  rintro e w1 ⟨r, f, rfl, h, hB⟩
  have KK : Hid (Told1 (Ie.FmaIs a b c) w (.returned (.int .u64 r)) w1) := ⟨r, f, rfl, h, hB⟩
  clear h hB AD
  go_wp2_with fail
  go_ret
  exact KK.out

end Go.Proofs.YtjebdobopechfabDoor

/-
  What mul, div and fma answer of finite doubles: the exact result, rounded.
-/
namespace Go.Proofs.YtjebdobopechfabDoor
namespace Ie

theorem MulIs.get {a b r f : Int} (fa : fin a) (fb : fin b) (h : MulIs a b r f) : Res (ngd a != ngd b) (dm a * dm b) (de a + de b) false r f := by
  rw [MulIs, (fin_not fa).1, (fin_not fa).2, (fin_not fb).1, (fin_not fb).2] at h
  simp only [Bool.false_eq_true, or_self, false_and, and_false, if_false] at h
  exact h

theorem prod_at {a b : Int} (fa : fin a) (fb : fin b) (k : Nat) (hk : (k : Int) = de a + de b + 2148) : dm a * dm b * 2 ^ k = un (ab a) * un (ab b) := by
  obtain ⟨_, ⟨ea0, ea1⟩, ga, _⟩ := dec_f a fa
  obtain ⟨_, ⟨eb0, eb1⟩, gb, _⟩ := dec_f b fb
  obtain ⟨ka, hka⟩ : ∃ k : Nat, (k : Int) = de a + 1074 := ⟨(de a + 1074).toNat, by omega⟩
  obtain ⟨kb, hkb⟩ : ∃ k : Nat, (k : Int) = de b + 1074 := ⟨(de b + 1074).toNat, by omega⟩
  rw [← ga ka hka, ← gb kb hkb, show k = ka + kb by omega, Nm.two_add]
  ac_rfl

theorem uv_mul (a b : Int) : uv a * uv b = sn (ngd a != ngd b) (un (ab a) * un (ab b)) := sn_mul _ _ _ _

theorem MulIs.rs {a b r f : Int} (fa : fin a) (fb : fin b) (h : MulIs a b r f) : RS (uv a * uv b) (2 ^ 1074) (ngd a != ngd b) r := by
  obtain ⟨x, t, L, rfl, -, hR, -, -⟩ := h.get fa fb
  obtain ⟨⟨da0, _⟩, ⟨ea0, ea1⟩, _, _⟩ := dec_f a fa
  obtain ⟨⟨db0, _⟩, ⟨eb0, eb1⟩, _, _⟩ := dec_f b fb
  obtain ⟨c, hc⟩ : ∃ k : Nat, (k : Int) = de a + de b + 2148 := ⟨(de a + de b + 2148).toNat, by omega⟩
  exact rs_of hR (Int.mul_nonneg da0 db0) c 1074 (by omega) (by rw [prod_at fa fb c hc]; exact uv_mul a b) rfl (fun _ => rfl)

theorem FmaIs.get {a b c r f : Int} (fa : fin a) (fb : fin b) (fc : fin c) (h : FmaIs a b c r f) : ∃ neg V e, SumIs (ngd a != ngd b) (dm a * dm b) (de a + de b) (ngd c) (dm c) (de c) neg V e ∧ Res neg V e false r f := by
  rw [FmaIs, (fin_not fa).1, (fin_not fa).2, (fin_not fb).1, (fin_not fb).2, (fin_not fc).1, (fin_not fc).2] at h
  simp only [Bool.false_eq_true, or_self, if_false] at h
  exact h

theorem FmaIs.rs {a b c r f : Int} (fa : fin a) (fb : fin b) (fc : fin c) (h : FmaIs a b c r f) : RS (uv a * uv b + uv c * 2 ^ 1074) (2 ^ 1074) ((ngd a != ngd b) && ngd c) r := by
  obtain ⟨neg, V, e, hS, x, t, L, rfl, -, hR, -, -⟩ := h.get fa fb fc
  obtain ⟨_, ⟨ea0, ea1⟩, _, _⟩ := dec_f a fa
  obtain ⟨_, ⟨eb0, eb1⟩, _, _⟩ := dec_f b fb
  obtain ⟨_, ⟨ec0, ec1⟩, gc, _⟩ := dec_f c fc
  have g2 : ∀ k : Nat, (k : Int) = de c + (2148 : Nat) → dm c * 2 ^ k = un (ab c) * 2 ^ 1074 := by
    intro k hk
    obtain ⟨kc, hkc⟩ : ∃ k : Nat, (k : Int) = de c + 1074 := ⟨(de c + 1074).toNat, by omega⟩
    rw [← gc kc hkc, show k = kc + 1074 by omega, Nm.two_add, Int.mul_assoc]
  obtain ⟨c', hc, key, h0⟩ := hS.at 2148 (by omega) (by omega) (fun k hk => prod_at fa fb k (by omega)) g2
  rw [← uv_mul, ← sn_mul_right (ngd c)] at key h0
  exact rs_of hR hS.2.2.1.1 c' 1074 (by omega) key.symm rfl h0

theorem DivIs.get {a b r f : Int} (fa : fin a) (fb : fin b) (hb : ab b ≠ 0) (h : DivIs a b r f) : Res (ngd a != ngd b) (dm a * 2 ^ 128 / dm b) (de a - 128 - de b) (decide (dm a * 2 ^ 128 % dm b ≠ 0)) r f := by
  have zb : isz b = false := by rw [isz, decide_eq_false_iff_not]; exact hb
  rw [DivIs, (fin_not fa).1, (fin_not fa).2, (fin_not fb).1, (fin_not fb).2, zb] at h
  simp only [Bool.false_eq_true, or_self, and_false, if_false] at h
  exact h

theorem near_zero (Q : Int) (hQ : 0 < Q) : Near 0 Q false 0 := by
  refine ⟨⟨by omega, by omega⟩, fun h => absurd h (by omega), fun _ => .inl ?_⟩
  rw [md_zero, Int.one_mul]; exact hQ

/-- A quotient cut at 128 bits and marked is rounded as the fraction. -/
theorem div_near {a b x : Int} (fa : fin a) (fb : fin b) (hb : ab b ≠ 0) (hR : Rnd (dm a * 2 ^ 128 / dm b) 1 (de a - 128 - de b) (decide (dm a * 2 ^ 128 % dm b ≠ 0)) x) : Near (2 * (un (ab a) * 2 ^ 1074)) (un (ab b)) false x := by
  obtain ⟨⟨da0, da1⟩, ⟨ea0, ea1⟩, ga, za⟩ := dec_f a fa
  obtain ⟨⟨db0, db1⟩, ⟨eb0, eb1⟩, gb, zb⟩ := dec_f b fb
  have bp := un_pos (x := ab b) (by have := (ab_bd b).1; omega)
  have dp : 0 < dm b := by omega
  rcases (show dm a = 0 ∨ 0 < dm a by omega) with h | h
  · rw [h, Int.zero_mul, Int.zero_ediv, Int.zero_emod] at hR
    have : x = 0 := hR.one (by omega) (by omega) (rnd_zero 1 (de a - 128 - de b) _ (by omega)) (a := 0) (a' := 0) (by omega) rfl
    subst this
    rw [za.1 h, un_zero, Int.zero_mul]
    exact near_zero _ bp
  · have hq : 18014398509481984 ≤ dm a * 2 ^ 128 / dm b := by
      rw [Int.le_ediv_iff_mul_le dp]
      have h1 : 1 * 2 ^ 128 ≤ dm a * 2 ^ 128 := Int.mul_le_mul_of_nonneg_right (by omega) (by have := Nm.two_pos 128; omega)
      have h2 : (2 : Int) ^ 128 = 340282366920938463463374607431768211456 := by decide
      omega
    have hF := rnd_floor (dm a * 2 ^ 128) (dm b) _ x dp hq hR
    obtain ⟨ka, hka⟩ : ∃ k : Nat, (k : Int) = de a + 1074 := ⟨(de a + 1074).toNat, by omega⟩
    obtain ⟨kb, hkb⟩ : ∃ k : Nat, (k : Int) = de b + 1074 := ⟨(de b + 1074).toNat, by omega⟩
    have hN := hF (ka + 947) kb (by omega)
    rw [gb kb hkb] at hN
    have e : dm a * 2 ^ 128 * 2 ^ (ka + 947) = 2 * (un (ab a) * 2 ^ 1074) := by
      have l : dm a * 2 ^ 128 * 2 ^ (ka + 947) = dm a * 2 ^ (ka + 1075) := by rw [Int.mul_assoc, ← Nm.two_add, show 128 + (ka + 947) = ka + 1075 by omega]
      have r : dm a * 2 ^ (ka + 1075) = 2 * (dm a * 2 ^ ka * 2 ^ 1074) := by
        rw [show ka + 1075 = (ka + 1074) + 1 by omega, Nm.two_succ, Nm.two_add]
        generalize (2 : Int) ^ 1074 = P
        generalize (2 : Int) ^ ka = R
        ac_rfl
      rw [l, r, ga ka hka]
    rw [e] at hN
    exact hN

theorem DivIs.rs {a b r f : Int} (fa : fin a) (fb : fin b) (hb : ab b ≠ 0) (h : DivIs a b r f) : RS (sn (ngd a != ngd b) (un (ab a) * 2 ^ 1074)) (un (ab b)) (ngd a != ngd b) r := by
  obtain ⟨x, t, L, rfl, -, hR, -, -⟩ := h.get fa fb hb
  exact ⟨_, _, x, rfl, rfl, Int.mul_nonneg (un_nn (ab_bd a).1) (by have := Nm.two_pos 1074; omega), div_near fa fb hb hR, fun _ => rfl⟩

theorem un_32 : un 4613937818241073152 * un 4611686018427387904 = un 4618441417868443648 * 2 ^ 1074 := by
  rw [un_3, un_2, un_6]
  have e1 : (2 : Int) ^ 1074 = 4503599627370496 * 2 ^ 1022 := by rw [show 1074 = 52 + 1022 by rfl, Nm.two_add]; rfl
  have e2 : (2 : Int) ^ 1024 = 2 * 2 ^ 1023 := Nm.two_succ 1023
  have e3 : (2 : Int) ^ 1023 = 2 * 2 ^ 1022 := Nm.two_succ 1022
  rw [e1, e2, e3]
  generalize (2 : Int) ^ 1022 = P
  ac_rfl

theorem un_63 : un 4618441417868443648 + un 4613937818241073152 = un 4621256167635550208 := by
  rw [un_3, un_6, un_9, p1022.1, p1022.2.1, p1022.2.2]
  generalize (2 : Int) ^ 1022 = P
  omega

theorem mul_32 {r f : Int} (h : MulIs 4613937818241073152 4611686018427387904 r f) : r = 4618441417868443648 := by
  refine (h.rs (by rw [fin]; decide) (by rw [fin]; decide)).lit (Nm.two_pos _) _ (by omega) (by omega) ?_
  rw [uv_pos (by omega) (by omega), uv_pos (by omega) (by omega), un_32]

theorem fma_233 {r f : Int} (h : FmaIs 4611686018427387904 4613937818241073152 4613937818241073152 r f) : r = 4621256167635550208 := by
  refine (h.rs (by rw [fin]; decide) (by rw [fin]; decide) (by rw [fin]; decide)).lit (Nm.two_pos _) _ (by omega) (by omega) ?_
  rw [uv_pos (by omega) (by omega), uv_pos (by omega) (by omega), Int.mul_comm (un 4611686018427387904), un_32, ← Int.add_mul, un_63]

theorem div_62 {r f : Int} (h : DivIs 4618441417868443648 4611686018427387904 r f) : r = 4613937818241073152 := by
  have h1 := h.rs (by rw [fin]; decide) (by rw [fin]; decide) (by decide)
  have e1 : ab 4611686018427387904 = 4611686018427387904 := by decide
  have e2 : ab 4618441417868443648 = 4618441417868443648 := by decide
  have e3 : (ngd 4618441417868443648 != ngd 4611686018427387904) = false := by decide
  rw [e1, e2, e3] at h1
  refine h1.lit (un_pos (by omega)) _ (by omega) (by omega) ?_
  rw [sn_false, un_32]
end Ie
end Go.Proofs.YtjebdobopechfabDoor

namespace Go.Proofs.YtjebdobopechfabDoor
open Go.RowKit Go.Deep

namespace Rt
/-- Newton's step stays above the root. -/
theorem above {A r q n : Int} (hr : 1 ≤ r) (hq0 : 0 ≤ q) (hq : A < (q + 1) * r) (hn : r + q ≤ 2 * n + 1) : A < (n + 1) * (n + 1) := by
  have h1 : 4 * ((q + 1) * r) ≤ (r + q + 1) * (r + q + 1) := by
    have h2 : 0 ≤ (r - (q + 1)) * (r - (q + 1)) := by
      rcases Int.le_total 0 (r - (q + 1)) with h | h
      · exact Int.mul_nonneg h h
      · exact Int.mul_nonneg_of_nonpos_of_nonpos h h
    have e1 : (r - (q + 1)) * (r - (q + 1)) = r * r - 2 * ((q + 1) * r) + (q + 1) * (q + 1) := by
      rw [Int.sub_mul, Int.mul_sub, Int.mul_sub, Int.mul_comm r (q + 1)]; omega
    have e2 : (r + q + 1) * (r + q + 1) = r * r + 2 * ((q + 1) * r) + (q + 1) * (q + 1) := by
      have e : ∀ y : Int, (r + y) * (r + y) = r * r + 2 * (y * r) + y * y := fun y => by rw [Int.add_mul, Int.mul_add, Int.mul_add, Int.mul_comm r y]; omega
      rw [show r + q + 1 = r + (q + 1) by omega]
      exact e (q + 1)
    omega
  have h3 : (r + q + 1) * (r + q + 1) ≤ (2 * (n + 1)) * (2 * (n + 1)) := Int.mul_le_mul (by omega) (by omega) (by omega) (by omega)
  have e3 : (2 * (n + 1)) * (2 * (n + 1)) = 4 * ((n + 1) * (n + 1)) := by
    rw [Int.mul_assoc, Int.mul_left_comm (n + 1)]; omega
  omega

/-- Where the steps fall no more, the root is there. -/
theorem there {A r q : Int} (hr : 1 ≤ r) (hq : q * r ≤ A) (h : r ≤ (r + q) / 2) : r * r ≤ A := by
  have h1 : r ≤ q := by omega
  have h2 : r * r ≤ q * r := Int.mul_le_mul_of_nonneg_right h1 (by omega)
  omega

theorem start {A : Int} {L h : Nat} (hA : A < 2 ^ L) (hh : L ≤ 2 * h) : A < (2 ^ h + 1) * (2 ^ h + 1) := by
  have h1 := Nm.two_mono hh
  have h2 : (2 : Int) ^ (2 * h) = 2 ^ h * 2 ^ h := by rw [← Nm.two_add]; congr 1; omega
  have h3 := Nm.two_pos h
  rw [Int.add_mul, Int.mul_add, Int.one_mul, Int.mul_one]
  omega

theorem room_any (a b c : Nat) (ha : a ≤ c) (hb : b ≤ c) : Nm.pw a + Nm.pw b ≤ Nm.pw (c + 1) := by
  have h1 := Nm.pw_mono ha
  have h2 := Nm.pw_mono hb
  have h3 := Nm.pw_pos c
  rw [Nm.pw_succ]
  omega

theorem room : Nm.pw 128 + Nm.pw 256 ≤ Nm.pw 4096 := room_any 128 256 4095 (by omega) (by omega)
end Rt

theorem Ans.argR {B : Nat} {w : World} {p : Option Addr} {ys : List Int} {n : Int} (h : Ans B w p ys n) (hn : n < Nm.pw 4096) : Arg w p ys.length ys.length ys :=
  h.arg (by have := h.small hn; omega)

theorem Ans.tsR {B : Nat} {w : World} {p : Option Addr} {ys : List Int} {n : Int} (h : Ans B w p ys n) (hn : n < Nm.pw 4096) : Nm.tsize ys ≤ 4096 := by
  rw [h.2.2.1]
  exact h.small hn

/-- A number's list has a limb. -/
theorem Ans.pos {B : Nat} {w : World} {p : Option Addr} {ys : List Int} {n : Int} (h : Ans B w p ys n) (hn : 0 < n) : 0 < Nm.tsize ys := by
  have h1 := Nm.tsize_zero_iff h.2.1
  have h2 := h.2.2.2.1
  omega

/-- What newton's numbers keep to. -/
structure Near (A r : Int) : Prop where
  one : 1 ≤ r
  small : r ≤ Nm.pw 128
  above : A < (r + 1) * (r + 1)

set_option maxRecDepth 100000 in
set_option maxHeartbeats 1000000 in
theorem step_ok (p s : Option Addr) (n cap : Nat) (za rs : List Int) (A r : Int) (B : Nat) (w : World) (ha : Arg w p n cap za) (hr : Ans B w s rs r) (hT : Tab w) (hA : Nm.val za = A) (hA1 : 1 ≤ A) (hA2 : A < Nm.pw 256) (hN : Near A r) :
    Calls Tryd.prog 91 #[.slice p n cap, .slice s (List.length rs) (List.length rs)] w fun e w' => ∃ t os, e = .returned (.slice t (List.length os) (List.length os)) ∧ Ans w.heap.size w' t os ((r + A / r) / 2) ∧ Below w.heap.size w w' := by
  have P0 := Rt.room
  have p128 := Nm.pw_pos 128
  have p256 := Nm.pw_pos 256
  have hr1 := hN.one
  have hr2 := hN.small
  have SD : A / r * r + A % r = A ∧ 0 ≤ A % r ∧ A % r < r ∧ 0 ≤ A / r ∧ A / r ≤ A := by
    have ed := Int.emod_add_mul_ediv A r
    have e0 := Int.emod_nonneg A (show r ≠ 0 by omega)
    have e1 := Int.emod_lt_of_pos A (show 0 < r by omega)
    have e2 : 0 ≤ A / r := Int.ediv_nonneg (by omega) (by omega)
    have e3 : A / r * 1 ≤ A / r * r := Int.mul_le_mul_of_nonneg_left (by omega) e2
    rw [Int.mul_comm] at ed
    exact ⟨by omega, e0, e1, e2, by omega⟩
  have hAs : A < Nm.pw 4096 ∧ r < Nm.pw 4096 ∧ A / r < Nm.pw 4096 ∧ r + A / r < Nm.pw 4096 := by
    generalize Nm.pw 4096 = x at *
    generalize Nm.pw 128 = y at *
    generalize Nm.pw 256 = z at *
    omega
  have h2 : 2 ≤ r + A / r := by
    rcases (show r = 1 ∨ 2 ≤ r by omega) with h | h
    · subst h
      rw [Int.ediv_one]
      omega
    · omega
  have ta : Nm.tsize za ≤ 4096 := (Nm.tsize_le_iff ha.2.2.2.2 4096).2 (by rw [hA]; exact hAs.1)
  have DM := divMod_ok p s n cap _ _ za rs w ha (hr.argR hAs.2.1) ta (hr.tsR hAs.2.1) (hr.pos (by omega))
  rw [hA, hr.2.2.2.1] at DM
  have HDM := hid DM
  have HR := hid hr
  have HT := hid hT
  have HS := hid hAs
  have H2 := hid h2
  clear DM ta SD P0 p128 p256 hr1 hr2 hAs h2 ha hr hT hA hA1 hA2 hN
  obtain ⟨q, HQ⟩ : ∃ q, Hid (A / r = q) := ⟨_, rfl⟩
  simp only [Splits, HQ.out] at HDM
  rw [HQ.out] at HS H2 ⊢
  go_enter Tryd.func91, Tryd.ntmps91
  go_wp2_with fail
  refine HDM.out.mono ?_
  rintro e w1 ⟨s1, os, s2, us, rfl, B1, -, hb1⟩
  have HB1 := hid B1
  have HR1 := hid (HR.out.below hb1 (Nat.le_refl _))
  have HT1 := hid (HT.out.below hb1)
  have D1 := hid hb1
  clear B1 hb1 HDM HR HT
  go_wp2_with fail
  refine (add_ok s s1 _ _ _ _ rs os _ (HR1.out.argR HS.out.2.1) (HB1.out.argR HS.out.2.2.1) (by rw [HR1.out.2.2.2.1, HB1.out.2.2.2.1]; exact HS.out.2.2.2)).mono ?_
  rintro e w2 ⟨s3, ts, rfl, B2, hb2⟩
  rw [HR1.out.2.2.2.1, HB1.out.2.2.2.1] at B2
  have HB2 := hid B2
  have HT2 := hid (HT1.out.below hb2)
  have D2 := hid (chain D1.out hb2 (Nat.le_refl _))
  clear B2 hb2 HT1 D1 HR1 HB1
  obtain ⟨L, l1, l2, l3, _⟩ := blen_is (Nm.trim ts) HB2.out.2.1.trim
  rw [Nm.trim_trim] at l3
  have hL : 1 < L := by
    rw [Nm.val_trim, HB2.out.2.2.2.1] at l2
    have h := l2.1
    have h2 := H2.out
    rcases (show L ≤ 1 ∨ 1 < L by omega) with c | c
    · have := Nm.two_mono c
      omega
    · exact c
  have SH := shr_ok s3 _ _ ts 1 1 L w2 (HB2.out.argR HS.out.2.2.2) HT2.out (HB2.out.tsR HS.out.2.2.2) rfl l1 l3 hL
  rw [HB2.out.2.2.2.1, show (2 : Int) ^ 1 = 2 by decide] at SH
  have HSH := hid SH
  clear SH l1 l2 l3 hL
  go_wp2_with fail
  refine HSH.out.mono ?_
  rintro e w3 ⟨s4, vs, rfl, B3, hb3⟩
  have HB3 := hid (B3.up D2.out.size)
  have D3 := hid (chain D2.out hb3 (Nat.le_refl _))
  clear B3 hb3
  go_wp2_with fail
  go_ret
  exact ⟨s4, vs, rfl, HB3.out, D3.out⟩

set_option maxRecDepth 100000 in
set_option maxHeartbeats 1000000 in
theorem newton_ok (p : Option Addr) (n cap : Nat) (za : List Int) (A : Int) (w : World) (ha : Arg w p n cap za) (hT : Tab w) (hA : Nm.val za = A) (hA1 : 1 ≤ A) (hA2 : A < Nm.pw 256) :
    Calls Tryd.prog 83 #[.slice p n cap] w fun e w' => ∃ t os R, e = .returned (.slice t (List.length os) (List.length os)) ∧ Ans w.heap.size w' t os R ∧ Hid (Near A R ∧ R * R ≤ A) ∧ Below w.heap.size w w' := by
  obtain ⟨L, l1, l2, l3, _⟩ := blen_is za ha.2.2.2.2
  have ts : Nm.tsize za ≤ 256 := (Nm.tsize_le_iff ha.2.2.2.2 256).2 (by rw [hA]; exact hA2)
  rw [hA] at l2
  obtain ⟨h, hh⟩ : ∃ h, (L + 1) / 2 = h := ⟨_, rfl⟩
  have r1 : ((L : Int) + 1) / 2 = (h : Int) := by omega
  have r2 : ((L : Int) + 1).tdiv 2 = (h : Int) := by rw [Int.tdiv_eq_ediv_of_nonneg (by omega)]; exact r1
  have hL : (L : Int) ≤ 16384 := by omega
  have N0 : Near A (2 ^ h) := by
    refine ⟨by have := Nm.two_pos h; omega, ?_, Rt.start l2.1 (by omega)⟩
    rw [Nm.pw_two]
    exact Nm.two_mono (by omega)
  have BL := bitLen_any p n cap za w ha
  rw [l1] at BL
  have hb0 : Below w.heap.size w (w.alloc (.cells #[.int .u64 1] 22)) := (Below.refl _ _).alloc (Nat.le_refl _) _
  have A0 : Arg (w.alloc (.cells #[.int .u64 1] 22)) (some ⟨w.heap.size, 0, none⟩) 1 1 [1] := ⟨rfl, Nat.le_refl _, by omega, (Own.alloc w [1]).lies, limb_one (by omega)⟩
  have BL2 := bitLen_any p n cap za _ (ha.below hb0 (Nat.le_refl _))
  rw [l1] at BL2
  obtain ⟨L1, k1, _, k3, _⟩ := blen_is (Nm.trim [1]) (limb_one (x := 1) (by omega)).trim
  have t1 : Nm.tsize [1] = 1 := by simp [Nm.tsize]
  rw [Nm.trim_trim, t1] at k3
  have SH := shl_ok _ 1 1 [1] (h : Int) h L1 _ A0 (by rw [t1]; omega) rfl (by rw [t1]; omega) k1 (by omega)
  rw [show Nm.val [1] * 2 ^ h = 2 ^ h by simp [Nm.val]] at SH
  have HSH := hid SH
  have HBL := hid BL2
  have HN0 := hid N0
  have HA := hid ha
  have HT := hid hT
  have HV := hid hA
  have H1 := hid hA1
  have HS := hid hA2
  have HB0 := hid hb0
  have h0 : (0 : Int) ≤ (h : Int) := by omega
  clear l1 l2 l3 k1 k3 SH BL BL2 N0 ha hT hA hA1 hA2 hb0 A0 ts t1 hh
  go_enter Tryd.func83, Tryd.ntmps83
  go_wp2_with fail
  refine HBL.out.mono ?_
  rintro e w' ⟨rfl, rfl⟩
  go_wp2_with fail
  refine HSH.out.mono ?_
  rintro e w1 ⟨s1, os, rfl, B1, hb1⟩
  have HB1 := hid (B1.up HB0.out.size)
  have D1 := hid (chain HB0.out hb1 (Nat.le_refl _))
  clear B1 hb1 HSH HBL HB0
  go_wp2_with fail
  go_loopg [3] ((2 : Int) ^ h).toNat (fun x c wr => ∃ (R : Int) (t : Option Addr) (os : List Int), c = .slice t (List.length os) (List.length os) ∧ Hid (x = R.toNat) ∧ Hid (Ans w.heap.size wr t os R) ∧ Hid (Near A R) ∧ Hid (Below w.heap.size w wr))
  case atStart => exact ⟨2 ^ h, s1, os, rfl, rfl, HB1.out, HN0.out, D1.out⟩
  case round =>
    clear HB1 D1 HN0 r1 r2
    obtain ⟨R, t, os, rfl, GK, HO, HN, D⟩ := hrel
    have ST := hid (step_ok p t n cap za os A R w.heap.size wr (HA.out.below D.out (Nat.le_refl _)) HO.out (HT.out.below D.out) HV.out H1.out HS.out HN.out)
    go_wp2_with fail
    refine ST.out.mono ?_
    rintro e w2 ⟨t2, os2, rfl, B2, hb2⟩
    have HB2 := hid (B2.up D.out.size)
    have HO2 := hid (HO.out.below hb2 (Nat.le_refl _))
    have D2 := hid (chain D.out hb2 (Nat.le_refl _))
    clear B2 hb2 ST
    have hq := Int.emod_add_mul_ediv A R
    have hq1 := Int.emod_nonneg A (show R ≠ 0 by have := HN.out.one; omega)
    have hq2 := Int.emod_lt_of_pos A (show 0 < R by have := HN.out.one; omega)
    have hq3 : 0 ≤ A / R := Int.ediv_nonneg (by have := H1.out; omega) (by have := HN.out.one; omega)
    have hq4 : A / R * 1 ≤ A / R * R := Int.mul_le_mul_of_nonneg_left (by have := HN.out.one; omega) hq3
    rw [Int.mul_comm] at hq
    have AB := hid (Rt.above (A := A) (n := (R + A / R) / 2) HN.out.one hq3 (by rw [Int.add_mul, Int.one_mul]; omega) (by omega))
    have TH := hid (fun h => Rt.there (A := A) (q := A / R) HN.out.one (by omega) h)
    have hR2 : 2 ≤ R + A / R := by
      rcases (show R = 1 ∨ 2 ≤ R by have := HN.out.one; omega) with h | h
      · subst h
        rw [Int.ediv_one]
        have := H1.out
        omega
      · omega
    have room := Rt.room
    have p128 := Nm.pw_pos 128
    have p256 := Nm.pw_pos 256
    have hsm : R < Nm.pw 4096 ∧ (R + A / R) / 2 < Nm.pw 4096 := by
      have h1 := HN.out.small
      have h2 := HS.out
      generalize Nm.pw 4096 = x at *
      generalize Nm.pw 128 = y at *
      generalize Nm.pw 256 = z at *
      omega
    have HSM := hid hsm
    obtain ⟨X, HX⟩ : ∃ X, Hid ((R + A / R) / 2 = X) := ⟨_, rfl⟩
    have hX1 : 1 ≤ X := by rw [← HX.out]; omega
    rw [HX.out] at HB2 AB TH HSM
    have HX1 := hid hX1
    clear hq hq1 hq2 hq3 hq4 hR2 room p128 p256 hsm hX1
    by_cases hlt : X < R
    · have NX : Hid (Near A X) := ⟨HX1.out, by have := HN.out.small; omega, AB.out⟩
      have HLT := hid hlt
      clear hlt
      go_wp2_with fail
      refine (cmp_is (-1) t2 t _ _ _ _ os2 os _ (HB2.out.argR HSM.out.2) (HO2.out.argR HSM.out.1) (cmpI_lt (by rw [HB2.out.2.2.2.1, HO2.out.2.2.2.1]; exact HLT.out))).mono ?_
      rintro e w3 ⟨rfl, hb3⟩
      have HB3 := hid (HB2.out.below hb3 (Nat.le_refl _))
      have D3 := hid (chain D2.out hb3 (Nat.le_refl _))
      clear hb3
      go_wp2_with fail
      go_roundg X.toNat
      case measure => have := GK.out; have := HLT.out; have := HX1.out; omega
      case rel => exact ⟨X, t2, os2, rfl, rfl, HB3.out, NX.out, D3.out⟩
    · obtain ⟨c, hc0, HC⟩ : ∃ c : Int, 0 ≤ c ∧ Hid (cmpI X R = c) := by
        rcases (show X = R ∨ R < X by omega) with h | h
        · exact ⟨0, by omega, cmpI_eq h⟩
        · exact ⟨1, by omega, cmpI_gt h⟩
      have FI : Hid (Near A R ∧ R * R ≤ A) := ⟨HN.out, TH.out (by omega)⟩
      clear hlt
      go_wp2_with fail
      refine (cmp_is c t2 t _ _ _ _ os2 os _ (HB2.out.argR HSM.out.2) (HO2.out.argR HSM.out.1) (by rw [HB2.out.2.2.2.1, HO2.out.2.2.2.1]; exact HC.out)).mono ?_
      rintro e w3 ⟨rfl, hb3⟩
      have HB3 := hid (HO2.out.below hb3 (Nat.le_refl _))
      have D3 := hid (chain D2.out hb3 (Nat.le_refl _))
      clear hb3
      go_wp2_with fail
      go_ret
      exact ⟨t, os, R, rfl, HB3.out, FI, D3.out⟩
end Go.Proofs.YtjebdobopechfabDoor

namespace Go.Proofs.YtjebdobopechfabDoor
open Go.RowKit Go.Deep

/-- The whole root. -/
def IsRoot (A R : Int) : Prop := 0 ≤ R ∧ R * R ≤ A ∧ A < (R + 1) * (R + 1)

theorem limbs_isR (p : Option Addr) (n cap : Nat) (zs : List Int) (N : Nat) (w : World) (ha : Arg w p n cap zs) (hN : Nm.tsize zs = N) :
    Calls Tryd.prog 82 #[.slice p n cap] w fun e w' => e = .returned (.int .i64 (N : Int)) ∧ w' = w := by
  rw [← hN]
  exact limbs_any p n cap zs w ha

theorem root_big (p : Option Addr) (n cap : Nat) (za : List Int) (w : World) (ha : Arg w p n cap za) (tz : 256 < Nm.tsize za) :
    Calls Tryd.prog 76 #[.slice p n cap] w fun e w' => e = .returned (.tuple #[.slice none 0 0, .bool false, .int .i64 2]) ∧ w' = w := by
  obtain ⟨N, HN⟩ : ∃ N, Hid (Nm.tsize za = N) := ⟨_, rfl⟩
  have hN : (256 : Int) < (N : Int) := by have := HN.out; omega
  have HL := hid (limbs_isR p n cap za N w ha HN.out)
  clear ha tz
  go_enter Tryd.func76, Tryd.ntmps76
  go_wp2_with fail
  refine HL.out.mono ?_
  rintro e w' ⟨rfl, rfl⟩
  go_wp2_with fail
  go_ret3
  exact ⟨rfl, rfl⟩

theorem ret_root {t : Option Addr} {k : Nat} {b c : Bool} {e : Int} (h : b = c) : Ending.returned (.tuple #[.slice t k k, .bool b, .int .i64 e]) = .returned (.tuple #[.slice t k k, .bool c, .int .i64 e]) := by rw [h]

set_option maxRecDepth 100000 in
set_option maxHeartbeats 1000000 in
theorem root_ok (p : Option Addr) (n cap : Nat) (za : List Int) (A : Int) (w : World) (ha : Arg w p n cap za) (hT : Tab w) (tz : Nm.tsize za ≤ 256) (hA : Nm.val za = A) :
    Calls Tryd.prog 76 #[.slice p n cap] w fun e w' => ∃ t os R, e = .returned (.tuple #[.slice t (List.length os) (List.length os), .bool (decide (R * R = A)), .int .i64 0]) ∧ Ans w.heap.size w' t os R ∧ Hid (IsRoot A R) ∧ Below w.heap.size w w' := by
  obtain ⟨N, HN⟩ : ∃ N, Hid (Nm.tsize za = N) := ⟨_, rfl⟩
  have hN : (N : Int) ≤ 256 := by have := HN.out; omega
  have HL := hid (limbs_isR p n cap za N w ha HN.out)
  have hz := Nm.tsize_zero_iff ha.2.2.2.2
  have h0 := (Nm.val_bd za ha.2.2.2.2).1
  have hA2 : A < Nm.pw 256 := by rw [← hA]; exact (Nm.tsize_le_iff ha.2.2.2.2 256).1 tz
  rw [hA] at hz h0
  by_cases hN0 : N = 0
  · have hA0 : A = 0 := hz.1 (by rw [HN.out]; exact hN0)
    subst hN0
    subst hA0
    clear ha tz hz h0 hA2 hA
    go_enter Tryd.func76, Tryd.ntmps76
    go_wp2_with fail
    refine HL.out.mono ?_
    rintro e w' ⟨rfl, rfl⟩
    go_wp2_with fail
    refine HL.out.mono ?_
    rintro e w' ⟨rfl, rfl⟩
    go_wp2_with fail
    go_ret3
    exact ⟨none, [], 0, rfl, ans_none _ _ _ (fun a h => by cases h), show IsRoot 0 0 from ⟨by omega, by omega, by omega⟩, Below.refl _ _⟩
  · have hN1 : ((N : Int) == 0) = false := by rw [beq_eq_false_iff_ne]; omega
    have hA1 : 1 ≤ A := by
      rcases (show A = 0 ∨ 1 ≤ A by omega) with h | h
      · exact absurd (HN.out.symm.trans (hz.2 h)) hN0
      · exact h
    have NW := hid (newton_ok p n cap za A w ha hT hA hA1 hA2)
    have HA := hid ha
    have HV := hid hA
    have room := Rt.room
    have p128 := Nm.pw_pos 128
    have hAs : Hid (A < Nm.pw 4096) := by
      show _ < _
      generalize Nm.pw 4096 = x at *
      generalize Nm.pw 128 = y at *
      generalize Nm.pw 256 = z at *
      omega
    have HS : Hid (Nm.pw 128 < Nm.pw 4096) := by
      have p256 := Nm.pw_pos 256
      show _ < _
      generalize Nm.pw 4096 = x at *
      generalize Nm.pw 128 = y at *
      generalize Nm.pw 256 = z at *
      omega
    clear ha tz hz h0 hA2 hA hT room p128 hA1
    go_enter Tryd.func76, Tryd.ntmps76
    go_wp2_with fail
    refine HL.out.mono ?_
    rintro e w' ⟨rfl, rfl⟩
    go_wp2_with fail
    refine HL.out.mono ?_
    rintro e w' ⟨rfl, rfl⟩
    go_wp2_with fail
    refine NW.out.mono ?_
    rintro e w1 ⟨t, os, R, rfl, B1, HR, hb1⟩
    have HB1 := hid B1
    have D1 := hid hb1
    have HA1 := hid (HA.out.below hb1 (Nat.le_refl _))
    have hR : Hid (R < Nm.pw 4096) := Int.lt_of_le_of_lt HR.out.1.small HS.out
    have hRR : Hid (R * R < Nm.pw 4096) := Int.lt_of_le_of_lt HR.out.2 hAs.out
    clear B1 hb1 NW
    go_wp2_with fail
    refine (mul_ok t t _ _ _ _ os os _ (HB1.out.argR hR.out) (HB1.out.argR hR.out) (HB1.out.tsR hR.out) (HB1.out.tsR hR.out) (by rw [HB1.out.2.2.2.1]; exact hRR.out)).mono ?_
    rintro e w2 ⟨s, ss, rfl, B2, hb2⟩
    rw [HB1.out.2.2.2.1] at B2
    have HB2 := hid B2
    have HB1' := hid (HB1.out.below hb2 (Nat.le_refl _))
    have HA2 := hid (HA1.out.below hb2 (Nat.le_refl _))
    have D2 := hid (chain D1.out hb2 (Nat.le_refl _))
    have FI : Hid (IsRoot A R) := ⟨by have := HR.out.1.one; omega, HR.out.2, HR.out.1.above⟩
    clear B2 hb2 HB1 HA1 D1 HR
    obtain ⟨c, HC⟩ : ∃ c, Hid (cmpI (R * R) A = c) := ⟨_, rfl⟩
    have HE : Hid ((c == 0) = decide (R * R = A)) := by
      show _ = _
      rw [← HC.out, cmpI]
      have := FI.out.2.1
      by_cases h : R * R < A
      · rw [if_pos h]
        simp
        omega
      · rw [if_neg h, if_pos (by omega)]
        simp
        omega
    go_wp2_with fail
    refine (cmp_is c s p _ _ n cap ss za _ (HB2.out.argR hRR.out) HA2.out (by rw [HB2.out.2.2.2.1, HV.out]; exact HC.out)).mono ?_
    rintro e w3 ⟨rfl, hb3⟩
    have HB3 := hid (HB1'.out.below hb3 (Nat.le_refl _))
    have D3 := hid (chain D2.out hb3 (Nat.le_refl _))
    clear hb3
    go_wp2_with fail
    go_ret3
    exact ⟨t, os, R, ret_root HE.out, HB3.out, FI, D3.out⟩
end Go.Proofs.YtjebdobopechfabDoor

/-
  The root: what the squares of the middles say.
-/
namespace Go.Proofs.YtjebdobopechfabDoor
namespace Ie

theorem sq_le {a b : Int} (h0 : 0 ≤ a) (h : a ≤ b) : a * a ≤ b * b := Int.mul_le_mul h h h0 (by omega)
theorem sq_lt {a b : Int} (h0 : 0 ≤ a) (h : a < b) : a * a < b * b := by
  have h1 : a * a ≤ a * b := Int.mul_le_mul_of_nonneg_left (by omega) h0
  have h2 : a * b < b * b := Int.mul_lt_mul_of_pos_right h (by omega)
  omega

/-- The double x is the root of W, in units of 2^-2150: between the squares of the middles. -/
def RootIs (W x : Int) : Prop :=
  (0 < x ∧ x < 9218868437227405312) ∧ (md (x - 1) * md (x - 1) < W ∨ (md (x - 1) * md (x - 1) = W ∧ x % 2 = 0)) ∧ (W < md x * md x ∨ (W = md x * md x ∧ x % 2 = 0))

/-- What lies between a whole number of 64 bits and the next one holds no middle. -/
theorem no_md {r M : Int} {E a b : Nat} (hr : 18446744073709551616 ≤ r) (_M0 : 0 < M) (M1 : M < 18014398509481984) (h : r * 2 ^ a < M * 2 ^ E * 2 ^ b) : (r + 1) * 2 ^ a ≤ M * 2 ^ E * 2 ^ b := by
  rw [Int.mul_assoc, ← Nm.two_add] at h ⊢
  have lt : a < E + b := by
    rcases Nat.lt_or_ge a (E + b) with h' | h'
    · exact h'
    · exfalso
      have p := Nm.two_pos (E + b)
      have g1 : M * 2 ^ (E + b) < 18014398509481984 * 2 ^ (E + b) := Int.mul_lt_mul_of_pos_right M1 p
      have g2 := Nm.two_mono h'
      have g3 : 18446744073709551616 * 2 ^ a ≤ r * 2 ^ a := Int.mul_le_mul_of_nonneg_right hr (by have := Nm.two_pos a; omega)
      omega
  rw [show E + b = (E + b - a) + a by omega, Nm.two_add (E + b - a) a, ← Int.mul_assoc] at h ⊢
  have p := Nm.two_pos a
  have := Int.lt_of_mul_lt_mul_right h (by omega)
  exact Int.mul_le_mul_of_nonneg_right (by omega) (by omega)

theorem two_sq (a : Nat) : (2 : Int) ^ a * 2 ^ a = 2 ^ (2 * a) := by rw [← Nm.two_add]; congr 1; omega

theorem mul_sq (r : Int) (a : Nat) : r * 2 ^ a * (r * 2 ^ a) = r * r * 2 ^ (2 * a) := by
  rw [← two_sq]; ac_rfl

/-- n the radicand, r its whole root, moved by e; W = n * 2^(2 e + 2150). -/
theorem root_is (n r e x W : Int) (more : Bool) (hr : 18446744073709551616 ≤ r) (h1 : r * r ≤ n) (h2 : n < (r + 1) * (r + 1)) (hm : more = decide (r * r ≠ n)) (h : Rnd r 1 e more x)
    (c d : Nat) (hcd : (c : Int) - d = 2 * e + 2150) (hW : n * 2 ^ c = W * 2 ^ d) (hlo : 1 < W) (hhi : W < 18014398509481983 * 2 ^ 2045 * (18014398509481983 * 2 ^ 2045)) : RootIs W x := by
  obtain ⟨a, b, hab, hN⟩ := h.at
  rw [Int.one_mul] at hN
  have pa := Nm.two_pos a
  have pb := Nm.two_pos b
  have p2a := Nm.two_pos (2 * a)
  have p2b := Nm.two_pos (2 * b)
  -- W * 2^(2b) = n * 2^(2a)
  have key : n * 2 ^ (2 * a) = W * 2 ^ (2 * b) := by
    have pd := Nm.two_pos d
    have pc := Nm.two_pos c
    have e1 : (2 : Int) ^ (2 * a) * 2 ^ d = 2 ^ c * 2 ^ (2 * b) := by rw [← Nm.two_add, ← Nm.two_add]; congr 1; omega
    refine Int.eq_of_mul_eq_mul_right (a := 2 ^ d) (by omega) ?_
    rw [Int.mul_assoc, e1, ← Int.mul_assoc, hW]
    ac_rfl
  have lo : ∀ y, 0 ≤ y → (md y * 2 ^ b < r * 2 ^ a ∨ (md y * 2 ^ b = r * 2 ^ a ∧ (x % 2 = 0 ∨ more = true))) → md y * md y < W ∨ (md y * md y = W ∧ x % 2 = 0) := by
    intro y hy g
    have my := md_nn y hy
    have g0 : md y * 2 ^ b ≤ r * 2 ^ a := by rcases g with g | g <;> omega
    have g1 := sq_le (Int.mul_nonneg (by omega) (by omega)) g0
    rw [mul_sq, mul_sq] at g1
    have g2 : r * r * 2 ^ (2 * a) ≤ n * 2 ^ (2 * a) := Int.mul_le_mul_of_nonneg_right h1 (by omega)
    have g3 : md y * md y * 2 ^ (2 * b) ≤ W * 2 ^ (2 * b) := by omega
    have g4 := Int.le_of_mul_le_mul_right g3 p2b
    rcases (show md y * md y < W ∨ md y * md y = W by omega) with g5 | g5
    · exact .inl g5
    · right
      refine ⟨g5, ?_⟩
      rw [← g5] at key
      have g6 : r * r * 2 ^ (2 * a) = n * 2 ^ (2 * a) := by omega
      have g7 : r * r = n := Int.eq_of_mul_eq_mul_right (by omega) g6
      have g8 : more = false := by rw [hm]; simp [g7]
      rcases g with g | ⟨_, g⟩
      · have g9 := sq_lt (Int.mul_nonneg (by omega) (by omega)) g
        rw [mul_sq, mul_sq] at g9
        omega
      · rcases g with g | g
        · exact g
        · rw [g8] at g; cases g
  have hi : ∀ y, 0 ≤ y → (r * 2 ^ a < md y * 2 ^ b ∨ (r * 2 ^ a = md y * 2 ^ b ∧ x % 2 = 0 ∧ more = false)) → W < md y * md y ∨ (W = md y * md y ∧ x % 2 = 0) := by
    intro y hy g
    rcases g with g | ⟨g, g', g''⟩
    · left
      obtain ⟨M, E, hM, M0, M1⟩ := md_form y hy
      rw [hM] at g
      have g1 := no_md hr M0 M1 g
      rw [← hM] at g1
      have g2 := sq_le (Int.mul_nonneg (by omega) (by omega)) g1
      rw [mul_sq, mul_sq] at g2
      have g3 := Int.mul_lt_mul_of_pos_right h2 p2a
      refine Int.lt_of_mul_lt_mul_right (a := 2 ^ (2 * b)) ?_ (by omega)
      omega
    · right
      refine ⟨?_, g'⟩
      have g1 : r * r = n := by
        rw [hm] at g''
        simpa using g''
      have g2 : r * 2 ^ a * (r * 2 ^ a) = md y * 2 ^ b * (md y * 2 ^ b) := by rw [g]
      rw [mul_sq, mul_sq, g1] at g2
      exact Int.eq_of_mul_eq_mul_right (a := 2 ^ (2 * b)) (by omega) (by omega)
  have x0 : 0 < x := by
    rcases (show x = 0 ∨ 0 < x by have := hN.1.1; omega) with h0 | h0
    · exfalso
      subst h0
      have g := hi 0 (by omega) (hN.2.2 (by omega))
      rw [md_zero] at g
      omega
    · exact h0
  have x1 : x < 9218868437227405312 := by
    rcases (show x = 9218868437227405312 ∨ x < 9218868437227405312 by have := hN.1.2; omega) with h0 | h0
    · exfalso
      subst h0
      have g := lo 9218868437227405311 (by omega) (hN.2.1 (by omega))
      rw [md_last] at g
      omega
    · exact h0
  exact ⟨⟨x0, x1⟩, lo (x - 1) (by omega) (hN.2.1 x0), hi x (by omega) (hN.2.2 x1)⟩

theorem RootIs.one {W x y : Int} (h : RootIs W x) (k : RootIs W y) : x = y := by
  have key : ∀ {x y : Int}, RootIs W x → RootIs W y → ¬ x < y := by
    intro x y h k hl
    have g1 := h.2.2
    have g2 := k.2.1
    have hx := h.1.1
    have m1 := md_nn x (by omega)
    rcases (show x = y - 1 ∨ x < y - 1 by omega) with e | e
    · rw [← e] at g2
      rcases g1 with g1 | ⟨g1, g1'⟩ <;> rcases g2 with g2 | ⟨g2, g2'⟩ <;> omega
    · have := sq_lt (by omega) (md_lt (by omega) e)
      rcases g1 with g1 | ⟨g1, g1'⟩ <;> rcases g2 with g2 | ⟨g2, g2'⟩ <;> omega
  have a := key h k
  have b := key k h
  omega
end Ie
end Go.Proofs.YtjebdobopechfabDoor

/-
  soft: root, sqrt, Sqrt (made by mksqrt.py).
-/
namespace Go.Proofs.YtjebdobopechfabDoor
open Go Go.RowKit Go.Deep

theorem i64_and1 (n : Int) : bits .and .i64 n 1 = n % 2 := by
  have h1 : (BitVec.ofInt 64 1).toNat = 2 ^ 1 - 1 := by decide
  have key : (BitVec.ofInt 64 n &&& BitVec.ofInt 64 1).toNat = (n % ((2 ^ 64 : Nat) : Int)).toNat % 2 ^ 1 := by
    rw [BitVec.toNat_and, BitVec.toNat_ofInt, h1, Nat.and_two_pow_sub_one_eq_mod]
  show IntKind.i64.wrap ((BitVec.ofInt 64 n &&& BitVec.ofInt 64 1).toNat : Nat) = n % 2
  rw [key, IntKind.wrap_i64]
  omega

/-- What root answers. -/
def RootTold (V e : Int) (w : World) (r : Ending) (w' : World) : Prop :=
  ∃ (p : Option Addr) (os : List Int) (R k : Int) (d : Nat), r = .returned (exactOf false p (List.length os) (List.length os) k (!decide (R * R = V * 2 ^ d))) ∧ Ans w.heap.size w' p os R ∧ (d = 128 ∨ d = 129) ∧ 2 * k = e - d ∧ IsRoot (V * 2 ^ d) R ∧ Below w.heap.size w w'

set_option maxRecDepth 100000 in
set_option maxHeartbeats 4000000 in
theorem root_xany (n1 m1 : Bool) (p1 : Option Addr) (l1 c1 : Nat) (z1 : List Int) (e V : Int) (w : World) (a1 : Arg w p1 l1 c1 z1) (hT : Tab w) (hV : Nm.val z1 = V) (b1 : V < 2 ^ 60) (q1 : -1100 ≤ e) (q2 : e ≤ 1000) :
    Calls Tryd.prog 57 #[exactOf n1 p1 l1 c1 e m1] w fun r w' => RootTold V e w r w' := by
  have v0 : 0 ≤ V := by rw [← hV]; exact (Nm.val_bd z1 a1.2.2.2.2).1
  obtain ⟨m, hm⟩ : ∃ m, e % 2 = m := ⟨_, rfl⟩
  have m0 : 0 ≤ m ∧ m ≤ 1 := by omega
  obtain ⟨d, hd⟩ : ∃ d : Nat, (d : Int) = 128 + m := ⟨(128 + m).toNat, by omega⟩
  obtain ⟨k, hk⟩ : ∃ k, 2 * k = e - (128 + m) := ⟨(e - (128 + m)) / 2, by omega⟩
  have BA := i64_and1 e
  rw [hm] at BA
  have TD : (e - (128 + m)).tdiv 2 = k := by
    rw [← hk, Int.mul_tdiv_cancel_left _ (by decide)]
  have WK : wrap64 k = k := by simp only [wrap64]; omega
  have e4096 := pw_4096
  have big := Nm.two_mono (show 189 ≤ 262144 by omega)
  have b60 := Nm.two_mono (show 60 ≤ 189 by omega)
  have pr : V * 2 ^ d < 2 ^ 189 := by
    have h2 : V * 2 ^ d < 2 ^ 60 * 2 ^ d := Int.mul_lt_mul_of_pos_right b1 (Nm.two_pos d)
    rw [← Nm.two_add] at h2
    have := Nm.two_mono (show 60 + d ≤ 189 by omega)
    omega
  have t1 : Nm.tsize z1 ≤ 4096 := (Nm.tsize_le_iff a1.2.2.2.2 4096).2 (by rw [hV]; omega)
  have S1 : Hid (∀ (wx : World) (j : Int), Below w.heap.size w wx → j = 128 + m → Calls Tryd.prog 36 #[.slice p1 l1 c1, .int .i64 j] wx fun e w' => ∃ r os, e = .returned (.tuple #[.slice r (List.length os) (List.length os), .int .i64 0]) ∧ Ans wx.heap.size w' r os (V * 2 ^ d) ∧ Below wx.heap.size wx w') := by
    intro wx j hx hj
    have := shl_any p1 l1 c1 z1 j d wx (a1.below hx (Nat.le_refl _)) t1 (by omega) (by rw [hV]; omega)
    rw [hV] at this
    exact this
  have R1 : Hid (∀ (wx : World) (p : Option Addr) (os : List Int) (B : Nat), Below w.heap.size w wx → Ans B wx p os (V * 2 ^ d) → Calls Tryd.prog 76 #[.slice p os.length os.length] wx fun e w' => ∃ t qs R, e = .returned (.tuple #[.slice t (List.length qs) (List.length qs), .bool (decide (R * R = V * 2 ^ d)), .int .i64 0]) ∧ Ans wx.heap.size w' t qs R ∧ Hid (IsRoot (V * 2 ^ d) R) ∧ Below wx.heap.size wx w') := by
    intro wx p os B hx A
    have g := (A.tl pr (show 189 ≤ 262144 by omega))
    refine root_ok p _ _ os _ wx (A.arg (by omega)) (hT.below hx) ?_ A.2.2.2.1
    refine (Nm.tsize_le_iff A.2.1 256).2 ?_
    rw [A.2.2.2.1, Nm.pw_two]
    have := Nm.two_mono (show 189 ≤ 64 * 256 by omega)
    omega
  have h1 := alloc_b w (.cells #[.bool n1, .slice p1 l1 c1, .int .i64 e, .bool m1] 69)
  have s1 : (w.alloc (.cells #[.bool n1, .slice p1 l1 c1, .int .i64 e, .bool m1] 69)).heap.size = w.heap.size + 1 := by simp
  have R0 := Row4.new (w.alloc (.cells #[.bool n1, .slice p1 l1 c1, .int .i64 e, .bool m1] 69)) 69 (.bool false) (.slice none 0 0) (.int .i64 0) (.bool false)
  rw [s1] at R0
  have X0 := (Row4.new w 69 (.bool n1) (.slice p1 l1 c1) (.int .i64 e) (.bool m1)).below (alloc_b (w.alloc (.cells #[.bool n1, .slice p1 l1 c1, .int .i64 e, .bool m1] 69)) (.cells #[.bool false, .slice none 0 0, .int .i64 0, .bool false] 69)) (by omega)
  have h2 := Below.alloc h1 h1.size (.cells #[.bool false, .slice none 0 0, .int .i64 0, .bool false] 69)
  have HR := hid R0
  have HX := hid X0
  have HB := hid h2
  have FI : Hid (∀ (w3 : World) (p : Option Addr) (os : List Int) (R : Int), Ans (w.heap.size + 2) w3 p os R → Below w.heap.size w w3 → IsRoot (V * 2 ^ d) R →
      RootTold V e w (.returned (exactOf false p (List.length os) (List.length os) k (!decide (R * R = V * 2 ^ d)))) ((((w3.setCell ⟨w.heap.size + 1, 0, none⟩ (.bool false)).setCell ⟨w.heap.size + 1, 1, none⟩ (.slice p os.length os.length)).setCell ⟨w.heap.size + 1, 2, none⟩ (.int .i64 k)).setCell ⟨w.heap.size + 1, 3, none⟩ (.bool (!decide (R * R = V * 2 ^ d))))) := by
    intro w3 p os R A hB hR
    have A' := A.set4 (b := w.heap.size + 1) (u0 := .bool false) (u1 := .slice p os.length os.length) (u2 := .int .i64 k) (u3 := .bool (!decide (R * R = V * 2 ^ d))) (by omega)
    exact ⟨p, os, R, k, d, rfl, ⟨A'.1, A'.2.1, A'.2.2.1, A'.2.2.2.1, fun a h => by have := A'.2.2.2.2 a h; omega⟩, by omega, by omega, hR, set4_below hB (by omega)⟩
  obtain ⟨⟨y0, y1, y2, y3⟩, -⟩ := X0.cells
  simp only [exactOf]
  clear a1 hT hV b1 v0 hm hd hk e4096 big b60 pr t1 h1 s1 R0 X0 h2
  generalize V * 2 ^ d = N at *
  obtain ⟨m0, m1'⟩ := m0
  go_enter Tryd.func57, Tryd.ntmps57
  go_wp2_with fail
  refine (S1.out _ _ HB.out (by omega)).mono ?_
  rintro r wa ⟨pa, oa, rfl, A, hB⟩
  have Ra := HR.out.below hB HR.out.lt
  have Xa := HX.out.below hB HX.out.lt
  have Ba := HB.out.trans (hB.mono HB.out.size)
  have RO := hid (R1.out wa pa oa _ Ba A)
  have HRa := hid Ra
  have HXa := hid Xa
  have HBa := hid Ba
  have LT := hid (Nat.lt_of_lt_of_le HR.out.lt hB.size)
  clear y0 y1 y2 y3
  obtain ⟨⟨y0, y1, y2, y3⟩, -⟩ := Xa.cells
  clear A hB Ra Xa Ba S1 R1 HR HX HB
  go_wp2_with fail
  refine RO.out.mono ?_
  rintro r wb ⟨pb, ob, R, rfl, A, hIs, hB⟩
  have Rb := HRa.out.below hB HRa.out.lt
  have Xb := HXa.out.below hB HXa.out.lt
  have lt := LT.out
  have KK := hid (FI.out wb pb ob R ⟨A.1, A.2.1, A.2.2.1, A.2.2.2.1, fun a h => by have := A.2.2.2.2 a h; omega⟩ (HBa.out.trans (hB.mono HBa.out.size)) hIs.out)
  clear y0 y1 y2 y3
  obtain ⟨⟨y0, y1, y2, y3⟩, -⟩ := Xb.cells
  have RR := hid Rb
  obtain ⟨⟨r0, r1, r2, r3⟩, ⟨f0, f1, f2, f3⟩⟩ := Rb.cells
  clear A hB Rb Xb RO HRa HXa HBa LT lt FI hIs
  go_wp2_with fail
  (try simp only [Exit.inBlock, Exit.then])
  refine bodyPost_ret (results_cell_row rfl _ _ (w.heap.size + 1) 69 _ (0, 0) _ rfl (Row4.set RR.out) Tryd.underlying69 rfl (by kernel_rfl)) rfl ?_
  exact KK.out

namespace Ie
/-- What sqrt answers. -/
def SqrtIs (a r f : Int) : Prop :=
  if isn a = true then r = 9221120237041090560 ∧ f = 0
  else if isz a = true ∨ a = 9218868437227405312 then r = a ∧ f = 0
  else if ngd a = true then r = 9221120237041090560 ∧ f = 1
  else ∃ (R k : Int) (d : Nat), (d = 128 ∨ d = 129) ∧ 2 * k = de a - d ∧ IsRoot (dm a * 2 ^ d) R ∧ Res false R k (!decide (R * R = dm a * 2 ^ d)) r f

theorem root_small {N R : Int} (h : IsRoot N R) (hN : N < 2 ^ 189) : R < 2 ^ 189 := by
  have h0 := h.1
  have h1 := h.2.1
  rcases (show R = 0 ∨ 1 ≤ R by omega) with g | g
  · have := Nm.two_pos 189; omega
  · have : R * 1 ≤ R * R := Int.mul_le_mul_of_nonneg_left g h0
    omega
end Ie

set_option maxRecDepth 100000 in
set_option maxHeartbeats 4000000 in
theorem sqrt_any (a : Int) (w : World) (a0 : 0 ≤ a) (a1 : a < 18446744073709551616) (hT : Tab w) :
    Calls Tryd.prog 35 #[.int .u64 a] w fun e w' => Told2 (Ie.SqrtIs a) w e w' := by
  have NA := hid (fun (wx : World) => nan_any a wx a0 a1)
  have ZA := hid (fun (wx : World) => zero_any a wx a0 a1)
  have SA := Ib.sign_and a a0 a1
  have KK : Hid (∀ (e : Ending) (r f : Int), e = .returned (.tuple #[.int .u64 r, .int .i64 f]) → Ie.SqrtIs a r f → Told2 (Ie.SqrtIs a) w e w) := fun e r f h1 h2 => ⟨r, f, h1, h2, Below.refl _ _⟩
  cases na : Ie.isn a
  · rw [na] at NA
    cases za : Ie.isz a
    · rw [za] at ZA
      by_cases hi : a = 9218868437227405312
      · have SP : Hid (Ie.SqrtIs a a 0) := by rw [Hid, Ie.SqrtIs, na, za]; simp [hi]
        subst hi
        clear na za hT SA
        go_enter Tryd.func35, Tryd.ntmps35
        go_wp2_with fail
        refine (NA.out _).mono ?_
        rintro e wz ⟨rfl, hz⟩
        replace hz := hz.symm
        subst hz
        go_wp2_with fail
        refine (ZA.out _).mono ?_
        rintro e wz ⟨rfl, hz⟩
        replace hz := hz.symm
        subst hz
        go_wp2_with fail
        go_ret2
        exact KK.out _ _ _ rfl SP.out
      · have hi' : (a == 9218868437227405312) = false := by rw [beq_eq_false_iff_ne]; exact hi
        cases ng : Ie.ngd a
        · have s0 : a / 9223372036854775808 = 0 := by
            rw [Ie.ngd, decide_eq_false_iff_not] at ng
            omega
          rw [s0, Int.zero_mul] at SA
          have fa : Ie.fin a := by
            rw [Ie.isn, decide_eq_false_iff_not] at na
            rw [Ie.ngd, decide_eq_false_iff_not] at ng
            rw [Ie.fin]
            simp only [Ie.ab] at na ⊢
            omega
          obtain ⟨⟨da0, da1⟩, ⟨ea0, ea1⟩, -, -⟩ := Ie.dec_f a fa
          have e60 : (2 : Int) ^ 60 = 1152921504606846976 := by decide
          have da2 : Ie.dm a < 2 ^ 60 := by omega
          have UA := hid (fun (wx : World) => number_any a wx a0 a1 fa)
          have RT : Hid (∀ (wx : World) (p : Option Addr) (os : List Int) (B : Nat), Below w.heap.size w wx → Ans B wx p os (Ie.dm a) → Calls Tryd.prog 57 #[exactOf (Ie.ngd a) p os.length os.length (Ie.de a) false] wx fun r w' => RootTold (Ie.dm a) (Ie.de a) wx r w') := by
            intro wx p os B hx A
            exact root_xany _ _ p _ _ os _ _ wx (A.arg (by have := A.tl da2 (show 60 ≤ 262144 by omega); omega)) (hT.below hx) A.2.2.2.1 da2 (by omega) (by omega)
          have RO : Hid (∀ (wx : World) (p : Option Addr) (os : List Int) (R k : Int) (d : Nat) (more : Bool) (B : Nat), Below w.heap.size w wx → Ans B wx p os R → (d = 128 ∨ d = 129) → 2 * k = Ie.de a - d → IsRoot (Ie.dm a * 2 ^ d) R → Calls Tryd.prog 58 #[exactOf false p os.length os.length k more] wx fun r w' => RoundedTold false R k more wx r w') := by
            intro wx p os R k d more B hx A hd hk hI
            have hN : Ie.dm a * 2 ^ d < 2 ^ 189 := by
              have h2 : Ie.dm a * 2 ^ d < 2 ^ 60 * 2 ^ d := Int.mul_lt_mul_of_pos_right da2 (Nm.two_pos d)
              rw [← Nm.two_add] at h2
              have := Nm.two_mono (show 60 + d ≤ 189 by omega)
              omega
            have vb := Ie.root_small hI hN
            have m5 := Nm.two_mono (show 189 ≤ 5000 by omega)
            exact rounded_any false more p _ _ os k R wx (A.arg (by have := A.tl vb (show 189 ≤ 262144 by omega); omega)) (hT.below hx) A.2.2.2.1 A.len0 (by omega) (by omega) (by omega)
          have FI : Hid (∀ (r f : Int), (∃ (R k : Int) (d : Nat), (d = 128 ∨ d = 129) ∧ 2 * k = Ie.de a - d ∧ IsRoot (Ie.dm a * 2 ^ d) R ∧ Ie.Res false R k (!decide (R * R = Ie.dm a * 2 ^ d)) r f) → Ie.SqrtIs a r f) := by
            intro r f h
            rw [Ie.SqrtIs, na, za, ng]
            simp only [Bool.false_eq_true, hi, or_self, if_false]
            exact h
          clear na za ng hi hT da0 da1 ea0 ea1 e60 da2 fa s0
          go_enter Tryd.func35, Tryd.ntmps35
          go_wp2_with fail
          refine (NA.out _).mono ?_
          rintro e wz ⟨rfl, hz⟩
          replace hz := hz.symm
          subst hz
          go_wp2_with fail
          refine (ZA.out _).mono ?_
          rintro e wz ⟨rfl, hz⟩
          replace hz := hz.symm
          subst hz
          go_wp2_with fail
          refine (UA.out _).mono ?_
          rintro e w1 ⟨pa, oa, rfl, A1, hB1⟩
          have RT1 := hid (RT.out w1 pa oa _ hB1 A1)
          have HB := hid hB1
          simp only [exactOf] at RT1 ⊢
          clear A1 hB1 RT UA
          go_wp2_with fail
          refine RT1.out.mono ?_
          rintro e w2 ⟨p, os, R, k, d, rfl, A2, hd, hk, hI, hB2⟩
          have Bw := HB.out.trans (hB2.mono HB.out.size)
          have RR := hid (RO.out w2 p os R k d (!decide (R * R = Ie.dm a * 2 ^ d)) _ Bw A2 hd hk hI)
          have HC := hid Bw
          have HS := hid (And.intro hd (And.intro hk hI))
          simp only [exactOf] at RR ⊢
          have FI2 : Hid (∀ (r f : Int), Ie.Res false R k (!decide (R * R = Ie.dm a * 2 ^ d)) r f → Ie.SqrtIs a r f) := fun r f h => FI.out r f ⟨R, k, d, hd, hk, hI, h⟩
          generalize (!decide (R * R = Ie.dm a * 2 ^ d)) = mo at *
          clear A2 hB2 Bw RO RT1 HB hd hk hI
          go_wp2_with fail
          refine RR.out.mono ?_
          rintro e w4 ⟨x, t, L, rfl, h1, h2, h3, hB4⟩
          have KR : Hid (Told2 (Ie.SqrtIs a) w (.returned (.tuple #[.int .u64 (Ie.sg false x), .int .i64 (Ie.flg R k mo (Ie.sg false x) t L)])) w4) :=
            ⟨_, _, rfl, FI2.out _ _ ⟨x, t, L, rfl, rfl, h1, h2, h3⟩, HC.out.trans (hB4.mono HC.out.size)⟩
          clear h1 h2 h3 hB4 HC RR FI FI2 HS
          go_wp2_with fail
          go_ret2
          exact KR.out
        · have s0 : a / 9223372036854775808 = 1 := by
            rw [Ie.ngd, decide_eq_true_eq] at ng
            omega
          rw [s0, Int.one_mul] at SA
          have SP : Hid (Ie.SqrtIs a 9221120237041090560 1) := by rw [Hid, Ie.SqrtIs, na, za, ng]; simp [hi]
          clear na za ng hi hT s0
          go_enter Tryd.func35, Tryd.ntmps35
          go_wp2_with fail
          refine (NA.out _).mono ?_
          rintro e wz ⟨rfl, hz⟩
          replace hz := hz.symm
          subst hz
          go_wp2_with fail
          refine (ZA.out _).mono ?_
          rintro e wz ⟨rfl, hz⟩
          replace hz := hz.symm
          subst hz
          go_wp2_with fail
          go_ret2
          exact KK.out _ _ _ rfl SP.out
    · have SP : Hid (Ie.SqrtIs a a 0) := by rw [Hid, Ie.SqrtIs, na, za]; simp
      rw [za] at ZA
      clear na za hT SA
      go_enter Tryd.func35, Tryd.ntmps35
      go_wp2_with fail
      refine (NA.out _).mono ?_
      rintro e wz ⟨rfl, hz⟩
      replace hz := hz.symm
      subst hz
      go_wp2_with fail
      refine (ZA.out _).mono ?_
      rintro e wz ⟨rfl, hz⟩
      replace hz := hz.symm
      subst hz
      go_wp2_with fail
      go_ret2
      exact KK.out _ _ _ rfl SP.out
  · have SP : Hid (Ie.SqrtIs a 9221120237041090560 0) := by rw [Hid, Ie.SqrtIs, na]; simp
    rw [na] at NA
    clear na hT SA
    go_enter Tryd.func35, Tryd.ntmps35
    go_wp2_with fail
    refine (NA.out _).mono ?_
    rintro e wz ⟨rfl, hz⟩
    replace hz := hz.symm
    subst hz
    go_wp2_with fail
    go_ret2
    exact KK.out _ _ _ rfl SP.out
set_option maxRecDepth 100000 in
set_option maxHeartbeats 4000000 in
theorem softSqrt_any (a : Int) (w : World) (a0 : 0 ≤ a) (a1 : a < 18446744073709551616) (hT : Tab w) :
    Calls Tryd.prog 10 #[.int .u64 a] w fun e w' => Told1 (Ie.SqrtIs a) w e w' := by
  have AD := hid (sqrt_any a w a0 a1 hT)
  clear hT
  go_enter Tryd.func10, Tryd.ntmps10
  go_wp2_with fail
  refine AD.out.mono ?_
  rintro e w1 ⟨r, f, rfl, h, hB⟩
  have KK : Hid (Told1 (Ie.SqrtIs a) w (.returned (.int .u64 r)) w1) := ⟨r, f, rfl, h, hB⟩
  clear h hB AD
  go_wp2_with fail
  go_ret
  exact KK.out
end Go.Proofs.YtjebdobopechfabDoor

/-
  What sqrt answers of a double above nothing: between the squares of the middles.
-/
namespace Go.Proofs.YtjebdobopechfabDoor
namespace Ie

theorem SqrtIs.get {a r f : Int} (fa : fin a) (hz : ab a ≠ 0) (hn : ngd a = false) (h : SqrtIs a r f) : ∃ (R k : Int) (d : Nat), (d = 128 ∨ d = 129) ∧ 2 * k = de a - d ∧ IsRoot (dm a * 2 ^ d) R ∧ Res false R k (!decide (R * R = dm a * 2 ^ d)) r f := by
  have za : isz a = false := by rw [isz, decide_eq_false_iff_not]; exact hz
  have hi : ¬ a = 9218868437227405312 := by
    intro h
    rw [fin, h] at fa
    revert fa
    decide
  rw [SqrtIs, (fin_not fa).1, za, hn] at h
  simp only [Bool.false_eq_true, hi, or_self, if_false] at h
  exact h

theorem SqrtIs.root {a r f : Int} (fa : fin a) (hz : ab a ≠ 0) (hn : ngd a = false) (h : SqrtIs a r f) : RootIs (un (ab a) * 2 ^ 1076) r := by
  obtain ⟨R, k, d, hd, hk, hI, x, t, L, rfl, -, hR, -, -⟩ := h.get fa hz hn
  obtain ⟨⟨da0, da1⟩, ⟨ea0, ea1⟩, ga, za⟩ := dec_f a fa
  have dp : 0 < dm a := by omega
  have up := un_pos (x := ab a) (by have := (ab_bd a).1; omega)
  have nb : (2 : Int) ^ 128 ≤ dm a * 2 ^ d := by
    have h1 : 1 * 2 ^ d ≤ dm a * 2 ^ d := Int.mul_le_mul_of_nonneg_right (by omega) (by have := Nm.two_pos d; omega)
    have h2 := Nm.two_mono (show 128 ≤ d by omega)
    omega
  have rb : 18446744073709551616 ≤ R := by
    rcases (show 18446744073709551616 ≤ R ∨ R + 1 ≤ 18446744073709551616 by omega) with g | g
    · exact g
    · exfalso
      have h1 := sq_le (show 0 ≤ R + 1 by have := hI.1; omega) g
      have h2 : (2 : Int) ^ 128 = 18446744073709551616 * 18446744073709551616 := by decide
      have h3 := hI.2.2
      omega
  obtain ⟨ka, hka⟩ : ∃ k : Nat, (k : Int) = de a + 1074 := ⟨(de a + 1074).toNat, by omega⟩
  obtain ⟨c, hc⟩ : ∃ c : Nat, (c : Int) = de a + 2150 - d := ⟨(de a + 2150 - d).toNat, by omega⟩
  have um : un (ab a) < 2 ^ 2099 := by
    have h1 := un_lt (ab_bd a).1 fa
    have e1 : man 9218868437227405312 = 4503599627370496 := by decide
    have e2 : ex 9218868437227405312 = 2046 := by decide
    have e3 : un 9218868437227405312 = 2 ^ 2098 := by rw [un, e1, e2, show 2098 = 52 + 2046 by rfl, Nm.two_add]; rfl
    have e4 : (2 : Int) ^ 2099 = 2 * 2 ^ 2098 := Nm.two_succ 2098
    have := Nm.two_pos 2098
    omega
  refine root_is (dm a * 2 ^ d) R k r _ _ rb hI.2.1 hI.2.2 (by simp) hR c 0 (by omega) ?_ ?_ ?_
  · rw [← ga ka hka, Int.pow_zero, Int.mul_one, Int.mul_assoc, Int.mul_assoc, ← Nm.two_add, ← Nm.two_add, show d + c = ka + 1076 by omega]
  · have h1 : 1 * 2 ^ 1076 ≤ un (ab a) * 2 ^ 1076 := Int.mul_le_mul_of_nonneg_right (by omega) (by have := Nm.two_pos 1076; omega)
    have h2 := Nm.two_mono (show 1 ≤ 1076 by omega)
    have h3 : (2 : Int) ^ 1 = 2 := rfl
    omega
  · have h1 : un (ab a) * 2 ^ 1076 < 2 ^ 2099 * 2 ^ 1076 := Int.mul_lt_mul_of_pos_right um (Nm.two_pos 1076)
    rw [← Nm.two_add] at h1
    have h2 : (2 : Int) ^ 2045 ≤ 18014398509481983 * 2 ^ 2045 := by have := Nm.two_pos 2045; omega
    have h3 := sq_le (show 0 ≤ (2 : Int) ^ 2045 by have := Nm.two_pos 2045; omega) h2
    rw [← Nm.two_add] at h3
    have h4 := Nm.two_mono (show 2099 + 1076 ≤ 2045 + 2045 by omega)
    omega

/-- A square of a double has it for its root. -/
theorem root_sq (y : Int) (h0 : 0 < y) (h1 : y < 9218868437227405312) : RootIs (vl y * vl y) y := by
  refine ⟨⟨h0, h1⟩, .inl ?_, .inl ?_⟩
  · have g := md_lt_vl (y - 1) (by omega)
    rw [show y - 1 + 1 = y by omega] at g
    exact sq_lt (by have := md_nn (y - 1) (by omega); omega) g
  · exact sq_lt (vl_nn (by omega)) (vl_lt_md y)

theorem sqrt_9 {r f : Int} (h : SqrtIs 4621256167635550208 r f) : r = 4613937818241073152 := by
  have h1 := h.root (by rw [fin]; decide) (by decide) (by decide)
  have e : ab 4621256167635550208 = 4621256167635550208 := by decide
  rw [e] at h1
  have h2 := root_sq 4613937818241073152 (by omega) (by omega)
  have e2 : vl 4613937818241073152 * vl 4613937818241073152 = un 4621256167635550208 * 2 ^ 1076 := by
    rw [vl_un, un_3, un_9]
    have e1 : (2 : Int) ^ 1076 = 18014398509481984 * 2 ^ 1022 := by rw [show 1076 = 54 + 1022 by rfl, Nm.two_add]; rfl
    rw [e1, p1022.1, p1022.2.2]
    generalize (2 : Int) ^ 1022 = P
    have l : (2 : Int) * (6755399441055744 * (2 * P)) * (2 * (6755399441055744 * (2 * P))) = 730166745731460135262101046296576 * (P * P) := by
      rw [show (2 : Int) * (6755399441055744 * (2 * P)) = 27021597764222976 * P by omega]
      rw [show (27021597764222976 : Int) * P * (27021597764222976 * P) = (27021597764222976 * 27021597764222976) * (P * P) by ac_rfl]
      rfl
    have r : (5066549580791808 : Int) * (8 * P) * (18014398509481984 * P) = 730166745731460135262101046296576 * (P * P) := by
      rw [show (5066549580791808 : Int) * (8 * P) * (18014398509481984 * P) = (5066549580791808 * 8 * 18014398509481984) * (P * P) by ac_rfl]
      rfl
    rw [l, r]
  rw [e2] at h2
  exact h1.one h2
end Ie
end Go.Proofs.YtjebdobopechfabDoor
