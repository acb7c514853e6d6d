/-
  Texts put together: XTimes, XSign, XMulL, XDiv, XSpecM, TNum, XSpec, XAddL, XFma, XSpec2, XBd.
-/
import Derived.Test.YthpeolamapoamaaDoorXPlusA
import Derived.Test.YthpeolamapoamaaDoorSmall
import Derived.Test.YthpeolamapoamaaDoorWalk4
import Derived.Test.YthpeolamapoamaaDoorQAll
import Derived.Test.YthpeolamapoamaaDoorXAddA
import Derived.Test.YthpeolamapoamaaDoorXSpecA
import Derived.Test.YthpeolamapoamaaDoorIOrdD
import Derived.Test.YthpeolamapoamaaDoorXPlus
import Derived.Test.YthpeolamapoamaaDoorXRounded
/-
  soft: times, over (made by mktimes5.py).
-/
namespace Go.Proofs.YthpeolamapoamaaDoor
open Go Go.RowKit Go.Deep

theorem ret_exact {n n' : Bool} {p p' : Option Addr} {l l' c c' : Nat} {e e' : Int} {m m' : Bool} (h0 : n = n') (h1 : e = e') (h2 : m = m') (h3 : p = p') (h4 : l = l') (h5 : c = c') : exactOf n p l c e m = exactOf n' p' l' c' e' m' := by rw [h0, h1, h2, h3, h4, h5]

/-- What times answers. -/
def TimesTold (n1 : Bool) (V1 e1 : Int) (n2 : Bool) (V2 e2 : Int) (w : World) (e : Ending) (w' : World) : Prop :=
  ∃ p os, e = .returned (exactOf (n1 != n2) p (List.length os) (List.length os) (e1 + e2) false) ∧ Ans w.heap.size w' p os (V1 * V2) ∧ Below w.heap.size w w'

/-- What over answers. -/
def OverTold (n1 : Bool) (V1 e1 : Int) (n2 : Bool) (V2 e2 : Int) (w : World) (e : Ending) (w' : World) : Prop :=
  ∃ p os, e = .returned (exactOf (n1 != n2) p (List.length os) (List.length os) (e1 - 128 - e2) (decide (V1 * 2 ^ 128 % V2 ≠ 0))) ∧ Ans w.heap.size w' p os (V1 * 2 ^ 128 / V2) ∧ Below w.heap.size w w'

theorem tell4 {w w3 : World} {p : Option Addr} {os : List Int} {V : Int} {x0 x1 x2 x3 y0 y1 y2 y3 u0 u2 u3 : Value} (hb : Box w w3 x0 x1 x2 x3 y0 y1 y2 y3) (A : Ans (w.heap.size + 3) w3 p os V) :
    Ans w.heap.size ((((w3.setCell ⟨w.heap.size + 2, 0, none⟩ u0).setCell ⟨w.heap.size + 2, 1, none⟩ (.slice p os.length os.length)).setCell ⟨w.heap.size + 2, 2, none⟩ u2).setCell ⟨w.heap.size + 2, 3, none⟩ u3) p os V ∧
    Below w.heap.size w ((((w3.setCell ⟨w.heap.size + 2, 0, none⟩ u0).setCell ⟨w.heap.size + 2, 1, none⟩ (.slice p os.length os.length)).setCell ⟨w.heap.size + 2, 2, none⟩ u2).setCell ⟨w.heap.size + 2, 3, none⟩ u3) := by
  have A' := A.set4 (b := w.heap.size + 2) (u0 := u0) (u1 := .slice p os.length os.length) (u2 := u2) (u3 := u3) (by omega)
  exact ⟨⟨A'.1, A'.2.1, A'.2.2.1, A'.2.2.2.1, fun a h => by have := A'.2.2.2.2 a h; omega⟩, set4_below hb.2.1 (by omega)⟩

set_option maxRecDepth 100000 in
set_option maxHeartbeats 4000000 in
theorem times_xany (n1 n2 m1 m2 : Bool) (p1 p2 : Option Addr) (l1 c1 l2 c2 : Nat) (z1 z2 : List Int) (e1 e2 V1 V2 : Int) (w : World) (a1 : Arg w p1 l1 c1 z1) (a2 : Arg w p2 l2 c2 z2) (hV1 : Nm.val z1 = V1) (hV2 : Nm.val z2 = V2) (b1 : V1 < 2 ^ 60) (b2 : V2 < 2 ^ 60)
    (q1 : -1100 ≤ e1) (q2 : e1 ≤ 1000) (q3 : -1100 ≤ e2) (q4 : e2 ≤ 1000) :
    Calls Tryd.prog 32 #[exactOf n1 p1 l1 c1 e1 m1, exactOf n2 p2 l2 c2 e2 m2] w fun e w' => TimesTold n1 V1 e1 n2 V2 e2 w e w' := by
  have v1 : 0 ≤ V1 := by rw [← hV1]; exact (Nm.val_bd z1 a1.2.2.2.2).1
  have v2 : 0 ≤ V2 := by rw [← hV2]; exact (Nm.val_bd z2 a2.2.2.2.2).1
  have e4096 := pw_4096
  have big := Nm.two_mono (show 120 ≤ 262144 by omega)
  have b60 := Nm.two_mono (show 60 ≤ 120 by omega)
  have pr : V1 * V2 < 2 ^ 120 := by
    have h1 : V1 * V2 ≤ V1 * 2 ^ 60 := Int.mul_le_mul_of_nonneg_left (by omega) v1
    have h2 : V1 * 2 ^ 60 < 2 ^ 60 * 2 ^ 60 := Int.mul_lt_mul_of_pos_right b1 (Nm.two_pos 60)
    rw [← Nm.two_add] at h2
    omega
  have t1 : Nm.tsize z1 ≤ 4096 := (Nm.tsize_le_iff a1.2.2.2.2 4096).2 (by rw [hV1]; omega)
  have t2 : Nm.tsize z2 ≤ 4096 := (Nm.tsize_le_iff a2.2.2.2.2 4096).2 (by rw [hV2]; omega)
  have M1 : Hid (∀ wx : World, Below w.heap.size w wx → Calls Tryd.prog 46 #[.slice p1 l1 c1, .slice p2 l2 c2] wx fun e w' => ∃ r os, e = .returned (.tuple #[.slice r (List.length os) (List.length os), .int .i64 0]) ∧ Ans wx.heap.size w' r os (V1 * V2) ∧ Below wx.heap.size wx w') := by
    intro wx hx
    have := mul_ok p1 p2 l1 c1 l2 c2 z1 z2 wx (a1.below hx (Nat.le_refl _)) (a2.below hx (Nat.le_refl _)) t1 t2 (by rw [hV1, hV2]; omega)
    rw [hV1, hV2] at this
    exact this
  have B0 := Box.new w (.bool n1) (.slice p1 l1 c1) (.int .i64 e1) (.bool m1) (.bool n2) (.slice p2 l2 c2) (.int .i64 e2) (.bool m2)
  clear hV1 hV2 b1 b2 a1 a2 v1 v2 big b60 pr t1 t2 e4096
  have TT : Hid (∀ (e : Ending) (w' : World), (∃ p os, e = .returned (exactOf (n1 != n2) p (List.length os) (List.length os) (e1 + e2) false) ∧ Ans w.heap.size w' p os (V1 * V2) ∧ Below w.heap.size w w') → TimesTold n1 V1 e1 n2 V2 e2 w e w') := fun _ _ h => h
  generalize V1 * V2 = X at *
  simp only [exactOf]
  go_enter Tryd.func32, Tryd.ntmps32
  go_wp2_with fail
  refine (M1.out _ B0.2.1).mono ?_
  rintro e wa ⟨r1, o1, rfl, A1, hB1⟩
  have Ba := B0.on hB1
  have s0 := B0.2.2
  have KF := tell4 (u0 := .bool (n1 != n2)) (u2 := .int .i64 (e1 + e2)) (u3 := .bool false) Ba ⟨A1.1, A1.2.1, A1.2.2.1, A1.2.2.2.1, fun a h => by have := A1.2.2.2.2 a h; omega⟩
  obtain ⟨⟨cx0, cx1, cx2⟩, ⟨cy0, cy1, cy2⟩, ⟨⟨r0, r1', r2', r3⟩, ⟨f0, f1, f2, f3⟩⟩⟩ := Ba.cells
  have RR := hid Ba.1.2.2
  have KK := hid KF
  clear KF A1 hB1 M1 Ba B0 s0
  go_wp2_with fail
  (try simp only [Exit.inBlock, Exit.then])
  refine bodyPost_ret (results_cell_row rfl _ _ (w.heap.size + 2) 34 _ (0, 0) _ rfl (Row4.set RR.out) Tryd.underlying34 rfl (by kernel_rfl)) rfl ?_
  exact TT.out _ _ ⟨r1, o1, rfl, KK.out⟩

set_option maxRecDepth 100000 in
set_option maxHeartbeats 4000000 in
theorem over_xany (n1 n2 m1 m2 : Bool) (p1 p2 : Option Addr) (l1 c1 l2 c2 : Nat) (z1 z2 : List Int) (e1 e2 V1 V2 : Int) (w : World) (a1 : Arg w p1 l1 c1 z1) (a2 : Arg w p2 l2 c2 z2) (hV1 : Nm.val z1 = V1) (hV2 : Nm.val z2 = V2) (b1 : V1 < 2 ^ 60) (b2 : V2 < 2 ^ 60) (d0 : 0 < V2)
    (q1 : -1100 ≤ e1) (q2 : e1 ≤ 1000) (q3 : -1100 ≤ e2) (q4 : e2 ≤ 1000) :
    Calls Tryd.prog 19 #[exactOf n1 p1 l1 c1 e1 m1, exactOf n2 p2 l2 c2 e2 m2] w fun e w' => OverTold n1 V1 e1 n2 V2 e2 w e w' := by
  have v1 : 0 ≤ V1 := by rw [← hV1]; exact (Nm.val_bd z1 a1.2.2.2.2).1
  have e4096 := pw_4096
  have big := Nm.two_mono (show 188 ≤ 262144 by omega)
  have b60 := Nm.two_mono (show 60 ≤ 188 by omega)
  have pr : V1 * 2 ^ 128 < 2 ^ 188 := by
    have h2 : V1 * 2 ^ 128 < 2 ^ 60 * 2 ^ 128 := Int.mul_lt_mul_of_pos_right b1 (Nm.two_pos 128)
    rw [← Nm.two_add] at h2
    exact h2
  have t1 : Nm.tsize z1 ≤ 4096 := (Nm.tsize_le_iff a1.2.2.2.2 4096).2 (by rw [hV1]; omega)
  have t2 : Nm.tsize z2 ≤ 4096 := (Nm.tsize_le_iff a2.2.2.2.2 4096).2 (by rw [hV2]; omega)
  have t3 : 0 < Nm.tsize z2 := tsize_pos a2.2.2.2.2 (by rw [hV2]; exact d0)
  have S1 : Hid (∀ (wx : World), Below w.heap.size w wx → Calls Tryd.prog 25 #[.slice p1 l1 c1, .int .i64 128] wx fun e w' => ∃ r os, e = .returned (.tuple #[.slice r (List.length os) (List.length os), .int .i64 0]) ∧ Ans wx.heap.size w' r os (V1 * 2 ^ 128) ∧ Below wx.heap.size wx w') := by
    intro wx hx
    have := shl_any p1 l1 c1 z1 128 128 wx (a1.below hx (Nat.le_refl _)) t1 (by omega) (by rw [hV1]; omega)
    rw [hV1] at this
    exact this
  have D1 : Hid (∀ (wx : World) (r : Option Addr) (os : List Int) (B : Nat), Below w.heap.size w wx → Ans B wx r os (V1 * 2 ^ 128) → Calls Tryd.prog 26 #[.slice r os.length os.length, .slice p2 l2 c2] wx fun e w' => ∃ (s : Option Addr) (qs : List Int) (t : Option Addr) (rs : List Int), e = .returned (.tuple #[.slice s (List.length qs) (List.length qs), .slice t (List.length rs) (List.length rs), .int .i64 0]) ∧ Ans wx.heap.size w' s qs (V1 * 2 ^ 128 / V2) ∧ decide (0 < List.length rs) = decide (V1 * 2 ^ 128 % V2 ≠ 0) ∧ Below wx.heap.size wx w') := by
    intro wx r os B hx A
    obtain ⟨g1, g2, g3⟩ := A.tl pr (by omega)
    have := divMod_ok r p2 _ _ l2 c2 os z2 wx (A.arg (by omega)) (a2.below hx (Nat.le_refl _)) g1 t2 t3
    rw [A.2.2.2.1, hV2] at this
    refine this.mono ?_
    rintro e w' ⟨s, qs, t, rs, rfl, A1, A2, hB⟩
    refine ⟨s, qs, t, rs, rfl, A1, ?_, hB⟩
    have h1 := Nm.tsize_zero_iff A2.2.1
    rw [A2.2.2.1, A2.2.2.2.1] at h1
    rw [Bool.eq_iff_iff]
    simp only [decide_eq_true_eq]
    omega
  have B0 := Box.new w (.bool n1) (.slice p1 l1 c1) (.int .i64 e1) (.bool m1) (.bool n2) (.slice p2 l2 c2) (.int .i64 e2) (.bool m2)
  have TT : Hid (∀ (e : Ending) (w' : World), (∃ p os, e = .returned (exactOf (n1 != n2) p (List.length os) (List.length os) (e1 - 128 - e2) (decide (V1 * 2 ^ 128 % V2 ≠ 0))) ∧ Ans w.heap.size w' p os (V1 * 2 ^ 128 / V2) ∧ Below w.heap.size w w') → OverTold n1 V1 e1 n2 V2 e2 w e w') := fun _ _ h => h
  clear hV1 hV2 b1 b2 a1 a2 v1 big b60 pr t1 t2 t3 e4096 d0
  generalize decide (V1 * 2 ^ 128 % V2 ≠ 0) = more at *
  generalize V1 * 2 ^ 128 / V2 = Q at *
  generalize V1 * 2 ^ 128 = X at *
  simp only [exactOf]
  go_enter Tryd.func19, Tryd.ntmps19
  go_wp2_with fail
  refine (S1.out _ B0.2.1).mono ?_
  rintro e wa ⟨r1, o1, rfl, A1, hB1⟩
  have Ba := B0.on hB1
  have s0 := B0.2.2
  obtain ⟨⟨cx0, cx1, cx2⟩, ⟨cy0, cy1, cy2⟩, -⟩ := Ba.cells
  have D2 := hid (D1.out wa r1 o1 _ Ba.2.1 A1)
  have BB := hid Ba
  clear A1 hB1 S1 D1 Ba B0 s0
  go_wp2_with fail
  refine D2.out.mono ?_
  rintro e wb ⟨s, qs, t, rs, rfl, A2, hr, hB2⟩
  have Bb := BB.out.on hB2
  have s1 := BB.out.2.2
  have KF := tell4 (u0 := .bool (n1 != n2)) (u2 := .int .i64 (e1 - 128 - e2)) (u3 := .bool more) Bb ⟨A2.1, A2.2.1, A2.2.2.1, A2.2.2.2.1, fun a h => by have := A2.2.2.2.2 a h; omega⟩
  clear cx0 cx1 cx2 cy0 cy1 cy2
  obtain ⟨⟨cx0, cx1, cx2⟩, ⟨cy0, cy1, cy2⟩, ⟨⟨r0, r1', r2', r3⟩, ⟨f0, f1, f2, f3⟩⟩⟩ := Bb.cells
  have RR := hid Bb.1.2.2
  have KK := hid KF
  clear KF A2 hB2 D2 BB Bb s1
  go_wp2_with fail
  (try simp only [Exit.inBlock, Exit.then])
  refine bodyPost_ret (results_cell_row rfl _ _ (w.heap.size + 2) 34 _ (0, 0) _ rfl (Row4.set RR.out) Tryd.underlying34 rfl (by kernel_rfl)) rfl ?_
  exact TT.out _ _ ⟨s, qs, rfl, KK.out⟩
end Go.Proofs.YthpeolamapoamaaDoor

/-
  soft: zero, sign (made by mkmul.py).
-/
namespace Go.Proofs.YthpeolamapoamaaDoor
open Go Go.RowKit Go.Deep

theorem Ie.sign_two (a b : Int) (a0 : 0 ≤ a) (a1 : a < 18446744073709551616) (b0 : 0 ≤ b) (b1 : b < 18446744073709551616) : bits .and .u64 (bits .xor .u64 a b) 9223372036854775808 = Ie.sb (Ie.ngd a != Ie.ngd b) 0 := by
  obtain ⟨x, rfl⟩ := Int.eq_ofNat_of_zero_le a0
  obtain ⟨y, rfl⟩ := Int.eq_ofNat_of_zero_le b0
  have h := u64_xor_nat x y (by omega) (by omega)
  have hl : x ^^^ y < 2 ^ 64 := Nat.xor_lt_two_pow (by omega) (by omega)
  have hd : (x ^^^ y) / 2 ^ 63 = x / 2 ^ 63 ^^^ y / 2 ^ 63 := Nat.xor_div_two_pow
  rw [show (2 : Nat) ^ 63 = 9223372036854775808 from rfl] at hd
  rw [h]
  have g := Ib.sign_and ((x ^^^ y : Nat) : Int) (by omega) (by omega)
  rw [g]
  rcases (show x / 9223372036854775808 = 0 ∨ x / 9223372036854775808 = 1 by omega) with hx | hx <;> rcases (show y / 9223372036854775808 = 0 ∨ y / 9223372036854775808 = 1 by omega) with hy | hy <;> rw [hx, hy] at hd <;> rw [Ie.ngd, Ie.ngd]
  · rw [decide_eq_false (by omega), decide_eq_false (by omega)]
    have : (x ^^^ y) / 9223372036854775808 = 0 := hd
    simp only [Ie.sb, bne_self_eq_false, Bool.false_eq_true, if_false]; omega
  · rw [decide_eq_false (by omega), decide_eq_true (by omega)]
    have : (x ^^^ y) / 9223372036854775808 = 1 := hd
    simp only [Ie.sb, show (false != true) = true from rfl, if_true]; omega
  · rw [decide_eq_true (by omega), decide_eq_false (by omega)]
    have : (x ^^^ y) / 9223372036854775808 = 1 := hd
    simp only [Ie.sb, show (true != false) = true from rfl, if_true]; omega
  · rw [decide_eq_true (by omega), decide_eq_true (by omega)]
    have : (x ^^^ y) / 9223372036854775808 = 0 := hd
    simp only [Ie.sb, bne_self_eq_false, Bool.false_eq_true, if_false]; omega

theorem Ie.inf_or (n : Bool) : bits .or .u64 9218868437227405312 (Ie.sb n 0) = Ie.sb n 9218868437227405312 := by cases n <;> decide

set_option maxRecDepth 100000 in
theorem zero_any (d : Int) (w : World) (h0 : 0 ≤ d) (h1 : d < 18446744073709551616) :
    Calls Tryd.prog 16 #[.int .u64 d] w fun e w' => e = .returned (.bool (Ie.isz d)) ∧ w' = w := by
  have CL := hid (class_any d w h0 h1)
  have E := hid (Ie.isz_cls d)
  generalize Ie.cls d = c at CL E
  go_enter Tryd.func16, Tryd.ntmps16
  go_wp2_with fail
  refine CL.out.mono ?_
  rintro e w' ⟨rfl, rfl⟩
  go_wp2_with fail
  go_ret
  exact ⟨by rw [E.out]; rfl, rfl⟩

set_option maxRecDepth 100000 in
theorem softSign_any (a b : Int) (w : World) (a0 : 0 ≤ a) (a1 : a < 18446744073709551616) (b0 : 0 ≤ b) (b1 : b < 18446744073709551616) :
    Calls Tryd.prog 17 #[.int .u64 a, .int .u64 b] w fun e w' => e = .returned (.int .u64 (Ie.sb (Ie.ngd a != Ie.ngd b) 0)) ∧ w' = w := by
  have E := Ie.sign_two a b a0 a1 b0 b1
  generalize Ie.sb (Ie.ngd a != Ie.ngd b) 0 = s at E
  go_enter Tryd.func17, Tryd.ntmps17
  go_wp2
  go_ret
  exact ⟨rfl, rfl⟩

namespace Ie
/-- What mul answers. -/
def MulIs (a b r f : Int) : Prop :=
  if isn a = true ∨ isn b = true then r = 9221120237041090560 ∧ f = 0
  else if (isi a = true ∧ isz b = true) ∨ (isz a = true ∧ isi b = true) then r = 9221120237041090560 ∧ f = 1
  else if isi a = true ∨ isi b = true then r = sb (ngd a != ngd b) 9218868437227405312 ∧ f = 0
  else Res (ngd a != ngd b) (dm a * dm b) (de a + de b) false r f

/-- What div answers. -/
def DivIs (a b r f : Int) : Prop :=
  if isn a = true ∨ isn b = true then r = 9221120237041090560 ∧ f = 0
  else if (isi a = true ∧ isi b = true) ∨ (isz a = true ∧ isz b = true) then r = 9221120237041090560 ∧ f = 1
  else if isi a = true then r = sb (ngd a != ngd b) 9218868437227405312 ∧ f = 0
  else if isi b = true then r = sb (ngd a != ngd b) 0 ∧ f = 0
  else if isz b = true then r = sb (ngd a != ngd b) 9218868437227405312 ∧ f = 2
  else Res (ngd a != ngd b) (dm a * 2 ^ 128 / dm b) (de a - 128 - de b) (decide (dm a * 2 ^ 128 % dm b ≠ 0)) r f

theorem not_iz {d : Int} (h : isi d = true) : isz d = false := by
  rw [isi, decide_eq_true_eq] at h
  rw [isz, h]; rfl
end Ie
end Go.Proofs.YthpeolamapoamaaDoor

/-
  soft: mul (made by mkmul.py).
-/
namespace Go.Proofs.YthpeolamapoamaaDoor
open Go Go.RowKit Go.Deep

set_option maxRecDepth 100000 in
set_option maxHeartbeats 4000000 in
theorem mul_fin (a b : Int) (w : World) (a0 : 0 ≤ a) (a1 : a < 18446744073709551616) (b0 : 0 ≤ b) (b1 : b < 18446744073709551616) (hT : Tab w) (na : Ie.isn a = false) (ia : Ie.isi a = false) (nb : Ie.isn b = false) (ib : Ie.isi b = false) :
    Calls Tryd.prog 30 #[.int .u64 a, .int .u64 b] w fun e w' => Told2 (Ie.MulIs a b) w e w' := by
  have fa := Ie.fin_of na ia
  have fb := Ie.fin_of nb ib
  have FI : Hid (∀ (r f : Int), Ie.Res (Ie.ngd a != Ie.ngd b) (Ie.dm a * Ie.dm b) (Ie.de a + Ie.de b) false r f → Ie.MulIs a b r f) := by
    intro r f h2
    rw [Ie.MulIs, na, nb, ia, ib]
    simp only [Bool.false_eq_true, or_self, false_and, and_false, if_false]
    exact h2
  have NA := hid (fun (wx : World) => nan_any a wx a0 a1)
  rw [na] at NA
  have NB := hid (fun (wx : World) => nan_any b wx b0 b1)
  rw [nb] at NB
  have IA := hid (fun (wx : World) => infinite_any a wx a0 a1)
  rw [ia] at IA
  have IB := hid (fun (wx : World) => infinite_any b wx b0 b1)
  rw [ib] at IB
  have ZA := hid (fun (wx : World) => zero_any a wx a0 a1)
  have ZB := hid (fun (wx : World) => zero_any b wx b0 b1)
  obtain ⟨⟨da0, da1⟩, ⟨ea0, ea1⟩, -, -⟩ := Ie.dec_f a fa
  obtain ⟨⟨db0, db1⟩, ⟨eb0, eb1⟩, -, dbz⟩ := Ie.dec_f b fb
  have e60 : (2 : Int) ^ 60 = 1152921504606846976 := by decide
  have da2 : Ie.dm a < 2 ^ 60 := by omega
  have db2 : Ie.dm b < 2 ^ 60 := by omega
  have UA := hid (fun (wx : World) => number_any a wx a0 a1 fa)
  have UB := hid (fun (wx : World) => number_any b wx b0 b1 fb)
  have HT := hid hT
  have RU : Hid (∀ (w2 : World) (pa pb : Option Addr) (oa ob : List Int) (B B' : Nat), Ans B w2 pa oa (Ie.dm a) → Ans B' w2 pb ob (Ie.dm b) → Calls Tryd.prog 32 #[exactOf (Ie.ngd a) pa oa.length oa.length (Ie.de a) false, exactOf (Ie.ngd b) pb ob.length ob.length (Ie.de b) false] w2 fun e w' => ∃ p os, e = .returned (exactOf (Ie.ngd a != Ie.ngd b) p (List.length os) (List.length os) (Ie.de a + Ie.de b) false) ∧ Ans w2.heap.size w' p os (Ie.dm a * Ie.dm b) ∧ Below w2.heap.size w2 w') := by
    intro w2 pa pb oa ob B B' A1 A2
    exact times_xany _ _ _ _ _ _ _ _ _ _ oa ob _ _ _ _ w2 (A1.arg (by have := A1.tl da2 (show 60 ≤ 262144 by omega); omega)) (A2.arg (by have := A2.tl db2 (show 60 ≤ 262144 by omega); omega)) A1.2.2.2.1 A2.2.2.2.1 da2 db2 (by omega) (by omega) (by omega) (by omega)
  have vb : Ie.dm a * Ie.dm b < 2 ^ 5000 := by
    have h1 : Ie.dm a * Ie.dm b ≤ Ie.dm a * 2 ^ 60 := Int.mul_le_mul_of_nonneg_left (by omega) da0
    have h2 : Ie.dm a * 2 ^ 60 < 2 ^ 60 * 2 ^ 60 := Int.mul_lt_mul_of_pos_right da2 (Nm.two_pos 60)
    rw [← Nm.two_add] at h2
    have := Nm.two_mono (show 60 + 60 ≤ 5000 by omega)
    omega
  have RO : Hid (∀ (w3 : World) (p : Option Addr) (os : List Int) (B : Nat), Below w.heap.size w w3 → Ans B w3 p os (Ie.dm a * Ie.dm b) → Calls Tryd.prog 20 #[exactOf (Ie.ngd a != Ie.ngd b) p os.length os.length (Ie.de a + Ie.de b) false] w3 fun r w' => RoundedTold (Ie.ngd a != Ie.ngd b) (Ie.dm a * Ie.dm b) (Ie.de a + Ie.de b) false w3 r w') := by
    intro w3 p os B hB A
    exact rounded_any _ _ p _ _ os _ _ w3 (A.arg (by have := A.tl vb (show 5000 ≤ 262144 by omega); omega)) (HT.out.below hB) A.2.2.2.1 A.len0 vb (by omega) (by omega)
  cases hza : Ie.isz a <;> rw [hza] at ZA
  · clear fa fb na nb ia ib hT da0 da1 ea0 ea1 db0 db1 eb0 eb1 dbz e60 da2 db2 vb HT hza
    generalize hV : Ie.dm a * Ie.dm b = V at *
    generalize hE : Ie.de a + Ie.de b = E at *
    clear hV hE
    go_enter Tryd.func30, Tryd.ntmps30
    go_wp2_with fail
    refine (NA.out _).mono ?_
    rintro e wz ⟨rfl, hz⟩
    replace hz := hz.symm
    subst hz
    go_wp2_with fail
    refine (NB.out _).mono ?_
    rintro e wz ⟨rfl, hz⟩
    replace hz := hz.symm
    subst hz
    go_wp2_with fail
    refine (IA.out _).mono ?_
    rintro e wz ⟨rfl, hz⟩
    replace hz := hz.symm
    subst hz
    go_wp2_with fail
    refine (ZA.out _).mono ?_
    rintro e wz ⟨rfl, hz⟩
    replace hz := hz.symm
    subst hz
    go_wp2_with fail
    refine (IA.out _).mono ?_
    rintro e wz ⟨rfl, hz⟩
    replace hz := hz.symm
    subst hz
    go_wp2_with fail
    refine (IB.out _).mono ?_
    rintro e wz ⟨rfl, hz⟩
    replace hz := hz.symm
    subst hz
    go_wp2_with fail
    refine (UA.out _).mono ?_
    rintro e w1 ⟨pa, oa, rfl, A1, hB1⟩
    have H1 := hid (And.intro A1 hB1)
    clear A1 hB1
    simp only [exactOf]
    go_wp2_with fail
    refine (UB.out _).mono ?_
    rintro e w2 ⟨pb, ob, rfl, A2, hB2⟩
    have A1 := H1.out.1.below hB2 (Nat.le_refl _)
    have Bw := H1.out.2.trans (hB2.mono H1.out.2.size)
    have PL := hid (RU.out w2 pa pb oa ob _ _ A1 A2)
    have HB := hid Bw
    simp only [exactOf] at PL ⊢
    clear A1 A2 hB2 Bw H1 RU
    go_wp2_with fail
    refine PL.out.mono ?_
    rintro e w3 ⟨p, os, rfl, A3, hB3⟩
    have Bw := HB.out.trans (hB3.mono HB.out.size)
    have RR := hid (RO.out w3 p os _ Bw A3)
    have HC := hid Bw
    simp only [exactOf] at RR ⊢
    clear A3 hB3 Bw RO PL HB
    go_wp2_with fail
    refine RR.out.mono ?_
    rintro e w4 ⟨d, t, L, rfl, h1, h2, h3, hB4⟩
    have KK : Hid (Told2 (Ie.MulIs a b) w (.returned (.tuple #[.int .u64 (Ie.sg (Ie.ngd a != Ie.ngd b) d), .int .i64 (Ie.flg V E false (Ie.sg (Ie.ngd a != Ie.ngd b) d) t L)])) w4) :=
      ⟨_, _, rfl, FI.out _ _ ⟨d, t, L, rfl, rfl, h1, h2, h3⟩, HC.out.trans (hB4.mono HC.out.size)⟩
    clear h1 h2 h3 hB4 HC RR FI
    go_wp2_with fail
    go_ret2
    exact KK.out
  · clear fa fb na nb ia ib hT da0 da1 ea0 ea1 db0 db1 eb0 eb1 dbz e60 da2 db2 vb HT hza
    generalize hV : Ie.dm a * Ie.dm b = V at *
    generalize hE : Ie.de a + Ie.de b = E at *
    clear hV hE
    go_enter Tryd.func30, Tryd.ntmps30
    go_wp2_with fail
    refine (NA.out _).mono ?_
    rintro e wz ⟨rfl, hz⟩
    replace hz := hz.symm
    subst hz
    go_wp2_with fail
    refine (NB.out _).mono ?_
    rintro e wz ⟨rfl, hz⟩
    replace hz := hz.symm
    subst hz
    go_wp2_with fail
    refine (IA.out _).mono ?_
    rintro e wz ⟨rfl, hz⟩
    replace hz := hz.symm
    subst hz
    go_wp2_with fail
    refine (ZA.out _).mono ?_
    rintro e wz ⟨rfl, hz⟩
    replace hz := hz.symm
    subst hz
    go_wp2_with fail
    refine (IB.out _).mono ?_
    rintro e wz ⟨rfl, hz⟩
    replace hz := hz.symm
    subst hz
    go_wp2_with fail
    refine (IA.out _).mono ?_
    rintro e wz ⟨rfl, hz⟩
    replace hz := hz.symm
    subst hz
    go_wp2_with fail
    refine (IB.out _).mono ?_
    rintro e wz ⟨rfl, hz⟩
    replace hz := hz.symm
    subst hz
    go_wp2_with fail
    refine (UA.out _).mono ?_
    rintro e w1 ⟨pa, oa, rfl, A1, hB1⟩
    have H1 := hid (And.intro A1 hB1)
    clear A1 hB1
    simp only [exactOf]
    go_wp2_with fail
    refine (UB.out _).mono ?_
    rintro e w2 ⟨pb, ob, rfl, A2, hB2⟩
    have A1 := H1.out.1.below hB2 (Nat.le_refl _)
    have Bw := H1.out.2.trans (hB2.mono H1.out.2.size)
    have PL := hid (RU.out w2 pa pb oa ob _ _ A1 A2)
    have HB := hid Bw
    simp only [exactOf] at PL ⊢
    clear A1 A2 hB2 Bw H1 RU
    go_wp2_with fail
    refine PL.out.mono ?_
    rintro e w3 ⟨p, os, rfl, A3, hB3⟩
    have Bw := HB.out.trans (hB3.mono HB.out.size)
    have RR := hid (RO.out w3 p os _ Bw A3)
    have HC := hid Bw
    simp only [exactOf] at RR ⊢
    clear A3 hB3 Bw RO PL HB
    go_wp2_with fail
    refine RR.out.mono ?_
    rintro e w4 ⟨d, t, L, rfl, h1, h2, h3, hB4⟩
    have KK : Hid (Told2 (Ie.MulIs a b) w (.returned (.tuple #[.int .u64 (Ie.sg (Ie.ngd a != Ie.ngd b) d), .int .i64 (Ie.flg V E false (Ie.sg (Ie.ngd a != Ie.ngd b) d) t L)])) w4) :=
      ⟨_, _, rfl, FI.out _ _ ⟨d, t, L, rfl, rfl, h1, h2, h3⟩, HC.out.trans (hB4.mono HC.out.size)⟩
    clear h1 h2 h3 hB4 HC RR FI
    go_wp2_with fail
    go_ret2
    exact KK.out

set_option maxRecDepth 100000 in
set_option maxHeartbeats 4000000 in
theorem mul_any (a b : Int) (w : World) (a0 : 0 ≤ a) (a1 : a < 18446744073709551616) (b0 : 0 ≤ b) (b1 : b < 18446744073709551616) (hT : Tab w) :
    Calls Tryd.prog 30 #[.int .u64 a, .int .u64 b] w fun e w' => Told2 (Ie.MulIs a b) w e w' := by
  have NA := hid (fun (wx : World) => nan_any a wx a0 a1)
  have NB := hid (fun (wx : World) => nan_any b wx b0 b1)
  have IA := hid (fun (wx : World) => infinite_any a wx a0 a1)
  have IB := hid (fun (wx : World) => infinite_any b wx b0 b1)
  have ZA := hid (fun (wx : World) => zero_any a wx a0 a1)
  have ZB := hid (fun (wx : World) => zero_any b wx b0 b1)
  have SG := hid (fun (wx : World) => softSign_any a b wx a0 a1 b0 b1)
  have OR := Ie.inf_or (Ie.ngd a != Ie.ngd b)
  have KK : Hid (∀ (e : Ending) (r f : Int), e = .returned (.tuple #[.int .u64 r, .int .i64 f]) → Ie.MulIs a b r f → Told2 (Ie.MulIs a b) w e w) := fun e r f h1 h2 => ⟨r, f, h1, h2, Below.refl _ _⟩
  cases na : Ie.isn a
  · cases nb : Ie.isn b
    · cases ia : Ie.isi a
      · cases ib : Ie.isi b
        · skip
          cases za : Ie.isz a
          · skip
            cases zb : Ie.isz b
            · skip
              exact mul_fin a b w a0 a1 b0 b1 hT na ia nb ib
            · skip
              exact mul_fin a b w a0 a1 b0 b1 hT na ia nb ib
          · skip
            cases zb : Ie.isz b
            · skip
              exact mul_fin a b w a0 a1 b0 b1 hT na ia nb ib
            · skip
              exact mul_fin a b w a0 a1 b0 b1 hT na ia nb ib
        · skip
          cases za : Ie.isz a
          · skip
            have zb := Ie.not_iz ib
            have SP : Hid (Ie.MulIs a b (Ie.sb (Ie.ngd a != Ie.ngd b) 9218868437227405312) 0) := by rw [Hid, Ie.MulIs, na, nb, ia, ib, za, zb]; simp
            rw [na] at NA
            rw [nb] at NB
            rw [ia] at IA
            rw [ib] at IB
            rw [za] at ZA
            rw [zb] at ZB
            clear na nb ia ib hT za zb
            generalize hI : Ie.sb (Ie.ngd a != Ie.ngd b) 9218868437227405312 = sI at *
            generalize hO : Ie.sb (Ie.ngd a != Ie.ngd b) 0 = sO at *
            clear hI hO
            go_enter Tryd.func30, Tryd.ntmps30
            go_wp2_with fail
            refine (NA.out _).mono ?_
            rintro e wz ⟨rfl, hz⟩
            replace hz := hz.symm
            subst hz
            go_wp2_with fail
            refine (NB.out _).mono ?_
            rintro e wz ⟨rfl, hz⟩
            replace hz := hz.symm
            subst hz
            go_wp2_with fail
            refine (IA.out _).mono ?_
            rintro e wz ⟨rfl, hz⟩
            replace hz := hz.symm
            subst hz
            go_wp2_with fail
            refine (ZA.out _).mono ?_
            rintro e wz ⟨rfl, hz⟩
            replace hz := hz.symm
            subst hz
            go_wp2_with fail
            refine (IA.out _).mono ?_
            rintro e wz ⟨rfl, hz⟩
            replace hz := hz.symm
            subst hz
            go_wp2_with fail
            refine (IB.out _).mono ?_
            rintro e wz ⟨rfl, hz⟩
            replace hz := hz.symm
            subst hz
            go_wp2_with fail
            refine (SG.out _).mono ?_
            rintro e wz ⟨rfl, hz⟩
            replace hz := hz.symm
            subst hz
            go_wp2_with fail
            go_ret2
            exact KK.out _ _ _ rfl SP.out
          · skip
            have zb := Ie.not_iz ib
            have SP : Hid (Ie.MulIs a b 9221120237041090560 1) := by rw [Hid, Ie.MulIs, na, nb, ia, ib, za, zb]; simp
            rw [na] at NA
            rw [nb] at NB
            rw [ia] at IA
            rw [ib] at IB
            rw [za] at ZA
            rw [zb] at ZB
            clear na nb ia ib hT za zb
            go_enter Tryd.func30, Tryd.ntmps30
            go_wp2_with fail
            refine (NA.out _).mono ?_
            rintro e wz ⟨rfl, hz⟩
            replace hz := hz.symm
            subst hz
            go_wp2_with fail
            refine (NB.out _).mono ?_
            rintro e wz ⟨rfl, hz⟩
            replace hz := hz.symm
            subst hz
            go_wp2_with fail
            refine (IA.out _).mono ?_
            rintro e wz ⟨rfl, hz⟩
            replace hz := hz.symm
            subst hz
            go_wp2_with fail
            refine (ZA.out _).mono ?_
            rintro e wz ⟨rfl, hz⟩
            replace hz := hz.symm
            subst hz
            go_wp2_with fail
            refine (IB.out _).mono ?_
            rintro e wz ⟨rfl, hz⟩
            replace hz := hz.symm
            subst hz
            go_wp2_with fail
            go_ret2
            exact KK.out _ _ _ rfl SP.out
      · cases ib : Ie.isi b
        · skip
          have za := Ie.not_iz ia
          cases zb : Ie.isz b
          · skip
            have SP : Hid (Ie.MulIs a b (Ie.sb (Ie.ngd a != Ie.ngd b) 9218868437227405312) 0) := by rw [Hid, Ie.MulIs, na, nb, ia, ib, za, zb]; simp
            rw [na] at NA
            rw [nb] at NB
            rw [ia] at IA
            rw [ib] at IB
            rw [za] at ZA
            rw [zb] at ZB
            clear na nb ia ib hT za zb
            generalize hI : Ie.sb (Ie.ngd a != Ie.ngd b) 9218868437227405312 = sI at *
            generalize hO : Ie.sb (Ie.ngd a != Ie.ngd b) 0 = sO at *
            clear hI hO
            go_enter Tryd.func30, Tryd.ntmps30
            go_wp2_with fail
            refine (NA.out _).mono ?_
            rintro e wz ⟨rfl, hz⟩
            replace hz := hz.symm
            subst hz
            go_wp2_with fail
            refine (NB.out _).mono ?_
            rintro e wz ⟨rfl, hz⟩
            replace hz := hz.symm
            subst hz
            go_wp2_with fail
            refine (IA.out _).mono ?_
            rintro e wz ⟨rfl, hz⟩
            replace hz := hz.symm
            subst hz
            go_wp2_with fail
            refine (ZB.out _).mono ?_
            rintro e wz ⟨rfl, hz⟩
            replace hz := hz.symm
            subst hz
            go_wp2_with fail
            refine (ZA.out _).mono ?_
            rintro e wz ⟨rfl, hz⟩
            replace hz := hz.symm
            subst hz
            go_wp2_with fail
            refine (IA.out _).mono ?_
            rintro e wz ⟨rfl, hz⟩
            replace hz := hz.symm
            subst hz
            go_wp2_with fail
            refine (SG.out _).mono ?_
            rintro e wz ⟨rfl, hz⟩
            replace hz := hz.symm
            subst hz
            go_wp2_with fail
            go_ret2
            exact KK.out _ _ _ rfl SP.out
          · skip
            have SP : Hid (Ie.MulIs a b 9221120237041090560 1) := by rw [Hid, Ie.MulIs, na, nb, ia, ib, za, zb]; simp
            rw [na] at NA
            rw [nb] at NB
            rw [ia] at IA
            rw [ib] at IB
            rw [za] at ZA
            rw [zb] at ZB
            clear na nb ia ib hT za zb
            go_enter Tryd.func30, Tryd.ntmps30
            go_wp2_with fail
            refine (NA.out _).mono ?_
            rintro e wz ⟨rfl, hz⟩
            replace hz := hz.symm
            subst hz
            go_wp2_with fail
            refine (NB.out _).mono ?_
            rintro e wz ⟨rfl, hz⟩
            replace hz := hz.symm
            subst hz
            go_wp2_with fail
            refine (IA.out _).mono ?_
            rintro e wz ⟨rfl, hz⟩
            replace hz := hz.symm
            subst hz
            go_wp2_with fail
            refine (ZB.out _).mono ?_
            rintro e wz ⟨rfl, hz⟩
            replace hz := hz.symm
            subst hz
            go_wp2_with fail
            go_ret2
            exact KK.out _ _ _ rfl SP.out
        · skip
          have za := Ie.not_iz ia
          have zb := Ie.not_iz ib
          have SP : Hid (Ie.MulIs a b (Ie.sb (Ie.ngd a != Ie.ngd b) 9218868437227405312) 0) := by rw [Hid, Ie.MulIs, na, nb, ia, ib, za, zb]; simp
          rw [na] at NA
          rw [nb] at NB
          rw [ia] at IA
          rw [ib] at IB
          rw [za] at ZA
          rw [zb] at ZB
          clear na nb ia ib hT za zb
          generalize hI : Ie.sb (Ie.ngd a != Ie.ngd b) 9218868437227405312 = sI at *
          generalize hO : Ie.sb (Ie.ngd a != Ie.ngd b) 0 = sO at *
          clear hI hO
          go_enter Tryd.func30, Tryd.ntmps30
          go_wp2_with fail
          refine (NA.out _).mono ?_
          rintro e wz ⟨rfl, hz⟩
          replace hz := hz.symm
          subst hz
          go_wp2_with fail
          refine (NB.out _).mono ?_
          rintro e wz ⟨rfl, hz⟩
          replace hz := hz.symm
          subst hz
          go_wp2_with fail
          refine (IA.out _).mono ?_
          rintro e wz ⟨rfl, hz⟩
          replace hz := hz.symm
          subst hz
          go_wp2_with fail
          refine (ZB.out _).mono ?_
          rintro e wz ⟨rfl, hz⟩
          replace hz := hz.symm
          subst hz
          go_wp2_with fail
          refine (ZA.out _).mono ?_
          rintro e wz ⟨rfl, hz⟩
          replace hz := hz.symm
          subst hz
          go_wp2_with fail
          refine (IA.out _).mono ?_
          rintro e wz ⟨rfl, hz⟩
          replace hz := hz.symm
          subst hz
          go_wp2_with fail
          refine (SG.out _).mono ?_
          rintro e wz ⟨rfl, hz⟩
          replace hz := hz.symm
          subst hz
          go_wp2_with fail
          go_ret2
          exact KK.out _ _ _ rfl SP.out
    · have SP : Hid (Ie.MulIs a b 9221120237041090560 0) := by rw [Hid, Ie.MulIs, na, nb]; simp
      rw [na] at NA
      rw [nb] at NB
      clear na nb hT
      go_enter Tryd.func30, Tryd.ntmps30
      go_wp2_with fail
      refine (NA.out _).mono ?_
      rintro e wz ⟨rfl, hz⟩
      replace hz := hz.symm
      subst hz
      go_wp2_with fail
      refine (NB.out _).mono ?_
      rintro e wz ⟨rfl, hz⟩
      replace hz := hz.symm
      subst hz
      go_wp2_with fail
      go_ret2
      exact KK.out _ _ _ rfl SP.out
  · have SP : Hid (Ie.MulIs a b 9221120237041090560 0) := by rw [Hid, Ie.MulIs, na]; simp
    rw [na] at NA
    clear na hT
    go_enter Tryd.func30, Tryd.ntmps30
    go_wp2_with fail
    refine (NA.out _).mono ?_
    rintro e wz ⟨rfl, hz⟩
    replace hz := hz.symm
    subst hz
    go_wp2_with fail
    go_ret2
    exact KK.out _ _ _ rfl SP.out

end Go.Proofs.YthpeolamapoamaaDoor

/-
  soft: div (made by mkmul.py).
-/
namespace Go.Proofs.YthpeolamapoamaaDoor
open Go Go.RowKit Go.Deep

set_option maxRecDepth 100000 in
set_option maxHeartbeats 4000000 in
theorem div_fin (a b : Int) (w : World) (a0 : 0 ≤ a) (a1 : a < 18446744073709551616) (b0 : 0 ≤ b) (b1 : b < 18446744073709551616) (hT : Tab w) (na : Ie.isn a = false) (ia : Ie.isi a = false) (nb : Ie.isn b = false) (ib : Ie.isi b = false) (zb : Ie.isz b = false) :
    Calls Tryd.prog 9 #[.int .u64 a, .int .u64 b] w fun e w' => Told2 (Ie.DivIs a b) w e w' := by
  have fa := Ie.fin_of na ia
  have fb := Ie.fin_of nb ib
  have FI : Hid (∀ (r f : Int), Ie.Res (Ie.ngd a != Ie.ngd b) (Ie.dm a * 2 ^ 128 / Ie.dm b) (Ie.de a - 128 - Ie.de b) (decide (Ie.dm a * 2 ^ 128 % Ie.dm b ≠ 0)) r f → Ie.DivIs a b r f) := by
    intro r f h2
    rw [Ie.DivIs, na, nb, ia, ib, zb]
    simp only [Bool.false_eq_true, or_self, and_false, if_false]
    exact h2
  have NA := hid (fun (wx : World) => nan_any a wx a0 a1)
  rw [na] at NA
  have NB := hid (fun (wx : World) => nan_any b wx b0 b1)
  rw [nb] at NB
  have IA := hid (fun (wx : World) => infinite_any a wx a0 a1)
  rw [ia] at IA
  have IB := hid (fun (wx : World) => infinite_any b wx b0 b1)
  rw [ib] at IB
  have ZA := hid (fun (wx : World) => zero_any a wx a0 a1)
  have ZB := hid (fun (wx : World) => zero_any b wx b0 b1)
  rw [zb] at ZB
  obtain ⟨⟨da0, da1⟩, ⟨ea0, ea1⟩, -, -⟩ := Ie.dec_f a fa
  obtain ⟨⟨db0, db1⟩, ⟨eb0, eb1⟩, -, dbz⟩ := Ie.dec_f b fb
  have e60 : (2 : Int) ^ 60 = 1152921504606846976 := by decide
  have da2 : Ie.dm a < 2 ^ 60 := by omega
  have db2 : Ie.dm b < 2 ^ 60 := by omega
  have d0 : 0 < Ie.dm b := by
    rw [Ie.isz, decide_eq_false_iff_not] at zb
    omega
  have UA := hid (fun (wx : World) => number_any a wx a0 a1 fa)
  have UB := hid (fun (wx : World) => number_any b wx b0 b1 fb)
  have HT := hid hT
  have RU : Hid (∀ (w2 : World) (pa pb : Option Addr) (oa ob : List Int) (B B' : Nat), Ans B w2 pa oa (Ie.dm a) → Ans B' w2 pb ob (Ie.dm b) → Calls Tryd.prog 19 #[exactOf (Ie.ngd a) pa oa.length oa.length (Ie.de a) false, exactOf (Ie.ngd b) pb ob.length ob.length (Ie.de b) false] w2 fun e w' => ∃ p os, e = .returned (exactOf (Ie.ngd a != Ie.ngd b) p (List.length os) (List.length os) (Ie.de a - 128 - Ie.de b) (decide (Ie.dm a * 2 ^ 128 % Ie.dm b ≠ 0))) ∧ Ans w2.heap.size w' p os (Ie.dm a * 2 ^ 128 / Ie.dm b) ∧ Below w2.heap.size w2 w') := by
    intro w2 pa pb oa ob B B' A1 A2
    exact over_xany _ _ _ _ _ _ _ _ _ _ oa ob _ _ _ _ w2 (A1.arg (by have := A1.tl da2 (show 60 ≤ 262144 by omega); omega)) (A2.arg (by have := A2.tl db2 (show 60 ≤ 262144 by omega); omega)) A1.2.2.2.1 A2.2.2.2.1 da2 db2 d0 (by omega) (by omega) (by omega) (by omega)
  have vb : Ie.dm a * 2 ^ 128 / Ie.dm b < 2 ^ 5000 := by
    have h1 : Ie.dm a * 2 ^ 128 / Ie.dm b ≤ Ie.dm a * 2 ^ 128 := Int.ediv_le_self _ (Int.mul_nonneg da0 (by have := Nm.two_pos 128; omega))
    have h2 : Ie.dm a * 2 ^ 128 < 2 ^ 60 * 2 ^ 128 := Int.mul_lt_mul_of_pos_right da2 (Nm.two_pos 128)
    rw [← Nm.two_add] at h2
    have := Nm.two_mono (show 60 + 128 ≤ 5000 by omega)
    omega
  have RO : Hid (∀ (w3 : World) (p : Option Addr) (os : List Int) (B : Nat), Below w.heap.size w w3 → Ans B w3 p os (Ie.dm a * 2 ^ 128 / Ie.dm b) → Calls Tryd.prog 20 #[exactOf (Ie.ngd a != Ie.ngd b) p os.length os.length (Ie.de a - 128 - Ie.de b) (decide (Ie.dm a * 2 ^ 128 % Ie.dm b ≠ 0))] w3 fun r w' => RoundedTold (Ie.ngd a != Ie.ngd b) (Ie.dm a * 2 ^ 128 / Ie.dm b) (Ie.de a - 128 - Ie.de b) (decide (Ie.dm a * 2 ^ 128 % Ie.dm b ≠ 0)) w3 r w') := by
    intro w3 p os B hB A
    exact rounded_any _ _ p _ _ os _ _ w3 (A.arg (by have := A.tl vb (show 5000 ≤ 262144 by omega); omega)) (HT.out.below hB) A.2.2.2.1 A.len0 vb (by omega) (by omega)
  cases hza : Ie.isz a <;> rw [hza] at ZA
  · clear fa fb na nb ia ib hT da0 da1 ea0 ea1 db0 db1 eb0 eb1 dbz e60 da2 db2 vb HT hza d0 zb
    generalize hV : Ie.dm a * 2 ^ 128 / Ie.dm b = V at *
    generalize hE : Ie.de a - 128 - Ie.de b = E at *
    generalize hM : decide (Ie.dm a * 2 ^ 128 % Ie.dm b ≠ 0) = M at *
    clear hV hE hM
    go_enter Tryd.func9, Tryd.ntmps9
    go_wp2_with fail
    refine (NA.out _).mono ?_
    rintro e wz ⟨rfl, hz⟩
    replace hz := hz.symm
    subst hz
    go_wp2_with fail
    refine (NB.out _).mono ?_
    rintro e wz ⟨rfl, hz⟩
    replace hz := hz.symm
    subst hz
    go_wp2_with fail
    refine (IA.out _).mono ?_
    rintro e wz ⟨rfl, hz⟩
    replace hz := hz.symm
    subst hz
    go_wp2_with fail
    refine (ZA.out _).mono ?_
    rintro e wz ⟨rfl, hz⟩
    replace hz := hz.symm
    subst hz
    go_wp2_with fail
    refine (IA.out _).mono ?_
    rintro e wz ⟨rfl, hz⟩
    replace hz := hz.symm
    subst hz
    go_wp2_with fail
    refine (IB.out _).mono ?_
    rintro e wz ⟨rfl, hz⟩
    replace hz := hz.symm
    subst hz
    go_wp2_with fail
    refine (ZB.out _).mono ?_
    rintro e wz ⟨rfl, hz⟩
    replace hz := hz.symm
    subst hz
    go_wp2_with fail
    refine (UA.out _).mono ?_
    rintro e w1 ⟨pa, oa, rfl, A1, hB1⟩
    have H1 := hid (And.intro A1 hB1)
    clear A1 hB1
    simp only [exactOf]
    go_wp2_with fail
    refine (UB.out _).mono ?_
    rintro e w2 ⟨pb, ob, rfl, A2, hB2⟩
    have A1 := H1.out.1.below hB2 (Nat.le_refl _)
    have Bw := H1.out.2.trans (hB2.mono H1.out.2.size)
    have PL := hid (RU.out w2 pa pb oa ob _ _ A1 A2)
    have HB := hid Bw
    simp only [exactOf] at PL ⊢
    clear A1 A2 hB2 Bw H1 RU
    go_wp2_with fail
    refine PL.out.mono ?_
    rintro e w3 ⟨p, os, rfl, A3, hB3⟩
    have Bw := HB.out.trans (hB3.mono HB.out.size)
    have RR := hid (RO.out w3 p os _ Bw A3)
    have HC := hid Bw
    simp only [exactOf] at RR ⊢
    clear A3 hB3 Bw RO PL HB
    go_wp2_with fail
    refine RR.out.mono ?_
    rintro e w4 ⟨d, t, L, rfl, h1, h2, h3, hB4⟩
    have KK : Hid (Told2 (Ie.DivIs a b) w (.returned (.tuple #[.int .u64 (Ie.sg (Ie.ngd a != Ie.ngd b) d), .int .i64 (Ie.flg V E M (Ie.sg (Ie.ngd a != Ie.ngd b) d) t L)])) w4) :=
      ⟨_, _, rfl, FI.out _ _ ⟨d, t, L, rfl, rfl, h1, h2, h3⟩, HC.out.trans (hB4.mono HC.out.size)⟩
    clear h1 h2 h3 hB4 HC RR FI
    go_wp2_with fail
    go_ret2
    exact KK.out
  · clear fa fb na nb ia ib hT da0 da1 ea0 ea1 db0 db1 eb0 eb1 dbz e60 da2 db2 vb HT hza d0 zb
    generalize hV : Ie.dm a * 2 ^ 128 / Ie.dm b = V at *
    generalize hE : Ie.de a - 128 - Ie.de b = E at *
    generalize hM : decide (Ie.dm a * 2 ^ 128 % Ie.dm b ≠ 0) = M at *
    clear hV hE hM
    go_enter Tryd.func9, Tryd.ntmps9
    go_wp2_with fail
    refine (NA.out _).mono ?_
    rintro e wz ⟨rfl, hz⟩
    replace hz := hz.symm
    subst hz
    go_wp2_with fail
    refine (NB.out _).mono ?_
    rintro e wz ⟨rfl, hz⟩
    replace hz := hz.symm
    subst hz
    go_wp2_with fail
    refine (IA.out _).mono ?_
    rintro e wz ⟨rfl, hz⟩
    replace hz := hz.symm
    subst hz
    go_wp2_with fail
    refine (ZA.out _).mono ?_
    rintro e wz ⟨rfl, hz⟩
    replace hz := hz.symm
    subst hz
    go_wp2_with fail
    refine (ZB.out _).mono ?_
    rintro e wz ⟨rfl, hz⟩
    replace hz := hz.symm
    subst hz
    go_wp2_with fail
    refine (IA.out _).mono ?_
    rintro e wz ⟨rfl, hz⟩
    replace hz := hz.symm
    subst hz
    go_wp2_with fail
    refine (IB.out _).mono ?_
    rintro e wz ⟨rfl, hz⟩
    replace hz := hz.symm
    subst hz
    go_wp2_with fail
    refine (ZB.out _).mono ?_
    rintro e wz ⟨rfl, hz⟩
    replace hz := hz.symm
    subst hz
    go_wp2_with fail
    refine (UA.out _).mono ?_
    rintro e w1 ⟨pa, oa, rfl, A1, hB1⟩
    have H1 := hid (And.intro A1 hB1)
    clear A1 hB1
    simp only [exactOf]
    go_wp2_with fail
    refine (UB.out _).mono ?_
    rintro e w2 ⟨pb, ob, rfl, A2, hB2⟩
    have A1 := H1.out.1.below hB2 (Nat.le_refl _)
    have Bw := H1.out.2.trans (hB2.mono H1.out.2.size)
    have PL := hid (RU.out w2 pa pb oa ob _ _ A1 A2)
    have HB := hid Bw
    simp only [exactOf] at PL ⊢
    clear A1 A2 hB2 Bw H1 RU
    go_wp2_with fail
    refine PL.out.mono ?_
    rintro e w3 ⟨p, os, rfl, A3, hB3⟩
    have Bw := HB.out.trans (hB3.mono HB.out.size)
    have RR := hid (RO.out w3 p os _ Bw A3)
    have HC := hid Bw
    simp only [exactOf] at RR ⊢
    clear A3 hB3 Bw RO PL HB
    go_wp2_with fail
    refine RR.out.mono ?_
    rintro e w4 ⟨d, t, L, rfl, h1, h2, h3, hB4⟩
    have KK : Hid (Told2 (Ie.DivIs a b) w (.returned (.tuple #[.int .u64 (Ie.sg (Ie.ngd a != Ie.ngd b) d), .int .i64 (Ie.flg V E M (Ie.sg (Ie.ngd a != Ie.ngd b) d) t L)])) w4) :=
      ⟨_, _, rfl, FI.out _ _ ⟨d, t, L, rfl, rfl, h1, h2, h3⟩, HC.out.trans (hB4.mono HC.out.size)⟩
    clear h1 h2 h3 hB4 HC RR FI
    go_wp2_with fail
    go_ret2
    exact KK.out

set_option maxRecDepth 100000 in
set_option maxHeartbeats 4000000 in
theorem div_any (a b : Int) (w : World) (a0 : 0 ≤ a) (a1 : a < 18446744073709551616) (b0 : 0 ≤ b) (b1 : b < 18446744073709551616) (hT : Tab w) :
    Calls Tryd.prog 9 #[.int .u64 a, .int .u64 b] w fun e w' => Told2 (Ie.DivIs a b) w e w' := by
  have NA := hid (fun (wx : World) => nan_any a wx a0 a1)
  have NB := hid (fun (wx : World) => nan_any b wx b0 b1)
  have IA := hid (fun (wx : World) => infinite_any a wx a0 a1)
  have IB := hid (fun (wx : World) => infinite_any b wx b0 b1)
  have ZA := hid (fun (wx : World) => zero_any a wx a0 a1)
  have ZB := hid (fun (wx : World) => zero_any b wx b0 b1)
  have SG := hid (fun (wx : World) => softSign_any a b wx a0 a1 b0 b1)
  have OR := Ie.inf_or (Ie.ngd a != Ie.ngd b)
  have KK : Hid (∀ (e : Ending) (r f : Int), e = .returned (.tuple #[.int .u64 r, .int .i64 f]) → Ie.DivIs a b r f → Told2 (Ie.DivIs a b) w e w) := fun e r f h1 h2 => ⟨r, f, h1, h2, Below.refl _ _⟩
  cases na : Ie.isn a
  · cases nb : Ie.isn b
    · cases ia : Ie.isi a
      · cases ib : Ie.isi b
        · skip
          cases za : Ie.isz a
          · skip
            cases zb : Ie.isz b
            · skip
              exact div_fin a b w a0 a1 b0 b1 hT na ia nb ib zb
            · skip
              have SP : Hid (Ie.DivIs a b (Ie.sb (Ie.ngd a != Ie.ngd b) 9218868437227405312) 2) := by rw [Hid, Ie.DivIs, na, nb, ia, ib, za, zb]; simp
              rw [na] at NA
              rw [nb] at NB
              rw [ia] at IA
              rw [ib] at IB
              rw [za] at ZA
              rw [zb] at ZB
              clear na nb ia ib hT za zb
              generalize hI : Ie.sb (Ie.ngd a != Ie.ngd b) 9218868437227405312 = sI at *
              generalize hO : Ie.sb (Ie.ngd a != Ie.ngd b) 0 = sO at *
              clear hI hO
              go_enter Tryd.func9, Tryd.ntmps9
              go_wp2_with fail
              refine (NA.out _).mono ?_
              rintro e wz ⟨rfl, hz⟩
              replace hz := hz.symm
              subst hz
              go_wp2_with fail
              refine (NB.out _).mono ?_
              rintro e wz ⟨rfl, hz⟩
              replace hz := hz.symm
              subst hz
              go_wp2_with fail
              refine (IA.out _).mono ?_
              rintro e wz ⟨rfl, hz⟩
              replace hz := hz.symm
              subst hz
              go_wp2_with fail
              refine (ZA.out _).mono ?_
              rintro e wz ⟨rfl, hz⟩
              replace hz := hz.symm
              subst hz
              go_wp2_with fail
              refine (IA.out _).mono ?_
              rintro e wz ⟨rfl, hz⟩
              replace hz := hz.symm
              subst hz
              go_wp2_with fail
              refine (IB.out _).mono ?_
              rintro e wz ⟨rfl, hz⟩
              replace hz := hz.symm
              subst hz
              go_wp2_with fail
              refine (ZB.out _).mono ?_
              rintro e wz ⟨rfl, hz⟩
              replace hz := hz.symm
              subst hz
              go_wp2_with fail
              refine (SG.out _).mono ?_
              rintro e wz ⟨rfl, hz⟩
              replace hz := hz.symm
              subst hz
              go_wp2_with fail
              go_ret2
              exact KK.out _ _ _ rfl SP.out
          · skip
            cases zb : Ie.isz b
            · skip
              exact div_fin a b w a0 a1 b0 b1 hT na ia nb ib zb
            · skip
              have SP : Hid (Ie.DivIs a b 9221120237041090560 1) := by rw [Hid, Ie.DivIs, na, nb, ia, ib, za, zb]; simp
              rw [na] at NA
              rw [nb] at NB
              rw [ia] at IA
              rw [ib] at IB
              rw [za] at ZA
              rw [zb] at ZB
              clear na nb ia ib hT za zb
              go_enter Tryd.func9, Tryd.ntmps9
              go_wp2_with fail
              refine (NA.out _).mono ?_
              rintro e wz ⟨rfl, hz⟩
              replace hz := hz.symm
              subst hz
              go_wp2_with fail
              refine (NB.out _).mono ?_
              rintro e wz ⟨rfl, hz⟩
              replace hz := hz.symm
              subst hz
              go_wp2_with fail
              refine (IA.out _).mono ?_
              rintro e wz ⟨rfl, hz⟩
              replace hz := hz.symm
              subst hz
              go_wp2_with fail
              refine (ZA.out _).mono ?_
              rintro e wz ⟨rfl, hz⟩
              replace hz := hz.symm
              subst hz
              go_wp2_with fail
              refine (ZB.out _).mono ?_
              rintro e wz ⟨rfl, hz⟩
              replace hz := hz.symm
              subst hz
              go_wp2_with fail
              go_ret2
              exact KK.out _ _ _ rfl SP.out
        · skip
          cases za : Ie.isz a
          · skip
            have zb := Ie.not_iz ib
            have SP : Hid (Ie.DivIs a b (Ie.sb (Ie.ngd a != Ie.ngd b) 0) 0) := by rw [Hid, Ie.DivIs, na, nb, ia, ib, za, zb]; simp
            rw [na] at NA
            rw [nb] at NB
            rw [ia] at IA
            rw [ib] at IB
            rw [za] at ZA
            rw [zb] at ZB
            clear na nb ia ib hT za zb
            generalize hI : Ie.sb (Ie.ngd a != Ie.ngd b) 9218868437227405312 = sI at *
            generalize hO : Ie.sb (Ie.ngd a != Ie.ngd b) 0 = sO at *
            clear hI hO
            go_enter Tryd.func9, Tryd.ntmps9
            go_wp2_with fail
            refine (NA.out _).mono ?_
            rintro e wz ⟨rfl, hz⟩
            replace hz := hz.symm
            subst hz
            go_wp2_with fail
            refine (NB.out _).mono ?_
            rintro e wz ⟨rfl, hz⟩
            replace hz := hz.symm
            subst hz
            go_wp2_with fail
            refine (IA.out _).mono ?_
            rintro e wz ⟨rfl, hz⟩
            replace hz := hz.symm
            subst hz
            go_wp2_with fail
            refine (ZA.out _).mono ?_
            rintro e wz ⟨rfl, hz⟩
            replace hz := hz.symm
            subst hz
            go_wp2_with fail
            refine (IA.out _).mono ?_
            rintro e wz ⟨rfl, hz⟩
            replace hz := hz.symm
            subst hz
            go_wp2_with fail
            refine (IB.out _).mono ?_
            rintro e wz ⟨rfl, hz⟩
            replace hz := hz.symm
            subst hz
            go_wp2_with fail
            refine (SG.out _).mono ?_
            rintro e wz ⟨rfl, hz⟩
            replace hz := hz.symm
            subst hz
            go_wp2_with fail
            go_ret2
            exact KK.out _ _ _ rfl SP.out
          · skip
            have zb := Ie.not_iz ib
            have SP : Hid (Ie.DivIs a b (Ie.sb (Ie.ngd a != Ie.ngd b) 0) 0) := by rw [Hid, Ie.DivIs, na, nb, ia, ib, za, zb]; simp
            rw [na] at NA
            rw [nb] at NB
            rw [ia] at IA
            rw [ib] at IB
            rw [za] at ZA
            rw [zb] at ZB
            clear na nb ia ib hT za zb
            generalize hI : Ie.sb (Ie.ngd a != Ie.ngd b) 9218868437227405312 = sI at *
            generalize hO : Ie.sb (Ie.ngd a != Ie.ngd b) 0 = sO at *
            clear hI hO
            go_enter Tryd.func9, Tryd.ntmps9
            go_wp2_with fail
            refine (NA.out _).mono ?_
            rintro e wz ⟨rfl, hz⟩
            replace hz := hz.symm
            subst hz
            go_wp2_with fail
            refine (NB.out _).mono ?_
            rintro e wz ⟨rfl, hz⟩
            replace hz := hz.symm
            subst hz
            go_wp2_with fail
            refine (IA.out _).mono ?_
            rintro e wz ⟨rfl, hz⟩
            replace hz := hz.symm
            subst hz
            go_wp2_with fail
            refine (ZA.out _).mono ?_
            rintro e wz ⟨rfl, hz⟩
            replace hz := hz.symm
            subst hz
            go_wp2_with fail
            refine (ZB.out _).mono ?_
            rintro e wz ⟨rfl, hz⟩
            replace hz := hz.symm
            subst hz
            go_wp2_with fail
            refine (IA.out _).mono ?_
            rintro e wz ⟨rfl, hz⟩
            replace hz := hz.symm
            subst hz
            go_wp2_with fail
            refine (IB.out _).mono ?_
            rintro e wz ⟨rfl, hz⟩
            replace hz := hz.symm
            subst hz
            go_wp2_with fail
            refine (SG.out _).mono ?_
            rintro e wz ⟨rfl, hz⟩
            replace hz := hz.symm
            subst hz
            go_wp2_with fail
            go_ret2
            exact KK.out _ _ _ rfl SP.out
      · cases ib : Ie.isi b
        · skip
          have za := Ie.not_iz ia
          cases zb : Ie.isz b
          · skip
            have SP : Hid (Ie.DivIs a b (Ie.sb (Ie.ngd a != Ie.ngd b) 9218868437227405312) 0) := by rw [Hid, Ie.DivIs, na, nb, ia, ib, za, zb]; simp
            rw [na] at NA
            rw [nb] at NB
            rw [ia] at IA
            rw [ib] at IB
            rw [za] at ZA
            rw [zb] at ZB
            clear na nb ia ib hT za zb
            generalize hI : Ie.sb (Ie.ngd a != Ie.ngd b) 9218868437227405312 = sI at *
            generalize hO : Ie.sb (Ie.ngd a != Ie.ngd b) 0 = sO at *
            clear hI hO
            go_enter Tryd.func9, Tryd.ntmps9
            go_wp2_with fail
            refine (NA.out _).mono ?_
            rintro e wz ⟨rfl, hz⟩
            replace hz := hz.symm
            subst hz
            go_wp2_with fail
            refine (NB.out _).mono ?_
            rintro e wz ⟨rfl, hz⟩
            replace hz := hz.symm
            subst hz
            go_wp2_with fail
            refine (IA.out _).mono ?_
            rintro e wz ⟨rfl, hz⟩
            replace hz := hz.symm
            subst hz
            go_wp2_with fail
            refine (IB.out _).mono ?_
            rintro e wz ⟨rfl, hz⟩
            replace hz := hz.symm
            subst hz
            go_wp2_with fail
            refine (ZA.out _).mono ?_
            rintro e wz ⟨rfl, hz⟩
            replace hz := hz.symm
            subst hz
            go_wp2_with fail
            refine (IA.out _).mono ?_
            rintro e wz ⟨rfl, hz⟩
            replace hz := hz.symm
            subst hz
            go_wp2_with fail
            refine (SG.out _).mono ?_
            rintro e wz ⟨rfl, hz⟩
            replace hz := hz.symm
            subst hz
            go_wp2_with fail
            go_ret2
            exact KK.out _ _ _ rfl SP.out
          · skip
            have SP : Hid (Ie.DivIs a b (Ie.sb (Ie.ngd a != Ie.ngd b) 9218868437227405312) 0) := by rw [Hid, Ie.DivIs, na, nb, ia, ib, za, zb]; simp
            rw [na] at NA
            rw [nb] at NB
            rw [ia] at IA
            rw [ib] at IB
            rw [za] at ZA
            rw [zb] at ZB
            clear na nb ia ib hT za zb
            generalize hI : Ie.sb (Ie.ngd a != Ie.ngd b) 9218868437227405312 = sI at *
            generalize hO : Ie.sb (Ie.ngd a != Ie.ngd b) 0 = sO at *
            clear hI hO
            go_enter Tryd.func9, Tryd.ntmps9
            go_wp2_with fail
            refine (NA.out _).mono ?_
            rintro e wz ⟨rfl, hz⟩
            replace hz := hz.symm
            subst hz
            go_wp2_with fail
            refine (NB.out _).mono ?_
            rintro e wz ⟨rfl, hz⟩
            replace hz := hz.symm
            subst hz
            go_wp2_with fail
            refine (IA.out _).mono ?_
            rintro e wz ⟨rfl, hz⟩
            replace hz := hz.symm
            subst hz
            go_wp2_with fail
            refine (IB.out _).mono ?_
            rintro e wz ⟨rfl, hz⟩
            replace hz := hz.symm
            subst hz
            go_wp2_with fail
            refine (ZA.out _).mono ?_
            rintro e wz ⟨rfl, hz⟩
            replace hz := hz.symm
            subst hz
            go_wp2_with fail
            refine (IA.out _).mono ?_
            rintro e wz ⟨rfl, hz⟩
            replace hz := hz.symm
            subst hz
            go_wp2_with fail
            refine (SG.out _).mono ?_
            rintro e wz ⟨rfl, hz⟩
            replace hz := hz.symm
            subst hz
            go_wp2_with fail
            go_ret2
            exact KK.out _ _ _ rfl SP.out
        · skip
          have za := Ie.not_iz ia
          have zb := Ie.not_iz ib
          have SP : Hid (Ie.DivIs a b 9221120237041090560 1) := by rw [Hid, Ie.DivIs, na, nb, ia, ib, za, zb]; simp
          rw [na] at NA
          rw [nb] at NB
          rw [ia] at IA
          rw [ib] at IB
          rw [za] at ZA
          rw [zb] at ZB
          clear na nb ia ib hT za zb
          go_enter Tryd.func9, Tryd.ntmps9
          go_wp2_with fail
          refine (NA.out _).mono ?_
          rintro e wz ⟨rfl, hz⟩
          replace hz := hz.symm
          subst hz
          go_wp2_with fail
          refine (NB.out _).mono ?_
          rintro e wz ⟨rfl, hz⟩
          replace hz := hz.symm
          subst hz
          go_wp2_with fail
          refine (IA.out _).mono ?_
          rintro e wz ⟨rfl, hz⟩
          replace hz := hz.symm
          subst hz
          go_wp2_with fail
          refine (IB.out _).mono ?_
          rintro e wz ⟨rfl, hz⟩
          replace hz := hz.symm
          subst hz
          go_wp2_with fail
          go_ret2
          exact KK.out _ _ _ rfl SP.out
    · have SP : Hid (Ie.DivIs a b 9221120237041090560 0) := by rw [Hid, Ie.DivIs, na, nb]; simp
      rw [na] at NA
      rw [nb] at NB
      clear na nb hT
      go_enter Tryd.func9, Tryd.ntmps9
      go_wp2_with fail
      refine (NA.out _).mono ?_
      rintro e wz ⟨rfl, hz⟩
      replace hz := hz.symm
      subst hz
      go_wp2_with fail
      refine (NB.out _).mono ?_
      rintro e wz ⟨rfl, hz⟩
      replace hz := hz.symm
      subst hz
      go_wp2_with fail
      go_ret2
      exact KK.out _ _ _ rfl SP.out
  · have SP : Hid (Ie.DivIs a b 9221120237041090560 0) := by rw [Hid, Ie.DivIs, na]; simp
    rw [na] at NA
    clear na hT
    go_enter Tryd.func9, Tryd.ntmps9
    go_wp2_with fail
    refine (NA.out _).mono ?_
    rintro e wz ⟨rfl, hz⟩
    replace hz := hz.symm
    subst hz
    go_wp2_with fail
    go_ret2
    exact KK.out _ _ _ rfl SP.out

set_option maxRecDepth 100000 in
set_option maxHeartbeats 4000000 in
theorem softDiv_any (a b : Int) (w : World) (a0 : 0 ≤ a) (a1 : a < 18446744073709551616) (b0 : 0 ≤ b) (b1 : b < 18446744073709551616) (hT : Tab w) :
    Calls Tryd.prog 4 #[.int .u64 a, .int .u64 b] w fun e w' => Told1 (Ie.DivIs a b) w e w' := by
  have AD := hid (div_any a b w a0 a1 b0 b1 hT)
  clear hT
  go_enter Tryd.func4, Tryd.ntmps4
  go_wp2_with fail
  refine AD.out.mono ?_
  rintro e w1 ⟨r, f, rfl, h, hB⟩
  have KK : Hid (Told1 (Ie.DivIs a b) w (.returned (.int .u64 r)) w1) := ⟨r, f, rfl, h, hB⟩
  clear h hB AD
  go_wp2_with fail
  go_ret
  exact KK.out

end Go.Proofs.YthpeolamapoamaaDoor

/-
  What mul and div answer of finite doubles, as rounded fractions.
-/
namespace Go.Proofs.YthpeolamapoamaaDoor
namespace Ie

theorem MulIs.get {a b r f : Int} (fa : fin a) (fb : fin b) (h : MulIs a b r f) : Res (ngd a != ngd b) (dm a * dm b) (de a + de b) false r f := by
  rw [MulIs, (fin_not fa).1, (fin_not fa).2, (fin_not fb).1, (fin_not fb).2] at h
  simp only [Bool.false_eq_true, or_self, false_and, and_false, if_false] at h
  exact h

theorem prod_at {a b : Int} (fa : fin a) (fb : fin b) (k : Nat) (hk : (k : Int) = de a + de b + 2148) : dm a * dm b * 2 ^ k = un (ab a) * un (ab b) := by
  obtain ⟨_, ⟨ea0, ea1⟩, ga, _⟩ := dec_f a fa
  obtain ⟨_, ⟨eb0, eb1⟩, gb, _⟩ := dec_f b fb
  obtain ⟨ka, hka⟩ : ∃ k : Nat, (k : Int) = de a + 1074 := ⟨(de a + 1074).toNat, by omega⟩
  obtain ⟨kb, hkb⟩ : ∃ k : Nat, (k : Int) = de b + 1074 := ⟨(de b + 1074).toNat, by omega⟩
  rw [← ga ka hka, ← gb kb hkb, show k = ka + kb by omega, Nm.two_add]
  ac_rfl

theorem uv_mul (a b : Int) : uv a * uv b = sn (ngd a != ngd b) (un (ab a) * un (ab b)) := sn_mul _ _ _ _

theorem MulIs.rs {a b r f : Int} (fa : fin a) (fb : fin b) (h : MulIs a b r f) : RS (uv a * uv b) (2 ^ 1074) (ngd a != ngd b) r := by
  obtain ⟨x, t, L, rfl, -, hR, -, -⟩ := h.get fa fb
  obtain ⟨⟨da0, _⟩, ⟨ea0, ea1⟩, _, _⟩ := dec_f a fa
  obtain ⟨⟨db0, _⟩, ⟨eb0, eb1⟩, _, _⟩ := dec_f b fb
  obtain ⟨c, hc⟩ : ∃ k : Nat, (k : Int) = de a + de b + 2148 := ⟨(de a + de b + 2148).toNat, by omega⟩
  exact rs_of hR (Int.mul_nonneg da0 db0) c 1074 (by omega) (by rw [prod_at fa fb c hc]; exact uv_mul a b) rfl (fun _ => rfl)

theorem DivIs.get {a b r f : Int} (fa : fin a) (fb : fin b) (hb : ab b ≠ 0) (h : DivIs a b r f) : Res (ngd a != ngd b) (dm a * 2 ^ 128 / dm b) (de a - 128 - de b) (decide (dm a * 2 ^ 128 % dm b ≠ 0)) r f := by
  have zb : isz b = false := by rw [isz, decide_eq_false_iff_not]; exact hb
  rw [DivIs, (fin_not fa).1, (fin_not fa).2, (fin_not fb).1, (fin_not fb).2, zb] at h
  simp only [Bool.false_eq_true, or_self, and_false, if_false] at h
  exact h

theorem near_zero (Q : Int) (hQ : 0 < Q) : Near 0 Q false 0 := by
  refine ⟨⟨by omega, by omega⟩, fun h => absurd h (by omega), fun _ => .inl ?_⟩
  rw [md_zero, Int.one_mul]; exact hQ

/-- A quotient cut at 128 bits and marked is rounded as the fraction. -/
theorem div_near {a b x : Int} (fa : fin a) (fb : fin b) (hb : ab b ≠ 0) (hR : Rnd (dm a * 2 ^ 128 / dm b) 1 (de a - 128 - de b) (decide (dm a * 2 ^ 128 % dm b ≠ 0)) x) : Near (2 * (un (ab a) * 2 ^ 1074)) (un (ab b)) false x := by
  obtain ⟨⟨da0, da1⟩, ⟨ea0, ea1⟩, ga, za⟩ := dec_f a fa
  obtain ⟨⟨db0, db1⟩, ⟨eb0, eb1⟩, gb, zb⟩ := dec_f b fb
  have bp := un_pos (x := ab b) (by have := (ab_bd b).1; omega)
  have dp : 0 < dm b := by omega
  rcases (show dm a = 0 ∨ 0 < dm a by omega) with h | h
  · rw [h, Int.zero_mul, Int.zero_ediv, Int.zero_emod] at hR
    have : x = 0 := hR.one (by omega) (by omega) (rnd_zero 1 (de a - 128 - de b) _ (by omega)) (a := 0) (a' := 0) (by omega) rfl
    subst this
    rw [za.1 h, un_zero, Int.zero_mul]
    exact near_zero _ bp
  · have hq : 18014398509481984 ≤ dm a * 2 ^ 128 / dm b := by
      rw [Int.le_ediv_iff_mul_le dp]
      have h1 : 1 * 2 ^ 128 ≤ dm a * 2 ^ 128 := Int.mul_le_mul_of_nonneg_right (by omega) (by have := Nm.two_pos 128; omega)
      have h2 : (2 : Int) ^ 128 = 340282366920938463463374607431768211456 := by decide
      omega
    have hF := rnd_floor (dm a * 2 ^ 128) (dm b) _ x dp hq hR
    obtain ⟨ka, hka⟩ : ∃ k : Nat, (k : Int) = de a + 1074 := ⟨(de a + 1074).toNat, by omega⟩
    obtain ⟨kb, hkb⟩ : ∃ k : Nat, (k : Int) = de b + 1074 := ⟨(de b + 1074).toNat, by omega⟩
    have hN := hF (ka + 947) kb (by omega)
    rw [gb kb hkb] at hN
    have e : dm a * 2 ^ 128 * 2 ^ (ka + 947) = 2 * (un (ab a) * 2 ^ 1074) := by
      have l : dm a * 2 ^ 128 * 2 ^ (ka + 947) = dm a * 2 ^ (ka + 1075) := by rw [Int.mul_assoc, ← Nm.two_add, show 128 + (ka + 947) = ka + 1075 by omega]
      have r : dm a * 2 ^ (ka + 1075) = 2 * (dm a * 2 ^ ka * 2 ^ 1074) := by
        rw [show ka + 1075 = (ka + 1074) + 1 by omega, Nm.two_succ, Nm.two_add]
        generalize (2 : Int) ^ 1074 = P
        generalize (2 : Int) ^ ka = R
        ac_rfl
      rw [l, r, ga ka hka]
    rw [e] at hN
    exact hN

theorem DivIs.rs {a b r f : Int} (fa : fin a) (fb : fin b) (hb : ab b ≠ 0) (h : DivIs a b r f) : RS (sn (ngd a != ngd b) (un (ab a) * 2 ^ 1074)) (un (ab b)) (ngd a != ngd b) r := by
  obtain ⟨x, t, L, rfl, -, hR, -, -⟩ := h.get fa fb hb
  exact ⟨_, _, x, rfl, rfl, Int.mul_nonneg (un_nn (ab_bd a).1) (by have := Nm.two_pos 1074; omega), div_near fa fb hb hR, fun _ => rfl⟩

end Ie
end Go.Proofs.YthpeolamapoamaaDoor

/-
  What is left of a when a quotient times b is taken off (CoreDivides).
-/
namespace Go.Proofs.YthpeolamapoamaaDoor
namespace Ie

theorem ng_parts {x : Int} (h0 : 0 ≤ x) (h1 : x < 18446744073709551616) : uv (ng x) = -uv x ∧ ab (ng x) = ab x ∧ ngd (ng x) = !ngd x := by
  have q : ab (ng x) = ab x ∧ ngd (ng x) = !ngd x := by
    rcases (show x < 9223372036854775808 ∨ 9223372036854775808 ≤ x by omega) with g | g
    · rw [ng, if_pos g]
      exact ⟨by simp only [ab]; omega, by rw [ngd, ngd, decide_eq_true (by omega), decide_eq_false (by omega)]; rfl⟩
    · rw [ng, if_neg (by omega)]
      exact ⟨by simp only [ab]; omega, by rw [ngd, ngd, decide_eq_false (by omega), decide_eq_true (by omega)]; rfl⟩
  refine ⟨?_, q⟩
  rw [uv, uv, q.1, q.2, sn_not]

/-- The rest's magnitude, rounded. -/
theorem rest_near {a b p r : Int} {z : Bool} (p0 : 0 ≤ p) (p1 : p < 18446744073709551616) (hs : ngd p = (ngd a != ngd b)) (h : RS (uv (ng p) * uv b + uv a * 2 ^ 1074) (2 ^ 1074) z r) :
    Near (2 * az (un (ab a) * 2 ^ 1074 - un (ab p) * un (ab b))) (2 ^ 1074) false (r % 9223372036854775808) := by
  obtain ⟨n, V, x, rfl, hS, hV, hN, -⟩ := h
  have e : az (un (ab a) * 2 ^ 1074 - un (ab p) * un (ab b)) = V := by
    rw [← az_sn n V hV, ← hS, (ng_parts p0 p1).1, Int.neg_mul, uv, uv, uv, hs, sn_mul, sn_mul_right]
    generalize un (ab p) * un (ab b) = A
    generalize un (ab a) * 2 ^ 1074 = B
    cases ngd a <;> cases ngd b <;> simp only [sn, bne, Bool.not_true, Bool.not_false, beq_self_eq_true, Bool.true_beq, Bool.false_beq, if_true, Bool.false_eq_true, if_false, az] <;> split <;> split <;> omega
  have x2 : sb n x % 9223372036854775808 = x := by
    have := hN.1
    cases n <;> simp only [sb, if_true, Bool.false_eq_true, if_false] <;> omega
  rw [e, x2]
  exact hN

/-- The quotient's rest is no more than another's of its sign. -/
theorem rest_le {a b q p r s : Int} {z z' z'' : Bool} (q0 : 0 ≤ q) (q1 : q < 18446744073709551616) (p0 : 0 ≤ p) (p1 : p < 18446744073709551616) (ha : 0 < ab a) (hb : 0 < ab b)
    (hq : RS (sn (ngd a != ngd b) (un (ab a) * 2 ^ 1074)) (un (ab b)) z q) (hp : ngd p = ngd q) (fp : fin p)
    (h : RS (uv (ng q) * uv b + uv a * 2 ^ 1074) (2 ^ 1074) z' r) (h' : RS (uv (ng p) * uv b + uv a * 2 ^ 1074) (2 ^ 1074) z'' s) :
    r % 9223372036854775808 ≤ s % 9223372036854775808 := by
  obtain ⟨n, V, x, e, hS, hV, hN, -⟩ := hq
  have ua := un_pos ha
  have ub := un_pos hb
  have vp := Int.mul_pos ua (Nm.two_pos 1074)
  have nv : n = (ngd a != ngd b) ∧ V = un (ab a) * 2 ^ 1074 := by
    generalize un (ab a) * 2 ^ 1074 = A at *
    generalize (ngd a != ngd b) = m at *
    cases n <;> cases m <;> simp only [sn, if_true, Bool.false_eq_true, if_false] at hS
    · exact ⟨rfl, by omega⟩
    · omega
    · omega
    · exact ⟨rfl, by omega⟩
  have x2 : ab q = x ∧ ngd q = n := by
    have := hN.1
    subst e
    cases n <;> simp only [ab, ngd, sb, if_true, Bool.false_eq_true, if_false, decide_eq_true_eq, decide_eq_false_iff_not] <;> omega
  have g1 := rest_near q0 q1 (x2.2.trans nv.1) h
  have g2 := rest_near p0 p1 (hp.trans (x2.2.trans nv.1)) h'
  rw [nv.2] at hN
  have fp' : ab p < 9218868437227405312 := fp
  have le := near_all ub hN (ab_bd p).1 (by omega)
  rw [x2.1] at g1
  have pp := Nm.two_pos 1074
  refine Near.mono pp pp g1 g2 ?_
  have le2 := Int.mul_le_mul_of_nonneg_right (Int.mul_le_mul_of_nonneg_left le (show (0 : Int) ≤ 2 by omega)) (show (0 : Int) ≤ 2 ^ 1074 by omega)
  rcases Int.lt_or_eq_of_le le2 with g | g
  · exact .inl g
  · exact .inr ⟨g, fun h => h⟩

/-- A normal double whose power of two is moderate. -/
def midd (d : Int) : Bool := decide (623 ≤ fld d) && decide (fld d ≤ 1423)

theorem midd_is {d : Int} (h0 : 0 ≤ d) (h1 : d < 18446744073709551616) (h : midd d = true) : 0 < ab d ∧ fin d ∧ (0 < ab (upd d) ∧ fin (upd d) ∧ ngd (upd d) = ngd d) ∧ (fin (dnd d) ∧ ngd (dnd d) = ngd d) := by
  rw [midd, Bool.and_eq_true, decide_eq_true_eq, decide_eq_true_eq, fld] at h
  have b0 : 623 * 4503599627370496 ≤ ab d := by simp only [ab]; omega
  have b1 : ab d < 1424 * 4503599627370496 := by simp only [ab]; omega
  have hk : okd d = true := decide_eq_true (by simp only [ab] at *; omega)
  have hk' : okd (ng d) = true := by
    have e := (ng_parts h0 h1).2.1
    exact decide_eq_true (by simp only [ab] at *; omega)
  refine ⟨by omega, by rw [fin]; omega, ?_, ?_⟩
  · rw [upd, hk]
    simp only [Bool.true_eq_false, if_false, fin, ab, ngd] at *
    rcases (show d < 9223372036854775808 ∨ 9223372036854775808 ≤ d by omega) with g | g
    · rw [if_neg (by omega), if_neg (by omega), if_neg (by omega), decide_eq_false (by omega), decide_eq_false (by omega)]
      exact ⟨by omega, by omega, rfl⟩
    · rw [if_neg (by omega), if_neg (by omega), if_pos (by omega), decide_eq_true (by omega), decide_eq_true (by omega)]
      exact ⟨by omega, by omega, rfl⟩
  · rw [dnd, hk, upd, hk']
    simp only [Bool.true_eq_false, if_false, fin, ab, ngd] at *
    rcases (show d < 9223372036854775808 ∨ 9223372036854775808 ≤ d by omega) with g | g
    · have e : ng d = d + 9223372036854775808 := by rw [ng, if_pos g]
      rw [e, if_neg (by omega), if_neg (by omega), if_pos (by omega), ng, if_neg (by omega), decide_eq_false (by omega), decide_eq_false (by omega)]
      exact ⟨by omega, rfl⟩
    · have e : ng d = d - 9223372036854775808 := by rw [ng, if_neg (by omega)]
      rw [e, if_neg (by omega), if_neg (by omega), if_neg (by omega), ng, if_pos (by omega), decide_eq_true (by omega), decide_eq_true (by omega)]
      exact ⟨by omega, rfl⟩
end Ie
end Go.Proofs.YthpeolamapoamaaDoor

/-
  What add answers of finite doubles: the exact sum, rounded; closed sums: 1 + 2, 3 - 2.
-/
namespace Go.Proofs.YthpeolamapoamaaDoor
namespace Ie

theorem AddIs.get {a b r f : Int} (fa : fin a) (fb : fin b) (h : AddIs a b r f) : ∃ neg V e, SumIs (ngd a) (dm a) (de a) (ngd b) (dm b) (de b) neg V e ∧ Res neg V e false r f := by
  rw [AddIs, (fin_not fa).1, (fin_not fa).2, (fin_not fb).1, (fin_not fb).2] at h
  simp only [Bool.false_eq_true, or_self, false_and, if_false] at h
  exact h

theorem SumIs.at {n1 n2 neg : Bool} {V1 e1 V2 e2 V e : Int} (h : SumIs n1 V1 e1 n2 V2 e2 neg V e) (B : Nat) (h1 : 0 ≤ e1 + B) (h2 : 0 ≤ e2 + B) {u1 u2 : Int} (g1 : ∀ k : Nat, (k : Int) = e1 + B → V1 * 2 ^ k = u1) (g2 : ∀ k : Nat, (k : Int) = e2 + B → V2 * 2 ^ k = u2) :
    ∃ c : Nat, (c : Int) = e + B ∧ sn neg (V * 2 ^ c) = sn n1 u1 + sn n2 u2 ∧ (sn n1 u1 + sn n2 u2 = 0 → neg = (n1 && n2)) := by
  have e0 : 0 ≤ e + B := by rcases h.1 with h | h <;> omega
  obtain ⟨a, ha⟩ : ∃ k : Nat, (k : Int) = e1 + B := ⟨(e1 + B).toNat, by omega⟩
  obtain ⟨b, hb⟩ : ∃ k : Nat, (k : Int) = e2 + B := ⟨(e2 + B).toNat, by omega⟩
  obtain ⟨c, hc⟩ : ∃ k : Nat, (k : Int) = e + B := ⟨(e + B).toNat, by omega⟩
  have key := h.2.2.2 B a b c ha hb hc
  rw [sn_mul_right, sn_mul_right, sn_mul_right, g1 a ha, g2 b hb] at key
  refine ⟨c, hc, key, fun h0 => ?_⟩
  rw [h0] at key
  have := sn_eq_zero key
  rcases Int.mul_eq_zero.1 this with g | g
  · exact h.2.1 g
  · have := Nm.two_pos c; omega

theorem AddIs.rs {a b r f : Int} (fa : fin a) (fb : fin b) (h : AddIs a b r f) : RS (uv a + uv b) 1 (ngd a && ngd b) r := by
  obtain ⟨neg, V, e, hS, x, t, L, rfl, -, hR, -, -⟩ := h.get fa fb
  obtain ⟨_, ⟨ea0, ea1⟩, ga, _⟩ := dec_f a fa
  obtain ⟨_, ⟨eb0, eb1⟩, gb, _⟩ := dec_f b fb
  obtain ⟨c, hc, key, h0⟩ := hS.at 1074 (by omega) (by omega) ga gb
  exact rs_of hR hS.2.2.1.1 c 0 (by omega) key.symm rfl h0

theorem add_12 {r f : Int} (h : AddIs 4607182418800017408 4611686018427387904 r f) : r = 4613937818241073152 := by
  refine (h.rs (by rw [fin]; decide) (by rw [fin]; decide)).lit (by omega) _ (by omega) (by omega) ?_
  rw [uv_pos (by omega) (by omega), uv_pos (by omega) (by omega), un_1, un_2, un_3, p1022.1]
  generalize (2 : Int) ^ 1022 = P
  omega

theorem sub_32 {r f : Int} (h : AddIs 4613937818241073152 (ng 4611686018427387904) r f) : r = 4607182418800017408 := by
  have e : ng 4611686018427387904 = 4611686018427387904 + 9223372036854775808 := by decide
  rw [e] at h
  refine (h.rs (by rw [fin]; decide) (by rw [fin]; decide)).lit (by omega) _ (by omega) (by omega) ?_
  rw [uv_pos (by omega) (by omega), uv_neg (by omega) (by omega), un_1, un_2, un_3, p1022.1]
  generalize (2 : Int) ^ 1022 = P
  omega
end Ie
end Go.Proofs.YthpeolamapoamaaDoor

/-
  soft: add, sub, Add, Sub.
-/
namespace Go.Proofs.YthpeolamapoamaaDoor
open Go Go.RowKit Go.Deep

set_option maxRecDepth 100000 in
set_option maxHeartbeats 4000000 in
theorem add_fin (a b : Int) (w : World) (a0 : 0 ≤ a) (a1 : a < 18446744073709551616) (b0 : 0 ≤ b) (b1 : b < 18446744073709551616) (hT : Tab w) (na : Ie.isn a = false) (ia : Ie.isi a = false) (nb : Ie.isn b = false) (ib : Ie.isi b = false) :
    Calls Tryd.prog 31 #[.int .u64 a, .int .u64 b] w fun e w' => Told2 (Ie.AddIs a b) w e w' := by
  have fa := Ie.fin_of na ia
  have fb := Ie.fin_of nb ib
  have FI : Hid (∀ (neg : Bool) (V e r f : Int), Ie.SumIs (Ie.ngd a) (Ie.dm a) (Ie.de a) (Ie.ngd b) (Ie.dm b) (Ie.de b) neg V e → Ie.Res neg V e false r f → Ie.AddIs a b r f) := by
    intro neg V e r f h1 h2
    rw [Ie.AddIs, na, nb, ia, ib]
    simp only [Bool.false_eq_true, or_self, false_and, if_false]
    exact ⟨neg, V, e, h1, h2⟩
  have NA := hid (fun (wx : World) => nan_any a wx a0 a1)
  rw [na] at NA
  have NB := hid (fun (wx : World) => nan_any b wx b0 b1)
  rw [nb] at NB
  have IA := hid (fun (wx : World) => infinite_any a wx a0 a1)
  rw [ia] at IA
  have IB := hid (fun (wx : World) => infinite_any b wx b0 b1)
  rw [ib] at IB
  obtain ⟨⟨da0, da1⟩, ⟨ea0, ea1⟩, -, -⟩ := Ie.dec_f a fa
  obtain ⟨⟨db0, db1⟩, ⟨eb0, eb1⟩, -, -⟩ := Ie.dec_f b fb
  have e60 : (2 : Int) ^ 60 = 1152921504606846976 := by decide
  have da2 : Ie.dm a < 2 ^ 60 := by omega
  have db2 : Ie.dm b < 2 ^ 60 := by omega
  have UA := hid (fun (wx : World) => number_any a wx a0 a1 fa)
  have UB := hid (fun (wx : World) => number_any b wx b0 b1 fb)
  have e200 := Nm.two_mono (show 60 ≤ 200 by omega)
  have HT := hid hT
  clear fa fb na nb ia ib hT
  have RU : Hid (∀ (w2 : World) (pa pb : Option Addr) (oa ob : List Int) (B B' : Nat), Below w.heap.size w w2 → Ans B w2 pa oa (Ie.dm a) → Ans B' w2 pb ob (Ie.dm b) → Calls Tryd.prog 33 #[exactOf (Ie.ngd a) pa oa.length oa.length (Ie.de a) false, exactOf (Ie.ngd b) pb ob.length ob.length (Ie.de b) false] w2 fun e w' => PlusTold (Ie.ngd a) (Ie.dm a) (Ie.de a) (Ie.ngd b) (Ie.dm b) (Ie.de b) w2 e w') := by
    intro w2 pa pb oa ob B B' hB A1 A2
    exact plus_any _ _ _ _ _ _ _ _ _ _ oa ob _ _ _ _ w2 (A1.arg (by have := A1.tl da2 (show 60 ≤ 262144 by omega); omega)) (A2.arg (by have := A2.tl db2 (show 60 ≤ 262144 by omega); omega)) A1.2.2.2.1 A2.2.2.2.1 (by omega) (by omega) (by omega) (by omega) (by omega) (by omega)
  have RO : Hid (∀ (w3 : World) (neg : Bool) (p : Option Addr) (os : List Int) (V e : Int) (B : Nat), Below w.heap.size w w3 → Ans B w3 p os V → Ie.SumIs (Ie.ngd a) (Ie.dm a) (Ie.de a) (Ie.ngd b) (Ie.dm b) (Ie.de b) neg V e → Calls Tryd.prog 20 #[exactOf neg p os.length os.length e false] w3 fun r w' => RoundedTold neg V e false w3 r w') := by
    intro w3 neg p os V e B hB A hS
    have vb := hS.2.2.1.2
    have eb : -10000 ≤ e ∧ e ≤ 10000 := by rcases hS.1 with h | ⟨_, h⟩ <;> omega
    exact rounded_any neg false p _ _ os e V w3 (A.arg (by have := A.tl vb (show 5000 ≤ 262144 by omega); omega)) (HT.out.below hB) A.2.2.2.1 A.len0 vb eb.1 eb.2
  clear da0 da1 ea0 ea1 db0 db1 eb0 eb1 e60 da2 db2 e200 HT
  go_enter Tryd.func31, Tryd.ntmps31
  go_wp2_with fail
  refine (NA.out _).mono ?_
  rintro e wz ⟨rfl, hz⟩
  replace hz := hz.symm
  subst hz
  go_wp2_with fail
  refine (NB.out _).mono ?_
  rintro e wz ⟨rfl, hz⟩
  replace hz := hz.symm
  subst hz
  go_wp2_with fail
  refine (IA.out _).mono ?_
  rintro e wz ⟨rfl, hz⟩
  replace hz := hz.symm
  subst hz
  go_wp2_with fail
  refine (IA.out _).mono ?_
  rintro e wz ⟨rfl, hz⟩
  replace hz := hz.symm
  subst hz
  go_wp2_with fail
  refine (IB.out _).mono ?_
  rintro e wz ⟨rfl, hz⟩
  replace hz := hz.symm
  subst hz
  go_wp2_with fail
  refine (UA.out _).mono ?_
  rintro e w1 ⟨pa, oa, rfl, A1, hB1⟩
  have H1 := hid (And.intro A1 hB1)
  clear A1 hB1
  simp only [exactOf]
  go_wp2_with fail
  refine (UB.out _).mono ?_
  rintro e w2 ⟨pb, ob, rfl, A2, hB2⟩
  have A1 := H1.out.1.below hB2 (Nat.le_refl _)
  have Bw := H1.out.2.trans (hB2.mono H1.out.2.size)
  have PL := hid (RU.out w2 pa pb oa ob _ _ Bw A1 A2)
  have HB := hid Bw
  simp only [exactOf] at PL ⊢
  clear A1 A2 hB2 Bw H1 RU
  go_wp2_with fail
  refine PL.out.mono ?_
  rintro e w3 ⟨neg, p, os, V, x, rfl, A3, hB3, hS⟩
  have Bw := HB.out.trans (hB3.mono HB.out.size)
  have RR := hid (RO.out w3 neg p os V x _ Bw A3 hS)
  have HS := hid hS
  have HC := hid Bw
  simp only [exactOf] at RR ⊢
  clear A3 hB3 hS Bw RO PL HB
  go_wp2_with fail
  refine RR.out.mono ?_
  rintro e w4 ⟨d, t, L, rfl, h1, h2, h3, hB4⟩
  have KK : Hid (Told2 (Ie.AddIs a b) w (.returned (.tuple #[.int .u64 (Ie.sg neg d), .int .i64 (Ie.flg V x false (Ie.sg neg d) t L)])) w4) :=
    ⟨_, _, rfl, FI.out neg V x _ _ HS.out ⟨d, t, L, rfl, rfl, h1, h2, h3⟩, HC.out.trans (hB4.mono HC.out.size)⟩
  clear h1 h2 h3 hB4 HS HC RR FI
  go_wp2_with fail
  go_ret2
  exact KK.out

set_option maxRecDepth 100000 in
set_option maxHeartbeats 4000000 in
theorem add_any (a b : Int) (w : World) (a0 : 0 ≤ a) (a1 : a < 18446744073709551616) (b0 : 0 ≤ b) (b1 : b < 18446744073709551616) (hT : Tab w) :
    Calls Tryd.prog 31 #[.int .u64 a, .int .u64 b] w fun e w' => Told2 (Ie.AddIs a b) w e w' := by
  have NA := hid (fun (wx : World) => nan_any a wx a0 a1)
  have NB := hid (fun (wx : World) => nan_any b wx b0 b1)
  have IA := hid (fun (wx : World) => infinite_any a wx a0 a1)
  have IB := hid (fun (wx : World) => infinite_any b wx b0 b1)
  have KK : Hid (∀ (e : Ending) (r f : Int), e = .returned (.tuple #[.int .u64 r, .int .i64 f]) → Ie.AddIs a b r f → Told2 (Ie.AddIs a b) w e w) := fun e r f h1 h2 => ⟨r, f, h1, h2, Below.refl _ _⟩
  cases na : Ie.isn a
  · cases nb : Ie.isn b
    · cases ia : Ie.isi a
      · cases ib : Ie.isi b
        · exact add_fin a b w a0 a1 b0 b1 hT na ia nb ib
        · have SP : Hid (Ie.AddIs a b b 0) := by rw [Hid, Ie.AddIs, na, nb, ia, ib]; simp
          rw [na] at NA
          rw [nb] at NB
          rw [ia] at IA
          rw [ib] at IB
          clear na nb ia ib hT
          go_enter Tryd.func31, Tryd.ntmps31
          go_wp2_with fail
          refine (NA.out _).mono ?_
          rintro e wz ⟨rfl, rfl⟩
          go_wp2_with fail
          refine (NB.out _).mono ?_
          rintro e wz ⟨rfl, rfl⟩
          go_wp2_with fail
          refine (IA.out _).mono ?_
          rintro e wz ⟨rfl, rfl⟩
          go_wp2_with fail
          refine (IA.out _).mono ?_
          rintro e wz ⟨rfl, rfl⟩
          go_wp2_with fail
          refine (IB.out _).mono ?_
          rintro e wz ⟨rfl, rfl⟩
          go_wp2_with fail
          go_ret2
          exact KK.out _ _ _ rfl SP.out
      · cases ib : Ie.isi b
        · have SP : Hid (Ie.AddIs a b a 0) := by rw [Hid, Ie.AddIs, na, nb, ia, ib]; simp
          rw [na] at NA
          rw [nb] at NB
          rw [ia] at IA
          rw [ib] at IB
          clear na nb ia ib hT
          go_enter Tryd.func31, Tryd.ntmps31
          go_wp2_with fail
          refine (NA.out _).mono ?_
          rintro e wz ⟨rfl, rfl⟩
          go_wp2_with fail
          refine (NB.out _).mono ?_
          rintro e wz ⟨rfl, rfl⟩
          go_wp2_with fail
          refine (IA.out _).mono ?_
          rintro e wz ⟨rfl, rfl⟩
          go_wp2_with fail
          refine (IB.out _).mono ?_
          rintro e wz ⟨rfl, rfl⟩
          go_wp2_with fail
          refine (IA.out _).mono ?_
          rintro e wz ⟨rfl, rfl⟩
          go_wp2_with fail
          go_ret2
          exact KK.out _ _ _ rfl SP.out
        · rw [na] at NA
          rw [nb] at NB
          rw [ia] at IA
          rw [ib] at IB
          by_cases hab : a = b
          · have SP : Hid (Ie.AddIs a b a 0) := by rw [Hid, Ie.AddIs, na, nb, ia, ib]; simp [hab]
            subst hab
            clear na nb ia ib hT
            go_enter Tryd.func31, Tryd.ntmps31
            go_wp2_with fail
            refine (NA.out _).mono ?_
            rintro e wz ⟨rfl, rfl⟩
            go_wp2_with fail
            refine (NB.out _).mono ?_
            rintro e wz ⟨rfl, rfl⟩
            go_wp2_with fail
            refine (IA.out _).mono ?_
            rintro e wz ⟨rfl, rfl⟩
            go_wp2_with fail
            refine (IB.out _).mono ?_
            rintro e wz ⟨rfl, rfl⟩
            go_wp2_with fail
            refine (IA.out _).mono ?_
            rintro e wz ⟨rfl, rfl⟩
            go_wp2_with fail
            go_ret2
            exact KK.out _ _ _ rfl SP.out
          · have SP : Hid (Ie.AddIs a b 9221120237041090560 1) := by rw [Hid, Ie.AddIs, na, nb, ia, ib]; simp [hab]
            have hab' : (a == b) = false := by rw [beq_eq_false_iff_ne]; exact hab
            clear na nb ia ib hT
            go_enter Tryd.func31, Tryd.ntmps31
            go_wp2_with fail
            refine (NA.out _).mono ?_
            rintro e wz ⟨rfl, rfl⟩
            go_wp2_with fail
            refine (NB.out _).mono ?_
            rintro e wz ⟨rfl, rfl⟩
            go_wp2_with fail
            refine (IA.out _).mono ?_
            rintro e wz ⟨rfl, rfl⟩
            go_wp2_with fail
            refine (IB.out _).mono ?_
            rintro e wz ⟨rfl, rfl⟩
            go_wp2_with fail
            go_ret2
            exact KK.out _ _ _ rfl SP.out
    · have SP : Hid (Ie.AddIs a b 9221120237041090560 0) := by rw [Hid, Ie.AddIs, na, nb]; simp
      rw [na] at NA
      rw [nb] at NB
      clear na nb hT
      go_enter Tryd.func31, Tryd.ntmps31
      go_wp2_with fail
      refine (NA.out _).mono ?_
      rintro e wz ⟨rfl, rfl⟩
      go_wp2_with fail
      refine (NB.out _).mono ?_
      rintro e wz ⟨rfl, rfl⟩
      go_wp2_with fail
      go_ret2
      exact KK.out _ _ _ rfl SP.out
  · have SP : Hid (Ie.AddIs a b 9221120237041090560 0) := by rw [Hid, Ie.AddIs, na]; simp
    rw [na] at NA
    clear na hT
    go_enter Tryd.func31, Tryd.ntmps31
    go_wp2_with fail
    refine (NA.out _).mono ?_
    rintro e wz ⟨rfl, rfl⟩
    go_wp2_with fail
    go_ret2
    exact KK.out _ _ _ rfl SP.out

end Go.Proofs.YthpeolamapoamaaDoor

/-
  soft: fma, Fma (made by mkfma.py).
-/
namespace Go.Proofs.YthpeolamapoamaaDoor
open Go Go.RowKit Go.Deep

namespace Ie
/-- What fma answers. -/
def FmaIs (a b c r f : Int) : Prop :=
  if isn a = true ∨ isn b = true ∨ isn c = true then r = 9221120237041090560 ∧ f = 0
  else if isi a = true ∨ isi b = true then (if isz a = true ∨ isz b = true then r = 9221120237041090560 ∧ f = 1 else AddIs (sb (ngd a != ngd b) 9218868437227405312) c r f)
  else if isi c = true then r = c ∧ f = 0
  else ∃ neg V e, SumIs (ngd a != ngd b) (dm a * dm b) (de a + de b) (ngd c) (dm c) (de c) neg V e ∧ Res neg V e false r f
end Ie

set_option maxRecDepth 100000 in
set_option maxHeartbeats 8000000 in
theorem fma_fin (a b c : Int) (w : World) (a0 : 0 ≤ a) (a1 : a < 18446744073709551616) (b0 : 0 ≤ b) (b1 : b < 18446744073709551616) (c0 : 0 ≤ c) (c1 : c < 18446744073709551616) (hT : Tab w) (na : Ie.isn a = false) (ia : Ie.isi a = false) (nb : Ie.isn b = false) (ib : Ie.isi b = false) (nc : Ie.isn c = false) (ic : Ie.isi c = false) :
    Calls Tryd.prog 21 #[.int .u64 a, .int .u64 b, .int .u64 c] w fun e w' => Told2 (Ie.FmaIs a b c) w e w' := by
  have fa := Ie.fin_of na ia
  have fb := Ie.fin_of nb ib
  have fc := Ie.fin_of nc ic
  have FI : Hid (∀ (neg : Bool) (V e r f : Int), Ie.SumIs (Ie.ngd a != Ie.ngd b) (Ie.dm a * Ie.dm b) (Ie.de a + Ie.de b) (Ie.ngd c) (Ie.dm c) (Ie.de c) neg V e → Ie.Res neg V e false r f → Ie.FmaIs a b c r f) := by
    intro neg V e r f h1 h2
    rw [Ie.FmaIs, na, nb, ia, ib, nc, ic]
    simp only [Bool.false_eq_true, or_self, if_false]
    exact ⟨neg, V, e, h1, h2⟩
  have NA := hid (fun (wx : World) => nan_any a wx a0 a1)
  rw [na] at NA
  have NB := hid (fun (wx : World) => nan_any b wx b0 b1)
  rw [nb] at NB
  have NC := hid (fun (wx : World) => nan_any c wx c0 c1)
  rw [nc] at NC
  have IA := hid (fun (wx : World) => infinite_any a wx a0 a1)
  rw [ia] at IA
  have IB := hid (fun (wx : World) => infinite_any b wx b0 b1)
  rw [ib] at IB
  have IC := hid (fun (wx : World) => infinite_any c wx c0 c1)
  rw [ic] at IC
  obtain ⟨⟨da0, da1⟩, ⟨ea0, ea1⟩, -, -⟩ := Ie.dec_f a fa
  obtain ⟨⟨db0, db1⟩, ⟨eb0, eb1⟩, -, -⟩ := Ie.dec_f b fb
  obtain ⟨⟨dc0, dc1⟩, ⟨ec0, ec1⟩, -, -⟩ := Ie.dec_f c fc
  have e60 : (2 : Int) ^ 60 = 1152921504606846976 := by decide
  have da2 : Ie.dm a < 2 ^ 60 := by omega
  have db2 : Ie.dm b < 2 ^ 60 := by omega
  have dc2 : Ie.dm c < 2 ^ 60 := by omega
  have e200 := Nm.two_mono (show 60 + 60 ≤ 200 by omega)
  have e201 := Nm.two_mono (show 60 ≤ 200 by omega)
  have pb : Ie.dm a * Ie.dm b < 2 ^ (60 + 60) := by
    have h1 : Ie.dm a * Ie.dm b ≤ Ie.dm a * 2 ^ 60 := Int.mul_le_mul_of_nonneg_left (by omega) da0
    have h2 : Ie.dm a * 2 ^ 60 < 2 ^ 60 * 2 ^ 60 := Int.mul_lt_mul_of_pos_right da2 (Nm.two_pos 60)
    rw [← Nm.two_add] at h2
    omega
  have UA := hid (fun (wx : World) => number_any a wx a0 a1 fa)
  have UB := hid (fun (wx : World) => number_any b wx b0 b1 fb)
  have UC := hid (fun (wx : World) => number_any c wx c0 c1 fc)
  have HT := hid hT
  have RT : Hid (∀ (w2 : World) (pa pb : Option Addr) (oa ob : List Int) (B B' : Nat), Ans B w2 pa oa (Ie.dm a) → Ans B' w2 pb ob (Ie.dm b) → Calls Tryd.prog 32 #[exactOf (Ie.ngd a) pa oa.length oa.length (Ie.de a) false, exactOf (Ie.ngd b) pb ob.length ob.length (Ie.de b) false] w2 fun e w' => ∃ p os, e = .returned (exactOf (Ie.ngd a != Ie.ngd b) p (List.length os) (List.length os) (Ie.de a + Ie.de b) false) ∧ Ans w2.heap.size w' p os (Ie.dm a * Ie.dm b) ∧ Below w2.heap.size w2 w') := by
    intro w2 pa pb oa ob B B' A1 A2
    exact times_xany _ _ _ _ _ _ _ _ _ _ oa ob _ _ _ _ w2 (A1.arg (by have := A1.tl da2 (show 60 ≤ 262144 by omega); omega)) (A2.arg (by have := A2.tl db2 (show 60 ≤ 262144 by omega); omega)) A1.2.2.2.1 A2.2.2.2.1 da2 db2 (by omega) (by omega) (by omega) (by omega)
  have RU : Hid (∀ (w2 : World) (pp pc : Option Addr) (op oc : List Int) (B B' : Nat), Ans B w2 pp op (Ie.dm a * Ie.dm b) → Ans B' w2 pc oc (Ie.dm c) → Calls Tryd.prog 33 #[exactOf (Ie.ngd a != Ie.ngd b) pp op.length op.length (Ie.de a + Ie.de b) false, exactOf (Ie.ngd c) pc oc.length oc.length (Ie.de c) false] w2 fun e w' => PlusTold (Ie.ngd a != Ie.ngd b) (Ie.dm a * Ie.dm b) (Ie.de a + Ie.de b) (Ie.ngd c) (Ie.dm c) (Ie.de c) w2 e w') := by
    intro w2 pp pc op oc B B' A1 A2
    exact plus_any _ _ _ _ _ _ _ _ _ _ op oc _ _ _ _ w2 (A1.arg (by have := A1.tl pb (show 60 + 60 ≤ 262144 by omega); omega)) (A2.arg (by have := A2.tl dc2 (show 60 ≤ 262144 by omega); omega)) A1.2.2.2.1 A2.2.2.2.1 (by omega) (by omega) (by omega) (by omega) (by omega) (by omega)
  have RO : Hid (∀ (w3 : World) (neg : Bool) (p : Option Addr) (os : List Int) (V e : Int) (B : Nat), Below w.heap.size w w3 → Ans B w3 p os V → Ie.SumIs (Ie.ngd a != Ie.ngd b) (Ie.dm a * Ie.dm b) (Ie.de a + Ie.de b) (Ie.ngd c) (Ie.dm c) (Ie.de c) neg V e → Calls Tryd.prog 20 #[exactOf neg p os.length os.length e false] w3 fun r w' => RoundedTold neg V e false w3 r w') := by
    intro w3 neg p os V e B hB A hS
    have vb := hS.2.2.1.2
    have eb : -10000 ≤ e ∧ e ≤ 10000 := by rcases hS.1 with h | ⟨_, h⟩ <;> omega
    exact rounded_any neg false p _ _ os e V w3 (A.arg (by have := A.tl vb (show 5000 ≤ 262144 by omega); omega)) (HT.out.below hB) A.2.2.2.1 A.len0 vb eb.1 eb.2
  clear fa fb fc na nb nc ia ib ic hT da0 da1 ea0 ea1 db0 db1 eb0 eb1 dc0 dc1 ec0 ec1 e60 da2 db2 dc2 e200 e201 pb HT
  go_enter Tryd.func21, Tryd.ntmps21
  go_wp2_with fail
  refine (NA.out _).mono ?_
  rintro e wz ⟨rfl, hz⟩
  replace hz := hz.symm
  subst hz
  go_wp2_with fail
  refine (NB.out _).mono ?_
  rintro e wz ⟨rfl, hz⟩
  replace hz := hz.symm
  subst hz
  go_wp2_with fail
  refine (NC.out _).mono ?_
  rintro e wz ⟨rfl, hz⟩
  replace hz := hz.symm
  subst hz
  go_wp2_with fail
  refine (IA.out _).mono ?_
  rintro e wz ⟨rfl, hz⟩
  replace hz := hz.symm
  subst hz
  go_wp2_with fail
  refine (IB.out _).mono ?_
  rintro e wz ⟨rfl, hz⟩
  replace hz := hz.symm
  subst hz
  go_wp2_with fail
  refine (IC.out _).mono ?_
  rintro e wz ⟨rfl, hz⟩
  replace hz := hz.symm
  subst hz
  go_wp2_with fail
  refine (UA.out _).mono ?_
  rintro e w1 ⟨pa, oa, rfl, A1, hB1⟩
  have H1 := hid (And.intro A1 hB1)
  clear A1 hB1
  simp only [exactOf]
  go_wp2_with fail
  refine (UB.out _).mono ?_
  rintro e w2 ⟨pb, ob, rfl, A2, hB2⟩
  have A1 := H1.out.1.below hB2 (Nat.le_refl _)
  have Bw := H1.out.2.trans (hB2.mono H1.out.2.size)
  have TM := hid (RT.out w2 pa pb oa ob _ _ A1 A2)
  have HB := hid Bw
  simp only [exactOf] at TM ⊢
  clear A1 A2 hB2 Bw H1 RT
  go_wp2_with fail
  refine TM.out.mono ?_
  rintro e w3 ⟨pp, op, rfl, A3, hB3⟩
  have H3 := hid (And.intro A3 (HB.out.trans (hB3.mono HB.out.size)))
  clear A3 hB3 HB TM
  go_wp2_with fail
  refine (UC.out _).mono ?_
  rintro e w4 ⟨pc, oc, rfl, A4, hB4⟩
  have A3 := H3.out.1.below hB4 (Nat.le_refl _)
  have Bw := H3.out.2.trans (hB4.mono H3.out.2.size)
  have PL := hid (RU.out w4 pp pc op oc _ _ A3 A4)
  have HB := hid Bw
  simp only [exactOf] at PL ⊢
  clear A3 A4 hB4 Bw H3 RU
  go_wp2_with fail
  refine PL.out.mono ?_
  rintro e w5 ⟨neg, p, os, V, x, rfl, A5, hB5, hS⟩
  have Bw := HB.out.trans (hB5.mono HB.out.size)
  have RR := hid (RO.out w5 neg p os V x _ Bw A5 hS)
  have HS := hid hS
  have HC := hid Bw
  simp only [exactOf] at RR ⊢
  clear A5 hB5 hS Bw RO PL HB
  go_wp2_with fail
  refine RR.out.mono ?_
  rintro e w6 ⟨d, t, L, rfl, h1, h2, h3, hB6⟩
  have KK : Hid (Told2 (Ie.FmaIs a b c) w (.returned (.tuple #[.int .u64 (Ie.sg neg d), .int .i64 (Ie.flg V x false (Ie.sg neg d) t L)])) w6) :=
    ⟨_, _, rfl, FI.out neg V x _ _ HS.out ⟨d, t, L, rfl, rfl, h1, h2, h3⟩, HC.out.trans (hB6.mono HC.out.size)⟩
  clear h1 h2 h3 hB6 HS HC RR FI
  go_wp2_with fail
  go_ret2
  exact KK.out

set_option maxRecDepth 100000 in
set_option maxHeartbeats 8000000 in
theorem fma_inf (a b c : Int) (w : World) (a0 : 0 ≤ a) (a1 : a < 18446744073709551616) (b0 : 0 ≤ b) (b1 : b < 18446744073709551616) (c0 : 0 ≤ c) (c1 : c < 18446744073709551616) (hT : Tab w) (na : Ie.isn a = false) (nb : Ie.isn b = false) (nc : Ie.isn c = false) (hi : Ie.isi a = true ∨ Ie.isi b = true) :
    Calls Tryd.prog 21 #[.int .u64 a, .int .u64 b, .int .u64 c] w fun e w' => Told2 (Ie.FmaIs a b c) w e w' := by
  have NA := hid (fun (wx : World) => nan_any a wx a0 a1)
  rw [na] at NA
  have NB := hid (fun (wx : World) => nan_any b wx b0 b1)
  rw [nb] at NB
  have NC := hid (fun (wx : World) => nan_any c wx c0 c1)
  rw [nc] at NC
  have IA := hid (fun (wx : World) => infinite_any a wx a0 a1)
  have IB := hid (fun (wx : World) => infinite_any b wx b0 b1)
  obtain ⟨p, fl, MU, KA⟩ : ∃ (p fl : Int), Hid (∀ wx : World, Below w.heap.size w wx → Calls Tryd.prog 30 #[.int .u64 a, .int .u64 b] wx fun e w' => e = .returned (.tuple #[.int .u64 p, .int .i64 fl]) ∧ Below wx.heap.size wx w') ∧
      Hid ((fl = 1 ∧ Ie.FmaIs a b c p 1) ∨ (fl = 0 ∧ (0 ≤ p ∧ p < 18446744073709551616) ∧ ∀ r f, Ie.AddIs p c r f → Ie.FmaIs a b c r f)) := by
    by_cases hz : Ie.isz a = true ∨ Ie.isz b = true
    · refine ⟨9221120237041090560, 1, fun wx hx => ?_, .inl ⟨rfl, ?_⟩⟩
      · refine (mul_any a b wx a0 a1 b0 b1 (hT.below hx)).mono ?_
        rintro e w' ⟨r, f, rfl, h, hB⟩
        rw [Ie.MulIs, na, nb] at h
        simp only [Bool.false_eq_true, or_self, if_false] at h
        have cond : (Ie.isi a = true ∧ Ie.isz b = true) ∨ (Ie.isz a = true ∧ Ie.isi b = true) := by
          rcases hi with hi | hi
          · rcases hz with hz | hz
            · rw [Ie.not_iz hi] at hz; cases hz
            · exact .inl ⟨hi, hz⟩
          · rcases hz with hz | hz
            · exact .inr ⟨hz, hi⟩
            · rw [Ie.not_iz hi] at hz; cases hz
        rw [if_pos cond] at h
        obtain ⟨rfl, rfl⟩ := h
        exact ⟨rfl, hB⟩
      · rw [Ie.FmaIs, na, nb, nc]
        simp only [Bool.false_eq_true, or_self, if_false]
        rw [if_pos hi, if_pos hz]
        simp
    · refine ⟨Ie.sb (Ie.ngd a != Ie.ngd b) 9218868437227405312, 0, fun wx hx => ?_, .inr ⟨rfl, ?_, fun r f h => ?_⟩⟩
      · refine (mul_any a b wx a0 a1 b0 b1 (hT.below hx)).mono ?_
        rintro e w' ⟨r, f, rfl, h, hB⟩
        rw [Ie.MulIs, na, nb] at h
        simp only [Bool.false_eq_true, or_self, if_false] at h
        have cond : ¬ ((Ie.isi a = true ∧ Ie.isz b = true) ∨ (Ie.isz a = true ∧ Ie.isi b = true)) := by
          rintro (⟨_, g⟩ | ⟨g, _⟩)
          · exact hz (.inr g)
          · exact hz (.inl g)
        rw [if_neg cond, if_pos hi] at h
        obtain ⟨rfl, rfl⟩ := h
        exact ⟨rfl, hB⟩
      · cases Ie.ngd a != Ie.ngd b <;> simp only [Ie.sb, Bool.false_eq_true, if_true, if_false] <;> omega
      · rw [Ie.FmaIs, na, nb, nc]
        simp only [Bool.false_eq_true, or_self, if_false]
        rw [if_pos hi, if_neg hz]
        exact h
  have AD := hid (fun (wx : World) (hx : Below w.heap.size w wx) (p0 : 0 ≤ p) (p1 : p < 18446744073709551616) => add_any p c wx p0 p1 c0 c1 (hT.below hx))
  rcases KA.out with ⟨rfl, KB⟩ | ⟨rfl, ⟨p0, p1⟩, KB⟩
  · have KC := hid KB
    clear KA KB
    cases ia : Ie.isi a
    · have ib : Ie.isi b = true := by
        rcases hi with h | h
        · rw [ia] at h; cases h
        · exact h
      rw [ia] at IA
      rw [ib] at IB
      clear ia ib na nb nc hT hi
      go_enter Tryd.func21, Tryd.ntmps21
      go_wp2_with fail
      refine (NA.out _).mono ?_
      rintro e wz ⟨rfl, hz⟩
      replace hz := hz.symm
      subst hz
      go_wp2_with fail
      refine (NB.out _).mono ?_
      rintro e wz ⟨rfl, hz⟩
      replace hz := hz.symm
      subst hz
      go_wp2_with fail
      refine (NC.out _).mono ?_
      rintro e wz ⟨rfl, hz⟩
      replace hz := hz.symm
      subst hz
      go_wp2_with fail
      refine (IA.out _).mono ?_
      rintro e wz ⟨rfl, hz⟩
      replace hz := hz.symm
      subst hz
      go_wp2_with fail
      refine (IB.out _).mono ?_
      rintro e wz ⟨rfl, hz⟩
      replace hz := hz.symm
      subst hz
      go_wp2_with fail
      refine (MU.out _ (Below.refl _ _)).mono ?_
      rintro e w1 ⟨rfl, hB1⟩
      have HB := hid hB1
      clear hB1 MU
      go_wp2_with fail
      go_ret2
      exact ⟨_, _, rfl, KC.out, HB.out⟩
    · rw [ia] at IA
      clear ia na nb nc hT hi
      go_enter Tryd.func21, Tryd.ntmps21
      go_wp2_with fail
      refine (NA.out _).mono ?_
      rintro e wz ⟨rfl, hz⟩
      replace hz := hz.symm
      subst hz
      go_wp2_with fail
      refine (NB.out _).mono ?_
      rintro e wz ⟨rfl, hz⟩
      replace hz := hz.symm
      subst hz
      go_wp2_with fail
      refine (NC.out _).mono ?_
      rintro e wz ⟨rfl, hz⟩
      replace hz := hz.symm
      subst hz
      go_wp2_with fail
      refine (IA.out _).mono ?_
      rintro e wz ⟨rfl, hz⟩
      replace hz := hz.symm
      subst hz
      go_wp2_with fail
      refine (MU.out _ (Below.refl _ _)).mono ?_
      rintro e w1 ⟨rfl, hB1⟩
      have HB := hid hB1
      clear hB1 MU
      go_wp2_with fail
      go_ret2
      exact ⟨_, _, rfl, KC.out, HB.out⟩
  · have KC := hid KB
    clear KA KB
    cases ia : Ie.isi a
    · have ib : Ie.isi b = true := by
        rcases hi with h | h
        · rw [ia] at h; cases h
        · exact h
      rw [ia] at IA
      rw [ib] at IB
      clear ia ib na nb nc hT hi
      go_enter Tryd.func21, Tryd.ntmps21
      go_wp2_with fail
      refine (NA.out _).mono ?_
      rintro e wz ⟨rfl, hz⟩
      replace hz := hz.symm
      subst hz
      go_wp2_with fail
      refine (NB.out _).mono ?_
      rintro e wz ⟨rfl, hz⟩
      replace hz := hz.symm
      subst hz
      go_wp2_with fail
      refine (NC.out _).mono ?_
      rintro e wz ⟨rfl, hz⟩
      replace hz := hz.symm
      subst hz
      go_wp2_with fail
      refine (IA.out _).mono ?_
      rintro e wz ⟨rfl, hz⟩
      replace hz := hz.symm
      subst hz
      go_wp2_with fail
      refine (IB.out _).mono ?_
      rintro e wz ⟨rfl, hz⟩
      replace hz := hz.symm
      subst hz
      go_wp2_with fail
      refine (MU.out _ (Below.refl _ _)).mono ?_
      rintro e w1 ⟨rfl, hB1⟩
      have HB := hid hB1
      clear hB1 MU
      have AD1 := hid (AD.out w1 HB.out p0 p1)
      clear AD
      go_wp2_with fail
      refine AD1.out.mono ?_
      rintro e w2 ⟨r, f, rfl, h, hB2⟩
      have KK : Hid (Told2 (Ie.FmaIs a b c) w (.returned (.tuple #[.int .u64 r, .int .i64 f])) w2) := ⟨r, f, rfl, KC.out r f h, HB.out.trans (hB2.mono HB.out.size)⟩
      clear h hB2 HB AD1 KC
      go_wp2_with fail
      go_ret2
      exact KK.out
    · rw [ia] at IA
      clear ia na nb nc hT hi
      go_enter Tryd.func21, Tryd.ntmps21
      go_wp2_with fail
      refine (NA.out _).mono ?_
      rintro e wz ⟨rfl, hz⟩
      replace hz := hz.symm
      subst hz
      go_wp2_with fail
      refine (NB.out _).mono ?_
      rintro e wz ⟨rfl, hz⟩
      replace hz := hz.symm
      subst hz
      go_wp2_with fail
      refine (NC.out _).mono ?_
      rintro e wz ⟨rfl, hz⟩
      replace hz := hz.symm
      subst hz
      go_wp2_with fail
      refine (IA.out _).mono ?_
      rintro e wz ⟨rfl, hz⟩
      replace hz := hz.symm
      subst hz
      go_wp2_with fail
      refine (MU.out _ (Below.refl _ _)).mono ?_
      rintro e w1 ⟨rfl, hB1⟩
      have HB := hid hB1
      clear hB1 MU
      have AD1 := hid (AD.out w1 HB.out p0 p1)
      clear AD
      go_wp2_with fail
      refine AD1.out.mono ?_
      rintro e w2 ⟨r, f, rfl, h, hB2⟩
      have KK : Hid (Told2 (Ie.FmaIs a b c) w (.returned (.tuple #[.int .u64 r, .int .i64 f])) w2) := ⟨r, f, rfl, KC.out r f h, HB.out.trans (hB2.mono HB.out.size)⟩
      clear h hB2 HB AD1 KC
      go_wp2_with fail
      go_ret2
      exact KK.out

set_option maxRecDepth 100000 in
set_option maxHeartbeats 8000000 in
theorem fma_any (a b c : Int) (w : World) (a0 : 0 ≤ a) (a1 : a < 18446744073709551616) (b0 : 0 ≤ b) (b1 : b < 18446744073709551616) (c0 : 0 ≤ c) (c1 : c < 18446744073709551616) (hT : Tab w) :
    Calls Tryd.prog 21 #[.int .u64 a, .int .u64 b, .int .u64 c] w fun e w' => Told2 (Ie.FmaIs a b c) w e w' := by
  have NA := hid (fun (wx : World) => nan_any a wx a0 a1)
  have NB := hid (fun (wx : World) => nan_any b wx b0 b1)
  have NC := hid (fun (wx : World) => nan_any c wx c0 c1)
  have IA := hid (fun (wx : World) => infinite_any a wx a0 a1)
  have IB := hid (fun (wx : World) => infinite_any b wx b0 b1)
  have IC := hid (fun (wx : World) => infinite_any c wx c0 c1)
  have KK : Hid (∀ (e : Ending) (r f : Int), e = .returned (.tuple #[.int .u64 r, .int .i64 f]) → Ie.FmaIs a b c r f → Told2 (Ie.FmaIs a b c) w e w) := fun e r f h1 h2 => ⟨r, f, h1, h2, Below.refl _ _⟩
  cases na : Ie.isn a
  · cases nb : Ie.isn b
    · cases nc : Ie.isn c
      · by_cases hi : Ie.isi a = true ∨ Ie.isi b = true
        · exact fma_inf a b c w a0 a1 b0 b1 c0 c1 hT na nb nc hi
        · have ia : Ie.isi a = false := by
            cases h : Ie.isi a
            · rfl
            · exact absurd (.inl h) hi
          have ib : Ie.isi b = false := by
            cases h : Ie.isi b
            · rfl
            · exact absurd (.inr h) hi
          cases ic : Ie.isi c
          · exact fma_fin a b c w a0 a1 b0 b1 c0 c1 hT na ia nb ib nc ic
          · have SP : Hid (Ie.FmaIs a b c c 0) := by rw [Hid, Ie.FmaIs, na, nb, nc, ia, ib, ic]; simp
            rw [na] at NA
            rw [nb] at NB
            rw [nc] at NC
            rw [ia] at IA
            rw [ib] at IB
            rw [ic] at IC
            clear na nb nc ia ib ic hT hi
            go_enter Tryd.func21, Tryd.ntmps21
            go_wp2_with fail
            refine (NA.out _).mono ?_
            rintro e wz ⟨rfl, hz⟩
            replace hz := hz.symm
            subst hz
            go_wp2_with fail
            refine (NB.out _).mono ?_
            rintro e wz ⟨rfl, hz⟩
            replace hz := hz.symm
            subst hz
            go_wp2_with fail
            refine (NC.out _).mono ?_
            rintro e wz ⟨rfl, hz⟩
            replace hz := hz.symm
            subst hz
            go_wp2_with fail
            refine (IA.out _).mono ?_
            rintro e wz ⟨rfl, hz⟩
            replace hz := hz.symm
            subst hz
            go_wp2_with fail
            refine (IB.out _).mono ?_
            rintro e wz ⟨rfl, hz⟩
            replace hz := hz.symm
            subst hz
            go_wp2_with fail
            refine (IC.out _).mono ?_
            rintro e wz ⟨rfl, hz⟩
            replace hz := hz.symm
            subst hz
            go_wp2_with fail
            go_ret2
            exact KK.out _ _ _ rfl SP.out
      · have SP : Hid (Ie.FmaIs a b c 9221120237041090560 0) := by rw [Hid, Ie.FmaIs, na, nb, nc]; simp
        rw [na] at NA
        rw [nb] at NB
        rw [nc] at NC
        clear na nb nc hT
        go_enter Tryd.func21, Tryd.ntmps21
        go_wp2_with fail
        refine (NA.out _).mono ?_
        rintro e wz ⟨rfl, hz⟩
        replace hz := hz.symm
        subst hz
        go_wp2_with fail
        refine (NB.out _).mono ?_
        rintro e wz ⟨rfl, hz⟩
        replace hz := hz.symm
        subst hz
        go_wp2_with fail
        refine (NC.out _).mono ?_
        rintro e wz ⟨rfl, hz⟩
        replace hz := hz.symm
        subst hz
        go_wp2_with fail
        go_ret2
        exact KK.out _ _ _ rfl SP.out
    · have SP : Hid (Ie.FmaIs a b c 9221120237041090560 0) := by rw [Hid, Ie.FmaIs, na, nb]; simp
      rw [na] at NA
      rw [nb] at NB
      clear na nb hT
      go_enter Tryd.func21, Tryd.ntmps21
      go_wp2_with fail
      refine (NA.out _).mono ?_
      rintro e wz ⟨rfl, hz⟩
      replace hz := hz.symm
      subst hz
      go_wp2_with fail
      refine (NB.out _).mono ?_
      rintro e wz ⟨rfl, hz⟩
      replace hz := hz.symm
      subst hz
      go_wp2_with fail
      go_ret2
      exact KK.out _ _ _ rfl SP.out
  · have SP : Hid (Ie.FmaIs a b c 9221120237041090560 0) := by rw [Hid, Ie.FmaIs, na]; simp
    rw [na] at NA
    clear na hT
    go_enter Tryd.func21, Tryd.ntmps21
    go_wp2_with fail
    refine (NA.out _).mono ?_
    rintro e wz ⟨rfl, hz⟩
    replace hz := hz.symm
    subst hz
    go_wp2_with fail
    go_ret2
    exact KK.out _ _ _ rfl SP.out

set_option maxRecDepth 100000 in
set_option maxHeartbeats 8000000 in
theorem softFma_any (a b c : Int) (w : World) (a0 : 0 ≤ a) (a1 : a < 18446744073709551616) (b0 : 0 ≤ b) (b1 : b < 18446744073709551616) (c0 : 0 ≤ c) (c1 : c < 18446744073709551616) (hT : Tab w) :
    Calls Tryd.prog 11 #[.int .u64 a, .int .u64 b, .int .u64 c] w fun e w' => Told1 (Ie.FmaIs a b c) w e w' := by
  have AD := hid (fma_any a b c w a0 a1 b0 b1 c0 c1 hT)
  clear hT
  go_enter Tryd.func11, Tryd.ntmps11
  go_wp2_with fail
  refine AD.out.mono ?_
  rintro e w1 ⟨r, f, rfl, h, hB⟩
  have KK : Hid (Told1 (Ie.FmaIs a b c) w (.returned (.int .u64 r)) w1) := ⟨r, f, rfl, h, hB⟩
  clear h hB AD
  go_wp2_with fail
  go_ret
  exact KK.out

end Go.Proofs.YthpeolamapoamaaDoor

/-
  What fma answers of finite doubles; closed ones.
-/
namespace Go.Proofs.YthpeolamapoamaaDoor
namespace Ie

theorem FmaIs.get {a b c r f : Int} (fa : fin a) (fb : fin b) (fc : fin c) (h : FmaIs a b c r f) : ∃ neg V e, SumIs (ngd a != ngd b) (dm a * dm b) (de a + de b) (ngd c) (dm c) (de c) neg V e ∧ Res neg V e false r f := by
  rw [FmaIs, (fin_not fa).1, (fin_not fa).2, (fin_not fb).1, (fin_not fb).2, (fin_not fc).1, (fin_not fc).2] at h
  simp only [Bool.false_eq_true, or_self, if_false] at h
  exact h

theorem FmaIs.rs {a b c r f : Int} (fa : fin a) (fb : fin b) (fc : fin c) (h : FmaIs a b c r f) : RS (uv a * uv b + uv c * 2 ^ 1074) (2 ^ 1074) ((ngd a != ngd b) && ngd c) r := by
  obtain ⟨neg, V, e, hS, x, t, L, rfl, -, hR, -, -⟩ := h.get fa fb fc
  obtain ⟨_, ⟨ea0, ea1⟩, _, _⟩ := dec_f a fa
  obtain ⟨_, ⟨eb0, eb1⟩, _, _⟩ := dec_f b fb
  obtain ⟨_, ⟨ec0, ec1⟩, gc, _⟩ := dec_f c fc
  have g2 : ∀ k : Nat, (k : Int) = de c + (2148 : Nat) → dm c * 2 ^ k = un (ab c) * 2 ^ 1074 := by
    intro k hk
    obtain ⟨kc, hkc⟩ : ∃ k : Nat, (k : Int) = de c + 1074 := ⟨(de c + 1074).toNat, by omega⟩
    rw [← gc kc hkc, show k = kc + 1074 by omega, Nm.two_add, Int.mul_assoc]
  obtain ⟨c', hc, key, h0⟩ := hS.at 2148 (by omega) (by omega) (fun k hk => prod_at fa fb k (by omega)) g2
  rw [← uv_mul, ← sn_mul_right (ngd c)] at key h0
  exact rs_of hR hS.2.2.1.1 c' 1074 (by omega) key.symm rfl h0

theorem un_32 : un 4613937818241073152 * un 4611686018427387904 = un 4618441417868443648 * 2 ^ 1074 := by
  rw [un_3, un_2, un_6]
  have e1 : (2 : Int) ^ 1074 = 4503599627370496 * 2 ^ 1022 := by rw [show 1074 = 52 + 1022 by rfl, Nm.two_add]; rfl
  have e2 : (2 : Int) ^ 1024 = 2 * 2 ^ 1023 := Nm.two_succ 1023
  have e3 : (2 : Int) ^ 1023 = 2 * 2 ^ 1022 := Nm.two_succ 1022
  rw [e1, e2, e3]
  generalize (2 : Int) ^ 1022 = P
  ac_rfl

theorem un_63 : un 4618441417868443648 + un 4613937818241073152 = un 4621256167635550208 := by
  rw [un_3, un_6, un_9, p1022.1, p1022.2.1, p1022.2.2]
  generalize (2 : Int) ^ 1022 = P
  omega

theorem mul_32 {r f : Int} (h : MulIs 4613937818241073152 4611686018427387904 r f) : r = 4618441417868443648 := by
  refine (h.rs (by rw [fin]; decide) (by rw [fin]; decide)).lit (Nm.two_pos _) _ (by omega) (by omega) ?_
  rw [uv_pos (by omega) (by omega), uv_pos (by omega) (by omega), un_32]

theorem fma_233 {r f : Int} (h : FmaIs 4611686018427387904 4613937818241073152 4613937818241073152 r f) : r = 4621256167635550208 := by
  refine (h.rs (by rw [fin]; decide) (by rw [fin]; decide) (by rw [fin]; decide)).lit (Nm.two_pos _) _ (by omega) (by omega) ?_
  rw [uv_pos (by omega) (by omega), uv_pos (by omega) (by omega), Int.mul_comm (un 4611686018427387904), un_32, ← Int.add_mul, un_63]

theorem div_62 {r f : Int} (h : DivIs 4618441417868443648 4611686018427387904 r f) : r = 4613937818241073152 := by
  have h1 := h.rs (by rw [fin]; decide) (by rw [fin]; decide) (by decide)
  have e1 : ab 4611686018427387904 = 4611686018427387904 := by decide
  have e2 : ab 4618441417868443648 = 4618441417868443648 := by decide
  have e3 : (ngd 4618441417868443648 != ngd 4611686018427387904) = false := by decide
  rw [e1, e2, e3] at h1
  refine h1.lit (un_pos (by omega)) _ (by omega) (by omega) ?_
  rw [sn_false, un_32]
end Ie
end Go.Proofs.YthpeolamapoamaaDoor

/-
  What soft answers are bits; what is exact.
-/
namespace Go.Proofs.YthpeolamapoamaaDoor
namespace Ie
theorem Res.bd {neg : Bool} {V e : Int} {more : Bool} {r f : Int} (h : Res neg V e more r f) : 0 ≤ r ∧ r < 18446744073709551616 := by
  obtain ⟨x, t, L, rfl, -, hR, -, -⟩ := h
  have := hR.bd
  cases neg <;> simp only [sg, Bool.false_eq_true, if_true, if_false] <;> omega

theorem AddIs.bd {a b r f : Int} (a0 : 0 ≤ a) (a1 : a < 18446744073709551616) (b0 : 0 ≤ b) (b1 : b < 18446744073709551616) (h : AddIs a b r f) : 0 ≤ r ∧ r < 18446744073709551616 := by
  rw [AddIs] at h
  split at h
  · omega
  · split at h
    · omega
    · split at h
      · omega
      · split at h
        · omega
        · obtain ⟨neg, V, e, -, hR⟩ := h
          exact hR.bd

theorem sb_bd (n : Bool) (x : Int) (h0 : 0 ≤ x) (h1 : x < 9223372036854775808) : 0 ≤ sb n x ∧ sb n x < 18446744073709551616 := by
  cases n <;> simp only [sb, Bool.false_eq_true, if_true, if_false] <;> omega

theorem MulIs.bd {a b r f : Int} (h : MulIs a b r f) : 0 ≤ r ∧ r < 18446744073709551616 := by
  rw [MulIs] at h
  split at h
  · omega
  · split at h
    · omega
    · split at h
      · rw [h.1]; exact sb_bd _ _ (by omega) (by omega)
      · exact h.bd

theorem DivIs.bd {a b r f : Int} (h : DivIs a b r f) : 0 ≤ r ∧ r < 18446744073709551616 := by
  rw [DivIs] at h
  split at h
  · omega
  · split at h
    · omega
    · split at h
      · rw [h.1]; exact sb_bd _ _ (by omega) (by omega)
      · split at h
        · rw [h.1]; exact sb_bd _ _ (by omega) (by omega)
        · split at h
          · rw [h.1]; exact sb_bd _ _ (by omega) (by omega)
          · exact h.bd

theorem FmaIs.bd {a b c r f : Int} (c0 : 0 ≤ c) (c1 : c < 18446744073709551616) (h : FmaIs a b c r f) : 0 ≤ r ∧ r < 18446744073709551616 := by
  rw [FmaIs] at h
  split at h
  · omega
  · split at h
    · split at h
      · omega
      · have g := sb_bd (ngd a != ngd b) 9218868437227405312 (by omega) (by omega)
        exact AddIs.bd g.1 g.2 c0 c1 h
    · split at h
      · omega
      · obtain ⟨neg, V, e, -, hR⟩ := h
        exact hR.bd

theorem ng_uv (d : Int) (h0 : 0 ≤ d) (h1 : d < 18446744073709551616) : uv (ng d) = -uv d ∧ ab (ng d) = ab d ∧ ngd (ng d) = !ngd d ∧ (0 ≤ ng d ∧ ng d < 18446744073709551616) := by
  have hd := sb_ab d h0 h1
  have b := ab_bd d
  have e : ng d = sb (!ngd d) (ab d) := by
    rcases (show d < 9223372036854775808 ∨ 9223372036854775808 ≤ d by omega) with h | h
    · rw [ng, if_pos h, ngd, decide_eq_false (by omega), ab]; simp only [sb, Bool.not_false, if_true]; omega
    · rw [ng, if_neg (by omega), ngd, decide_eq_true (by omega), ab]; simp only [sb, Bool.not_true, Bool.false_eq_true, if_false]; omega
  have g := ab_sb (!ngd d) (ab d) b.1 b.2
  rw [← e] at g
  refine ⟨by rw [uv, g.1, g.2, sn_not, ← uv], g.1, g.2, ?_⟩
  rw [e]; exact sb_bd _ _ b.1 b.2

theorem uv_sb (neg : Bool) (x : Int) (h0 : 0 ≤ x) (h1 : x < 9223372036854775808) : uv (sb neg x) = sn neg (un x) := by
  obtain ⟨h2, h3⟩ := ab_sb neg x h0 h1
  rw [uv, h2, h3]
end Ie
end Go.Proofs.YthpeolamapoamaaDoor
