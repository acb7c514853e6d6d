import Derived.Test.YtjebdobopechfabDoorXMem
import Derived.Test.YtjebdobopechfabDoorXNum
import Derived.Test.YtjebdobopechfabDoorIShiftA
import Derived.Test.YtjebdobopechfabDoorSub
import Derived.Test.YtjebdobopechfabDoorSmall
import Derived.Test.YtjebdobopechfabDoorWalk4
/-
  law05: plus, times, apart (made by mkynum.py).
-/
namespace Go.Proofs.YtjebdobopechfabDoor
open Go Go.RowKit Go.Deep

/-- A num, as Go has it. -/
def numOf (neg : Bool) (p : Option Addr) (n cap : Nat) : Value := .agg #[.bool neg, .slice p n cap]

/-- Two nums in boxes of their own, and room for the answer. -/
def NBox (w wx : World) (x0 x1 y0 y1 : Value) : Prop :=
  (Row2 wx w.heap.size 28 x0 x1 ∧ Row2 wx (w.heap.size + 1) 28 y0 y1 ∧ Row2 wx (w.heap.size + 2) 28 (.bool false) (.slice none 0 0)) ∧ Below w.heap.size w wx ∧ w.heap.size + 3 ≤ wx.heap.size

theorem NBox.new (w : World) (x0 x1 y0 y1 : Value) :
    NBox w (((w.alloc (.cells #[x0, x1] 28)).alloc (.cells #[y0, y1] 28)).alloc (.cells #[.bool false, .slice none 0 0] 28)) x0 x1 y0 y1 := by
  have s1 : (w.alloc (.cells #[x0, x1] 28)).heap.size = w.heap.size + 1 := by simp
  have s2 : ((w.alloc (.cells #[x0, x1] 28)).alloc (.cells #[y0, y1] 28)).heap.size = w.heap.size + 2 := by simp
  have r0 := Row2.new w 28 x0 x1
  have r1 := Row2.new (w.alloc (.cells #[x0, x1] 28)) 28 y0 y1
  have r2 := Row2.new ((w.alloc (.cells #[x0, x1] 28)).alloc (.cells #[y0, y1] 28)) 28 (.bool false) (.slice none 0 0)
  rw [s1] at r1
  rw [s2] at r2
  refine ⟨⟨?_, ?_, r2⟩, ?_, ?_⟩
  · exact (r0.below (alloc_b _ _) (by omega)).below (alloc_b _ _) (by omega)
  · exact r1.below (alloc_b _ _) (by omega)
  · have h1 := alloc_b w (.cells #[x0, x1] 28)
    have h2 := Below.alloc h1 h1.size (.cells #[y0, y1] 28)
    exact Below.alloc h2 h2.size _
  · simp

theorem NBox.on {w wx w' : World} {x0 x1 y0 y1 : Value} (h : NBox w wx x0 x1 y0 y1) (hB : Below wx.heap.size wx w') : NBox w w' x0 x1 y0 y1 := by
  obtain ⟨⟨a, b, c⟩, d, e⟩ := h
  exact ⟨⟨a.below hB a.lt, b.below hB b.lt, c.below hB c.lt⟩, d.trans (hB.mono d.size), by have := hB.size; omega⟩

theorem NBox.cells {w wx : World} {x0 x1 y0 y1 : Value} (h : NBox w wx x0 x1 y0 y1) :
    (wx.cell? ⟨w.heap.size, 0, none⟩ = some x0 ∧ wx.cell? ⟨w.heap.size, 1, none⟩ = some x1) ∧ (wx.cell? ⟨w.heap.size + 1, 0, none⟩ = some y0 ∧ wx.cell? ⟨w.heap.size + 1, 1, none⟩ = some y1) ∧
    ((wx.cell? ⟨w.heap.size + 2, 0, none⟩ = some (.bool false) ∧ wx.cell? ⟨w.heap.size + 2, 1, none⟩ = some (.slice none 0 0)) ∧ (wx.frozen? ⟨w.heap.size + 2, 0, none⟩ = false ∧ wx.frozen? ⟨w.heap.size + 2, 1, none⟩ = false)) := by
  obtain ⟨⟨a, b, c⟩, -, -⟩ := h
  exact ⟨⟨a.cells.1.1, a.cells.1.2⟩, ⟨b.cells.1.1, b.cells.1.2⟩, c.cells⟩

theorem Ans.tl' {B : Nat} {w : World} {p : Option Addr} {ys : List Int} {n : Int} (h : Ans B w p ys n) {K : Nat} (hn : n < 2 ^ K) (hK : K ≤ 262144) : Arg w p ys.length ys.length ys ∧ Nm.tsize ys ≤ 4096 := by
  have e := pw_4096
  have := Nm.two_mono hK
  have h2 := (Nm.tsize_le_iff h.2.1 4096).2 (by rw [h.2.2.2.1]; omega)
  exact ⟨h.arg (by rw [← h.2.2.1]; omega), h2⟩

/-- A num is told: its number, in new memory. -/
def NumIs (z : Int) (w : World) (e : Ending) (w' : World) : Prop :=
  ∃ neg p os V, e = .returned (numOf neg p (List.length os) (List.length os)) ∧ Ans w.heap.size w' p os V ∧ Ie.sn neg V = z ∧ 0 ≤ V ∧ Below w.heap.size w w'

theorem tell2 {w w3 : World} {neg : Bool} {p : Option Addr} {os : List Int} {V z : Int} {x0 x1 y0 y1 : Value} (hb : NBox w w3 x0 x1 y0 y1) (A : Ans (w.heap.size + 3) w3 p os V) (hz : Ie.sn neg V = z) (v0 : 0 ≤ V) :
    NumIs z w (.returned (numOf neg p (List.length os) (List.length os))) ((w3.setCell ⟨w.heap.size + 2, 0, none⟩ (.bool neg)).setCell ⟨w.heap.size + 2, 1, none⟩ (.slice p os.length os.length)) := by
  have A' := A.set2 (b := w.heap.size + 2) (u0 := .bool neg) (u1 := .slice p os.length os.length) (by omega)
  exact ⟨neg, p, os, V, rfl, ⟨A'.1, A'.2.1, A'.2.2.1, A'.2.2.2.1, fun a h => by have := A'.2.2.2.2 a h; omega⟩, hz, v0, set2_below hb.2.1 (by omega)⟩

set_option maxRecDepth 100000 in
set_option maxHeartbeats 4000000 in
theorem yplus_any (n1 n2 : Bool) (p1 p2 : Option Addr) (o1 o2 : List Int) (V1 V2 : Int) (B1 B2 : Nat) (w : World) (a1 : Ans B1 w p1 o1 V1) (a2 : Ans B2 w p2 o2 V2) (b1 : V1 < 2 ^ 9000) (b2 : V2 < 2 ^ 9000) :
    Calls Tryd.prog 14 #[numOf n1 p1 o1.length o1.length, numOf n2 p2 o2.length o2.length] w fun e w' => NumIs (Ie.sn n1 V1 + Ie.sn n2 V2) w e w' := by
  have v1 : 0 ≤ V1 := by rw [← a1.2.2.2.1]; exact (Nm.val_bd o1 a1.2.1).1
  have v2 : 0 ≤ V2 := by rw [← a2.2.2.2.1]; exact (Nm.val_bd o2 a2.2.1).1
  have B0 := NBox.new w (.bool n1) (.slice p1 o1.length o1.length) (.bool n2) (.slice p2 o2.length o2.length)
  obtain ⟨g1, t1⟩ := a1.tl' b1 (by omega)
  obtain ⟨g2, t2⟩ := a2.tl' b2 (by omega)
  have big : V1 + V2 < Nm.pw 4096 := by
    rw [pw_4096]
    have := Nm.two_mono (show 9001 ≤ 262144 by omega)
    have e : (2 : Int) ^ 9001 = 2 * 2 ^ 9000 := Nm.two_succ 9000
    omega
  have x1 := a1.2.2.2.1
  have x2 := a2.2.2.2.1
  simp only [numOf]
  by_cases hn : n1 = n2
  · subst hn
    have AD : Hid (∀ wx : World, Below w.heap.size w wx → Calls Tryd.prog 38 #[.slice p1 o1.length o1.length, .slice p2 o2.length o2.length] wx fun e w' => ∃ r os, e = .returned (.tuple #[.slice r (List.length os) (List.length os), .int .i64 0]) ∧ Ans wx.heap.size w' r os (V1 + V2) ∧ Below wx.heap.size wx w') := by
      intro wx hx
      have := add_ok p1 p2 _ _ _ _ o1 o2 wx (g1.below hx (Nat.le_refl _)) (g2.below hx (Nat.le_refl _)) (by rw [x1, x2]; exact big)
      rw [x1, x2] at this
      exact this
    have FI : Hid (Ie.sn n1 (V1 + V2) = Ie.sn n1 V1 + Ie.sn n1 V2 ∧ 0 ≤ V1 + V2) := ⟨by cases n1 <;> simp only [Ie.sn, Bool.false_eq_true, if_true, if_false] <;> omega, by omega⟩
    have nn : (n1 == n1) = true := by simp
    clear a1 a2 b1 b2 v1 v2 g1 g2 t1 t2 big x1 x2
    go_enter Tryd.func14, Tryd.ntmps14
    go_wp2_with fail
    refine (AD.out _ B0.2.1).mono ?_
    rintro e wc ⟨r3, o3, rfl, A3, hB3⟩
    have Bc := B0.on hB3
    have s0 := B0.2.2
    have KF := tell2 (neg := n1) Bc ⟨A3.1, A3.2.1, A3.2.2.1, A3.2.2.2.1, fun a h => by have := A3.2.2.2.2 a h; omega⟩ FI.out.1 FI.out.2
    clear A3 hB3 AD B0 s0
    obtain ⟨⟨cx0, cx1⟩, ⟨cy0, cy1⟩, ⟨⟨r0, r1⟩, ⟨f0, f1⟩⟩⟩ := Bc.cells
    have RR := hid Bc.1.2.2
    have KK := hid KF
    clear Bc KF
    go_wp2_with fail
    (try simp only [Exit.inBlock, Exit.then])
    refine bodyPost_ret (results_cell_row rfl _ _ (w.heap.size + 2) 28 _ (0, 0) _ rfl (Row2.set RR.out) Tryd.underlying28 rfl (by kernel_rfl)) rfl ?_
    exact KK.out
  · have nn : (n1 == n2) = false := by rw [beq_eq_false_iff_ne]; exact hn
    have CM := hid (fun (c : Int) (hc : cmpI V1 V2 = c) (wx : World) (hx : Below w.heap.size w wx) => cmp_is c p1 p2 _ _ _ _ o1 o2 wx (g1.below hx (Nat.le_refl _)) (g2.below hx (Nat.le_refl _)) (by rw [x1, x2]; exact hc))
    rcases (show V2 ≤ V1 ∨ V1 < V2 by omega) with ho | ho
    · have SB : Hid (∀ wx : World, Below w.heap.size w wx → Calls Tryd.prog 39 #[.slice p1 o1.length o1.length, .slice p2 o2.length o2.length] wx fun e w' => ∃ r os, e = .returned (.tuple #[.slice r (List.length os) (List.length os), .int .i64 0]) ∧ Ans wx.heap.size w' r os (V1 - V2) ∧ Below wx.heap.size wx w') := by
        intro wx hx
        have := sub_ok p1 p2 _ _ _ _ o1 o2 wx (g1.below hx (Nat.le_refl _)) (g2.below hx (Nat.le_refl _)) t1 (by rw [x1, x2]; omega)
        rw [x1, x2] at this
        exact this
      have FI : Hid (Ie.sn n1 (V1 - V2) = Ie.sn n1 V1 + Ie.sn n2 V2 ∧ 0 ≤ V1 - V2) := ⟨by cases n1 <;> cases n2 <;> simp only [Ie.sn, Bool.false_eq_true, if_true, if_false] <;> first | exact absurd rfl hn | omega, by omega⟩
      obtain ⟨c, hc, hc0⟩ : ∃ c, cmpI V1 V2 = c ∧ 0 ≤ c := ⟨_, rfl, by simp only [cmpI]; split <;> (try split) <;> omega⟩
      have CM1 := hid (CM.out c hc)
      clear a1 a2 b1 b2 v1 v2 g1 g2 t1 t2 big x1 x2 CM hc ho
      go_enter Tryd.func14, Tryd.ntmps14
      go_wp2_with fail
      refine (CM1.out _ B0.2.1).mono ?_
      rintro e wb ⟨rfl, hB2⟩
      have Bb := B0.on hB2
      obtain ⟨⟨cx0, cx1⟩, ⟨cy0, cy1⟩, -⟩ := Bb.cells
      have s0 := B0.2.2
      clear hB2 CM1 B0
      go_wp2_with fail
      refine (SB.out _ Bb.2.1).mono ?_
      rintro e wc ⟨r3, o3, rfl, A3, hB3⟩
      have Bc := Bb.on hB3
      have s1 := Bb.2.2
      have KF := tell2 (neg := n1) Bc ⟨A3.1, A3.2.1, A3.2.2.1, A3.2.2.2.1, fun a h => by have := A3.2.2.2.2 a h; omega⟩ FI.out.1 FI.out.2
      clear A3 hB3 SB Bb s0 s1 cx0 cx1 cy0 cy1
      obtain ⟨⟨cx0, cx1⟩, ⟨cy0, cy1⟩, ⟨⟨r0, r1⟩, ⟨f0, f1⟩⟩⟩ := Bc.cells
      have RR := hid Bc.1.2.2
      have KK := hid KF
      clear Bc KF
      go_wp2_with fail
      (try simp only [Exit.inBlock, Exit.then])
      refine bodyPost_ret (results_cell_row rfl _ _ (w.heap.size + 2) 28 _ (0, 0) _ rfl (Row2.set RR.out) Tryd.underlying28 rfl (by kernel_rfl)) rfl ?_
      exact KK.out
    · have SB : Hid (∀ wx : World, Below w.heap.size w wx → Calls Tryd.prog 39 #[.slice p2 o2.length o2.length, .slice p1 o1.length o1.length] wx fun e w' => ∃ r os, e = .returned (.tuple #[.slice r (List.length os) (List.length os), .int .i64 0]) ∧ Ans wx.heap.size w' r os (V2 - V1) ∧ Below wx.heap.size wx w') := by
        intro wx hx
        have := sub_ok p2 p1 _ _ _ _ o2 o1 wx (g2.below hx (Nat.le_refl _)) (g1.below hx (Nat.le_refl _)) t2 (by rw [x1, x2]; omega)
        rw [x1, x2] at this
        exact this
      have FI : Hid (Ie.sn n2 (V2 - V1) = Ie.sn n1 V1 + Ie.sn n2 V2 ∧ 0 ≤ V2 - V1) := ⟨by cases n1 <;> cases n2 <;> simp only [Ie.sn, Bool.false_eq_true, if_true, if_false] <;> first | exact absurd rfl hn | omega, by omega⟩
      obtain ⟨c, hc, hc0⟩ : ∃ c, cmpI V1 V2 = c ∧ c < 0 := ⟨_, rfl, by simp only [cmpI]; split <;> (try split) <;> omega⟩
      have CM1 := hid (CM.out c hc)
      clear a1 a2 b1 b2 v1 v2 g1 g2 t1 t2 big x1 x2 CM hc ho
      go_enter Tryd.func14, Tryd.ntmps14
      go_wp2_with fail
      refine (CM1.out _ B0.2.1).mono ?_
      rintro e wb ⟨rfl, hB2⟩
      have Bb := B0.on hB2
      obtain ⟨⟨cx0, cx1⟩, ⟨cy0, cy1⟩, -⟩ := Bb.cells
      have s0 := B0.2.2
      clear hB2 CM1 B0
      go_wp2_with fail
      refine (SB.out _ Bb.2.1).mono ?_
      rintro e wc ⟨r3, o3, rfl, A3, hB3⟩
      have Bc := Bb.on hB3
      have s1 := Bb.2.2
      have KF := tell2 (neg := n2) Bc ⟨A3.1, A3.2.1, A3.2.2.1, A3.2.2.2.1, fun a h => by have := A3.2.2.2.2 a h; omega⟩ FI.out.1 FI.out.2
      clear A3 hB3 SB Bb s0 s1 cx0 cx1 cy0 cy1
      obtain ⟨⟨cx0, cx1⟩, ⟨cy0, cy1⟩, ⟨⟨r0, r1⟩, ⟨f0, f1⟩⟩⟩ := Bc.cells
      have RR := hid Bc.1.2.2
      have KK := hid KF
      clear Bc KF
      go_wp2_with fail
      (try simp only [Exit.inBlock, Exit.then])
      refine bodyPost_ret (results_cell_row rfl _ _ (w.heap.size + 2) 28 _ (0, 0) _ rfl (Row2.set RR.out) Tryd.underlying28 rfl (by kernel_rfl)) rfl ?_
      exact KK.out

set_option maxRecDepth 100000 in
set_option maxHeartbeats 4000000 in
theorem ytimes_any (n1 n2 : Bool) (p1 p2 : Option Addr) (o1 o2 : List Int) (V1 V2 : Int) (B1 B2 : Nat) (w : World) (a1 : Ans B1 w p1 o1 V1) (a2 : Ans B2 w p2 o2 V2) (b1 : V1 < 2 ^ 4500) (b2 : V2 < 2 ^ 4500) :
    Calls Tryd.prog 18 #[numOf n1 p1 o1.length o1.length, numOf n2 p2 o2.length o2.length] w fun e w' => NumIs (Ie.sn n1 V1 * Ie.sn n2 V2) w e w' := by
  have v1 : 0 ≤ V1 := by rw [← a1.2.2.2.1]; exact (Nm.val_bd o1 a1.2.1).1
  have v2 : 0 ≤ V2 := by rw [← a2.2.2.2.1]; exact (Nm.val_bd o2 a2.2.1).1
  have B0 := NBox.new w (.bool n1) (.slice p1 o1.length o1.length) (.bool n2) (.slice p2 o2.length o2.length)
  obtain ⟨g1, t1⟩ := a1.tl' b1 (by omega)
  obtain ⟨g2, t2⟩ := a2.tl' b2 (by omega)
  have pr : V1 * V2 < Nm.pw 4096 := by
    rw [pw_4096]
    have h1 : V1 * V2 ≤ V1 * 2 ^ 4500 := Int.mul_le_mul_of_nonneg_left (by omega) v1
    have h2 : V1 * 2 ^ 4500 < 2 ^ 4500 * 2 ^ 4500 := Int.mul_lt_mul_of_pos_right b1 (Nm.two_pos 4500)
    rw [← Nm.two_add] at h2
    have := Nm.two_mono (show 4500 + 4500 ≤ 262144 by omega)
    omega
  have x1 := a1.2.2.2.1
  have x2 := a2.2.2.2.1
  have M1 : Hid (∀ wx : World, Below w.heap.size w wx → Calls Tryd.prog 34 #[.slice p1 o1.length o1.length, .slice p2 o2.length o2.length] wx fun e w' => ∃ r os, e = .returned (.tuple #[.slice r (List.length os) (List.length os), .int .i64 0]) ∧ Ans wx.heap.size w' r os (V1 * V2) ∧ Below wx.heap.size wx w') := by
    intro wx hx
    have := mul_ok p1 p2 _ _ _ _ o1 o2 wx (g1.below hx (Nat.le_refl _)) (g2.below hx (Nat.le_refl _)) t1 t2 (by rw [x1, x2]; exact pr)
    rw [x1, x2] at this
    exact this
  have FI : Hid (Ie.sn (n1 != n2) (V1 * V2) = Ie.sn n1 V1 * Ie.sn n2 V2 ∧ 0 ≤ V1 * V2) := ⟨(Ie.sn_mul _ _ _ _).symm, Int.mul_nonneg v1 v2⟩
  simp only [numOf]
  generalize Ie.sn n1 V1 * Ie.sn n2 V2 = z at *
  clear a1 a2 b1 b2 v1 v2 g1 g2 t1 t2 pr x1 x2
  go_enter Tryd.func18, Tryd.ntmps18
  go_wp2_with fail
  refine (M1.out _ B0.2.1).mono ?_
  rintro e wc ⟨r3, o3, rfl, A3, hB3⟩
  have Bc := B0.on hB3
  have s0 := B0.2.2
  have KF := tell2 (neg := n1 != n2) Bc ⟨A3.1, A3.2.1, A3.2.2.1, A3.2.2.2.1, fun a h => by have := A3.2.2.2.2 a h; omega⟩ FI.out.1 FI.out.2
  clear A3 hB3 M1 B0 s0
  obtain ⟨⟨cx0, cx1⟩, ⟨cy0, cy1⟩, ⟨⟨r0, r1⟩, ⟨f0, f1⟩⟩⟩ := Bc.cells
  have RR := hid Bc.1.2.2
  have KK := hid KF
  clear Bc KF
  go_wp2_with fail
  (try simp only [Exit.inBlock, Exit.then])
  refine bodyPost_ret (results_cell_row rfl _ _ (w.heap.size + 2) 28 _ (0, 0) _ rfl (Row2.set RR.out) Tryd.underlying28 rfl (by kernel_rfl)) rfl ?_
  exact KK.out

set_option maxRecDepth 100000 in
set_option maxHeartbeats 4000000 in
theorem apart_any (n1 n2 : Bool) (p1 p2 : Option Addr) (o1 o2 : List Int) (V1 V2 : Int) (B1 B2 : Nat) (w : World) (a1 : Ans B1 w p1 o1 V1) (a2 : Ans B2 w p2 o2 V2) (b1 : V1 < 2 ^ 9000) (b2 : V2 < 2 ^ 9000) :
    Calls Tryd.prog 44 #[numOf n1 p1 o1.length o1.length, numOf n2 p2 o2.length o2.length] w fun e w' => ∃ p os, e = .returned (.slice p (List.length os) (List.length os)) ∧ Ans w.heap.size w' p os (Ie.az (Ie.sn n1 V1 - Ie.sn n2 V2)) ∧ Below w.heap.size w w' := by
  have PL : Hid (∀ wx : World, Below w.heap.size w wx → Calls Tryd.prog 14 #[numOf n1 p1 o1.length o1.length, numOf (!n2) p2 o2.length o2.length] wx fun e w' => NumIs (Ie.sn n1 V1 - Ie.sn n2 V2) wx e w') := by
    intro wx hx
    have := yplus_any n1 (!n2) p1 p2 o1 o2 V1 V2 B1 B2 wx (a1.below hx (Nat.le_refl _)) (a2.below hx (Nat.le_refl _)) b1 b2
    rw [Ie.sn_not, ← Int.sub_eq_add_neg] at this
    exact this
  simp only [numOf] at PL ⊢
  have h1 := alloc_b w (.cells #[.bool n1, .slice p1 o1.length o1.length] 28)
  have h2 := Below.alloc h1 h1.size (.cells #[.bool n2, .slice p2 o2.length o2.length] 28)
  have H2 := hid h2
  generalize Ie.sn n1 V1 - Ie.sn n2 V2 = z at *
  clear a1 a2 b1 b2 h1 h2
  go_enter Tryd.func44, Tryd.ntmps44
  go_wp2_with fail
  refine (PL.out _ H2.out).mono ?_
  rintro e wc ⟨neg, r, os, V, rfl, A, hz, v0, hB⟩
  have Bw := H2.out.trans (hB.mono H2.out.size)
  have az : Ie.az z = V := by rw [← hz]; exact Ie.az_sn neg V v0
  have Bx := Below.alloc Bw Bw.size (.cells #[.bool neg, .slice r os.length os.length] 28)
  have KK : Hid (Ans w.heap.size (wc.alloc (.cells #[.bool neg, .slice r os.length os.length] 28)) r os (Ie.az z) ∧ Below w.heap.size w (wc.alloc (.cells #[.bool neg, .slice r os.length os.length] 28))) := by
    rw [az]
    have A' := A.below (alloc_b wc (.cells #[.bool neg, .slice r os.length os.length] 28)) (Nat.le_refl _)
    exact ⟨⟨A'.1, A'.2.1, A'.2.2.1, A'.2.2.2.1, fun a h => by have := A'.2.2.2.2 a h; have := H2.out.size; omega⟩, Bx⟩
  simp only [numOf]
  clear A hz v0 hB Bw az Bx H2 PL
  go_wp2_with fail
  go_ret
  exact ⟨r, os, rfl, KK.out⟩
end Go.Proofs.YtjebdobopechfabDoor
