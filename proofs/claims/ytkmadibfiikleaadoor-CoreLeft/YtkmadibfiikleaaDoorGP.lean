/-
  Texts put together: GProd, GProd2.
-/
import Derived.Test.YtkmadibfiikleaaDoorGX
import Derived.Test.YtkmadibfiikleaaDoorGPile
import Derived.Test.YtkmadibfiikleaaDoorBits
import Derived.Test.YtkmadibfiikleaaDoorIDec
import Derived.Test.YtkmadibfiikleaaDoorXSpecA
import Derived.Test.YtkmadibfiikleaaDoorXMem
import Derived.Deep.CutRange
import Derived.Deep.CutBlock
namespace Go.Proofs.YtkmadibfiikleaaDoor
open Go.RowKit Go.Deep

namespace Ga
/-- One addend more. -/
def St.inc (s : St) : St := { s with c := s.c + 1 }
/-- The product x * y is added. -/
def St.prod (s : St) (x y : Int) : St :=
  if odd (Ie.cls x) (Ie.cls y) = true then s.inc.note (Ie.cls x) (Ie.cls y) (Ie.ngd x != Ie.ngd y)
  else if Ie.dm x = 0 ∨ Ie.dm y = 0 then (if (Ie.ngd x != Ie.ngd y) = true then { s.inc with z := s.z + 1 } else s.inc)
  else if (Ie.ngd x != Ie.ngd y) = true then { s.inc with N := s.N + Ie.un (Ie.ab x) * Ie.un (Ie.ab y) } else { s.inc with P := s.P + Ie.un (Ie.ab x) * Ie.un (Ie.ab y) }

theorem St.Ok.inc {s : St} (h : s.Ok) (hc : s.c < 1099511627776) : s.inc.Ok := by
  refine ⟨h.n0, h.u0, h.d0, h.z0, ?_, ?_, h.P0, h.N0, ?_⟩
  · have := h.odd; simp only [St.inc]; omega
  · simp only [St.inc]; omega
  · have := h.low
    have := top_pos
    simp only [St.inc]
    rw [Int.add_mul, Int.one_mul]
    omega

theorem un_top {x : Int} (h0 : 0 ≤ x) (h1 : x < 9218868437227405312) : 0 ≤ Ie.un x ∧ Ie.un x < 2 ^ 2098 := by
  refine ⟨Ie.un_nn h0, ?_⟩
  have := Ie.un_lt h0 h1
  rw [show Ie.un 9218868437227405312 = 2 ^ 2098 by rw [Ie.un, show Ie.man 9218868437227405312 = 2 ^ 52 by decide, show Ie.ex 9218868437227405312 = 2046 by decide, ← Nm.two_add]] at this
  exact this

theorem prod_top {x y : Int} (x0 : 0 ≤ x) (x1 : x < 9218868437227405312) (y0 : 0 ≤ y) (y1 : y < 9218868437227405312) : 0 ≤ Ie.un x * Ie.un y ∧ Ie.un x * Ie.un y ≤ top := by
  obtain ⟨a0, a1⟩ := un_top x0 x1
  obtain ⟨b0, b1⟩ := un_top y0 y1
  refine ⟨Int.mul_nonneg a0 b0, ?_⟩
  have h1 : Ie.un x * Ie.un y ≤ 2 ^ 2098 * Ie.un y := Int.mul_le_mul_of_nonneg_right (Int.le_of_lt a1) b0
  have h2 : (2 : Int) ^ 2098 * Ie.un y ≤ 2 ^ 2098 * 2 ^ 2098 := Int.mul_le_mul_of_nonneg_left (Int.le_of_lt b1) (Int.le_of_lt (Nm.two_pos 2098))
  rw [← Nm.two_add] at h2
  rw [top_eq]
  exact Int.le_trans h1 h2

theorem cls_is (d : Int) : Cls (Ie.cls d) := by
  rcases Ie.cls_cases d with h | h | h | h | h <;> rw [h] <;> simp [Cls]
end Ga

namespace Ga
theorem odd_not {cx cy : Int} (h : odd cx cy = false) : (cx ≠ 3 ∧ cx ≠ 4) ∧ (cy ≠ 3 ∧ cy ≠ 4) ∧ ¬ Wild cx cy := by
  simp only [odd, Bool.or_eq_false_iff, decide_eq_false_iff_not] at h
  obtain ⟨h1, h2⟩ := h
  exact ⟨⟨fun e => h2 (.inl e), fun e => h1 (.inl e)⟩, ⟨fun e => h2 (.inr e), fun e => h1 (.inr (.inl e))⟩, h1⟩

theorem note_same {s : St} {cx cy : Int} {neg : Bool} (h : odd cx cy = false) : s.note cx cy neg = s := by
  obtain ⟨h1, h2, h3⟩ := odd_not h
  rw [St.note, if_neg h3, if_neg (by omega)]

theorem fin_cls {d : Int} (h3 : Ie.cls d ≠ 3) (h4 : Ie.cls d ≠ 4) : Ie.fin d := by
  have a := Ie.isn_cls d
  have b := Ie.isi_cls d
  rw [beq_eq_false_iff_ne.2 h4, Ie.isn, eq_comm, decide_eq_false_iff_not] at a
  rw [beq_eq_false_iff_ne.2 h3, Ie.isi, eq_comm, decide_eq_false_iff_not] at b
  rw [Ie.fin]
  omega

theorem odd_fin {x y : Int} (h : odd (Ie.cls x) (Ie.cls y) = false) : Ie.fin x ∧ Ie.fin y := by
  obtain ⟨h1, h2, -⟩ := odd_not h
  exact ⟨fin_cls h1.1 h1.2, fin_cls h2.1 h2.2⟩
end Ga

/-- An Acc and the parts of two doubles in boxes. -/
def PQ (g : Nat) (s : Ga.St) (w : World) (b : Nat) (nx : Bool) (cx mx ex : Int) (ny : Bool) (cy my ey : Int) (wx : World) : Prop :=
  AccAt wx g s ∧ Row4 wx b 68 (.bool nx) (.int .i64 cx) (.int .u64 mx) (.int .i64 ex) ∧ Row4 wx (b + 1) 68 (.bool ny) (.int .i64 cy) (.int .u64 my) (.int .i64 ey) ∧ Only g w wx

section
variable {g b : Nat} {s s' : Ga.St} {w wx w' : World} {nx ny : Bool} {cx mx ex cy my ey : Int}

theorem PQ.cells (h : PQ g s w b nx cx mx ex ny cy my ey wx) :
    wx.cell? ⟨b, 0, none⟩ = some (.bool nx) ∧ wx.cell? ⟨b, 1, none⟩ = some (.int .i64 cx) ∧ wx.cell? ⟨b, 2, none⟩ = some (.int .u64 mx) ∧ wx.cell? ⟨b, 3, none⟩ = some (.int .i64 ex) ∧
    wx.cell? ⟨b + 1, 0, none⟩ = some (.bool ny) ∧ wx.cell? ⟨b + 1, 1, none⟩ = some (.int .i64 cy) ∧ wx.cell? ⟨b + 1, 2, none⟩ = some (.int .u64 my) ∧ wx.cell? ⟨b + 1, 3, none⟩ = some (.int .i64 ey) := by
  obtain ⟨-, h1, h2, -⟩ := h
  obtain ⟨⟨a0, a1, a2, a3⟩, -⟩ := h1.cells
  obtain ⟨⟨b0, b1, b2, b3⟩, -⟩ := h2.cells
  exact ⟨a0, a1, a2, a3, b0, b1, b2, b3⟩

theorem PQ.drew (h : PQ g s w b nx cx mx ex ny cy my ey wx) : PQ g s w b nx cx mx ex ny cy my ey wx.drew := by
  obtain ⟨h0, h1, h2, h3⟩ := h
  exact ⟨h0.heap rfl, h1, h2, ⟨h3.os, h3.tape, h3.output, h3.size, h3.block⟩⟩

theorem PQ.by (h : PQ g s w b nx cx mx ex ny cy my ey wx) (k : AccBy g s' wx w') (hg : g < b) : PQ g s' w b nx cx mx ex ny cy my ey w' := by
  obtain ⟨h0, h1, h2, h3⟩ := h
  refine ⟨k.1, ?_, ?_, h3.trans k.2.1⟩
  · have := k.2.1.block b h1.lt (by omega)
    rw [Row4, this]; exact h1
  · have := k.2.1.block (b + 1) h2.lt (by omega)
    rw [Row4, this]; exact h2

theorem twoBoxes {w0 w1 w2 : World} (h1 : AccBy g s w w0) (hB1 : Below w0.heap.size w0 w1) (hB2 : Below w1.heap.size w1 w2) :
    ∃ wA b, g < b ∧ ((w2.alloc (.cells #[.bool nx, .int .i64 cx, .int .u64 mx, .int .i64 ex] 68)).alloc (.cells #[.bool ny, .int .i64 cy, .int .u64 my, .int .i64 ey] 68)) = wA ∧ w2.heap.size = b ∧ Hid (PQ g s w b nx cx mx ex ny cy my ey wA) := by
  refine ⟨_, _, ?_, rfl, rfl, ?_⟩
  · have := h1.1.lt; have := hB1.size; have := hB2.size; omega
  · have a2 := (h1.1.on hB1).on hB2
    have e1 := alloc_b w2 (.cells #[.bool nx, .int .i64 cx, .int .u64 mx, .int .i64 ex] 68)
    have e2 := alloc_b (w2.alloc (.cells #[.bool nx, .int .i64 cx, .int .u64 mx, .int .i64 ex] 68)) (.cells #[.bool ny, .int .i64 cy, .int .u64 my, .int .i64 ey] 68)
    have r0 := Row4.new w2 68 (.bool nx) (.int .i64 cx) (.int .u64 mx) (.int .i64 ex)
    have r1 := Row4.new (w2.alloc (.cells #[.bool nx, .int .i64 cx, .int .u64 mx, .int .i64 ex] 68)) 68 (.bool ny) (.int .i64 cy) (.int .u64 my) (.int .i64 ey)
    have s1 : (w2.alloc (.cells #[.bool nx, .int .i64 cx, .int .u64 mx, .int .i64 ex] 68)).heap.size = w2.heap.size + 1 := by simp
    rw [s1] at r1
    exact ⟨(a2.on e1).on e2, r0.below e2 (by rw [s1]; omega), r1, (((h1.2.1.trans (Only.of_below hB1)).trans (Only.of_below hB2)).trans (Only.of_below e1)).trans (Only.of_below e2)⟩
end

set_option maxRecDepth 100000 in
set_option maxHeartbeats 4000000 in
theorem addProduct_odd (g : Nat) (s : Ga.St) (w : World) (h : AccAt w g s) (hc : s.c < 1099511627776) (x y : Int) (x0 : 0 ≤ x) (x1 : x < 18446744073709551616) (y0 : 0 ≤ y) (y1 : y < 18446744073709551616) (ho : Ga.odd (Ie.cls x) (Ie.cls y) = true) :
    Calls Tryd.prog 33 #[.pointer (some ⟨g, 0, none⟩), .int .u64 x, .int .u64 y] w fun e w' => e = .returned (.tuple #[]) ∧ AccAt w' g (s.inc.note (Ie.cls x) (Ie.cls y) (Ie.ngd x != Ie.ngd y)) ∧ Only g w w' := by
  obtain ⟨⟨-, -, -, c3, -⟩, fr⟩ := h.cells
  have f3 := fr 3
  have ok1 := h.ok.inc hc
  have h1 := hid (h.by_set (s' := s.inc) 3 (s.c + 1) rfl (by decide) rfl rfl ok1)
  have DX := hid (fun (wx : World) => decode_any x wx x0 x1)
  have DY := hid (fun (wx : World) => decode_any y wx y0 y1)
  rw [← Ie.ngd] at DX DY
  have lt := h.ok.odd
  have cb : 0 ≤ s.c := by have := h.ok.n0; have := h.ok.u0; have := h.ok.d0; have := h.ok.z0; omega
  have NT := hid (fun (wx : World) (hx : AccAt wx g s.inc) => note_any g s.inc wx hx (by simp only [Ga.St.inc]; omega) (Ie.cls x) (Ie.cls y) (Ie.ngd x != Ie.ngd y) (Ga.cls_is x) (Ga.cls_is y))
  have GL := hid h.lt
  obtain ⟨c, hcc⟩ : ∃ c, s.c = c := ⟨_, rfl⟩
  rw [hcc] at c3 cb hc h1
  have hc' : ¬ 1099511627776 ≤ c := by omega
  rw [ho] at NT
  clear fr hcc h lt ok1
  simp only [partsOf] at DX DY
  generalize Ie.ngd x = nx at *
  generalize Ie.ngd y = ny at *
  generalize Ie.dm x = mx at *
  generalize Ie.dm y = my at *
  generalize Ie.de x = ex at *
  generalize Ie.de y = ey at *
  generalize Ie.cls x = cx at *
  generalize Ie.cls y = cy at *
  go_enter Tryd.func33, Tryd.ntmps33
  go_wp2_with fail
  refine (DX.out _).mono ?_
  rintro e w1 ⟨rfl, hB1⟩
  have HB1 := hid hB1
  clear hB1 DX
  go_wp2_with fail
  refine (DY.out _).mono ?_
  rintro e w2 ⟨rfl, hB2⟩
  have HB2 := hid hB2
  clear hB2 DY c3 f3
  go_upto_region 3 with fail
  obtain ⟨wA, b, gb, hwA, hb, SA⟩ := twoBoxes (nx := nx) (cx := cx) (mx := mx) (ex := ex) (ny := ny) (cy := cy) (my := my) (ey := ey) h1.out HB1.out HB2.out
  rw [hwA]
  simp only [hb]
  clear hwA hb h1 HB1 HB2
  obtain ⟨p0, p1, p2, p3, q0, q1, q2, q3⟩ := SA.out.cells
  go_upto_region 6 with fail
  have S1 := hid SA.out.drew
  go_region_held3 (fun w' => w'.cell? ⟨b, 1, none⟩ = some (.int .i64 cx) ∧ w'.cell? ⟨b + 1, 1, none⟩ = some (.int .i64 cy)) (first | (with_reducible exact ⟨S2.out.cells.2.1, S2.out.cells.2.2.2.2.2.1⟩) | (with_reducible exact ⟨S1.out.cells.2.1, S1.out.cells.2.2.2.2.2.1⟩)) (first
    | (go_at_call 53; refine (NT.out _ S1.out.1).mono ?_; rintro e w3 ⟨rfl, hA⟩; have S2 := hid (S1.out.by hA gb); clear hA))
  go_wp2_with fail
  go_end0
  exact ⟨rfl, S2.out.1, S2.out.2.2.2⟩

set_option maxRecDepth 100000 in
set_option maxHeartbeats 4000000 in
theorem addProduct_zero (g : Nat) (s : Ga.St) (w : World) (h : AccAt w g s) (hc : s.c < 1099511627776) (x y : Int) (x0 : 0 ≤ x) (x1 : x < 18446744073709551616) (y0 : 0 ≤ y) (y1 : y < 18446744073709551616) (ho : Ga.odd (Ie.cls x) (Ie.cls y) = false) (hz : Ie.dm x = 0 ∨ Ie.dm y = 0) :
    Calls Tryd.prog 33 #[.pointer (some ⟨g, 0, none⟩), .int .u64 x, .int .u64 y] w fun e w' => e = .returned (.tuple #[]) ∧ AccAt w' g (if (Ie.ngd x != Ie.ngd y) = true then { s.inc with z := s.z + 1 } else s.inc) ∧ Only g w w' := by
  obtain ⟨⟨-, -, -, c3, -⟩, fr⟩ := h.cells
  have f3 := fr 3
  have ok1 := h.ok.inc hc
  have h1 := hid (h.by_set (s' := s.inc) 3 (s.c + 1) rfl (by decide) rfl rfl ok1)
  have DX := hid (fun (wx : World) => decode_any x wx x0 x1)
  have DY := hid (fun (wx : World) => decode_any y wx y0 y1)
  rw [← Ie.ngd] at DX DY
  have lt := h.ok.odd
  have cb : 0 ≤ s.c := by have := h.ok.n0; have := h.ok.u0; have := h.ok.d0; have := h.ok.z0; omega
  have NT := hid (fun (wx : World) (hx : AccAt wx g s.inc) => note_any g s.inc wx hx (by simp only [Ga.St.inc]; omega) (Ie.cls x) (Ie.cls y) (Ie.ngd x != Ie.ngd y) (Ga.cls_is x) (Ga.cls_is y))
  have GL := hid h.lt
  have ZB : Hid (s.n + s.u + s.d + (s.z + 1) ≤ s.c + 1) := by have := h.ok.odd; rw [Hid]; omega
  have ZC : Hid (s.z ≤ 1099511627776) := by have := h.ok.few; have := h.ok.n0; have := h.ok.u0; have := h.ok.d0; rw [Hid]; omega
  obtain ⟨c, hcc⟩ : ∃ c, s.c = c := ⟨_, rfl⟩
  rw [hcc] at c3 cb hc h1
  have hc' : ¬ 1099511627776 ≤ c := by omega
  rw [ho, Ga.note_same ho] at NT
  clear fr hcc h lt ok1
  simp only [partsOf] at DX DY
  generalize Ie.ngd x = nx at *
  generalize Ie.ngd y = ny at *
  generalize Ie.dm x = mx at *
  generalize Ie.dm y = my at *
  generalize Ie.de x = ex at *
  generalize Ie.de y = ey at *
  clear ho
  generalize Ie.cls x = cx at *
  generalize Ie.cls y = cy at *
  go_enter Tryd.func33, Tryd.ntmps33
  go_wp2_with fail
  refine (DX.out _).mono ?_
  rintro e w1 ⟨rfl, hB1⟩
  have HB1 := hid hB1
  clear hB1 DX
  go_wp2_with fail
  refine (DY.out _).mono ?_
  rintro e w2 ⟨rfl, hB2⟩
  have HB2 := hid hB2
  clear hB2 DY c3 f3
  go_upto_region 3 with fail
  obtain ⟨wA, b, gb, hwA, hb, SA⟩ := twoBoxes (nx := nx) (cx := cx) (mx := mx) (ex := ex) (ny := ny) (cy := cy) (my := my) (ey := ey) h1.out HB1.out HB2.out
  rw [hwA]
  simp only [hb]
  clear hwA hb h1 HB1 HB2
  obtain ⟨p0, p1, p2, p3, q0, q1, q2, q3⟩ := SA.out.cells
  go_upto_region 6 with fail
  have S1 := hid SA.out.drew
  go_region_held3 (fun w' => w'.cell? ⟨b, 1, none⟩ = some (.int .i64 cx) ∧ w'.cell? ⟨b + 1, 1, none⟩ = some (.int .i64 cy)) (first | (with_reducible exact ⟨S2.out.cells.2.1, S2.out.cells.2.2.2.2.2.1⟩) | (with_reducible exact ⟨S1.out.cells.2.1, S1.out.cells.2.2.2.2.2.1⟩)) (first
    | (go_at_call 53; refine (NT.out _ S1.out.1).mono ?_; rintro e w3 ⟨rfl, hA⟩; have S2 := hid (S1.out.by hA gb); clear hA))
  have BS := hid (S2.out.1.by_set (s' := { s.inc with z := s.z + 1 }) 4 (s.z + 1) rfl (by decide) rfl rfl ⟨S2.out.1.ok.n0, S2.out.1.ok.u0, S2.out.1.ok.d0, by have := S2.out.1.ok.z0; simp only [Ga.St.inc] at this ⊢; omega, by simp only [Ga.St.inc]; have := ZB.out; omega, S2.out.1.ok.few, S2.out.1.ok.P0, S2.out.1.ok.N0, S2.out.1.ok.low⟩)
  have zb := S2.out.1.ok.z0
  have zc : s.z ≤ 1099511627776 := ZC.out
  obtain ⟨⟨-, -, -, -, c4⟩, fr⟩ := S2.out.1.cells
  have f4 := fr 4
  obtain ⟨-, -, a2, -, -, -, b2, -⟩ := S2.out.cells
  obtain ⟨z, hz'⟩ : ∃ z, s.z = z := ⟨_, rfl⟩
  simp only [Ga.St.inc] at c4 zb BS
  rw [hz'] at c4 zb zc BS
  have R0 := hid (show AccAt w3 g s.inc ∧ Only g w w3 from ⟨S2.out.1, S2.out.2.2.2⟩)
  have R1 := hid (show AccAt (w3.setCell ⟨g, 4, none⟩ (.int .i64 (z + 1))) g { s.inc with z := z + 1 } ∧ Only g w (w3.setCell ⟨g, 4, none⟩ (.int .i64 (z + 1))) from ⟨BS.out.1, S2.out.2.2.2.trans BS.out.2.1⟩)
  clear fr BS S2 S1 SA NT p0 p1 p2 p3 q0 q1 q2 q3
  rcases (show mx = 0 ∨ ((mx == 0) = false ∧ my = 0) by
    rcases (show mx = 0 ∨ mx ≠ 0 by omega) with h | h
    · exact .inl h
    · exact .inr ⟨beq_eq_false_iff_ne.2 h, hz.resolve_left h⟩) with rfl | ⟨m1, rfl⟩ <;> cases nx <;> cases ny <;>
  · go_wp2_with fail
    go_end0
    first | exact ⟨rfl, R0.out⟩ | exact ⟨rfl, R1.out⟩

end Go.Proofs.YtkmadibfiikleaaDoor

namespace Go.Proofs.YtkmadibfiikleaaDoor
open Go.RowKit Go.Deep

theorem Piled.only {g t : Nat} {A C : List Value} {T : Int} {w w' : World} (h : Piled g t A C T w w') : Only g w w' ∧ w'.heap.size = w.heap.size := by
  obtain ⟨os, -, -, -, -, h5, h6⟩ := h
  exact ⟨h5, h6⟩

set_option maxRecDepth 100000 in
set_option maxHeartbeats 4000000 in
theorem addProduct_more (g : Nat) (s : Ga.St) (w : World) (h : AccAt w g s) (hc : s.c < 1099511627776) (x y : Int) (x0 : 0 ≤ x) (x1 : x < 18446744073709551616) (y0 : 0 ≤ y) (y1 : y < 18446744073709551616) (ho : Ga.odd (Ie.cls x) (Ie.cls y) = false) (hx : Ie.dm x ≠ 0) (hy : Ie.dm y ≠ 0) :
    Calls Tryd.prog 33 #[.pointer (some ⟨g, 0, none⟩), .int .u64 x, .int .u64 y] w fun e w' => e = .returned (.tuple #[]) ∧ AccAt w' g (if (Ie.ngd x != Ie.ngd y) = true then { s.inc with N := s.N + Ie.un (Ie.ab x) * Ie.un (Ie.ab y) } else { s.inc with P := s.P + Ie.un (Ie.ab x) * Ie.un (Ie.ab y) }) ∧ Only g w w' := by
  obtain ⟨⟨-, -, -, c3, -⟩, fr⟩ := h.cells
  have f3 := fr 3
  have ok1 := h.ok.inc hc
  have h1 := hid (h.by_set (s' := s.inc) 3 (s.c + 1) rfl (by decide) rfl rfl ok1)
  have DX := hid (fun (wx : World) => decode_any x wx x0 x1)
  have DY := hid (fun (wx : World) => decode_any y wx y0 y1)
  rw [← Ie.ngd] at DX DY
  have lt := h.ok.odd
  have cb : 0 ≤ s.c := by have := h.ok.n0; have := h.ok.u0; have := h.ok.d0; have := h.ok.z0; omega
  have NT := hid (fun (wx : World) (hx : AccAt wx g s.inc) => note_any g s.inc wx hx (by simp only [Ga.St.inc]; omega) (Ie.cls x) (Ie.cls y) (Ie.ngd x != Ie.ngd y) (Ga.cls_is x) (Ga.cls_is y))
  have GL := hid h.lt
  obtain ⟨c, hcc⟩ : ∃ c, s.c = c := ⟨_, rfl⟩
  rw [hcc] at c3 cb hc h1
  have hc' : ¬ 1099511627776 ≤ c := by omega
  rw [ho, Ga.note_same ho] at NT
  obtain ⟨fx, fy⟩ := Ga.odd_fin ho
  obtain ⟨⟨mx0, mx1⟩, ⟨ex0, ex1⟩, gx, -⟩ := Ie.dec_f x fx
  obtain ⟨⟨my0, my1⟩, ⟨ey0, ey1⟩, gy, -⟩ := Ie.dec_f y fy
  obtain ⟨a, ha⟩ := Int.eq_ofNat_of_zero_le (show 0 ≤ Ie.de x + 1074 by omega)
  obtain ⟨b', hb'⟩ := Int.eq_ofNat_of_zero_le (show 0 ≤ Ie.de y + 1074 by omega)
  have UE : Hid (Ie.dm x * Ie.dm y * 2 ^ (a + b') = Ie.un (Ie.ab x) * Ie.un (Ie.ab y)) := by
    rw [Hid, ← gx a ha.symm, ← gy b' hb'.symm, Nm.two_add]
    ac_rfl
  have UB := hid (Ga.prod_top (Ie.ab_bd x).1 (show Ie.ab x < 9218868437227405312 from fx) (Ie.ab_bd y).1 (show Ie.ab y < 9218868437227405312 from fy))
  have low := hid h.ok.low
  clear gx gy fx fy ho
  have okP : Hid (∀ U, 0 ≤ U → U ≤ Ga.top → Ga.St.Ok { s.inc with P := s.P + U }) := fun U u0 u1 => ⟨ok1.n0, ok1.u0, ok1.d0, ok1.z0, ok1.odd, ok1.few, by have := ok1.P0; simp only [Ga.St.inc] at this ⊢; omega, ok1.N0, by have := low.out; simp only [Ga.St.inc]; rw [Int.add_mul, Int.one_mul]; omega⟩
  have okN : Hid (∀ U, 0 ≤ U → U ≤ Ga.top → Ga.St.Ok { s.inc with N := s.N + U }) := fun U u0 u1 => ⟨ok1.n0, ok1.u0, ok1.d0, ok1.z0, ok1.odd, ok1.few, ok1.P0, by have := ok1.N0; simp only [Ga.St.inc] at this ⊢; omega, by have := low.out; simp only [Ga.St.inc]; rw [Int.add_mul, Int.one_mul]; omega⟩
  clear fr hcc h lt ok1
  generalize Ie.un (Ie.ab x) * Ie.un (Ie.ab y) = U at *
  simp only [partsOf] at DX DY
  generalize Ie.ngd x = nx at *
  generalize Ie.ngd y = ny at *
  generalize Ie.dm x = mx at *
  generalize Ie.dm y = my at *
  generalize Ie.de x = ex at *
  generalize Ie.de y = ey at *
  generalize Ie.cls x = cx at *
  generalize Ie.cls y = cy at *
  go_enter Tryd.func33, Tryd.ntmps33
  go_wp2_with fail
  refine (DX.out _).mono ?_
  rintro e w1 ⟨rfl, hB1⟩
  have HB1 := hid hB1
  clear hB1 DX
  go_wp2_with fail
  refine (DY.out _).mono ?_
  rintro e w2 ⟨rfl, hB2⟩
  have HB2 := hid hB2
  clear hB2 DY c3 f3
  go_upto_region 3 with fail
  obtain ⟨wA, b, gb, hwA, hb, SA⟩ := twoBoxes (nx := nx) (cx := cx) (mx := mx) (ex := ex) (ny := ny) (cy := cy) (my := my) (ey := ey) h1.out HB1.out HB2.out
  rw [hwA]
  simp only [hb]
  clear hwA hb h1 HB1 HB2
  obtain ⟨p0, p1, p2, p3, q0, q1, q2, q3⟩ := SA.out.cells
  go_upto_region 6 with fail
  have S1 := hid SA.out.drew
  go_region_held3 (fun w' => w'.cell? ⟨b, 1, none⟩ = some (.int .i64 cx) ∧ w'.cell? ⟨b + 1, 1, none⟩ = some (.int .i64 cy)) (first | (with_reducible exact ⟨S2.out.cells.2.1, S2.out.cells.2.2.2.2.2.1⟩) | (with_reducible exact ⟨S1.out.cells.2.1, S1.out.cells.2.2.2.2.2.1⟩)) (first
    | (go_at_call 53; refine (NT.out _ S1.out.1).mono ?_; rintro e w3 ⟨rfl, hA⟩; have S2 := hid (S1.out.by hA gb); clear hA))
  have m1 : (mx == 0) = false := beq_eq_false_iff_ne.2 hx
  have m2 : (my == 0) = false := beq_eq_false_iff_ne.2 hy
  obtain ⟨-, -, a2, a3, -, -, b2, b3⟩ := S2.out.cells
  clear p0 p1 p2 p3 q0 q1 q2 q3 SA S1 NT
  obtain ⟨pl, hpl⟩ : ∃ pl, a + b' = pl := ⟨_, rfl⟩
  rw [hpl] at UE
  have plb : pl ≤ 4095 := by omega
  have WK1 : IntKind.i64.wrap (ex + ey) = ex + ey := by rw [IntKind.wrap_i64]; omega
  have WK2 : IntKind.i64.wrap (ex + ey + 2148) = (pl : Int) := by rw [IntKind.wrap_i64]; omega
  clear hpl
  have SD := hid (fun (b : Bool) (wx : World) => side_any g b wx)
  obtain ⟨aa, bb, B0, ⟨la, lb'⟩, ⟨ma, mb⟩, ⟨va, vb⟩, -⟩ := S2.out.1.heap (w' := w3.drew) rfl
  have B1 := hid B0
  have MU := hid (fun (wx : World) => mul64 mx my mx0 (by omega) my0 (by omega) wx)
  have VA : Hid (Nm.val aa = s.P) := va
  have VB : Hid (Nm.val bb = s.N) := vb
  have S2d := hid S2.out.drew
  clear va vb B0
  cases nx <;> cases ny
  · have OK := hid (okP.out U UB.out.1 UB.out.2)
    have TB : Hid (s.P + U < Nm.pw 67) := OK.out.room.1
    clear okP okN
    go_wp2_with fail
    refine (MU.out _).mono ?_
    rintro e w4 ⟨hi, lo, rfl, hb4, E4, -, rfl⟩
    have PA := hid (pileAdd_any g 79 5 (head5 s.inc) (lb bb) aa w4.drew rfl B1.out la ma hi lo (pl : Int) hb4.1 (by omega) hb4.2.2.1 hb4.2.2.2 pl rfl plb (s.P + U) (by rw [VA.out, ← UE.out, ← E4.out, Int.mul_comm 18446744073709551616 hi, Int.add_comm lo]) TB.out)
    clear hb4 E4 MU
    have AB : Hid (∀ w5, Piled g 79 (head5 s.inc) (lb bb) (s.P + U) w4.drew w5 → PQ g { s.inc with P := s.P + U } w b false cx mx ex false cy my ey w5) := fun w5 hP => S2d.out.by ⟨AccAt.above (s := s.inc) (s' := { s.inc with P := s.P + U }) hP lb' mb VB.out rfl rfl OK.out, hP.only⟩ gb
    go_upto_region 5 with fail
    go_region_held3 (fun w' => w'.cell? ⟨b, 3, none⟩ = some (.int .i64 ex) ∧ w'.cell? ⟨b + 1, 3, none⟩ = some (.int .i64 ey)) (first | (with_reducible exact ⟨S3.out.cells.2.2.2.1, S3.out.cells.2.2.2.2.2.2.2⟩) | (with_reducible exact ⟨S2d.out.cells.2.2.2.1, S2d.out.cells.2.2.2.2.2.2.2⟩)) (first
      | (go_at_call 55; refine (SD.out _ _).mono ?_; rintro e w5 ⟨rfl, rfl⟩)
      | (go_at_call 56; (try rw [WK1]); (try rw [WK2]); with_reducible refine PA.out.mono ?_; rintro e w5 ⟨rfl, hP⟩; have S3 := hid (AB.out _ hP); clear hP))
    all_goals (go_wp2_with fail; go_end0; exact ⟨rfl, S3.out.1, S3.out.2.2.2⟩)
  · have OK := hid (okN.out U UB.out.1 UB.out.2)
    have TB : Hid (s.N + U < Nm.pw 67) := OK.out.room.2
    clear okP okN
    go_wp2_with fail
    refine (MU.out _).mono ?_
    rintro e w4 ⟨hi, lo, rfl, hb4, E4, -, rfl⟩
    have PA := hid (pileAdd_any g 79 72 (head5 s.inc ++ lb aa) [] bb w4.drew (by simp [head5, lb_length, la]) (by rw [List.append_nil]; exact B1.out) lb' mb hi lo (pl : Int) hb4.1 (by omega) hb4.2.2.1 hb4.2.2.2 pl rfl plb (s.N + U) (by rw [VB.out, ← UE.out, ← E4.out, Int.mul_comm 18446744073709551616 hi, Int.add_comm lo]) TB.out)
    clear hb4 E4 MU
    have AB : Hid (∀ w5, Piled g 79 (head5 s.inc ++ lb aa) [] (s.N + U) w4.drew w5 → PQ g { s.inc with N := s.N + U } w b false cx mx ex true cy my ey w5) := fun w5 hP => S2d.out.by ⟨AccAt.beneath (s := s.inc) (s' := { s.inc with N := s.N + U }) hP la ma VA.out rfl rfl OK.out, hP.only⟩ gb
    go_upto_region 5 with fail
    go_region_held3 (fun w' => w'.cell? ⟨b, 3, none⟩ = some (.int .i64 ex) ∧ w'.cell? ⟨b + 1, 3, none⟩ = some (.int .i64 ey)) (first | (with_reducible exact ⟨S3.out.cells.2.2.2.1, S3.out.cells.2.2.2.2.2.2.2⟩) | (with_reducible exact ⟨S2d.out.cells.2.2.2.1, S2d.out.cells.2.2.2.2.2.2.2⟩)) (first
      | (go_at_call 55; refine (SD.out _ _).mono ?_; rintro e w5 ⟨rfl, rfl⟩)
      | (go_at_call 56; (try rw [WK1]); (try rw [WK2]); with_reducible refine PA.out.mono ?_; rintro e w5 ⟨rfl, hP⟩; have S3 := hid (AB.out _ hP); clear hP))
    all_goals (go_wp2_with fail; go_end0; exact ⟨rfl, S3.out.1, S3.out.2.2.2⟩)
  · have OK := hid (okN.out U UB.out.1 UB.out.2)
    have TB : Hid (s.N + U < Nm.pw 67) := OK.out.room.2
    clear okP okN
    go_wp2_with fail
    refine (MU.out _).mono ?_
    rintro e w4 ⟨hi, lo, rfl, hb4, E4, -, rfl⟩
    have PA := hid (pileAdd_any g 79 72 (head5 s.inc ++ lb aa) [] bb w4.drew (by simp [head5, lb_length, la]) (by rw [List.append_nil]; exact B1.out) lb' mb hi lo (pl : Int) hb4.1 (by omega) hb4.2.2.1 hb4.2.2.2 pl rfl plb (s.N + U) (by rw [VB.out, ← UE.out, ← E4.out, Int.mul_comm 18446744073709551616 hi, Int.add_comm lo]) TB.out)
    clear hb4 E4 MU
    have AB : Hid (∀ w5, Piled g 79 (head5 s.inc ++ lb aa) [] (s.N + U) w4.drew w5 → PQ g { s.inc with N := s.N + U } w b true cx mx ex false cy my ey w5) := fun w5 hP => S2d.out.by ⟨AccAt.beneath (s := s.inc) (s' := { s.inc with N := s.N + U }) hP la ma VA.out rfl rfl OK.out, hP.only⟩ gb
    go_upto_region 5 with fail
    go_region_held3 (fun w' => w'.cell? ⟨b, 3, none⟩ = some (.int .i64 ex) ∧ w'.cell? ⟨b + 1, 3, none⟩ = some (.int .i64 ey)) (first | (with_reducible exact ⟨S3.out.cells.2.2.2.1, S3.out.cells.2.2.2.2.2.2.2⟩) | (with_reducible exact ⟨S2d.out.cells.2.2.2.1, S2d.out.cells.2.2.2.2.2.2.2⟩)) (first
      | (go_at_call 55; refine (SD.out _ _).mono ?_; rintro e w5 ⟨rfl, rfl⟩)
      | (go_at_call 56; (try rw [WK1]); (try rw [WK2]); with_reducible refine PA.out.mono ?_; rintro e w5 ⟨rfl, hP⟩; have S3 := hid (AB.out _ hP); clear hP))
    all_goals (go_wp2_with fail; go_end0; exact ⟨rfl, S3.out.1, S3.out.2.2.2⟩)
  · have OK := hid (okP.out U UB.out.1 UB.out.2)
    have TB : Hid (s.P + U < Nm.pw 67) := OK.out.room.1
    clear okP okN
    go_wp2_with fail
    refine (MU.out _).mono ?_
    rintro e w4 ⟨hi, lo, rfl, hb4, E4, -, rfl⟩
    have PA := hid (pileAdd_any g 79 5 (head5 s.inc) (lb bb) aa w4.drew rfl B1.out la ma hi lo (pl : Int) hb4.1 (by omega) hb4.2.2.1 hb4.2.2.2 pl rfl plb (s.P + U) (by rw [VA.out, ← UE.out, ← E4.out, Int.mul_comm 18446744073709551616 hi, Int.add_comm lo]) TB.out)
    clear hb4 E4 MU
    have AB : Hid (∀ w5, Piled g 79 (head5 s.inc) (lb bb) (s.P + U) w4.drew w5 → PQ g { s.inc with P := s.P + U } w b true cx mx ex true cy my ey w5) := fun w5 hP => S2d.out.by ⟨AccAt.above (s := s.inc) (s' := { s.inc with P := s.P + U }) hP lb' mb VB.out rfl rfl OK.out, hP.only⟩ gb
    go_upto_region 5 with fail
    go_region_held3 (fun w' => w'.cell? ⟨b, 3, none⟩ = some (.int .i64 ex) ∧ w'.cell? ⟨b + 1, 3, none⟩ = some (.int .i64 ey)) (first | (with_reducible exact ⟨S3.out.cells.2.2.2.1, S3.out.cells.2.2.2.2.2.2.2⟩) | (with_reducible exact ⟨S2d.out.cells.2.2.2.1, S2d.out.cells.2.2.2.2.2.2.2⟩)) (first
      | (go_at_call 55; refine (SD.out _ _).mono ?_; rintro e w5 ⟨rfl, rfl⟩)
      | (go_at_call 56; (try rw [WK1]); (try rw [WK2]); with_reducible refine PA.out.mono ?_; rintro e w5 ⟨rfl, hP⟩; have S3 := hid (AB.out _ hP); clear hP))
    all_goals (go_wp2_with fail; go_end0; exact ⟨rfl, S3.out.1, S3.out.2.2.2⟩)

theorem addProduct_any (g : Nat) (s : Ga.St) (w : World) (h : AccAt w g s) (hc : s.c < 1099511627776) (x y : Int) (x0 : 0 ≤ x) (x1 : x < 18446744073709551616) (y0 : 0 ≤ y) (y1 : y < 18446744073709551616) :
    Calls Tryd.prog 33 #[.pointer (some ⟨g, 0, none⟩), .int .u64 x, .int .u64 y] w fun e w' => e = .returned (.tuple #[]) ∧ AccAt w' g (s.prod x y) ∧ Only g w w' := by
  by_cases ho : Ga.odd (Ie.cls x) (Ie.cls y) = true
  · rw [Ga.St.prod, if_pos ho]
    exact addProduct_odd g s w h hc x y x0 x1 y0 y1 ho
  · have ho' : Ga.odd (Ie.cls x) (Ie.cls y) = false := by simpa using ho
    rw [Ga.St.prod, if_neg ho]
    by_cases hz : Ie.dm x = 0 ∨ Ie.dm y = 0
    · rw [if_pos hz]
      exact addProduct_zero g s w h hc x y x0 x1 y0 y1 ho' hz
    · rw [if_neg hz]
      exact addProduct_more g s w h hc x y x0 x1 y0 y1 ho' (fun e => hz (.inl e)) (fun e => hz (.inr e))

set_option maxRecDepth 100000 in
/-- An Acc that is full takes no more. -/
theorem addProduct_full (g : Nat) (s : Ga.St) (w : World) (h : AccAt w g s) (hc : s.c = 1099511627776) (x y : Int) :
    Calls Tryd.prog 33 #[.pointer (some ⟨g, 0, none⟩), .int .u64 x, .int .u64 y] w fun e w' => e = .returned (.tuple #[]) ∧ w' = w := by
  obtain ⟨⟨-, -, -, c3, -⟩, -⟩ := h.cells
  rw [hc] at c3
  clear h hc
  go_enter Tryd.func33, Tryd.ntmps33
  go_wp2
  (try simp only [Exit.inBlock, Exit.then])
  refine bodyPost_ret (results_none rfl _ _ _) rfl ?_
  exact ⟨rfl, rfl⟩

namespace Ga
def St.add (s : St) (x : Int) : St := if s.c < 1099511627776 then s.prod x 4607182418800017408 else s
def St.mul (s : St) (x y : Int) : St := if s.c < 1099511627776 then s.prod x y else s
end Ga

theorem addProduct_all (g : Nat) (s : Ga.St) (w : World) (h : AccAt w g s) (x y : Int) (x0 : 0 ≤ x) (x1 : x < 18446744073709551616) (y0 : 0 ≤ y) (y1 : y < 18446744073709551616) :
    Calls Tryd.prog 33 #[.pointer (some ⟨g, 0, none⟩), .int .u64 x, .int .u64 y] w fun e w' => e = .returned (.tuple #[]) ∧ AccAt w' g (s.mul x y) ∧ Only g w w' := by
  by_cases hc : s.c < 1099511627776
  · rw [Ga.St.mul, if_pos hc]
    exact addProduct_any g s w h hc x y x0 x1 y0 y1
  · rw [Ga.St.mul, if_neg hc]
    refine (addProduct_full g s w h (by have := h.ok.few; omega) x y).mono ?_
    rintro e w' ⟨rfl, rfl⟩
    exact ⟨rfl, h, Only.refl _ _⟩
end Go.Proofs.YtkmadibfiikleaaDoor
