/-
  AddProduct of package gather: what is neither odd nor nothing; all of it; Add.
-/
import Derived.Test.YtkmadibfiikleaaGreatDoorGProd
namespace Go.Proofs.YtkmadibfiikleaaGreatDoor
open Go.RowKit Go.Deep

theorem Piled.only {g t : Nat} {A C : List Value} {T : Int} {w w' : World} (h : Piled g t A C T w w') : Only g w w' ∧ w'.heap.size = w.heap.size := by
  obtain ⟨os, -, -, -, -, h5, h6⟩ := h
  exact ⟨h5, h6⟩

set_option maxRecDepth 100000 in
set_option maxHeartbeats 4000000 in
theorem addProduct_more (g : Nat) (s : Ga.St) (w : World) (h : AccAt w g s) (hc : s.c < 1099511627776) (x y : Int) (x0 : 0 ≤ x) (x1 : x < 18446744073709551616) (y0 : 0 ≤ y) (y1 : y < 18446744073709551616) (ho : Ga.odd (Ie.cls x) (Ie.cls y) = false) (hx : Ie.dm x ≠ 0) (hy : Ie.dm y ≠ 0) :
    Calls Tryz.prog 31 #[.pointer (some ⟨g, 0, none⟩), .int .u64 x, .int .u64 y] w fun e w' => e = .returned (.tuple #[]) ∧ AccAt w' g (if (Ie.ngd x != Ie.ngd y) = true then { s.inc with N := s.N + Ie.un (Ie.ab x) * Ie.un (Ie.ab y) } else { s.inc with P := s.P + Ie.un (Ie.ab x) * Ie.un (Ie.ab y) }) ∧ Only g w w' := by
  obtain ⟨⟨-, -, -, c3, -⟩, fr⟩ := h.cells
  have f3 := fr 3
  have ok1 := h.ok.inc hc
  have h1 := hid (h.by_set (s' := s.inc) 3 (s.c + 1) rfl (by decide) rfl rfl ok1)
  have DX := hid (fun (wx : World) => decode_any x wx x0 x1)
  have DY := hid (fun (wx : World) => decode_any y wx y0 y1)
  rw [← Ie.ngd] at DX DY
  have lt := h.ok.odd
  have cb : 0 ≤ s.c := by have := h.ok.n0; have := h.ok.u0; have := h.ok.d0; have := h.ok.z0; omega
  have NT := hid (fun (wx : World) (hx : AccAt wx g s.inc) => note_any g s.inc wx hx (by simp only [Ga.St.inc]; omega) (Ie.cls x) (Ie.cls y) (Ie.ngd x != Ie.ngd y) (Ga.cls_is x) (Ga.cls_is y))
  have GL := hid h.lt
  obtain ⟨c, hcc⟩ : ∃ c, s.c = c := ⟨_, rfl⟩
  rw [hcc] at c3 cb hc h1
  have hc' : ¬ 1099511627776 ≤ c := by omega
  rw [ho, Ga.note_same ho] at NT
  obtain ⟨fx, fy⟩ := Ga.odd_fin ho
  obtain ⟨⟨mx0, mx1⟩, ⟨ex0, ex1⟩, gx, -⟩ := Ie.dec_f x fx
  obtain ⟨⟨my0, my1⟩, ⟨ey0, ey1⟩, gy, -⟩ := Ie.dec_f y fy
  obtain ⟨a, ha⟩ := Int.eq_ofNat_of_zero_le (show 0 ≤ Ie.de x + 1074 by omega)
  obtain ⟨b', hb'⟩ := Int.eq_ofNat_of_zero_le (show 0 ≤ Ie.de y + 1074 by omega)
  have UE : Hid (Ie.dm x * Ie.dm y * 2 ^ (a + b') = Ie.un (Ie.ab x) * Ie.un (Ie.ab y)) := by
    rw [Hid, ← gx a ha.symm, ← gy b' hb'.symm, Nm.two_add]
    ac_rfl
  have UB := hid (Ga.prod_top (Ie.ab_bd x).1 (show Ie.ab x < 9218868437227405312 from fx) (Ie.ab_bd y).1 (show Ie.ab y < 9218868437227405312 from fy))
  have low := hid h.ok.low
  clear gx gy fx fy ho
  have okP : Hid (∀ U, 0 ≤ U → U ≤ Ga.top → Ga.St.Ok { s.inc with P := s.P + U }) := fun U u0 u1 => ⟨ok1.n0, ok1.u0, ok1.d0, ok1.z0, ok1.odd, ok1.few, by have := ok1.P0; simp only [Ga.St.inc] at this ⊢; omega, ok1.N0, by have := low.out; simp only [Ga.St.inc]; rw [Int.add_mul, Int.one_mul]; omega⟩
  have okN : Hid (∀ U, 0 ≤ U → U ≤ Ga.top → Ga.St.Ok { s.inc with N := s.N + U }) := fun U u0 u1 => ⟨ok1.n0, ok1.u0, ok1.d0, ok1.z0, ok1.odd, ok1.few, ok1.P0, by have := ok1.N0; simp only [Ga.St.inc] at this ⊢; omega, by have := low.out; simp only [Ga.St.inc]; rw [Int.add_mul, Int.one_mul]; omega⟩
  clear fr hcc h lt ok1
  generalize Ie.un (Ie.ab x) * Ie.un (Ie.ab y) = U at *
  simp only [partsOf] at DX DY
  generalize Ie.ngd x = nx at *
  generalize Ie.ngd y = ny at *
  generalize Ie.dm x = mx at *
  generalize Ie.dm y = my at *
  generalize Ie.de x = ex at *
  generalize Ie.de y = ey at *
  generalize Ie.cls x = cx at *
  generalize Ie.cls y = cy at *
  go_enter Tryz.func31, Tryz.ntmps31
  go_wp2_with fail
  refine (DX.out _).mono ?_
  rintro e w1 ⟨rfl, hB1⟩
  have HB1 := hid hB1
  clear hB1 DX
  go_wp2_with fail
  refine (DY.out _).mono ?_
  rintro e w2 ⟨rfl, hB2⟩
  have HB2 := hid hB2
  clear hB2 DY c3 f3
  go_upto_region 3 with fail
  obtain ⟨wA, b, gb, hwA, hb, SA⟩ := twoBoxes (nx := nx) (cx := cx) (mx := mx) (ex := ex) (ny := ny) (cy := cy) (my := my) (ey := ey) h1.out HB1.out HB2.out
  rw [hwA]
  simp only [hb]
  clear hwA hb h1 HB1 HB2
  obtain ⟨p0, p1, p2, p3, q0, q1, q2, q3⟩ := SA.out.cells
  go_upto_region 6 with fail
  have S1 := hid SA.out.drew
  go_region_held3 (fun w' => w'.cell? ⟨b, 1, none⟩ = some (.int .i64 cx) ∧ w'.cell? ⟨b + 1, 1, none⟩ = some (.int .i64 cy)) (first | (with_reducible exact ⟨S2.out.cells.2.1, S2.out.cells.2.2.2.2.2.1⟩) | (with_reducible exact ⟨S1.out.cells.2.1, S1.out.cells.2.2.2.2.2.1⟩)) (first
    | (go_at_call 49; refine (NT.out _ S1.out.1).mono ?_; rintro e w3 ⟨rfl, hA⟩; have S2 := hid (S1.out.by hA gb); clear hA))
  have m1 : (mx == 0) = false := beq_eq_false_iff_ne.2 hx
  have m2 : (my == 0) = false := beq_eq_false_iff_ne.2 hy
  obtain ⟨-, -, a2, a3, -, -, b2, b3⟩ := S2.out.cells
  clear p0 p1 p2 p3 q0 q1 q2 q3 SA S1 NT
  obtain ⟨pl, hpl⟩ : ∃ pl, a + b' = pl := ⟨_, rfl⟩
  rw [hpl] at UE
  have plb : pl ≤ 4095 := by omega
  have WK1 : IntKind.i64.wrap (ex + ey) = ex + ey := by rw [IntKind.wrap_i64]; omega
  have WK2 : IntKind.i64.wrap (ex + ey + 2148) = (pl : Int) := by rw [IntKind.wrap_i64]; omega
  clear hpl
  have SD := hid (fun (b : Bool) (wx : World) => side_any g b wx)
  obtain ⟨aa, bb, B0, ⟨la, lb'⟩, ⟨ma, mb⟩, ⟨va, vb⟩, -⟩ := S2.out.1.heap (w' := w3.drew) rfl
  have B1 := hid B0
  have MU := hid (fun (wx : World) => mul64 mx my mx0 (by omega) my0 (by omega) wx)
  have VA : Hid (Nm.val aa = s.P) := va
  have VB : Hid (Nm.val bb = s.N) := vb
  have S2d := hid S2.out.drew
  clear va vb B0
  cases nx <;> cases ny
  · have OK := hid (okP.out U UB.out.1 UB.out.2)
    have TB : Hid (s.P + U < Nm.pw 67) := OK.out.room.1
    clear okP okN
    go_wp2_with fail
    refine (MU.out _).mono ?_
    rintro e w4 ⟨hi, lo, rfl, hb4, E4, -, rfl⟩
    have PA := hid (pileAdd_any g 70 5 (head5 s.inc) (lb bb) aa w4.drew rfl B1.out la ma hi lo (pl : Int) hb4.1 (by omega) hb4.2.2.1 hb4.2.2.2 pl rfl plb (s.P + U) (by rw [VA.out, ← UE.out, ← E4.out, Int.mul_comm 18446744073709551616 hi, Int.add_comm lo]) TB.out)
    clear hb4 E4 MU
    have AB : Hid (∀ w5, Piled g 70 (head5 s.inc) (lb bb) (s.P + U) w4.drew w5 → PQ g { s.inc with P := s.P + U } w b false cx mx ex false cy my ey w5) := fun w5 hP => S2d.out.by ⟨AccAt.above (s := s.inc) (s' := { s.inc with P := s.P + U }) hP lb' mb VB.out rfl rfl OK.out, hP.only⟩ gb
    go_upto_region 5 with fail
    go_region_held3 (fun w' => w'.cell? ⟨b, 3, none⟩ = some (.int .i64 ex) ∧ w'.cell? ⟨b + 1, 3, none⟩ = some (.int .i64 ey)) (first | (with_reducible exact ⟨S3.out.cells.2.2.2.1, S3.out.cells.2.2.2.2.2.2.2⟩) | (with_reducible exact ⟨S2d.out.cells.2.2.2.1, S2d.out.cells.2.2.2.2.2.2.2⟩)) (first
      | (go_at_call 51; refine (SD.out _ _).mono ?_; rintro e w5 ⟨rfl, rfl⟩)
      | (go_at_call 52; (try rw [WK1]); (try rw [WK2]); with_reducible refine PA.out.mono ?_; rintro e w5 ⟨rfl, hP⟩; have S3 := hid (AB.out _ hP); clear hP))
    all_goals (go_wp2_with fail; go_end0; exact ⟨rfl, S3.out.1, S3.out.2.2.2⟩)
  · have OK := hid (okN.out U UB.out.1 UB.out.2)
    have TB : Hid (s.N + U < Nm.pw 67) := OK.out.room.2
    clear okP okN
    go_wp2_with fail
    refine (MU.out _).mono ?_
    rintro e w4 ⟨hi, lo, rfl, hb4, E4, -, rfl⟩
    have PA := hid (pileAdd_any g 70 72 (head5 s.inc ++ lb aa) [] bb w4.drew (by simp [head5, lb_length, la]) (by rw [List.append_nil]; exact B1.out) lb' mb hi lo (pl : Int) hb4.1 (by omega) hb4.2.2.1 hb4.2.2.2 pl rfl plb (s.N + U) (by rw [VB.out, ← UE.out, ← E4.out, Int.mul_comm 18446744073709551616 hi, Int.add_comm lo]) TB.out)
    clear hb4 E4 MU
    have AB : Hid (∀ w5, Piled g 70 (head5 s.inc ++ lb aa) [] (s.N + U) w4.drew w5 → PQ g { s.inc with N := s.N + U } w b false cx mx ex true cy my ey w5) := fun w5 hP => S2d.out.by ⟨AccAt.beneath (s := s.inc) (s' := { s.inc with N := s.N + U }) hP la ma VA.out rfl rfl OK.out, hP.only⟩ gb
    go_upto_region 5 with fail
    go_region_held3 (fun w' => w'.cell? ⟨b, 3, none⟩ = some (.int .i64 ex) ∧ w'.cell? ⟨b + 1, 3, none⟩ = some (.int .i64 ey)) (first | (with_reducible exact ⟨S3.out.cells.2.2.2.1, S3.out.cells.2.2.2.2.2.2.2⟩) | (with_reducible exact ⟨S2d.out.cells.2.2.2.1, S2d.out.cells.2.2.2.2.2.2.2⟩)) (first
      | (go_at_call 51; refine (SD.out _ _).mono ?_; rintro e w5 ⟨rfl, rfl⟩)
      | (go_at_call 52; (try rw [WK1]); (try rw [WK2]); with_reducible refine PA.out.mono ?_; rintro e w5 ⟨rfl, hP⟩; have S3 := hid (AB.out _ hP); clear hP))
    all_goals (go_wp2_with fail; go_end0; exact ⟨rfl, S3.out.1, S3.out.2.2.2⟩)
  · have OK := hid (okN.out U UB.out.1 UB.out.2)
    have TB : Hid (s.N + U < Nm.pw 67) := OK.out.room.2
    clear okP okN
    go_wp2_with fail
    refine (MU.out _).mono ?_
    rintro e w4 ⟨hi, lo, rfl, hb4, E4, -, rfl⟩
    have PA := hid (pileAdd_any g 70 72 (head5 s.inc ++ lb aa) [] bb w4.drew (by simp [head5, lb_length, la]) (by rw [List.append_nil]; exact B1.out) lb' mb hi lo (pl : Int) hb4.1 (by omega) hb4.2.2.1 hb4.2.2.2 pl rfl plb (s.N + U) (by rw [VB.out, ← UE.out, ← E4.out, Int.mul_comm 18446744073709551616 hi, Int.add_comm lo]) TB.out)
    clear hb4 E4 MU
    have AB : Hid (∀ w5, Piled g 70 (head5 s.inc ++ lb aa) [] (s.N + U) w4.drew w5 → PQ g { s.inc with N := s.N + U } w b true cx mx ex false cy my ey w5) := fun w5 hP => S2d.out.by ⟨AccAt.beneath (s := s.inc) (s' := { s.inc with N := s.N + U }) hP la ma VA.out rfl rfl OK.out, hP.only⟩ gb
    go_upto_region 5 with fail
    go_region_held3 (fun w' => w'.cell? ⟨b, 3, none⟩ = some (.int .i64 ex) ∧ w'.cell? ⟨b + 1, 3, none⟩ = some (.int .i64 ey)) (first | (with_reducible exact ⟨S3.out.cells.2.2.2.1, S3.out.cells.2.2.2.2.2.2.2⟩) | (with_reducible exact ⟨S2d.out.cells.2.2.2.1, S2d.out.cells.2.2.2.2.2.2.2⟩)) (first
      | (go_at_call 51; refine (SD.out _ _).mono ?_; rintro e w5 ⟨rfl, rfl⟩)
      | (go_at_call 52; (try rw [WK1]); (try rw [WK2]); with_reducible refine PA.out.mono ?_; rintro e w5 ⟨rfl, hP⟩; have S3 := hid (AB.out _ hP); clear hP))
    all_goals (go_wp2_with fail; go_end0; exact ⟨rfl, S3.out.1, S3.out.2.2.2⟩)
  · have OK := hid (okP.out U UB.out.1 UB.out.2)
    have TB : Hid (s.P + U < Nm.pw 67) := OK.out.room.1
    clear okP okN
    go_wp2_with fail
    refine (MU.out _).mono ?_
    rintro e w4 ⟨hi, lo, rfl, hb4, E4, -, rfl⟩
    have PA := hid (pileAdd_any g 70 5 (head5 s.inc) (lb bb) aa w4.drew rfl B1.out la ma hi lo (pl : Int) hb4.1 (by omega) hb4.2.2.1 hb4.2.2.2 pl rfl plb (s.P + U) (by rw [VA.out, ← UE.out, ← E4.out, Int.mul_comm 18446744073709551616 hi, Int.add_comm lo]) TB.out)
    clear hb4 E4 MU
    have AB : Hid (∀ w5, Piled g 70 (head5 s.inc) (lb bb) (s.P + U) w4.drew w5 → PQ g { s.inc with P := s.P + U } w b true cx mx ex true cy my ey w5) := fun w5 hP => S2d.out.by ⟨AccAt.above (s := s.inc) (s' := { s.inc with P := s.P + U }) hP lb' mb VB.out rfl rfl OK.out, hP.only⟩ gb
    go_upto_region 5 with fail
    go_region_held3 (fun w' => w'.cell? ⟨b, 3, none⟩ = some (.int .i64 ex) ∧ w'.cell? ⟨b + 1, 3, none⟩ = some (.int .i64 ey)) (first | (with_reducible exact ⟨S3.out.cells.2.2.2.1, S3.out.cells.2.2.2.2.2.2.2⟩) | (with_reducible exact ⟨S2d.out.cells.2.2.2.1, S2d.out.cells.2.2.2.2.2.2.2⟩)) (first
      | (go_at_call 51; refine (SD.out _ _).mono ?_; rintro e w5 ⟨rfl, rfl⟩)
      | (go_at_call 52; (try rw [WK1]); (try rw [WK2]); with_reducible refine PA.out.mono ?_; rintro e w5 ⟨rfl, hP⟩; have S3 := hid (AB.out _ hP); clear hP))
    all_goals (go_wp2_with fail; go_end0; exact ⟨rfl, S3.out.1, S3.out.2.2.2⟩)

theorem addProduct_any (g : Nat) (s : Ga.St) (w : World) (h : AccAt w g s) (hc : s.c < 1099511627776) (x y : Int) (x0 : 0 ≤ x) (x1 : x < 18446744073709551616) (y0 : 0 ≤ y) (y1 : y < 18446744073709551616) :
    Calls Tryz.prog 31 #[.pointer (some ⟨g, 0, none⟩), .int .u64 x, .int .u64 y] w fun e w' => e = .returned (.tuple #[]) ∧ AccAt w' g (s.prod x y) ∧ Only g w w' := by
  by_cases ho : Ga.odd (Ie.cls x) (Ie.cls y) = true
  · rw [Ga.St.prod, if_pos ho]
    exact addProduct_odd g s w h hc x y x0 x1 y0 y1 ho
  · have ho' : Ga.odd (Ie.cls x) (Ie.cls y) = false := by simpa using ho
    rw [Ga.St.prod, if_neg ho]
    by_cases hz : Ie.dm x = 0 ∨ Ie.dm y = 0
    · rw [if_pos hz]
      exact addProduct_zero g s w h hc x y x0 x1 y0 y1 ho' hz
    · rw [if_neg hz]
      exact addProduct_more g s w h hc x y x0 x1 y0 y1 ho' (fun e => hz (.inl e)) (fun e => hz (.inr e))

set_option maxRecDepth 100000 in
/-- An Acc that is full takes no more. -/
theorem addProduct_full (g : Nat) (s : Ga.St) (w : World) (h : AccAt w g s) (hc : s.c = 1099511627776) (x y : Int) :
    Calls Tryz.prog 31 #[.pointer (some ⟨g, 0, none⟩), .int .u64 x, .int .u64 y] w fun e w' => e = .returned (.tuple #[]) ∧ w' = w := by
  obtain ⟨⟨-, -, -, c3, -⟩, -⟩ := h.cells
  rw [hc] at c3
  clear h hc
  go_enter Tryz.func31, Tryz.ntmps31
  go_wp2
  (try simp only [Exit.inBlock, Exit.then])
  refine bodyPost_ret (results_none rfl _ _ _) rfl ?_
  exact ⟨rfl, rfl⟩

namespace Ga
def St.add (s : St) (x : Int) : St := if s.c < 1099511627776 then s.prod x 4607182418800017408 else s
def St.mul (s : St) (x y : Int) : St := if s.c < 1099511627776 then s.prod x y else s
end Ga

theorem addProduct_all (g : Nat) (s : Ga.St) (w : World) (h : AccAt w g s) (x y : Int) (x0 : 0 ≤ x) (x1 : x < 18446744073709551616) (y0 : 0 ≤ y) (y1 : y < 18446744073709551616) :
    Calls Tryz.prog 31 #[.pointer (some ⟨g, 0, none⟩), .int .u64 x, .int .u64 y] w fun e w' => e = .returned (.tuple #[]) ∧ AccAt w' g (s.mul x y) ∧ Only g w w' := by
  by_cases hc : s.c < 1099511627776
  · rw [Ga.St.mul, if_pos hc]
    exact addProduct_any g s w h hc x y x0 x1 y0 y1
  · rw [Ga.St.mul, if_neg hc]
    refine (addProduct_full g s w h (by have := h.ok.few; omega) x y).mono ?_
    rintro e w' ⟨rfl, rfl⟩
    exact ⟨rfl, h, Only.refl _ _⟩

set_option maxRecDepth 100000 in
theorem add_all (g : Nat) (s : Ga.St) (w : World) (h : AccAt w g s) (x : Int) (x0 : 0 ≤ x) (x1 : x < 18446744073709551616) :
    Calls Tryz.prog 67 #[.pointer (some ⟨g, 0, none⟩), .int .u64 x] w fun e w' => e = .returned (.tuple #[]) ∧ AccAt w' g (s.add x) ∧ Only g w w' := by
  have P := hid (addProduct_all g s w h x 4607182418800017408 x0 x1 (by decide) (by decide))
  clear h
  go_enter Tryz.func67, Tryz.ntmps67
  go_wp2_with fail
  refine P.out.mono ?_
  rintro e w' ⟨rfl, hA, hO⟩
  have R := hid (show AccAt w' g (s.add x) ∧ Only g w w' from ⟨hA, hO⟩)
  clear hA hO
  go_wp2_with fail
  go_end0
  exact ⟨rfl, R.out⟩
end Go.Proofs.YtkmadibfiikleaaGreatDoor
