/-
  Texts put together: YLift, YOne.
-/
import Derived.Test.YtjebdobopechfaaDoorYUnits
/-
  law05: lifted (made by mkybase.py).
-/
namespace Go.Proofs.YtjebdobopechfaaDoor
open Go Go.RowKit Go.Deep

/-- A num of a given sign is told. -/
def NumAt (neg : Bool) (V : Int) (w : World) (e : Ending) (w' : World) : Prop :=
  ∃ p os, e = .returned (numOf neg p (List.length os) (List.length os)) ∧ Ans w.heap.size w' p os V ∧ Below w.heap.size w w'

set_option maxRecDepth 100000 in
set_option maxHeartbeats 4000000 in
theorem lifted_any (n1 : Bool) (p1 : Option Addr) (o1 : List Int) (V1 kk : Int) (k : Nat) (B1 : Nat) (w : World) (a1 : Ans B1 w p1 o1 V1) (b1 : V1 < 2 ^ 4500) (hk : kk = (k : Int)) (hk2 : k ≤ 4000) :
    Calls Tryd.prog 23 #[numOf n1 p1 o1.length o1.length, .int .i64 kk] w fun e w' => NumAt n1 (V1 * 2 ^ k) w e w' := by
  obtain ⟨g1, t1⟩ := a1.tl' b1 (by omega)
  have x1 := a1.2.2.2.1
  have room : V1 * 2 ^ k < Nm.pw 4096 := by
    rw [pw_4096]
    have h1 : V1 * 2 ^ k < 2 ^ 4500 * 2 ^ k := Int.mul_lt_mul_of_pos_right b1 (Nm.two_pos k)
    rw [← Nm.two_add] at h1
    have := Nm.two_mono (show 4500 + k ≤ 262144 by omega)
    omega
  have SH : Hid (∀ wx : World, Below w.heap.size w wx → Calls Tryd.prog 46 #[.slice p1 o1.length o1.length, .int .i64 kk] wx fun e w' => ∃ r os, e = .returned (.tuple #[.slice r (List.length os) (List.length os), .int .i64 0]) ∧ Ans wx.heap.size w' r os (V1 * 2 ^ k) ∧ Below wx.heap.size wx w') := by
    intro wx hx
    have := shl_any p1 _ _ o1 kk k wx (g1.below hx (Nat.le_refl _)) t1 hk (by rw [x1]; exact room)
    rw [x1] at this
    exact this
  have h1 := alloc_b w (.cells #[.bool n1, .slice p1 o1.length o1.length] 32)
  have s1 : (w.alloc (.cells #[.bool n1, .slice p1 o1.length o1.length] 32)).heap.size = w.heap.size + 1 := by simp
  have R0 := Row2.new (w.alloc (.cells #[.bool n1, .slice p1 o1.length o1.length] 32)) 32 (.bool false) (.slice none 0 0)
  rw [s1] at R0
  have X0 := (Row2.new w 32 (.bool n1) (.slice p1 o1.length o1.length)).below (alloc_b (w.alloc (.cells #[.bool n1, .slice p1 o1.length o1.length] 32)) (.cells #[.bool false, .slice none 0 0] 32)) (by omega)
  have h2 := Below.alloc h1 h1.size (.cells #[.bool false, .slice none 0 0] 32)
  have HR := hid R0
  have HX := hid X0
  have HB := hid h2
  simp only [numOf]
  generalize V1 * 2 ^ k = U at *
  clear a1 b1 hk hk2 g1 t1 x1 room h1 s1 R0 X0 h2
  go_enter Tryd.func23, Tryd.ntmps23
  go_wp2_with fail
  refine (SH.out _ HB.out).mono ?_
  rintro e wc ⟨r, os, rfl, A, hB⟩
  have Rc := HR.out.below hB HR.out.lt
  have Xc := HX.out.below hB HX.out.lt
  have lt := HR.out.lt
  have A' := A.set2 (b := w.heap.size + 1) (u0 := .bool n1) (u1 := .slice r os.length os.length) lt
  have KK : Hid (NumAt n1 U w (.returned (numOf n1 r (List.length os) (List.length os))) ((wc.setCell ⟨w.heap.size + 1, 0, none⟩ (.bool n1)).setCell ⟨w.heap.size + 1, 1, none⟩ (.slice r os.length os.length))) :=
    ⟨r, os, rfl, ⟨A'.1, A'.2.1, A'.2.2.1, A'.2.2.2.1, fun a h => by have := A'.2.2.2.2 a h; have := HB.out.size; omega⟩, set2_below (HB.out.trans (hB.mono HB.out.size)) (by omega)⟩
  obtain ⟨⟨q0, q1⟩, -⟩ := Xc.cells
  have RR := hid Rc
  obtain ⟨⟨r0, r1⟩, ⟨f0, f1⟩⟩ := Rc.cells
  clear Rc Xc lt A A' hB HR HX HB SH
  go_wp2_with fail
  (try simp only [Exit.inBlock, Exit.then])
  refine bodyPost_ret (results_cell_row rfl _ _ (w.heap.size + 1) 32 _ (0, 0) _ rfl (Row2.set RR.out) Tryd.underlying32 rfl (by kernel_rfl)) rfl ?_
  exact KK.out
end Go.Proofs.YtjebdobopechfaaDoor

/-
  law05: one, unit (made by mkybase.py).
-/
namespace Go.Proofs.YtjebdobopechfaaDoor
open Go Go.RowKit Go.Deep

theorem ans_lit {w : World} {g : Nat} {x : Int} (B : Nat) (h : w.heap[g]? = some (.cells #[.int .u64 x] 23 (0, 0))) (h0 : 0 < x) (h1 : x < 18446744073709551616) (hB : B ≤ g) : Ans B w (some ⟨g, 0, none⟩) [x] x := by
  refine ⟨.inr ⟨g, 0, rfl, fun i hi => ?_⟩, Nm.Limbs.mk (by omega) h1 Nm.Limbs.nil, ?_, by simp [Nm.val], fun a ha => by cases ha; exact hB⟩
  · obtain rfl : i = 0 := by simpa using hi
    simp [World.cell?, h]
  · refine Nm.tsize_unique [x] 1 (fun j hj => ?_) (.inr (by simp; omega))
    rw [List.getD_eq_getElem?_getD, List.getElem?_eq_none (by simpa using hj)]
    rfl

set_option maxRecDepth 100000 in
set_option maxHeartbeats 4000000 in
theorem one_any (w : World) : Calls Tryd.prog 20 #[] w fun e w' => NumAt false 1 w e w' := by
  have KK : Hid (NumAt false 1 w (.returned (numOf false (some ⟨w.heap.size + 1, 0, none⟩) 1 1)) ((w.alloc (.cells #[.bool false, .slice (some ⟨w.heap.size + 1, 0, none⟩) 1 1] 32)).alloc (.cells #[.int .u64 1] 23))) := by
    refine ⟨some ⟨w.heap.size + 1, 0, none⟩, [1], rfl, ans_lit _ (heap_alloc2_new w _ _) (by omega) (by omega) (by omega), twice_alloc w _ _⟩
  go_enter Tryd.func20, Tryd.ntmps20
  go_wp2_with fail
  (try simp only [Exit.inBlock, Exit.then])
  refine bodyPost_ret (results_cell_row rfl _ _ w.heap.size 32 _ (0, 0) _ rfl (heap_alloc2_old _ _ _) Tryd.underlying32 rfl (by kernel_rfl)) rfl ?_
  exact KK.out

set_option maxRecDepth 100000 in
set_option maxHeartbeats 4000000 in
theorem unit_any (w : World) : Calls Tryd.prog 24 #[] w fun e w' => NumAt false (2 ^ 1074) w e w' := by
  have O := hid (fun (wx : World) => one_any wx)
  have LI : Hid (∀ (wx : World) (p : Option Addr) (os : List Int) (B : Nat), Ans B wx p os 1 → Calls Tryd.prog 23 #[numOf false p os.length os.length, .int .i64 1074] wx fun e w' => NumAt false (2 ^ 1074) wx e w') := by
    intro wx p os B A
    have := lifted_any false p os 1 1074 1074 B wx A (by have := Nm.two_mono (show 1 ≤ 4500 by omega); have e : (2 : Int) ^ 1 = 2 := rfl; omega) rfl (by omega)
    rw [Int.one_mul] at this
    exact this
  generalize (2 : Int) ^ 1074 = U at *
  have R0 := Row2.new w 32 (.bool false) (.slice none 0 0)
  have HR := hid R0
  have HB := hid (alloc_b w (.cells #[.bool false, .slice none 0 0] 32))
  clear R0
  go_enter Tryd.func24, Tryd.ntmps24
  go_wp2_with fail
  refine (O.out _).mono ?_
  rintro e wa ⟨p, os, rfl, A, hB⟩
  have Ra := HR.out.below hB HR.out.lt
  have Ba := HB.out.trans (hB.mono HB.out.size)
  have LI1 := hid (LI.out wa p os _ A)
  have HRa := hid Ra
  have HBa := hid (And.intro Ba (Nat.lt_of_lt_of_le HR.out.lt hB.size))
  simp only [numOf] at LI1 ⊢
  clear A hB Ra Ba HR HB LI O
  go_wp2_with fail
  refine LI1.out.mono ?_
  rintro e wc ⟨r, os', rfl, A, hB⟩
  have Rc := HRa.out.below hB HRa.out.lt
  have lt := HBa.out.2
  have A' := A.set2 (b := w.heap.size) (u0 := .bool false) (u1 := .slice r os'.length os'.length) lt
  have KK : Hid (NumAt false U w (.returned (numOf false r (List.length os') (List.length os'))) ((wc.setCell ⟨w.heap.size, 0, none⟩ (.bool false)).setCell ⟨w.heap.size, 1, none⟩ (.slice r os'.length os'.length))) :=
    ⟨r, os', rfl, ⟨A'.1, A'.2.1, A'.2.2.1, A'.2.2.2.1, fun a h => by have := A'.2.2.2.2 a h; omega⟩, set2_below (HBa.out.1.trans (hB.mono HBa.out.1.size)) (by omega)⟩
  have RR := hid Rc
  obtain ⟨⟨r0, r1⟩, ⟨f0, f1⟩⟩ := Rc.cells
  simp only [numOf]
  clear Rc lt A A' hB HRa HBa LI1
  go_wp2_with fail
  (try simp only [Exit.inBlock, Exit.then])
  refine bodyPost_ret (results_cell_row rfl _ _ w.heap.size 32 _ (0, 0) _ rfl (Row2.set RR.out) Tryd.underlying32 rfl (by kernel_rfl)) rfl ?_
  exact KK.out
end Go.Proofs.YtjebdobopechfaaDoor
