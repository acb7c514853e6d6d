/-
  Texts put together: YUnitsN, YOwn, YExact, YExact2, YUsual, YExact3, YFlag1, YFlagB, YFlags, OpenThree.
-/
import Derived.Test.YtjebdobopechfabDoorYUnits
import Derived.Test.YtjebdobopechfabDoorXFlg
import Derived.Test.YtjebdobopechfabDoorYSX
import Derived.Deep.RegionHeld3
import Derived.Deep.CutRange
import Derived.Deep.CutBlock
import Derived.SizedLaws
import Derived.ProofKit
import Derived.OpenShut
/-
  law05: units of a NaN (YUnits with another value).
-/
namespace Go.Proofs.YtjebdobopechfabDoor
open Go Go.RowKit Go.Deep

/-- What units answers of a NaN. -/
def UnitsN (d : Int) (w : World) (e : Ending) (w' : World) : Prop :=
  ∃ p os, e = .returned (numOf (Ie.ngd d) p (List.length os) (List.length os)) ∧ Ans w.heap.size w' p os ((Ie.dm d * 2 ^ 1074)) ∧ Below w.heap.size w w'

set_option maxRecDepth 100000 in
set_option maxHeartbeats 4000000 in
theorem unitsN_any (d : Int) (w : World) (h0 : 0 ≤ d) (h1 : d < 18446744073709551616) (hn : Ie.isn d = true) :
    Calls Tryd.prog 13 #[.int .u64 d] w fun e w' => UnitsN d w e w' := by
  have D := hid (fun (wx : World) => decode_any d wx h0 h1)
  rw [← Ie.ngd] at D
  simp only [partsOf] at D
  have bm : 0 ≤ Ie.dm d ∧ Ie.dm d < 18446744073709551616 ∧ -1074 ≤ Ie.de d ∧ Ie.de d ≤ 971 := by
    rcases Ie.dec_kinds d _ rfl with ⟨c, m, x, k1⟩ | ⟨c, m, x, k1, k2⟩ | ⟨c, m, x, k1, k2⟩ | ⟨c, m, x, k1⟩ | ⟨c, m, x, k1, k2⟩ <;> rw [m, x]
    · omega
    · omega
    · have mb := Ie.man_nn (d % 9223372036854775808) (by omega)
      have eb : (Ie.ex (d % 9223372036854775808) : Int) ≤ 2045 := by simp only [Ie.ex]; omega
      omega
    · omega
    · omega
  obtain ⟨m0, m1, x0, x1⟩ := bm
  have FU := hid (fun (wx : World) => fromUint_any (Ie.dm d) wx m0 m1)
  have F1 := hid (fun (wx : World) => fromUint_any 1 wx (by omega) (by omega))
  have SL : Hid (∀ (wx : World) (p : Option Addr) (os : List Int) (B : Nat) (m k : Int), (k + 1074 = 2098 ∧ m = 1 ∧ Ie.isi d = true) ∨ (m = Ie.dm d ∧ k = Ie.de d ∧ Ie.isi d = false) → Ans B wx p os m → Calls Tryd.prog 36 #[.slice p os.length os.length, .int .i64 (k + 1074)] wx fun e w' => ∃ r os, e = .returned (.tuple #[.slice r (List.length os) (List.length os), .int .i64 0]) ∧ Ans wx.heap.size w' r os ((Ie.dm d * 2 ^ 1074)) ∧ Below wx.heap.size wx w') := by
    intro wx p os B m k hm A
    have key : ∃ j : Nat, k + 1074 = (j : Int) ∧ j ≤ 2100 ∧ m * 2 ^ j = (Ie.dm d * 2 ^ 1074) ∧ m < 2 ^ 64 := by
      rcases hm with ⟨a, b, c⟩ | ⟨a, b, c⟩
      · rw [Ie.isn, decide_eq_true_eq] at hn
        rw [Ie.isi, decide_eq_true_eq] at c
        omega
      · have d0 : Ie.de d = 0 := by
          rw [Ie.isn, decide_eq_true_eq, Ie.ab] at hn
          rcases Ie.dec_kinds d _ rfl with ⟨c, m, x, k1⟩ | ⟨c, m, x, k1, k2⟩ | ⟨c, m, x, k1, k2⟩ | ⟨c, m, x, k1⟩ | ⟨c, m, x, k1, k2⟩ <;> omega
        refine ⟨1074, by omega, by omega, by rw [a], ?_⟩
        have : (2 : Int) ^ 64 = 18446744073709551616 := Nm.two_64
        omega
    obtain ⟨j, hj, hj2, hv, hm2⟩ := key
    obtain ⟨g, t⟩ := A.tl' hm2 (by omega)
    have room : m * 2 ^ j < Nm.pw 4096 := by
      rw [pw_4096]
      have h1 : m * 2 ^ j < 2 ^ 64 * 2 ^ j := Int.mul_lt_mul_of_pos_right hm2 (Nm.two_pos j)
      rw [← Nm.two_add] at h1
      have := Nm.two_mono (show 64 + j ≤ 262144 by omega)
      omega
    have := shl_any p _ _ os (k + 1074) j wx g t hj (by rw [A.2.2.2.1]; exact room)
    rw [A.2.2.2.1, hv] at this
    exact this
  have WT : Hid (∀ (w2 : World) (p : Option Addr) (os : List Int), Ans (w.heap.size + 1) w2 p os ((Ie.dm d * 2 ^ 1074)) → Below w.heap.size w w2 →
      UnitsN d w (.returned (numOf (Ie.ngd d) p (List.length os) (List.length os))) ((w2.setCell ⟨w.heap.size, 0, none⟩ (.bool (Ie.ngd d))).setCell ⟨w.heap.size, 1, none⟩ (.slice p os.length os.length))) := by
    intro w2 p os A hB
    have A' := A.set2 (b := w.heap.size) (u0 := .bool (Ie.ngd d)) (u1 := .slice p os.length os.length) (by omega)
    exact ⟨p, os, rfl, ⟨A'.1, A'.2.1, A'.2.2.1, A'.2.2.2.1, fun a h => by have := A'.2.2.2.2 a h; omega⟩, set2_below hB (Nat.le_refl _)⟩
  have c3 := Ie.isi_cls d
  generalize Ie.ngd d = neg at *
  generalize Ie.cls d = c at *
  generalize (Ie.dm d * 2 ^ 1074) = U at *
  generalize Ie.isi d = inf at *
  generalize Ie.dm d = m at *
  generalize Ie.de d = x at *
  have R0 := Row2.new w 28 (.bool false) (.slice none 0 0)
  have sz : (w.alloc (.cells #[.bool false, .slice none 0 0] 28)).heap.size = w.heap.size + 1 := by simp
  have PR : Hid (∀ (w1 : World), Below (w.alloc (.cells #[.bool false, .slice none 0 0] 28)).heap.size (w.alloc (.cells #[.bool false, .slice none 0 0] 28)) w1 →
      (Below w.heap.size w (w1.alloc (.cells #[.bool neg, .int .i64 c, .int .u64 m, .int .i64 x] 38)) ∧ w.heap.size + 2 ≤ (w1.alloc (.cells #[.bool neg, .int .i64 c, .int .u64 m, .int .i64 x] 38)).heap.size) ∧
      Row2 (w1.alloc (.cells #[.bool neg, .int .i64 c, .int .u64 m, .int .i64 x] 38)) w.heap.size 28 (.bool false) (.slice none 0 0) ∧ Row4 (w1.alloc (.cells #[.bool neg, .int .i64 c, .int .u64 m, .int .i64 x] 38)) w1.heap.size 38 (.bool neg) (.int .i64 c) (.int .u64 m) (.int .i64 x)) := by
    intro w1 hB
    have h1 := (alloc_b w (.cells #[.bool false, .slice none 0 0] 28)).trans (hB.mono (alloc_b w _).size)
    have s1 := hB.size
    exact ⟨⟨Below.alloc h1 h1.size _, by simp; omega⟩, (R0.below hB R0.lt).below (alloc_b w1 _) (by omega), Row4.new w1 _ _ _ _ _⟩
  clear hn R0 sz h0 h1
  go_enter Tryd.func13, Tryd.ntmps13
  go_wp2_with fail
  refine (D.out _).mono ?_
  rintro e w1 ⟨rfl, hB⟩
  obtain ⟨⟨b1, s1⟩, R1, P1⟩ := PR.out w1 hB
  have HB := hid (And.intro b1 s1)
  have HR := hid R1
  have HP := hid P1
  clear hB b1 s1 R1 P1 PR D
  go_wp2_with fail
  generalize w1.alloc (.cells #[.bool neg, .int .i64 c, .int .u64 m, .int .i64 x] 38) = wA at *
  refine (FU.out _).mono ?_
  rintro e wb ⟨p, os, rfl, A, hB⟩
  have Rb := HR.out.below hB HR.out.lt
  have Pb := HP.out.below hB HP.out.lt
  have Bb := HB.out.1.trans (hB.mono HB.out.1.size)
  have sb := hB.size
  have sa := HB.out.2
  obtain ⟨⟨q0, q1, q2, q3⟩, -⟩ := Pb.cells
  cases inf
  · have c3' : (c == 3) = false := c3
    have SH := hid (SL.out wb p os _ m x (.inr ⟨rfl, rfl, rfl⟩) A)
    have HRb := hid Rb
    have HPb := hid Pb
    have HBb := hid (And.intro Bb (Nat.le_trans sa sb))
    clear hB Rb Pb Bb sb sa A SL HB HR HP F1 FU c3
    go_wp2_with fail
    refine SH.out.mono ?_
    rintro e wc ⟨r, os', rfl, A', hB'⟩
    have Rc := HRb.out.below hB' HRb.out.lt
    have Pc := HPb.out.below hB' HPb.out.lt
    have hs := HBb.out.2
    have KK := hid (WT.out wc r os' ⟨A'.1, A'.2.1, A'.2.2.1, A'.2.2.2.1, fun a h => by have := A'.2.2.2.2 a h; omega⟩ (HBb.out.1.trans (hB'.mono HBb.out.1.size)))
    clear q0 q1 q2 q3
    obtain ⟨⟨q0, q1, q2, q3⟩, -⟩ := Pc.cells
    clear Pc A' hB' HRb HPb HBb hs SH
    have RR := hid Rc
    obtain ⟨⟨r0, r1⟩, ⟨f0, f1⟩⟩ := Rc.cells
    clear Rc
    go_wp2_with fail
    (try simp only [Exit.inBlock, Exit.then])
    refine bodyPost_ret (results_cell_row rfl _ _ (w.heap.size) 28 _ (0, 0) _ rfl (Row2.set RR.out) Tryd.underlying28 rfl (by kernel_rfl)) rfl ?_
    exact KK.out
  · have c3' : c = 3 := by simpa using c3
    subst c3'
    have HRb := hid Rb
    have HPb := hid Pb
    have HBb := hid (And.intro Bb (Nat.le_trans sa sb))
    have SL1 := hid (fun (wx : World) (p : Option Addr) (os : List Int) (B : Nat) (A : Ans B wx p os 1) => SL.out wx p os B 1 1024 (.inl ⟨rfl, rfl, rfl⟩) A)
    clear hB Rb Pb Bb sb sa A SL HB HR HP FU c3
    go_wp2_with fail
    refine (F1.out _).mono ?_
    rintro e wd ⟨p', os'', rfl, A'', hB''⟩
    have SH := hid (SL1.out wd p' os'' _ A'')
    have HRd := hid (HRb.out.below hB'' HRb.out.lt)
    have HPd := hid (HPb.out.below hB'' HPb.out.lt)
    have HBd := hid (And.intro (HBb.out.1.trans (hB''.mono HBb.out.1.size)) (Nat.le_trans HBb.out.2 hB''.size))
    clear q0 q1 q2 q3 A'' hB'' HRb HPb HBb SL1 F1
    obtain ⟨⟨q0, q1, q2, q3⟩, -⟩ := HPd.out.cells
    go_wp2_with fail
    refine SH.out.mono ?_
    rintro e wc ⟨r, os', rfl, A', hB'⟩
    have Rc := HRd.out.below hB' HRd.out.lt
    have Pc := HPd.out.below hB' HPd.out.lt
    have hs := HBd.out.2
    have KK := hid (WT.out wc r os' ⟨A'.1, A'.2.1, A'.2.2.1, A'.2.2.2.1, fun a h => by have := A'.2.2.2.2 a h; omega⟩ (HBd.out.1.trans (hB'.mono HBd.out.1.size)))
    clear q0 q1 q2 q3
    obtain ⟨⟨q0, q1, q2, q3⟩, -⟩ := Pc.cells
    clear Pc A' hB' HRd HPd HBd hs SH
    have RR := hid Rc
    obtain ⟨⟨r0, r1⟩, ⟨f0, f1⟩⟩ := Rc.cells
    clear Rc
    go_wp2_with fail
    (try simp only [Exit.inBlock, Exit.then])
    refine bodyPost_ret (results_cell_row rfl _ _ (w.heap.size) 28 _ (0, 0) _ rfl (Row2.set RR.out) Tryd.underlying28 rfl (by kernel_rfl)) rfl ?_
    exact KK.out
end Go.Proofs.YtjebdobopechfabDoor

/-
  law05: own, usual (made by mkyown.py).
-/
namespace Go.Proofs.YtjebdobopechfabDoor
open Go Go.RowKit Go.Deep

/-- A Three, as Go has it. -/
def threeOf (a b c : Int) : Value := .agg #[.int .u64 a, .int .u64 b, .int .u64 c]

def OwnIs (op a b c : Int) (w : World) (e : Ending) (w' : World) : Prop := ∃ r f, e = .returned (.int .u64 r) ∧ Ie.TellIs op a b c r f ∧ Below w.heap.size w w'

set_option maxRecDepth 100000 in
set_option maxHeartbeats 4000000 in
theorem own1 (a b c : Int) (w : World) (a0 : 0 ≤ a) (a1 : a < 18446744073709551616) (b0 : 0 ≤ b) (b1 : b < 18446744073709551616) (hT : Tab w) :
    Calls Tryd.prog 31 #[.int .i64 1, threeOf a b c] w fun e w' => OwnIs 1 a b c w e w' := by
  have AD := hid (fun (wx : World) (hx : Below w.heap.size w wx) => softAdd_any a b wx a0 a1 b0 b1 (hT.below hx))
  have AB := hid (alloc_b w)
  clear hT
  simp only [threeOf]
  go_enter Tryd.func31, Tryd.ntmps31
  go_wp2_with fail
  refine (AD.out _ (AB.out _)).mono ?_
  rintro e w1 ⟨r, f, rfl, h, hB⟩
  have KK : Hid (OwnIs 1 a b c w (.returned (.int .u64 r)) w1) := ⟨r, f, rfl, Ie.tell1 ▸ h, (AB.out _).trans (hB.mono (AB.out _).size)⟩
  clear h hB AD AB
  go_wp2_with fail
  go_ret
  exact KK.out

set_option maxRecDepth 100000 in
set_option maxHeartbeats 4000000 in
theorem own2 (a b c : Int) (w : World) (a0 : 0 ≤ a) (a1 : a < 18446744073709551616) (b0 : 0 ≤ b) (b1 : b < 18446744073709551616) (hT : Tab w) :
    Calls Tryd.prog 31 #[.int .i64 2, threeOf a b c] w fun e w' => OwnIs 2 a b c w e w' := by
  have AD := hid (fun (wx : World) (hx : Below w.heap.size w wx) => softSub_any a b wx a0 a1 b0 b1 (hT.below hx))
  have AB := hid (alloc_b w)
  clear hT
  simp only [threeOf]
  go_enter Tryd.func31, Tryd.ntmps31
  go_wp2_with fail
  refine (AD.out _ (AB.out _)).mono ?_
  rintro e w1 ⟨r, f, rfl, h, hB⟩
  have KK : Hid (OwnIs 2 a b c w (.returned (.int .u64 r)) w1) := ⟨r, f, rfl, Ie.tell2 ▸ h, (AB.out _).trans (hB.mono (AB.out _).size)⟩
  clear h hB AD AB
  go_wp2_with fail
  go_ret
  exact KK.out

set_option maxRecDepth 100000 in
set_option maxHeartbeats 4000000 in
theorem own3 (a b c : Int) (w : World) (a0 : 0 ≤ a) (a1 : a < 18446744073709551616) (b0 : 0 ≤ b) (b1 : b < 18446744073709551616) (hT : Tab w) :
    Calls Tryd.prog 31 #[.int .i64 3, threeOf a b c] w fun e w' => OwnIs 3 a b c w e w' := by
  have AD := hid (fun (wx : World) (hx : Below w.heap.size w wx) => softMul_any a b wx a0 a1 b0 b1 (hT.below hx))
  have AB := hid (alloc_b w)
  clear hT
  simp only [threeOf]
  go_enter Tryd.func31, Tryd.ntmps31
  go_wp2_with fail
  refine (AD.out _ (AB.out _)).mono ?_
  rintro e w1 ⟨r, f, rfl, h, hB⟩
  have KK : Hid (OwnIs 3 a b c w (.returned (.int .u64 r)) w1) := ⟨r, f, rfl, Ie.tell3 ▸ h, (AB.out _).trans (hB.mono (AB.out _).size)⟩
  clear h hB AD AB
  go_wp2_with fail
  go_ret
  exact KK.out

set_option maxRecDepth 100000 in
set_option maxHeartbeats 4000000 in
theorem own4 (a b c : Int) (w : World) (a0 : 0 ≤ a) (a1 : a < 18446744073709551616) (b0 : 0 ≤ b) (b1 : b < 18446744073709551616) (hT : Tab w) :
    Calls Tryd.prog 31 #[.int .i64 4, threeOf a b c] w fun e w' => OwnIs 4 a b c w e w' := by
  have AD := hid (fun (wx : World) (hx : Below w.heap.size w wx) => softDiv_any a b wx a0 a1 b0 b1 (hT.below hx))
  have AB := hid (alloc_b w)
  clear hT
  simp only [threeOf]
  go_enter Tryd.func31, Tryd.ntmps31
  go_wp2_with fail
  refine (AD.out _ (AB.out _)).mono ?_
  rintro e w1 ⟨r, f, rfl, h, hB⟩
  have KK : Hid (OwnIs 4 a b c w (.returned (.int .u64 r)) w1) := ⟨r, f, rfl, Ie.tell4 ▸ h, (AB.out _).trans (hB.mono (AB.out _).size)⟩
  clear h hB AD AB
  go_wp2_with fail
  go_ret
  exact KK.out

set_option maxRecDepth 100000 in
set_option maxHeartbeats 4000000 in
theorem own5 (a b c : Int) (w : World) (a0 : 0 ≤ a) (a1 : a < 18446744073709551616) (hT : Tab w) :
    Calls Tryd.prog 31 #[.int .i64 5, threeOf a b c] w fun e w' => OwnIs 5 a b c w e w' := by
  have AD := hid (fun (wx : World) (hx : Below w.heap.size w wx) => softSqrt_any a wx a0 a1 (hT.below hx))
  have AB := hid (alloc_b w)
  clear hT
  simp only [threeOf]
  go_enter Tryd.func31, Tryd.ntmps31
  go_wp2_with fail
  refine (AD.out _ (AB.out _)).mono ?_
  rintro e w1 ⟨r, f, rfl, h, hB⟩
  have KK : Hid (OwnIs 5 a b c w (.returned (.int .u64 r)) w1) := ⟨r, f, rfl, Ie.tell5 ▸ h, (AB.out _).trans (hB.mono (AB.out _).size)⟩
  clear h hB AD AB
  go_wp2_with fail
  go_ret
  exact KK.out

set_option maxRecDepth 100000 in
set_option maxHeartbeats 4000000 in
theorem own6 (a b c : Int) (w : World) (a0 : 0 ≤ a) (a1 : a < 18446744073709551616) (b0 : 0 ≤ b) (b1 : b < 18446744073709551616) (c0 : 0 ≤ c) (c1 : c < 18446744073709551616) (hT : Tab w) :
    Calls Tryd.prog 31 #[.int .i64 6, threeOf a b c] w fun e w' => OwnIs 6 a b c w e w' := by
  have AD := hid (fun (wx : World) (hx : Below w.heap.size w wx) => softFma_any a b c wx a0 a1 b0 b1 c0 c1 (hT.below hx))
  have AB := hid (alloc_b w)
  clear hT
  simp only [threeOf]
  go_enter Tryd.func31, Tryd.ntmps31
  go_wp2_with fail
  refine (AD.out _ (AB.out _)).mono ?_
  rintro e w1 ⟨r, f, rfl, h, hB⟩
  have KK : Hid (OwnIs 6 a b c w (.returned (.int .u64 r)) w1) := ⟨r, f, rfl, Ie.tell6 ▸ h, (AB.out _).trans (hB.mono (AB.out _).size)⟩
  clear h hB AD AB
  go_wp2_with fail
  go_ret
  exact KK.out

theorem own_any (op a b c : Int) (w : World) (o1 : 1 ≤ op) (o6 : op ≤ 6) (a0 : 0 ≤ a) (a1 : a < 18446744073709551616) (b0 : 0 ≤ b) (b1 : b < 18446744073709551616) (c0 : 0 ≤ c) (c1 : c < 18446744073709551616) (hT : Tab w) :
    Calls Tryd.prog 31 #[.int .i64 op, threeOf a b c] w fun e w' => OwnIs op a b c w e w' := by
  rcases (show op = 1 ∨ op = 2 ∨ op = 3 ∨ op = 4 ∨ op = 5 ∨ op = 6 by omega) with rfl | rfl | rfl | rfl | rfl | rfl
  · exact own1 a b c w a0 a1 b0 b1 hT
  · exact own2 a b c w a0 a1 b0 b1 hT
  · exact own3 a b c w a0 a1 b0 b1 hT
  · exact own4 a b c w a0 a1 b0 b1 hT
  · exact own5 a b c w a0 a1 hT
  · exact own6 a b c w a0 a1 b0 b1 c0 c1 hT

end Go.Proofs.YtjebdobopechfabDoor

/-
  law05: exactly (made by mkyexact.py).
-/
namespace Go.Proofs.YtjebdobopechfabDoor
open Go Go.RowKit Go.Deep

theorem drew_reflE (w : World) : Below w.heap.size w w.drew := ⟨rfl, rfl, rfl, Nat.le_refl _, fun _ _ => rfl⟩

theorem bcell {w w' : World} {b o : Nat} {v : Value} (h : Below w.heap.size w w') (e : w.cell? ⟨b, o, none⟩ = some v) : w'.cell? ⟨b, o, none⟩ = some v := h.cell (cell_lt e) ▸ e

/-- Two nums in their boxes, and c in the Three's. -/
def EB (w wx : World) (bt bx by1 : Nat) (c : Int) (na nb : Bool) (pa pb : Option Addr) (oa ob : List Int) (UA UB : Int) : Prop :=
  Below w.heap.size w wx ∧ wx.cell? ⟨bt, 2, none⟩ = some (.int .u64 c) ∧ (Row2 wx bx 28 (.bool na) (.slice pa oa.length oa.length) ∧ Row2 wx by1 28 (.bool nb) (.slice pb ob.length ob.length)) ∧ (∃ B, Ans B wx pa oa UA) ∧ ∃ B, Ans B wx pb ob UB

theorem EB.on {w wx w' : World} {bt bx by1 : Nat} {c : Int} {na nb : Bool} {pa pb : Option Addr} {oa ob : List Int} {UA UB : Int} (h : EB w wx bt bx by1 c na nb pa pb oa ob UA UB) (hB : Below wx.heap.size wx w') : EB w w' bt bx by1 c na nb pa pb oa ob UA UB := by
  obtain ⟨h1, h0, ⟨h2, h3⟩, ⟨B, h4⟩, B', h5⟩ := h
  exact ⟨h1.trans (hB.mono h1.size), bcell hB h0, ⟨h2.below hB h2.lt, h3.below hB h3.lt⟩, ⟨B, h4.below hB (Nat.le_refl _)⟩, B', h5.below hB (Nat.le_refl _)⟩

theorem EB.flat {w wx : World} {bt bx by1 : Nat} {c : Int} {na nb : Bool} {pa pb : Option Addr} {oa ob : List Int} {UA UB : Int} (h : EB w wx bt bx by1 c na nb pa pb oa ob UA UB) :
    wx.cell? ⟨bx, 0, none⟩ = some (.bool na) ∧ wx.cell? ⟨bx, 1, none⟩ = some (.slice pa oa.length oa.length) ∧ wx.cell? ⟨by1, 0, none⟩ = some (.bool nb) ∧ wx.cell? ⟨by1, 1, none⟩ = some (.slice pb ob.length ob.length) ∧ wx.cell? ⟨bt, 2, none⟩ = some (.int .u64 c) := ⟨h.2.2.1.1.cells.1.1, h.2.2.1.1.cells.1.2, h.2.2.1.2.cells.1.1, h.2.2.1.2.cells.1.2, h.2.1⟩

/-- A num, with its number and a bound. -/
def NN (wx : World) (n : Bool) (p : Option Addr) (o : List Int) (z : Int) (K : Nat) : Prop := ∃ B V, Ans B wx p o V ∧ Ie.sn n V = z ∧ 0 ≤ V ∧ V < 2 ^ K

theorem NN.on {wx w' : World} {n : Bool} {p : Option Addr} {o : List Int} {z : Int} {K : Nat} (h : NN wx n p o z K) (hB : Below wx.heap.size wx w') : NN w' n p o z K := by
  obtain ⟨B, V, A, h⟩ := h
  exact ⟨B, V, A.below hB (Nat.le_refl _), h⟩

def NNIs (z : Int) (K : Nat) (w : World) (e : Ending) (w' : World) : Prop := ∃ n p o, e = .returned (numOf n p (List.length o) (List.length o)) ∧ NN w' n p o z K ∧ Below w.heap.size w w'

theorem nn_units (d : Int) (w : World) (d0 : 0 ≤ d) (d1 : d < 18446744073709551616) (fd : Ie.fin d) : Calls Tryd.prog 13 #[.int .u64 d] w fun e w' => NNIs (Ie.us d) 2099 w e w' := by
  refine (units_any d w d0 d1 (Ie.fin_not fd).1).mono ?_
  rintro e w' ⟨p, os, rfl, A, hB⟩
  exact ⟨_, p, os, rfl, ⟨_, _, A, rfl, Ie.un_nn (Ie.ab_bd d).1, Ie.un_lt_inf (Ie.ab_bd d).1 (Int.le_of_lt fd)⟩, hB⟩

theorem nn_num {z : Int} {K : Nat} {w : World} {e : Ending} {w' : World} (h : NumIs z w e w') (hz : Ie.az z < 2 ^ K) : NNIs z K w e w' := by
  obtain ⟨n, p, os, V, rfl, A, hv, v0, hB⟩ := h
  refine ⟨n, p, os, rfl, ⟨_, V, A, hv, v0, ?_⟩, hB⟩
  rw [← hv, Ie.az_sn n V v0] at hz
  exact hz

theorem nn_times {wx : World} {n1 n2 : Bool} {p1 p2 : Option Addr} {o1 o2 : List Int} {z1 z2 : Int} (K1 K2 : Nat) (k1 : K1 ≤ 4500) (k2 : K2 ≤ 4500) (h1 : NN wx n1 p1 o1 z1 K1) (h2 : NN wx n2 p2 o2 z2 K2) :
    Calls Tryd.prog 18 #[.agg #[.bool n1, .slice p1 o1.length o1.length], .agg #[.bool n2, .slice p2 o2.length o2.length]] wx fun e w' => NNIs (z1 * z2) (K1 + K2) wx e w' := by
  obtain ⟨B1, V1, A1, s1, v1, b1⟩ := h1
  obtain ⟨B2, V2, A2, s2, v2, b2⟩ := h2
  have m1 := Nm.two_mono k1
  have m2 := Nm.two_mono k2
  refine (ytimes_any n1 n2 p1 p2 o1 o2 V1 V2 B1 B2 wx A1 A2 (by omega) (by omega)).mono ?_
  intro e w' h
  rw [s1, s2] at h
  refine nn_num h ?_
  rw [← s1, ← s2, Ie.sn_mul, Ie.az_sn _ _ (Int.mul_nonneg v1 v2), Nm.two_add]
  rcases (show V2 = 0 ∨ 0 < V2 by omega) with g | g
  · rw [g, Int.mul_zero]; exact Int.mul_pos (Nm.two_pos K1) (Nm.two_pos K2)
  · have g1 : V1 * V2 < 2 ^ K1 * V2 := Int.mul_lt_mul_of_pos_right b1 g
    have g2 : 2 ^ K1 * V2 ≤ 2 ^ K1 * 2 ^ K2 := Int.mul_le_mul_of_nonneg_left (by omega) (Int.le_of_lt (Nm.two_pos K1))
    omega

theorem nn_plus {wx : World} {n1 n2 : Bool} {p1 p2 : Option Addr} {o1 o2 : List Int} {z1 z2 : Int} (K1 K2 K : Nat) (k1 : K1 ≤ K) (k2 : K2 ≤ K) (k : K ≤ 9000) (h1 : NN wx n1 p1 o1 z1 K1) (h2 : NN wx n2 p2 o2 z2 K2) :
    Calls Tryd.prog 14 #[.agg #[.bool n1, .slice p1 o1.length o1.length], .agg #[.bool n2, .slice p2 o2.length o2.length]] wx fun e w' => NNIs (z1 + z2) (K + 1) wx e w' := by
  obtain ⟨B1, V1, A1, s1, v1, b1⟩ := h1
  obtain ⟨B2, V2, A2, s2, v2, b2⟩ := h2
  have m1 := Nm.two_mono k1
  have m2 := Nm.two_mono k2
  have m3 := Nm.two_mono k
  refine (yplus_any n1 n2 p1 p2 o1 o2 V1 V2 B1 B2 wx A1 A2 (by omega) (by omega)).mono ?_
  intro e w' h
  rw [s1, s2] at h
  refine nn_num h ?_
  have e1 := Nm.two_succ K
  rw [e1]
  simp only [Ie.sn] at s1 s2
  simp only [Ie.az]
  split at s1 <;> split at s2 <;> split <;> omega

theorem nn_lift {wx : World} {n1 : Bool} {p1 : Option Addr} {o1 : List Int} {z1 : Int} (K1 : Nat) (k1 : K1 ≤ 4500) (h1 : NN wx n1 p1 o1 z1 K1) :
    Calls Tryd.prog 12 #[.agg #[.bool n1, .slice p1 o1.length o1.length], .int .i64 1074] wx fun e w' => NNIs (z1 * 2 ^ 1074) (K1 + 1074) wx e w' := by
  obtain ⟨B1, V1, A1, s1, v1, b1⟩ := h1
  have m1 := Nm.two_mono k1
  refine (lifted_any n1 p1 o1 V1 1074 1074 B1 wx A1 (by omega) rfl (by omega)).mono ?_
  rintro e w' ⟨p, os, rfl, A, hB⟩
  refine ⟨_, p, os, rfl, ⟨_, _, A, ?_, Int.mul_nonneg v1 (Int.le_of_lt (Nm.two_pos _)), ?_⟩, hB⟩
  · rw [← Ie.sn_mul_right, s1]
  · rw [Nm.two_add]
    exact Int.mul_lt_mul_of_pos_right b1 (Nm.two_pos _)

theorem nn_same {wx : World} {n1 n2 : Bool} {p1 p2 : Option Addr} {o1 o2 : List Int} {z1 z2 : Int} (K1 K2 : Nat) (k1 : K1 ≤ 9000) (k2 : K2 ≤ 9000) (h1 : NN wx n1 p1 o1 z1 K1) (h2 : NN wx n2 p2 o2 z2 K2) :
    Calls Tryd.prog 21 #[.agg #[.bool n1, .slice p1 o1.length o1.length], .agg #[.bool n2, .slice p2 o2.length o2.length]] wx fun e w' => e = .returned (.bool (decide (z1 = z2))) ∧ Below wx.heap.size wx w' := by
  obtain ⟨B1, V1, A1, s1, v1, b1⟩ := h1
  obtain ⟨B2, V2, A2, s2, v2, b2⟩ := h2
  have m1 := Nm.two_mono k1
  have m2 := Nm.two_mono k2
  have := same_any n1 n2 p1 p2 o1 o2 V1 V2 B1 B2 wx A1 A2 (by omega) (by omega)
  rw [s1, s2] at this
  exact this

set_option maxRecDepth 100000 in
set_option maxHeartbeats 8000000 in
theorem exact1 (a b c d : Int) (w : World) (na nb : Bool) (UA UB : Int) (d0 : 0 ≤ d) (d1 : d < 18446744073709551616) (fd : Ie.fin d) (nA : 0 ≤ UA) (nB : 0 ≤ UB) (bA : UA < 2 ^ 2100) (bB : UB < 2 ^ 2100)
    (UAc : Hid (∀ wx : World, Calls Tryd.prog 13 #[.int .u64 a] wx fun e w' => ∃ p os, e = .returned (numOf na p (List.length os) (List.length os)) ∧ Ans wx.heap.size w' p os UA ∧ Below wx.heap.size wx w'))
    (UBc : Hid (∀ wx : World, Calls Tryd.prog 13 #[.int .u64 b] wx fun e w' => ∃ p os, e = .returned (numOf nb p (List.length os) (List.length os)) ∧ Ans wx.heap.size w' p os UB ∧ Below wx.heap.size wx w')) :
    Calls Tryd.prog 33 #[.int .i64 1, threeOf a b c, .int .u64 d] w fun e w' => e = .returned (.bool (decide (Ie.sn na UA + Ie.sn nb UB = Ie.us d))) ∧ Below w.heap.size w w' := by
  have ud := Ie.un_lt_inf (Ie.ab_bd d).1 (Int.le_of_lt fd)
  have UD : Hid (∀ wx : World, Calls Tryd.prog 13 #[.int .u64 d] wx fun e w' => ∃ p os, e = .returned (numOf (Ie.ngd d) p (List.length os) (List.length os)) ∧ Ans wx.heap.size w' p os (Ie.un (Ie.ab d)) ∧ Below wx.heap.size wx w') := fun wx => units_any d wx d0 d1 (Ie.fin_not fd).1
  have m90 := Nm.two_mono (show 2100 ≤ 9000 by omega)
  have e21 : (2 : Int) ^ 2100 = 2 * 2 ^ 2099 := Nm.two_succ 2099
  have p21 := Nm.two_pos 2099
  have P : Hid (∀ (wx : World) (bt bx by1 : Nat) (pa pb : Option Addr) (oa ob : List Int), EB w wx bt bx by1 c na nb pa pb oa ob UA UB → Calls Tryd.prog 14 #[numOf na pa oa.length oa.length, numOf (nb) pb ob.length ob.length] wx fun e w' => NumIs (Ie.sn na UA + Ie.sn (nb) UB) wx e w') := by
    intro wx bt bx by1 pa pb oa ob h
    obtain ⟨_, _, _, ⟨B, A1⟩, B', A2⟩ := h
    exact yplus_any na (nb) pa pb oa ob _ _ B B' wx A1 A2 (by omega) (by omega)
  have SM : Hid (∀ (wx : World) (n2 : Bool) (px py : Option Addr) (ox oy : List Int) (V2 : Int) (B B' : Nat), Ans B' wx py oy V2 → Ans B wx px ox (Ie.un (Ie.ab d)) → Ie.sn n2 V2 = Ie.sn na UA + Ie.sn (nb) UB → 0 ≤ V2 → V2 < 2 ^ 9000 →
      Calls Tryd.prog 21 #[numOf n2 py oy.length oy.length, numOf (Ie.ngd d) px ox.length ox.length] wx fun e w' => e = .returned (.bool (decide (Ie.sn na UA + Ie.sn (nb) UB = Ie.us d))) ∧ Below wx.heap.size wx w') := by
    intro wx n2 px py ox oy V2 B B' A1 A2 h2 v2 hv
    have := same_any n2 (Ie.ngd d) py px oy ox V2 _ B' B wx A1 A2 hv (by omega)
    rw [h2] at this
    exact this
  have BV : Hid (∀ (n : Bool) (V : Int), Ie.sn n V = Ie.sn na UA + Ie.sn (nb) UB → 0 ≤ V → V < 2 ^ 9000) := by
    intro n V h v0
    have m := Nm.two_mono (show 2102 ≤ 9000 by omega)
    have e1 : (2 : Int) ^ 2101 = 2 * 2 ^ 2100 := Nm.two_succ 2100
    have e2 : (2 : Int) ^ 2102 = 2 * 2 ^ 2101 := Nm.two_succ 2101
    have g := Ie.az_sn n V v0
    rw [h] at g
    clear UAc UBc
    generalize (2 : Int) ^ 2099 = Q at *
    generalize (2 : Int) ^ 2100 = R at *
    generalize (2 : Int) ^ 2101 = R1 at *
    generalize (2 : Int) ^ 2102 = R2 at *
    generalize (2 : Int) ^ 9000 = R9 at *
    simp only [Ie.az, Ie.sn] at g
    cases na <;> cases nb <;> simp only [if_true, Bool.false_eq_true, if_false] at g <;> split at g <;> omega
  simp only [numOf] at P SM
  clear fd ud m90 e21 p21 d0 d1 bA bB nA nB
  generalize Ie.ngd d = nd at *
  generalize Ie.un (Ie.ab d) = UU at *
  simp only [threeOf]
  go_enter Tryd.func33, Tryd.ntmps33
  go_wp2_with fail
  have T0 : Hid (Below w.heap.size w (w.alloc (.cells #[.int .u64 a, .int .u64 b, .int .u64 c] 42)) ∧ (w.alloc (.cells #[.int .u64 a, .int .u64 b, .int .u64 c] 42)).cell? ⟨w.heap.size, 1, none⟩ = some (.int .u64 b) ∧ (w.alloc (.cells #[.int .u64 a, .int .u64 b, .int .u64 c] 42)).cell? ⟨w.heap.size, 2, none⟩ = some (.int .u64 c)) := ⟨alloc_b w _, by simp, by simp⟩
  generalize w.alloc (.cells #[.int .u64 a, .int .u64 b, .int .u64 c] 42) = w1 at *
  refine (UAc.out _).mono ?_
  rintro e w4 ⟨pa, oa, rfl, Aa, hB⟩
  have T1 : Hid (Below w.heap.size w w4 ∧ w4.cell? ⟨w.heap.size, 1, none⟩ = some (.int .u64 b) ∧ w4.cell? ⟨w.heap.size, 2, none⟩ = some (.int .u64 c)) := ⟨T0.out.1.trans (hB.mono T0.out.1.size), bcell hB T0.out.2.1, bcell hB T0.out.2.2⟩
  have Ka := hid Aa
  clear hB Aa T0 UAc
  simp only [numOf]
  go_upto_region 2 with fail
  have hb := alloc_b w4 (.cells #[.bool na, .slice pa oa.length oa.length] 28)
  have T2 : Hid (Below w.heap.size w (w4.alloc (.cells #[.bool na, .slice pa oa.length oa.length] 28)) ∧ (w4.alloc (.cells #[.bool na, .slice pa oa.length oa.length] 28)).cell? ⟨w.heap.size, 1, none⟩ = some (.int .u64 b) ∧ (w4.alloc (.cells #[.bool na, .slice pa oa.length oa.length] 28)).cell? ⟨w.heap.size, 2, none⟩ = some (.int .u64 c)) := ⟨T1.out.1.trans (hb.mono T1.out.1.size), bcell hb T1.out.2.1, bcell hb T1.out.2.2⟩
  have R1 := hid (Row2.new w4 28 (.bool na) (.slice pa oa.length oa.length))
  have Ka2 := hid (Ka.out.below hb (Nat.le_refl _))
  clear hb T1 Ka
  generalize hb1 : w4.heap.size = bx at *
  generalize hw1 : w4.alloc (.cells #[.bool na, .slice pa oa.length oa.length] 28) = w5 at *
  clear hb1 hw1
  have cb := T2.out.2.1
  go_wp2_with fail
  clear cb
  refine (UBc.out _).mono ?_
  rintro e w6 ⟨pb, ob, rfl, Ab, hB⟩
  have HB6 := hid hB
  have Kb := hid Ab
  clear hB Ab UBc
  simp only [numOf]
  go_upto_region 3 with fail
  have hb := alloc_b w6 (.cells #[.bool nb, .slice pb ob.length ob.length] 28)
  have S0 : Hid (EB w (w6.alloc (.cells #[.bool nb, .slice pb ob.length ob.length] 28)) w.heap.size bx w6.heap.size c na nb pa pb oa ob UA UB) :=
    ⟨(T2.out.1.trans (HB6.out.mono T2.out.1.size)).trans (hb.mono (T2.out.1.trans (HB6.out.mono T2.out.1.size)).size), bcell hb (bcell HB6.out T2.out.2.2), ⟨(R1.out.below HB6.out R1.out.lt).below hb (R1.out.below HB6.out R1.out.lt).lt, Row2.new w6 28 _ _⟩, ⟨_, (Ka2.out.below HB6.out (Nat.le_refl _)).below hb (Nat.le_refl _)⟩, ⟨_, Kb.out.below hb (Nat.le_refl _)⟩⟩
  clear hb HB6 R1 Ka2 Kb T2
  generalize hb2 : w6.heap.size = by1 at *
  generalize hw2 : w6.alloc (.cells #[.bool nb, .slice pb ob.length ob.length] 28) = w7 at *
  generalize hbt : w.heap.size = bt at S0
  clear hb2 hw2 hbt
  obtain ⟨x0, x1, y0, y1, z0⟩ := S0.out.flat
  go_wp2_with fail
  refine (P.out _ _ _ _ _ _ _ _ S0.out).mono ?_
  rintro e wu ⟨nv, pv, ov, VV, rfl, AV, zV, vV, hBv⟩
  have SU := hid (S0.out.on hBv)
  have AVh := hid (And.intro AV (And.intro zV vV))
  clear AV zV vV hBv S0 P x0 x1 y0 y1 z0
  simp only [numOf]
  go_wp2_with fail
  refine (UD.out _).mono ?_
  rintro e wd ⟨pd, od, rfl, AD, hBd⟩
  have SD := hid (SU.out.on hBd)
  have AVd := hid (And.intro (AVh.out.1.below hBd (Nat.le_refl _)) AD)
  have AVz := hid AVh.out.2
  clear AD hBd SU AVh UD
  simp only [numOf]
  go_wp2_with fail
  refine (SM.out _ _ _ _ _ _ _ _ _ AVd.out.1 AVd.out.2 AVz.out.1 AVz.out.2 (BV.out _ _ AVz.out.1 AVz.out.2)).mono ?_
  rintro e wf ⟨rfl, hBf⟩
  have KK := hid (SD.out.on hBf).1
  clear hBf SD AVd AVz SM BV
  go_wp2_with fail
  go_ret
  exact ⟨rfl, KK.out⟩

set_option maxRecDepth 100000 in
set_option maxHeartbeats 8000000 in
theorem exact2 (a b c d : Int) (w : World) (na nb : Bool) (UA UB : Int) (d0 : 0 ≤ d) (d1 : d < 18446744073709551616) (fd : Ie.fin d) (nA : 0 ≤ UA) (nB : 0 ≤ UB) (bA : UA < 2 ^ 2100) (bB : UB < 2 ^ 2100)
    (UAc : Hid (∀ wx : World, Calls Tryd.prog 13 #[.int .u64 a] wx fun e w' => ∃ p os, e = .returned (numOf na p (List.length os) (List.length os)) ∧ Ans wx.heap.size w' p os UA ∧ Below wx.heap.size wx w'))
    (UBc : Hid (∀ wx : World, Calls Tryd.prog 13 #[.int .u64 b] wx fun e w' => ∃ p os, e = .returned (numOf nb p (List.length os) (List.length os)) ∧ Ans wx.heap.size w' p os UB ∧ Below wx.heap.size wx w')) :
    Calls Tryd.prog 33 #[.int .i64 2, threeOf a b c, .int .u64 d] w fun e w' => e = .returned (.bool (decide (Ie.sn na UA + Ie.sn (!nb) UB = Ie.us d))) ∧ Below w.heap.size w w' := by
  have ud := Ie.un_lt_inf (Ie.ab_bd d).1 (Int.le_of_lt fd)
  have UD : Hid (∀ wx : World, Calls Tryd.prog 13 #[.int .u64 d] wx fun e w' => ∃ p os, e = .returned (numOf (Ie.ngd d) p (List.length os) (List.length os)) ∧ Ans wx.heap.size w' p os (Ie.un (Ie.ab d)) ∧ Below wx.heap.size wx w') := fun wx => units_any d wx d0 d1 (Ie.fin_not fd).1
  have m90 := Nm.two_mono (show 2100 ≤ 9000 by omega)
  have e21 : (2 : Int) ^ 2100 = 2 * 2 ^ 2099 := Nm.two_succ 2099
  have p21 := Nm.two_pos 2099
  have P : Hid (∀ (wx : World) (bt bx by1 : Nat) (pa pb : Option Addr) (oa ob : List Int), EB w wx bt bx by1 c na nb pa pb oa ob UA UB → Calls Tryd.prog 14 #[numOf na pa oa.length oa.length, numOf (!nb) pb ob.length ob.length] wx fun e w' => NumIs (Ie.sn na UA + Ie.sn (!nb) UB) wx e w') := by
    intro wx bt bx by1 pa pb oa ob h
    obtain ⟨_, _, _, ⟨B, A1⟩, B', A2⟩ := h
    exact yplus_any na (!nb) pa pb oa ob _ _ B B' wx A1 A2 (by omega) (by omega)
  have SM : Hid (∀ (wx : World) (n2 : Bool) (px py : Option Addr) (ox oy : List Int) (V2 : Int) (B B' : Nat), Ans B' wx py oy V2 → Ans B wx px ox (Ie.un (Ie.ab d)) → Ie.sn n2 V2 = Ie.sn na UA + Ie.sn (!nb) UB → 0 ≤ V2 → V2 < 2 ^ 9000 →
      Calls Tryd.prog 21 #[numOf n2 py oy.length oy.length, numOf (Ie.ngd d) px ox.length ox.length] wx fun e w' => e = .returned (.bool (decide (Ie.sn na UA + Ie.sn (!nb) UB = Ie.us d))) ∧ Below wx.heap.size wx w') := by
    intro wx n2 px py ox oy V2 B B' A1 A2 h2 v2 hv
    have := same_any n2 (Ie.ngd d) py px oy ox V2 _ B' B wx A1 A2 hv (by omega)
    rw [h2] at this
    exact this
  have BV : Hid (∀ (n : Bool) (V : Int), Ie.sn n V = Ie.sn na UA + Ie.sn (!nb) UB → 0 ≤ V → V < 2 ^ 9000) := by
    intro n V h v0
    have m := Nm.two_mono (show 2102 ≤ 9000 by omega)
    have e1 : (2 : Int) ^ 2101 = 2 * 2 ^ 2100 := Nm.two_succ 2100
    have e2 : (2 : Int) ^ 2102 = 2 * 2 ^ 2101 := Nm.two_succ 2101
    have g := Ie.az_sn n V v0
    rw [h] at g
    clear UAc UBc
    generalize (2 : Int) ^ 2099 = Q at *
    generalize (2 : Int) ^ 2100 = R at *
    generalize (2 : Int) ^ 2101 = R1 at *
    generalize (2 : Int) ^ 2102 = R2 at *
    generalize (2 : Int) ^ 9000 = R9 at *
    simp only [Ie.az, Ie.sn] at g
    cases na <;> cases nb <;> simp only [Bool.not_true, Bool.not_false, if_true, Bool.false_eq_true, if_false] at g <;> split at g <;> omega
  simp only [numOf] at P SM
  clear fd ud m90 e21 p21 d0 d1 bA bB nA nB
  generalize Ie.ngd d = nd at *
  generalize Ie.un (Ie.ab d) = UU at *
  simp only [threeOf]
  go_enter Tryd.func33, Tryd.ntmps33
  go_wp2_with fail
  have T0 : Hid (Below w.heap.size w (w.alloc (.cells #[.int .u64 a, .int .u64 b, .int .u64 c] 42)) ∧ (w.alloc (.cells #[.int .u64 a, .int .u64 b, .int .u64 c] 42)).cell? ⟨w.heap.size, 1, none⟩ = some (.int .u64 b) ∧ (w.alloc (.cells #[.int .u64 a, .int .u64 b, .int .u64 c] 42)).cell? ⟨w.heap.size, 2, none⟩ = some (.int .u64 c)) := ⟨alloc_b w _, by simp, by simp⟩
  generalize w.alloc (.cells #[.int .u64 a, .int .u64 b, .int .u64 c] 42) = w1 at *
  refine (UAc.out _).mono ?_
  rintro e w4 ⟨pa, oa, rfl, Aa, hB⟩
  have T1 : Hid (Below w.heap.size w w4 ∧ w4.cell? ⟨w.heap.size, 1, none⟩ = some (.int .u64 b) ∧ w4.cell? ⟨w.heap.size, 2, none⟩ = some (.int .u64 c)) := ⟨T0.out.1.trans (hB.mono T0.out.1.size), bcell hB T0.out.2.1, bcell hB T0.out.2.2⟩
  have Ka := hid Aa
  clear hB Aa T0 UAc
  simp only [numOf]
  go_upto_region 2 with fail
  have hb := alloc_b w4 (.cells #[.bool na, .slice pa oa.length oa.length] 28)
  have T2 : Hid (Below w.heap.size w (w4.alloc (.cells #[.bool na, .slice pa oa.length oa.length] 28)) ∧ (w4.alloc (.cells #[.bool na, .slice pa oa.length oa.length] 28)).cell? ⟨w.heap.size, 1, none⟩ = some (.int .u64 b) ∧ (w4.alloc (.cells #[.bool na, .slice pa oa.length oa.length] 28)).cell? ⟨w.heap.size, 2, none⟩ = some (.int .u64 c)) := ⟨T1.out.1.trans (hb.mono T1.out.1.size), bcell hb T1.out.2.1, bcell hb T1.out.2.2⟩
  have R1 := hid (Row2.new w4 28 (.bool na) (.slice pa oa.length oa.length))
  have Ka2 := hid (Ka.out.below hb (Nat.le_refl _))
  clear hb T1 Ka
  generalize hb1 : w4.heap.size = bx at *
  generalize hw1 : w4.alloc (.cells #[.bool na, .slice pa oa.length oa.length] 28) = w5 at *
  clear hb1 hw1
  have cb := T2.out.2.1
  go_wp2_with fail
  clear cb
  refine (UBc.out _).mono ?_
  rintro e w6 ⟨pb, ob, rfl, Ab, hB⟩
  have HB6 := hid hB
  have Kb := hid Ab
  clear hB Ab UBc
  simp only [numOf]
  go_upto_region 3 with fail
  have hb := alloc_b w6 (.cells #[.bool nb, .slice pb ob.length ob.length] 28)
  have S0 : Hid (EB w (w6.alloc (.cells #[.bool nb, .slice pb ob.length ob.length] 28)) w.heap.size bx w6.heap.size c na nb pa pb oa ob UA UB) :=
    ⟨(T2.out.1.trans (HB6.out.mono T2.out.1.size)).trans (hb.mono (T2.out.1.trans (HB6.out.mono T2.out.1.size)).size), bcell hb (bcell HB6.out T2.out.2.2), ⟨(R1.out.below HB6.out R1.out.lt).below hb (R1.out.below HB6.out R1.out.lt).lt, Row2.new w6 28 _ _⟩, ⟨_, (Ka2.out.below HB6.out (Nat.le_refl _)).below hb (Nat.le_refl _)⟩, ⟨_, Kb.out.below hb (Nat.le_refl _)⟩⟩
  clear hb HB6 R1 Ka2 Kb T2
  generalize hb2 : w6.heap.size = by1 at *
  generalize hw2 : w6.alloc (.cells #[.bool nb, .slice pb ob.length ob.length] 28) = w7 at *
  generalize hbt : w.heap.size = bt at S0
  clear hb2 hw2 hbt
  obtain ⟨x0, x1, y0, y1, z0⟩ := S0.out.flat
  go_wp2_with fail
  refine (P.out _ _ _ _ _ _ _ _ S0.out).mono ?_
  rintro e wu ⟨nv, pv, ov, VV, rfl, AV, zV, vV, hBv⟩
  have SU := hid (S0.out.on hBv)
  have AVh := hid (And.intro AV (And.intro zV vV))
  clear AV zV vV hBv S0 P x0 x1 y0 y1 z0
  simp only [numOf]
  go_wp2_with fail
  refine (UD.out _).mono ?_
  rintro e wd ⟨pd, od, rfl, AD, hBd⟩
  have SD := hid (SU.out.on hBd)
  have AVd := hid (And.intro (AVh.out.1.below hBd (Nat.le_refl _)) AD)
  have AVz := hid AVh.out.2
  clear AD hBd SU AVh UD
  simp only [numOf]
  go_wp2_with fail
  refine (SM.out _ _ _ _ _ _ _ _ _ AVd.out.1 AVd.out.2 AVz.out.1 AVz.out.2 (BV.out _ _ AVz.out.1 AVz.out.2)).mono ?_
  rintro e wf ⟨rfl, hBf⟩
  have KK := hid (SD.out.on hBf).1
  clear hBf SD AVd AVz SM BV
  go_wp2_with fail
  go_ret
  exact ⟨rfl, KK.out⟩

end Go.Proofs.YtjebdobopechfabDoor

/-
  law05: exactly, the operations 3 to 6 (made by mkyexact2.py).
-/
namespace Go.Proofs.YtjebdobopechfabDoor
open Go Go.RowKit Go.Deep

set_option maxRecDepth 100000 in
set_option maxHeartbeats 8000000 in
theorem exact3 (a b c d : Int) (w : World) (na nb : Bool) (UA UB : Int) (d0 : 0 ≤ d) (d1 : d < 18446744073709551616) (fd : Ie.fin d) (nA : 0 ≤ UA) (nB : 0 ≤ UB) (bA : UA < 2 ^ 2100) (bB : UB < 2 ^ 2100)
    (UAc : Hid (∀ wx : World, Calls Tryd.prog 13 #[.int .u64 a] wx fun e w' => ∃ p os, e = .returned (numOf na p (List.length os) (List.length os)) ∧ Ans wx.heap.size w' p os UA ∧ Below wx.heap.size wx w'))
    (UBc : Hid (∀ wx : World, Calls Tryd.prog 13 #[.int .u64 b] wx fun e w' => ∃ p os, e = .returned (numOf nb p (List.length os) (List.length os)) ∧ Ans wx.heap.size w' p os UB ∧ Below wx.heap.size wx w')) :
    Calls Tryd.prog 33 #[.int .i64 3, threeOf a b c, .int .u64 d] w fun e w' => e = .returned (.bool (decide (Ie.sn na UA * Ie.sn nb UB = Ie.us d * 2 ^ 1074))) ∧ Below w.heap.size w w' := by
  have XA : Hid (∀ (wx : World) (bt bx by1 : Nat) (pa pb : Option Addr) (oa ob : List Int), EB w wx bt bx by1 c na nb pa pb oa ob UA UB → NN wx na pa oa (Ie.sn na UA) 2100) := by
    intro wx bt bx by1 pa pb oa ob h
    obtain ⟨_, _, _, ⟨B, A1⟩, B', A2⟩ := h
    exact ⟨B, UA, A1, rfl, nA, bA⟩
  have YB : Hid (∀ (wx : World) (bt bx by1 : Nat) (pa pb : Option Addr) (oa ob : List Int), EB w wx bt bx by1 c na nb pa pb oa ob UA UB → NN wx nb pb ob (Ie.sn nb UB) 2100) := by
    intro wx bt bx by1 pa pb oa ob h
    obtain ⟨_, _, _, ⟨B, A1⟩, B', A2⟩ := h
    exact ⟨B', UB, A2, rfl, nB, bB⟩
  have UD := hid (fun (wx : World) => nn_units d wx d0 d1 fd)
  have LF := hid (fun (wx : World) (n1 : Bool) (p1 : Option Addr) (o1 : List Int) (z1 : Int) (K1 : Nat) (k1 : K1 ≤ 4500) (h1 : NN wx n1 p1 o1 z1 K1) => nn_lift K1 k1 h1)
  clear fd d0 d1 bA bB nA nB
  generalize Ie.us d = ud at *
  generalize (2 : Int) ^ 1074 = PP at *
  simp only [threeOf]
  go_enter Tryd.func33, Tryd.ntmps33
  go_wp2_with fail
  have T0 : Hid (Below w.heap.size w (w.alloc (.cells #[.int .u64 a, .int .u64 b, .int .u64 c] 42)) ∧ (w.alloc (.cells #[.int .u64 a, .int .u64 b, .int .u64 c] 42)).cell? ⟨w.heap.size, 1, none⟩ = some (.int .u64 b) ∧ (w.alloc (.cells #[.int .u64 a, .int .u64 b, .int .u64 c] 42)).cell? ⟨w.heap.size, 2, none⟩ = some (.int .u64 c)) := ⟨alloc_b w _, by simp, by simp⟩
  generalize w.alloc (.cells #[.int .u64 a, .int .u64 b, .int .u64 c] 42) = w1 at *
  refine (UAc.out _).mono ?_
  rintro e w4 ⟨pa, oa, rfl, Aa, hB⟩
  have T1 : Hid (Below w.heap.size w w4 ∧ w4.cell? ⟨w.heap.size, 1, none⟩ = some (.int .u64 b) ∧ w4.cell? ⟨w.heap.size, 2, none⟩ = some (.int .u64 c)) := ⟨T0.out.1.trans (hB.mono T0.out.1.size), bcell hB T0.out.2.1, bcell hB T0.out.2.2⟩
  have Ka := hid Aa
  clear hB Aa T0 UAc
  simp only [numOf]
  go_upto_region 2 with fail
  have hb := alloc_b w4 (.cells #[.bool na, .slice pa oa.length oa.length] 28)
  have T2 : Hid (Below w.heap.size w (w4.alloc (.cells #[.bool na, .slice pa oa.length oa.length] 28)) ∧ (w4.alloc (.cells #[.bool na, .slice pa oa.length oa.length] 28)).cell? ⟨w.heap.size, 1, none⟩ = some (.int .u64 b) ∧ (w4.alloc (.cells #[.bool na, .slice pa oa.length oa.length] 28)).cell? ⟨w.heap.size, 2, none⟩ = some (.int .u64 c)) := ⟨T1.out.1.trans (hb.mono T1.out.1.size), bcell hb T1.out.2.1, bcell hb T1.out.2.2⟩
  have R1 := hid (Row2.new w4 28 (.bool na) (.slice pa oa.length oa.length))
  have Ka2 := hid (Ka.out.below hb (Nat.le_refl _))
  clear hb T1 Ka
  generalize hb1 : w4.heap.size = bx at *
  generalize hw1 : w4.alloc (.cells #[.bool na, .slice pa oa.length oa.length] 28) = w5 at *
  clear hb1 hw1
  have cb := T2.out.2.1
  go_wp2_with fail
  clear cb
  refine (UBc.out _).mono ?_
  rintro e w6 ⟨pb, ob, rfl, Ab, hB⟩
  have HB6 := hid hB
  have Kb := hid Ab
  clear hB Ab UBc
  simp only [numOf]
  go_upto_region 3 with fail
  have hb := alloc_b w6 (.cells #[.bool nb, .slice pb ob.length ob.length] 28)
  have S0 : Hid (EB w (w6.alloc (.cells #[.bool nb, .slice pb ob.length ob.length] 28)) w.heap.size bx w6.heap.size c na nb pa pb oa ob UA UB) :=
    ⟨(T2.out.1.trans (HB6.out.mono T2.out.1.size)).trans (hb.mono (T2.out.1.trans (HB6.out.mono T2.out.1.size)).size), bcell hb (bcell HB6.out T2.out.2.2), ⟨(R1.out.below HB6.out R1.out.lt).below hb (R1.out.below HB6.out R1.out.lt).lt, Row2.new w6 28 _ _⟩, ⟨_, (Ka2.out.below HB6.out (Nat.le_refl _)).below hb (Nat.le_refl _)⟩, ⟨_, Kb.out.below hb (Nat.le_refl _)⟩⟩
  clear hb HB6 R1 Ka2 Kb T2
  generalize hb2 : w6.heap.size = by1 at *
  generalize hw2 : w6.alloc (.cells #[.bool nb, .slice pb ob.length ob.length] 28) = w7 at *
  generalize hbt : w.heap.size = bt at S0
  clear hb2 hw2 hbt
  obtain ⟨x0, x1, y0, y1, z0⟩ := S0.out.flat
  go_wp2_with fail
  clear x0 x1 y0 y1 z0
  refine (nn_times 2100 2100 (by omega) (by omega) (XA.out _ _ _ _ _ _ _ _ S0.out) (YB.out _ _ _ _ _ _ _ _ S0.out)).mono ?_
  rintro e wx1 ⟨nt, pt, ot, rfl, NX, hB⟩
  have S1 := hid (S0.out.on hB)
  have Nt := hid NX
  clear NX
  clear hB S0
  simp only [numOf]
  go_wp2_with fail
  refine (UD.out _).mono ?_
  rintro e wx2 ⟨nd, pd, od, rfl, NX, hB⟩
  have S2 := hid (S1.out.on hB)
  have Lt := hid (Nt.out.on hB)
  clear Nt
  have Nt := Lt
  clear Lt
  have Nd := hid NX
  clear NX
  clear hB S1
  simp only [numOf]
  go_wp2_with fail
  refine (LF.out _ _ _ _ _ 2099 (by omega) Nd.out).mono ?_
  rintro e wx3 ⟨nl, pl, ol, rfl, NX, hB⟩
  have S3 := hid (S2.out.on hB)
  have Lt := hid (Nt.out.on hB)
  clear Nt
  have Nt := Lt
  clear Lt
  have Nl := hid NX
  clear NX
  clear hB S2
  simp only [numOf]
  go_wp2_with fail
  refine (nn_same _ _ (by omega) (by omega) Nt.out Nl.out).mono ?_
  rintro e wx4 ⟨rfl, hB⟩
  have S4 := hid (S3.out.on hB)
  clear hB S3
  go_wp2_with fail
  go_ret
  exact ⟨rfl, S4.out.1⟩

set_option maxRecDepth 100000 in
set_option maxHeartbeats 8000000 in
theorem exact4 (a b c d : Int) (w : World) (na nb : Bool) (UA UB : Int) (d0 : 0 ≤ d) (d1 : d < 18446744073709551616) (fd : Ie.fin d) (nA : 0 ≤ UA) (nB : 0 ≤ UB) (bA : UA < 2 ^ 2100) (bB : UB < 2 ^ 2100)
    (UAc : Hid (∀ wx : World, Calls Tryd.prog 13 #[.int .u64 a] wx fun e w' => ∃ p os, e = .returned (numOf na p (List.length os) (List.length os)) ∧ Ans wx.heap.size w' p os UA ∧ Below wx.heap.size wx w'))
    (UBc : Hid (∀ wx : World, Calls Tryd.prog 13 #[.int .u64 b] wx fun e w' => ∃ p os, e = .returned (numOf nb p (List.length os) (List.length os)) ∧ Ans wx.heap.size w' p os UB ∧ Below wx.heap.size wx w')) :
    Calls Tryd.prog 33 #[.int .i64 4, threeOf a b c, .int .u64 d] w fun e w' => e = .returned (.bool (decide (Ie.sn na UA * 2 ^ 1074 = Ie.sn nb UB * Ie.us d))) ∧ Below w.heap.size w w' := by
  have XA : Hid (∀ (wx : World) (bt bx by1 : Nat) (pa pb : Option Addr) (oa ob : List Int), EB w wx bt bx by1 c na nb pa pb oa ob UA UB → NN wx na pa oa (Ie.sn na UA) 2100) := by
    intro wx bt bx by1 pa pb oa ob h
    obtain ⟨_, _, _, ⟨B, A1⟩, B', A2⟩ := h
    exact ⟨B, UA, A1, rfl, nA, bA⟩
  have YB : Hid (∀ (wx : World) (bt bx by1 : Nat) (pa pb : Option Addr) (oa ob : List Int), EB w wx bt bx by1 c na nb pa pb oa ob UA UB → NN wx nb pb ob (Ie.sn nb UB) 2100) := by
    intro wx bt bx by1 pa pb oa ob h
    obtain ⟨_, _, _, ⟨B, A1⟩, B', A2⟩ := h
    exact ⟨B', UB, A2, rfl, nB, bB⟩
  have UD := hid (fun (wx : World) => nn_units d wx d0 d1 fd)
  have LF := hid (fun (wx : World) (n1 : Bool) (p1 : Option Addr) (o1 : List Int) (z1 : Int) (K1 : Nat) (k1 : K1 ≤ 4500) (h1 : NN wx n1 p1 o1 z1 K1) => nn_lift K1 k1 h1)
  clear fd d0 d1 bA bB nA nB
  generalize Ie.us d = ud at *
  generalize (2 : Int) ^ 1074 = PP at *
  simp only [threeOf]
  go_enter Tryd.func33, Tryd.ntmps33
  go_wp2_with fail
  have T0 : Hid (Below w.heap.size w (w.alloc (.cells #[.int .u64 a, .int .u64 b, .int .u64 c] 42)) ∧ (w.alloc (.cells #[.int .u64 a, .int .u64 b, .int .u64 c] 42)).cell? ⟨w.heap.size, 1, none⟩ = some (.int .u64 b) ∧ (w.alloc (.cells #[.int .u64 a, .int .u64 b, .int .u64 c] 42)).cell? ⟨w.heap.size, 2, none⟩ = some (.int .u64 c)) := ⟨alloc_b w _, by simp, by simp⟩
  generalize w.alloc (.cells #[.int .u64 a, .int .u64 b, .int .u64 c] 42) = w1 at *
  refine (UAc.out _).mono ?_
  rintro e w4 ⟨pa, oa, rfl, Aa, hB⟩
  have T1 : Hid (Below w.heap.size w w4 ∧ w4.cell? ⟨w.heap.size, 1, none⟩ = some (.int .u64 b) ∧ w4.cell? ⟨w.heap.size, 2, none⟩ = some (.int .u64 c)) := ⟨T0.out.1.trans (hB.mono T0.out.1.size), bcell hB T0.out.2.1, bcell hB T0.out.2.2⟩
  have Ka := hid Aa
  clear hB Aa T0 UAc
  simp only [numOf]
  go_upto_region 2 with fail
  have hb := alloc_b w4 (.cells #[.bool na, .slice pa oa.length oa.length] 28)
  have T2 : Hid (Below w.heap.size w (w4.alloc (.cells #[.bool na, .slice pa oa.length oa.length] 28)) ∧ (w4.alloc (.cells #[.bool na, .slice pa oa.length oa.length] 28)).cell? ⟨w.heap.size, 1, none⟩ = some (.int .u64 b) ∧ (w4.alloc (.cells #[.bool na, .slice pa oa.length oa.length] 28)).cell? ⟨w.heap.size, 2, none⟩ = some (.int .u64 c)) := ⟨T1.out.1.trans (hb.mono T1.out.1.size), bcell hb T1.out.2.1, bcell hb T1.out.2.2⟩
  have R1 := hid (Row2.new w4 28 (.bool na) (.slice pa oa.length oa.length))
  have Ka2 := hid (Ka.out.below hb (Nat.le_refl _))
  clear hb T1 Ka
  generalize hb1 : w4.heap.size = bx at *
  generalize hw1 : w4.alloc (.cells #[.bool na, .slice pa oa.length oa.length] 28) = w5 at *
  clear hb1 hw1
  have cb := T2.out.2.1
  go_wp2_with fail
  clear cb
  refine (UBc.out _).mono ?_
  rintro e w6 ⟨pb, ob, rfl, Ab, hB⟩
  have HB6 := hid hB
  have Kb := hid Ab
  clear hB Ab UBc
  simp only [numOf]
  go_upto_region 3 with fail
  have hb := alloc_b w6 (.cells #[.bool nb, .slice pb ob.length ob.length] 28)
  have S0 : Hid (EB w (w6.alloc (.cells #[.bool nb, .slice pb ob.length ob.length] 28)) w.heap.size bx w6.heap.size c na nb pa pb oa ob UA UB) :=
    ⟨(T2.out.1.trans (HB6.out.mono T2.out.1.size)).trans (hb.mono (T2.out.1.trans (HB6.out.mono T2.out.1.size)).size), bcell hb (bcell HB6.out T2.out.2.2), ⟨(R1.out.below HB6.out R1.out.lt).below hb (R1.out.below HB6.out R1.out.lt).lt, Row2.new w6 28 _ _⟩, ⟨_, (Ka2.out.below HB6.out (Nat.le_refl _)).below hb (Nat.le_refl _)⟩, ⟨_, Kb.out.below hb (Nat.le_refl _)⟩⟩
  clear hb HB6 R1 Ka2 Kb T2
  generalize hb2 : w6.heap.size = by1 at *
  generalize hw2 : w6.alloc (.cells #[.bool nb, .slice pb ob.length ob.length] 28) = w7 at *
  generalize hbt : w.heap.size = bt at S0
  clear hb2 hw2 hbt
  have S1 := hid (S0.out.on (drew_reflE _))
  obtain ⟨x0, x1, y0, y1, z0⟩ := S0.out.flat
  go_upto_region 11 with fail
  go_region_held3 (fun w' => w'.cell? ⟨bx, 0, none⟩ = some (.bool na) ∧ w'.cell? ⟨bx, 1, none⟩ = some (.slice pa oa.length oa.length) ∧ w'.cell? ⟨by1, 0, none⟩ = some (.bool nb) ∧ w'.cell? ⟨by1, 1, none⟩ = some (.slice pb ob.length ob.length) ∧ w'.cell? ⟨bt, 2, none⟩ = some (.int .u64 c)) (first | (with_reducible exact S5.out.flat) | (with_reducible exact S4.out.flat) | (with_reducible exact S3.out.flat) | (with_reducible exact S2.out.flat) | (with_reducible exact S1.out.flat)) (first
    | (go_at_call 12; have SP := S1; refine (LF.out _ _ _ _ _ 2100 (by omega) (XA.out _ _ _ _ _ _ _ _ S1.out)).mono ?_; rintro e wx2 ⟨nl, pl, ol, rfl, NX, hB⟩; have S2 := hid (SP.out.on hB); have Nl := hid NX; clear NX; simp only [numOf]; clear hB SP)
    | (go_at_call 13; have SP := S2; refine (UD.out _).mono ?_; rintro e wx3 ⟨nd, pd, od, rfl, NX, hB⟩; have S3 := hid (SP.out.on hB); have Nl3 := hid (Nl.out.on hB); have Nd := hid NX; clear NX; simp only [numOf]; clear hB SP)
    | (go_at_call 18; have SP := S3; refine (nn_times 2100 2099 (by omega) (by omega) (YB.out _ _ _ _ _ _ _ _ S3.out) Nd.out).mono ?_; rintro e wx4 ⟨nt, pt, ot, rfl, NX, hB⟩; have S4 := hid (SP.out.on hB); have Nl34 := hid (Nl3.out.on hB); have Nt := hid NX; clear NX; simp only [numOf]; clear hB SP)
    | (go_at_call 21; have SP := S4; refine (nn_same _ _ (by omega) (by omega) Nl34.out Nt.out).mono ?_; rintro e wx5 ⟨rfl, hB⟩; have S5 := hid (SP.out.on hB); clear hB SP))
  all_goals (go_wp2_with fail; go_ret; exact ⟨rfl, S5.out.1⟩)

set_option maxRecDepth 100000 in
set_option maxHeartbeats 8000000 in
theorem exact5 (a b c d : Int) (w : World) (na nb : Bool) (UA UB : Int) (d0 : 0 ≤ d) (d1 : d < 18446744073709551616) (fd : Ie.fin d) (nA : 0 ≤ UA) (nB : 0 ≤ UB) (bA : UA < 2 ^ 2100) (bB : UB < 2 ^ 2100)
    (UAc : Hid (∀ wx : World, Calls Tryd.prog 13 #[.int .u64 a] wx fun e w' => ∃ p os, e = .returned (numOf na p (List.length os) (List.length os)) ∧ Ans wx.heap.size w' p os UA ∧ Below wx.heap.size wx w'))
    (UBc : Hid (∀ wx : World, Calls Tryd.prog 13 #[.int .u64 b] wx fun e w' => ∃ p os, e = .returned (numOf nb p (List.length os) (List.length os)) ∧ Ans wx.heap.size w' p os UB ∧ Below wx.heap.size wx w')) :
    Calls Tryd.prog 33 #[.int .i64 5, threeOf a b c, .int .u64 d] w fun e w' => e = .returned (.bool (decide (Ie.sn na UA * 2 ^ 1074 = Ie.us d * Ie.us d))) ∧ Below w.heap.size w w' := by
  have XA : Hid (∀ (wx : World) (bt bx by1 : Nat) (pa pb : Option Addr) (oa ob : List Int), EB w wx bt bx by1 c na nb pa pb oa ob UA UB → NN wx na pa oa (Ie.sn na UA) 2100) := by
    intro wx bt bx by1 pa pb oa ob h
    obtain ⟨_, _, _, ⟨B, A1⟩, B', A2⟩ := h
    exact ⟨B, UA, A1, rfl, nA, bA⟩
  have YB : Hid (∀ (wx : World) (bt bx by1 : Nat) (pa pb : Option Addr) (oa ob : List Int), EB w wx bt bx by1 c na nb pa pb oa ob UA UB → NN wx nb pb ob (Ie.sn nb UB) 2100) := by
    intro wx bt bx by1 pa pb oa ob h
    obtain ⟨_, _, _, ⟨B, A1⟩, B', A2⟩ := h
    exact ⟨B', UB, A2, rfl, nB, bB⟩
  have UD := hid (fun (wx : World) => nn_units d wx d0 d1 fd)
  have LF := hid (fun (wx : World) (n1 : Bool) (p1 : Option Addr) (o1 : List Int) (z1 : Int) (K1 : Nat) (k1 : K1 ≤ 4500) (h1 : NN wx n1 p1 o1 z1 K1) => nn_lift K1 k1 h1)
  clear fd d0 d1 bA bB nA nB
  generalize Ie.us d = ud at *
  generalize (2 : Int) ^ 1074 = PP at *
  simp only [threeOf]
  go_enter Tryd.func33, Tryd.ntmps33
  go_wp2_with fail
  have T0 : Hid (Below w.heap.size w (w.alloc (.cells #[.int .u64 a, .int .u64 b, .int .u64 c] 42)) ∧ (w.alloc (.cells #[.int .u64 a, .int .u64 b, .int .u64 c] 42)).cell? ⟨w.heap.size, 1, none⟩ = some (.int .u64 b) ∧ (w.alloc (.cells #[.int .u64 a, .int .u64 b, .int .u64 c] 42)).cell? ⟨w.heap.size, 2, none⟩ = some (.int .u64 c)) := ⟨alloc_b w _, by simp, by simp⟩
  generalize w.alloc (.cells #[.int .u64 a, .int .u64 b, .int .u64 c] 42) = w1 at *
  refine (UAc.out _).mono ?_
  rintro e w4 ⟨pa, oa, rfl, Aa, hB⟩
  have T1 : Hid (Below w.heap.size w w4 ∧ w4.cell? ⟨w.heap.size, 1, none⟩ = some (.int .u64 b) ∧ w4.cell? ⟨w.heap.size, 2, none⟩ = some (.int .u64 c)) := ⟨T0.out.1.trans (hB.mono T0.out.1.size), bcell hB T0.out.2.1, bcell hB T0.out.2.2⟩
  have Ka := hid Aa
  clear hB Aa T0 UAc
  simp only [numOf]
  go_upto_region 2 with fail
  have hb := alloc_b w4 (.cells #[.bool na, .slice pa oa.length oa.length] 28)
  have T2 : Hid (Below w.heap.size w (w4.alloc (.cells #[.bool na, .slice pa oa.length oa.length] 28)) ∧ (w4.alloc (.cells #[.bool na, .slice pa oa.length oa.length] 28)).cell? ⟨w.heap.size, 1, none⟩ = some (.int .u64 b) ∧ (w4.alloc (.cells #[.bool na, .slice pa oa.length oa.length] 28)).cell? ⟨w.heap.size, 2, none⟩ = some (.int .u64 c)) := ⟨T1.out.1.trans (hb.mono T1.out.1.size), bcell hb T1.out.2.1, bcell hb T1.out.2.2⟩
  have R1 := hid (Row2.new w4 28 (.bool na) (.slice pa oa.length oa.length))
  have Ka2 := hid (Ka.out.below hb (Nat.le_refl _))
  clear hb T1 Ka
  generalize hb1 : w4.heap.size = bx at *
  generalize hw1 : w4.alloc (.cells #[.bool na, .slice pa oa.length oa.length] 28) = w5 at *
  clear hb1 hw1
  have cb := T2.out.2.1
  go_wp2_with fail
  clear cb
  refine (UBc.out _).mono ?_
  rintro e w6 ⟨pb, ob, rfl, Ab, hB⟩
  have HB6 := hid hB
  have Kb := hid Ab
  clear hB Ab UBc
  simp only [numOf]
  go_upto_region 3 with fail
  have hb := alloc_b w6 (.cells #[.bool nb, .slice pb ob.length ob.length] 28)
  have S0 : Hid (EB w (w6.alloc (.cells #[.bool nb, .slice pb ob.length ob.length] 28)) w.heap.size bx w6.heap.size c na nb pa pb oa ob UA UB) :=
    ⟨(T2.out.1.trans (HB6.out.mono T2.out.1.size)).trans (hb.mono (T2.out.1.trans (HB6.out.mono T2.out.1.size)).size), bcell hb (bcell HB6.out T2.out.2.2), ⟨(R1.out.below HB6.out R1.out.lt).below hb (R1.out.below HB6.out R1.out.lt).lt, Row2.new w6 28 _ _⟩, ⟨_, (Ka2.out.below HB6.out (Nat.le_refl _)).below hb (Nat.le_refl _)⟩, ⟨_, Kb.out.below hb (Nat.le_refl _)⟩⟩
  clear hb HB6 R1 Ka2 Kb T2
  generalize hb2 : w6.heap.size = by1 at *
  generalize hw2 : w6.alloc (.cells #[.bool nb, .slice pb ob.length ob.length] 28) = w7 at *
  generalize hbt : w.heap.size = bt at S0
  clear hb2 hw2 hbt
  obtain ⟨x0, x1, y0, y1, z0⟩ := S0.out.flat
  go_wp2_with fail
  clear x0 x1 y0 y1 z0
  refine (LF.out _ _ _ _ _ 2100 (by omega) (XA.out _ _ _ _ _ _ _ _ S0.out)).mono ?_
  rintro e wx1 ⟨nl, pl, ol, rfl, NX, hB⟩
  have S1 := hid (S0.out.on hB)
  have Nl := hid NX
  clear NX
  clear hB S0
  simp only [numOf]
  go_wp2_with fail
  refine (UD.out _).mono ?_
  rintro e wx2 ⟨nd, pd, od, rfl, NX, hB⟩
  have S2 := hid (S1.out.on hB)
  have Ll := hid (Nl.out.on hB)
  clear Nl
  have Nl := Ll
  clear Ll
  have Nd := hid NX
  clear NX
  clear hB S1
  simp only [numOf]
  go_wp2_with fail
  refine (UD.out _).mono ?_
  rintro e wx3 ⟨nf, pf, of, rfl, NX, hB⟩
  have S3 := hid (S2.out.on hB)
  have Ll := hid (Nl.out.on hB)
  clear Nl
  have Nl := Ll
  clear Ll
  have Ld := hid (Nd.out.on hB)
  clear Nd
  have Nd := Ld
  clear Ld
  have Nf := hid NX
  clear NX
  clear hB S2
  simp only [numOf]
  go_wp2_with fail
  refine (nn_times 2099 2099 (by omega) (by omega) Nd.out Nf.out).mono ?_
  rintro e wx4 ⟨nt, pt, ot, rfl, NX, hB⟩
  have S4 := hid (S3.out.on hB)
  have Ll := hid (Nl.out.on hB)
  clear Nl
  have Nl := Ll
  clear Ll
  have Nt := hid NX
  clear NX
  clear hB S3
  simp only [numOf]
  go_wp2_with fail
  refine (nn_same _ _ (by omega) (by omega) Nl.out Nt.out).mono ?_
  rintro e wx5 ⟨rfl, hB⟩
  have S5 := hid (S4.out.on hB)
  clear hB S4
  go_wp2_with fail
  go_ret
  exact ⟨rfl, S5.out.1⟩

set_option maxRecDepth 100000 in
set_option maxHeartbeats 8000000 in
theorem exact6 (a b c d : Int) (w : World) (na nb : Bool) (UA UB : Int) (d0 : 0 ≤ d) (d1 : d < 18446744073709551616) (fd : Ie.fin d) (nA : 0 ≤ UA) (nB : 0 ≤ UB) (c0 : 0 ≤ c) (c1 : c < 18446744073709551616) (fc : Ie.fin c) (bA : UA < 2 ^ 2100) (bB : UB < 2 ^ 2100)
    (UAc : Hid (∀ wx : World, Calls Tryd.prog 13 #[.int .u64 a] wx fun e w' => ∃ p os, e = .returned (numOf na p (List.length os) (List.length os)) ∧ Ans wx.heap.size w' p os UA ∧ Below wx.heap.size wx w'))
    (UBc : Hid (∀ wx : World, Calls Tryd.prog 13 #[.int .u64 b] wx fun e w' => ∃ p os, e = .returned (numOf nb p (List.length os) (List.length os)) ∧ Ans wx.heap.size w' p os UB ∧ Below wx.heap.size wx w')) :
    Calls Tryd.prog 33 #[.int .i64 6, threeOf a b c, .int .u64 d] w fun e w' => e = .returned (.bool (decide (Ie.sn na UA * Ie.sn nb UB + Ie.us c * 2 ^ 1074 = Ie.us d * 2 ^ 1074))) ∧ Below w.heap.size w w' := by
  have XA : Hid (∀ (wx : World) (bt bx by1 : Nat) (pa pb : Option Addr) (oa ob : List Int), EB w wx bt bx by1 c na nb pa pb oa ob UA UB → NN wx na pa oa (Ie.sn na UA) 2100) := by
    intro wx bt bx by1 pa pb oa ob h
    obtain ⟨_, _, _, ⟨B, A1⟩, B', A2⟩ := h
    exact ⟨B, UA, A1, rfl, nA, bA⟩
  have YB : Hid (∀ (wx : World) (bt bx by1 : Nat) (pa pb : Option Addr) (oa ob : List Int), EB w wx bt bx by1 c na nb pa pb oa ob UA UB → NN wx nb pb ob (Ie.sn nb UB) 2100) := by
    intro wx bt bx by1 pa pb oa ob h
    obtain ⟨_, _, _, ⟨B, A1⟩, B', A2⟩ := h
    exact ⟨B', UB, A2, rfl, nB, bB⟩
  have UD := hid (fun (wx : World) => nn_units d wx d0 d1 fd)
  have LF := hid (fun (wx : World) (n1 : Bool) (p1 : Option Addr) (o1 : List Int) (z1 : Int) (K1 : Nat) (k1 : K1 ≤ 4500) (h1 : NN wx n1 p1 o1 z1 K1) => nn_lift K1 k1 h1)
  have UC := hid (fun (wx : World) => nn_units c wx c0 c1 fc)
  clear fd d0 d1 bA bB nA nB fc c0 c1
  generalize Ie.us d = ud at *
  generalize (2 : Int) ^ 1074 = PP at *
  generalize Ie.us c = uc at *
  simp only [threeOf]
  go_enter Tryd.func33, Tryd.ntmps33
  go_wp2_with fail
  have T0 : Hid (Below w.heap.size w (w.alloc (.cells #[.int .u64 a, .int .u64 b, .int .u64 c] 42)) ∧ (w.alloc (.cells #[.int .u64 a, .int .u64 b, .int .u64 c] 42)).cell? ⟨w.heap.size, 1, none⟩ = some (.int .u64 b) ∧ (w.alloc (.cells #[.int .u64 a, .int .u64 b, .int .u64 c] 42)).cell? ⟨w.heap.size, 2, none⟩ = some (.int .u64 c)) := ⟨alloc_b w _, by simp, by simp⟩
  generalize w.alloc (.cells #[.int .u64 a, .int .u64 b, .int .u64 c] 42) = w1 at *
  refine (UAc.out _).mono ?_
  rintro e w4 ⟨pa, oa, rfl, Aa, hB⟩
  have T1 : Hid (Below w.heap.size w w4 ∧ w4.cell? ⟨w.heap.size, 1, none⟩ = some (.int .u64 b) ∧ w4.cell? ⟨w.heap.size, 2, none⟩ = some (.int .u64 c)) := ⟨T0.out.1.trans (hB.mono T0.out.1.size), bcell hB T0.out.2.1, bcell hB T0.out.2.2⟩
  have Ka := hid Aa
  clear hB Aa T0 UAc
  simp only [numOf]
  go_upto_region 2 with fail
  have hb := alloc_b w4 (.cells #[.bool na, .slice pa oa.length oa.length] 28)
  have T2 : Hid (Below w.heap.size w (w4.alloc (.cells #[.bool na, .slice pa oa.length oa.length] 28)) ∧ (w4.alloc (.cells #[.bool na, .slice pa oa.length oa.length] 28)).cell? ⟨w.heap.size, 1, none⟩ = some (.int .u64 b) ∧ (w4.alloc (.cells #[.bool na, .slice pa oa.length oa.length] 28)).cell? ⟨w.heap.size, 2, none⟩ = some (.int .u64 c)) := ⟨T1.out.1.trans (hb.mono T1.out.1.size), bcell hb T1.out.2.1, bcell hb T1.out.2.2⟩
  have R1 := hid (Row2.new w4 28 (.bool na) (.slice pa oa.length oa.length))
  have Ka2 := hid (Ka.out.below hb (Nat.le_refl _))
  clear hb T1 Ka
  generalize hb1 : w4.heap.size = bx at *
  generalize hw1 : w4.alloc (.cells #[.bool na, .slice pa oa.length oa.length] 28) = w5 at *
  clear hb1 hw1
  have cb := T2.out.2.1
  go_wp2_with fail
  clear cb
  refine (UBc.out _).mono ?_
  rintro e w6 ⟨pb, ob, rfl, Ab, hB⟩
  have HB6 := hid hB
  have Kb := hid Ab
  clear hB Ab UBc
  simp only [numOf]
  go_upto_region 3 with fail
  have hb := alloc_b w6 (.cells #[.bool nb, .slice pb ob.length ob.length] 28)
  have S0 : Hid (EB w (w6.alloc (.cells #[.bool nb, .slice pb ob.length ob.length] 28)) w.heap.size bx w6.heap.size c na nb pa pb oa ob UA UB) :=
    ⟨(T2.out.1.trans (HB6.out.mono T2.out.1.size)).trans (hb.mono (T2.out.1.trans (HB6.out.mono T2.out.1.size)).size), bcell hb (bcell HB6.out T2.out.2.2), ⟨(R1.out.below HB6.out R1.out.lt).below hb (R1.out.below HB6.out R1.out.lt).lt, Row2.new w6 28 _ _⟩, ⟨_, (Ka2.out.below HB6.out (Nat.le_refl _)).below hb (Nat.le_refl _)⟩, ⟨_, Kb.out.below hb (Nat.le_refl _)⟩⟩
  clear hb HB6 R1 Ka2 Kb T2
  generalize hb2 : w6.heap.size = by1 at *
  generalize hw2 : w6.alloc (.cells #[.bool nb, .slice pb ob.length ob.length] 28) = w7 at *
  generalize hbt : w.heap.size = bt at S0
  clear hb2 hw2 hbt
  have S1 := hid (S0.out.on (drew_reflE _))
  obtain ⟨x0, x1, y0, y1, z0⟩ := S0.out.flat
  go_upto_region 14 with fail
  go_region_held3 (fun w' => w'.cell? ⟨bx, 0, none⟩ = some (.bool na) ∧ w'.cell? ⟨bx, 1, none⟩ = some (.slice pa oa.length oa.length) ∧ w'.cell? ⟨by1, 0, none⟩ = some (.bool nb) ∧ w'.cell? ⟨by1, 1, none⟩ = some (.slice pb ob.length ob.length) ∧ w'.cell? ⟨bt, 2, none⟩ = some (.int .u64 c)) (first | (with_reducible exact S8.out.flat) | (with_reducible exact S7.out.flat) | (with_reducible exact S6.out.flat) | (with_reducible exact S5.out.flat) | (with_reducible exact S4.out.flat) | (with_reducible exact S3.out.flat) | (with_reducible exact S2.out.flat) | (with_reducible exact S1.out.flat)) (first
    | (go_at_call 18; have SP := S1; refine (nn_times 2100 2100 (by omega) (by omega) (XA.out _ _ _ _ _ _ _ _ S1.out) (YB.out _ _ _ _ _ _ _ _ S1.out)).mono ?_; rintro e wx2 ⟨nt, pt, ot, rfl, NX, hB⟩; have S2 := hid (SP.out.on hB); have Nt := hid NX; clear NX; simp only [numOf]; clear hB SP)
    | (go_at_call_of 13 c; have SP := S2; refine (UC.out _).mono ?_; rintro e wx3 ⟨nu, pu, ou, rfl, NX, hB⟩; have S3 := hid (SP.out.on hB); have Nt3 := hid (Nt.out.on hB); have Nu := hid NX; clear NX; simp only [numOf]; clear hB SP)
    | (go_at_call_of 13 d; have SP := S5; refine (UD.out _).mono ?_; rintro e wx6 ⟨nd, pd, od, rfl, NX, hB⟩; have S6 := hid (SP.out.on hB); have Np6 := hid (Np.out.on hB); have Nd := hid NX; clear NX; simp only [numOf]; clear hB SP)
    | (go_at_call 12; have SP := S6; refine (LF.out _ _ _ _ _ 2099 (by omega) Nd.out).mono ?_; rintro e wx7 ⟨nm, pm, om, rfl, NX, hB⟩; have S7 := hid (SP.out.on hB); have Np67 := hid (Np6.out.on hB); have Nm := hid NX; clear NX; simp only [numOf]; clear hB SP)
    | (go_at_call 12; have SP := S3; refine (LF.out _ _ _ _ _ 2099 (by omega) Nu.out).mono ?_; rintro e wx4 ⟨nl, pl, ol, rfl, NX, hB⟩; have S4 := hid (SP.out.on hB); have Nt34 := hid (Nt3.out.on hB); have Nl := hid NX; clear NX; simp only [numOf]; clear hB SP)
    | (go_at_call 14; have SP := S4; refine (nn_plus _ _ 4200 (by omega) (by omega) (by omega) Nt34.out Nl.out).mono ?_; rintro e wx5 ⟨np, pp, op, rfl, NX, hB⟩; have S5 := hid (SP.out.on hB); have Np := hid NX; clear NX; simp only [numOf]; clear hB SP)
    | (go_at_call 21; have SP := S7; refine (nn_same _ _ (by omega) (by omega) Np67.out Nm.out).mono ?_; rintro e wx8 ⟨rfl, hB⟩; have S8 := hid (SP.out.on hB); clear hB SP))
  all_goals (go_wp2_with fail; go_ret; exact ⟨rfl, S8.out.1⟩)

end Go.Proofs.YtjebdobopechfabDoor

/-
  law05: usual (made by mkyown.py).
-/
namespace Go.Proofs.YtjebdobopechfabDoor
open Go Go.RowKit Go.Deep

namespace Ie
def fnb (d : Int) : Bool := decide (ab d < 9218868437227405312)
/-- usual, by the operation's number. -/
def usb (op a b c : Int) : Bool :=
  if op = 5 then fnb a && decide (a ≤ 9223372036854775808)
  else if op = 6 then fnb a && fnb b && fnb c
  else if op = 4 then fnb a && fnb b && !(ab b == 0)
  else fnb a && fnb b
end Ie

set_option maxRecDepth 100000 in
set_option maxHeartbeats 4000000 in
theorem usual1 (a b c : Int) (w : World) (a0 : 0 ≤ a) (a1 : a < 18446744073709551616) (b0 : 0 ≤ b) (b1 : b < 18446744073709551616) (c0 : 0 ≤ c) (c1 : c < 18446744073709551616) :
    Calls Tryd.prog 32 #[.int .i64 1, threeOf a b c] w fun e w' => e = .returned (.bool (Ie.usb 1 a b c)) ∧ Below w.heap.size w w' := by
  have FA := hid (fun (wx : World) => yfinite_any a wx a0 a1)
  have FB := hid (fun (wx : World) => yfinite_any b wx b0 b1)
  have FC := hid (fun (wx : World) => yfinite_any c wx c0 c1)
  have AB := hid (alloc_b w)
  have SB := Ib.sign_andNot b b0 b1
  rw [← Ie.ab] at SB
  clear c0 c1
  have UU : Ie.usb 1 a b c = (Ie.fnb a && Ie.fnb b) := by
    simp [Ie.usb]
  rw [UU, Ie.fnb, Ie.fnb]
  clear UU
  generalize Ie.ab b = xb at *
  simp only [threeOf]
  obtain ⟨za, hza⟩ : ∃ z, decide (Ie.ab a < 9218868437227405312) = z := ⟨_, rfl⟩
  rw [hza] at FA ⊢
  cases za
  · go_enter Tryd.func32, Tryd.ntmps32
    go_wp2_with fail
    refine (FA.out _).mono ?_
    rintro e wz ⟨rfl, hz⟩
    replace hz := hz.symm
    subst hz
    go_wp2_with fail
    go_ret
    exact ⟨by simp, AB.out _⟩
  · obtain ⟨zb, hzb⟩ : ∃ z, decide (xb < 9218868437227405312) = z := ⟨_, rfl⟩
    rw [hzb] at FB ⊢
    cases zb
    · go_enter Tryd.func32, Tryd.ntmps32
      go_wp2_with fail
      refine (FA.out _).mono ?_
      rintro e wz ⟨rfl, hz⟩
      replace hz := hz.symm
      subst hz
      go_wp2_with fail
      refine (FB.out _).mono ?_
      rintro e wz ⟨rfl, hz⟩
      replace hz := hz.symm
      subst hz
      go_wp2_with fail
      go_ret
      exact ⟨by simp, AB.out _⟩
    · go_enter Tryd.func32, Tryd.ntmps32
      go_wp2_with fail
      refine (FA.out _).mono ?_
      rintro e wz ⟨rfl, hz⟩
      replace hz := hz.symm
      subst hz
      go_wp2_with fail
      refine (FB.out _).mono ?_
      rintro e wz ⟨rfl, hz⟩
      replace hz := hz.symm
      subst hz
      go_wp2_with fail
      go_ret
      exact ⟨rfl, AB.out _⟩

set_option maxRecDepth 100000 in
set_option maxHeartbeats 4000000 in
theorem usual2 (a b c : Int) (w : World) (a0 : 0 ≤ a) (a1 : a < 18446744073709551616) (b0 : 0 ≤ b) (b1 : b < 18446744073709551616) (c0 : 0 ≤ c) (c1 : c < 18446744073709551616) :
    Calls Tryd.prog 32 #[.int .i64 2, threeOf a b c] w fun e w' => e = .returned (.bool (Ie.usb 2 a b c)) ∧ Below w.heap.size w w' := by
  have FA := hid (fun (wx : World) => yfinite_any a wx a0 a1)
  have FB := hid (fun (wx : World) => yfinite_any b wx b0 b1)
  have FC := hid (fun (wx : World) => yfinite_any c wx c0 c1)
  have AB := hid (alloc_b w)
  have SB := Ib.sign_andNot b b0 b1
  rw [← Ie.ab] at SB
  clear c0 c1
  have UU : Ie.usb 2 a b c = (Ie.fnb a && Ie.fnb b) := by
    simp [Ie.usb]
  rw [UU, Ie.fnb, Ie.fnb]
  clear UU
  generalize Ie.ab b = xb at *
  simp only [threeOf]
  obtain ⟨za, hza⟩ : ∃ z, decide (Ie.ab a < 9218868437227405312) = z := ⟨_, rfl⟩
  rw [hza] at FA ⊢
  cases za
  · go_enter Tryd.func32, Tryd.ntmps32
    go_wp2_with fail
    refine (FA.out _).mono ?_
    rintro e wz ⟨rfl, hz⟩
    replace hz := hz.symm
    subst hz
    go_wp2_with fail
    go_ret
    exact ⟨by simp, AB.out _⟩
  · obtain ⟨zb, hzb⟩ : ∃ z, decide (xb < 9218868437227405312) = z := ⟨_, rfl⟩
    rw [hzb] at FB ⊢
    cases zb
    · go_enter Tryd.func32, Tryd.ntmps32
      go_wp2_with fail
      refine (FA.out _).mono ?_
      rintro e wz ⟨rfl, hz⟩
      replace hz := hz.symm
      subst hz
      go_wp2_with fail
      refine (FB.out _).mono ?_
      rintro e wz ⟨rfl, hz⟩
      replace hz := hz.symm
      subst hz
      go_wp2_with fail
      go_ret
      exact ⟨by simp, AB.out _⟩
    · go_enter Tryd.func32, Tryd.ntmps32
      go_wp2_with fail
      refine (FA.out _).mono ?_
      rintro e wz ⟨rfl, hz⟩
      replace hz := hz.symm
      subst hz
      go_wp2_with fail
      refine (FB.out _).mono ?_
      rintro e wz ⟨rfl, hz⟩
      replace hz := hz.symm
      subst hz
      go_wp2_with fail
      go_ret
      exact ⟨rfl, AB.out _⟩

set_option maxRecDepth 100000 in
set_option maxHeartbeats 4000000 in
theorem usual3 (a b c : Int) (w : World) (a0 : 0 ≤ a) (a1 : a < 18446744073709551616) (b0 : 0 ≤ b) (b1 : b < 18446744073709551616) (c0 : 0 ≤ c) (c1 : c < 18446744073709551616) :
    Calls Tryd.prog 32 #[.int .i64 3, threeOf a b c] w fun e w' => e = .returned (.bool (Ie.usb 3 a b c)) ∧ Below w.heap.size w w' := by
  have FA := hid (fun (wx : World) => yfinite_any a wx a0 a1)
  have FB := hid (fun (wx : World) => yfinite_any b wx b0 b1)
  have FC := hid (fun (wx : World) => yfinite_any c wx c0 c1)
  have AB := hid (alloc_b w)
  have SB := Ib.sign_andNot b b0 b1
  rw [← Ie.ab] at SB
  clear c0 c1
  have UU : Ie.usb 3 a b c = (Ie.fnb a && Ie.fnb b) := by
    simp [Ie.usb]
  rw [UU, Ie.fnb, Ie.fnb]
  clear UU
  generalize Ie.ab b = xb at *
  simp only [threeOf]
  obtain ⟨za, hza⟩ : ∃ z, decide (Ie.ab a < 9218868437227405312) = z := ⟨_, rfl⟩
  rw [hza] at FA ⊢
  cases za
  · go_enter Tryd.func32, Tryd.ntmps32
    go_wp2_with fail
    refine (FA.out _).mono ?_
    rintro e wz ⟨rfl, hz⟩
    replace hz := hz.symm
    subst hz
    go_wp2_with fail
    go_ret
    exact ⟨by simp, AB.out _⟩
  · obtain ⟨zb, hzb⟩ : ∃ z, decide (xb < 9218868437227405312) = z := ⟨_, rfl⟩
    rw [hzb] at FB ⊢
    cases zb
    · go_enter Tryd.func32, Tryd.ntmps32
      go_wp2_with fail
      refine (FA.out _).mono ?_
      rintro e wz ⟨rfl, hz⟩
      replace hz := hz.symm
      subst hz
      go_wp2_with fail
      refine (FB.out _).mono ?_
      rintro e wz ⟨rfl, hz⟩
      replace hz := hz.symm
      subst hz
      go_wp2_with fail
      go_ret
      exact ⟨by simp, AB.out _⟩
    · go_enter Tryd.func32, Tryd.ntmps32
      go_wp2_with fail
      refine (FA.out _).mono ?_
      rintro e wz ⟨rfl, hz⟩
      replace hz := hz.symm
      subst hz
      go_wp2_with fail
      refine (FB.out _).mono ?_
      rintro e wz ⟨rfl, hz⟩
      replace hz := hz.symm
      subst hz
      go_wp2_with fail
      go_ret
      exact ⟨rfl, AB.out _⟩

set_option maxRecDepth 100000 in
set_option maxHeartbeats 4000000 in
theorem usual4 (a b c : Int) (w : World) (a0 : 0 ≤ a) (a1 : a < 18446744073709551616) (b0 : 0 ≤ b) (b1 : b < 18446744073709551616) (c0 : 0 ≤ c) (c1 : c < 18446744073709551616) :
    Calls Tryd.prog 32 #[.int .i64 4, threeOf a b c] w fun e w' => e = .returned (.bool (Ie.usb 4 a b c)) ∧ Below w.heap.size w w' := by
  have FA := hid (fun (wx : World) => yfinite_any a wx a0 a1)
  have FB := hid (fun (wx : World) => yfinite_any b wx b0 b1)
  have FC := hid (fun (wx : World) => yfinite_any c wx c0 c1)
  have AB := hid (alloc_b w)
  have SB := Ib.sign_andNot b b0 b1
  rw [← Ie.ab] at SB
  clear c0 c1
  have UU : Ie.usb 4 a b c = (Ie.fnb a && Ie.fnb b && !(Ie.ab b == 0)) := by
    simp [Ie.usb]
  rw [UU, Ie.fnb, Ie.fnb]
  clear UU
  generalize Ie.ab b = xb at *
  simp only [threeOf]
  obtain ⟨za, hza⟩ : ∃ z, decide (Ie.ab a < 9218868437227405312) = z := ⟨_, rfl⟩
  rw [hza] at FA ⊢
  cases za
  · go_enter Tryd.func32, Tryd.ntmps32
    go_wp2_with fail
    refine (FA.out _).mono ?_
    rintro e wz ⟨rfl, hz⟩
    replace hz := hz.symm
    subst hz
    go_wp2_with fail
    go_ret
    exact ⟨by simp, AB.out _⟩
  · obtain ⟨zb, hzb⟩ : ∃ z, decide (xb < 9218868437227405312) = z := ⟨_, rfl⟩
    rw [hzb] at FB ⊢
    cases zb
    · go_enter Tryd.func32, Tryd.ntmps32
      go_wp2_with fail
      refine (FA.out _).mono ?_
      rintro e wz ⟨rfl, hz⟩
      replace hz := hz.symm
      subst hz
      go_wp2_with fail
      refine (FB.out _).mono ?_
      rintro e wz ⟨rfl, hz⟩
      replace hz := hz.symm
      subst hz
      go_wp2_with fail
      go_ret
      exact ⟨by simp, AB.out _⟩
    · obtain ⟨zb, hzb⟩ : ∃ z, (xb == 0) = z := ⟨_, rfl⟩
      rw [hzb]
      cases zb
      · go_enter Tryd.func32, Tryd.ntmps32
        go_wp2_with fail
        refine (FA.out _).mono ?_
        rintro e wz ⟨rfl, hz⟩
        replace hz := hz.symm
        subst hz
        go_wp2_with fail
        refine (FB.out _).mono ?_
        rintro e wz ⟨rfl, hz⟩
        replace hz := hz.symm
        subst hz
        go_wp2_with fail
        go_ret
        exact ⟨by simp, AB.out _⟩
      · go_enter Tryd.func32, Tryd.ntmps32
        go_wp2_with fail
        refine (FA.out _).mono ?_
        rintro e wz ⟨rfl, hz⟩
        replace hz := hz.symm
        subst hz
        go_wp2_with fail
        refine (FB.out _).mono ?_
        rintro e wz ⟨rfl, hz⟩
        replace hz := hz.symm
        subst hz
        go_wp2_with fail
        go_ret
        exact ⟨by simp, AB.out _⟩

set_option maxRecDepth 100000 in
set_option maxHeartbeats 4000000 in
theorem usual5 (a b c : Int) (w : World) (a0 : 0 ≤ a) (a1 : a < 18446744073709551616) (b0 : 0 ≤ b) (b1 : b < 18446744073709551616) (c0 : 0 ≤ c) (c1 : c < 18446744073709551616) :
    Calls Tryd.prog 32 #[.int .i64 5, threeOf a b c] w fun e w' => e = .returned (.bool (Ie.usb 5 a b c)) ∧ Below w.heap.size w w' := by
  have FA := hid (fun (wx : World) => yfinite_any a wx a0 a1)
  have FB := hid (fun (wx : World) => yfinite_any b wx b0 b1)
  have FC := hid (fun (wx : World) => yfinite_any c wx c0 c1)
  have AB := hid (alloc_b w)
  have SB := Ib.sign_andNot b b0 b1
  rw [← Ie.ab] at SB
  clear c0 c1
  have UU : Ie.usb 5 a b c = (Ie.fnb a && decide (a ≤ 9223372036854775808)) := by
    simp [Ie.usb]
  rw [UU, Ie.fnb]
  clear UU
  generalize Ie.ab b = xb at *
  simp only [threeOf]
  obtain ⟨za, hza⟩ : ∃ z, decide (Ie.ab a < 9218868437227405312) = z := ⟨_, rfl⟩
  rw [hza] at FA ⊢
  cases za
  · go_enter Tryd.func32, Tryd.ntmps32
    go_wp2_with fail
    refine (FA.out _).mono ?_
    rintro e wz ⟨rfl, hz⟩
    replace hz := hz.symm
    subst hz
    go_wp2_with fail
    go_ret
    exact ⟨by simp, AB.out _⟩
  · obtain ⟨zb, hzb⟩ : ∃ z, decide (a ≤ 9223372036854775808) = z := ⟨_, rfl⟩
    rw [hzb]
    cases zb
    · go_enter Tryd.func32, Tryd.ntmps32
      go_wp2_with fail
      refine (FA.out _).mono ?_
      rintro e wz ⟨rfl, hz⟩
      replace hz := hz.symm
      subst hz
      go_wp2_with fail
      go_ret
      exact ⟨by simp, AB.out _⟩
    · go_enter Tryd.func32, Tryd.ntmps32
      go_wp2_with fail
      refine (FA.out _).mono ?_
      rintro e wz ⟨rfl, hz⟩
      replace hz := hz.symm
      subst hz
      go_wp2_with fail
      go_ret
      exact ⟨by simp, AB.out _⟩

set_option maxRecDepth 100000 in
set_option maxHeartbeats 4000000 in
theorem usual6 (a b c : Int) (w : World) (a0 : 0 ≤ a) (a1 : a < 18446744073709551616) (b0 : 0 ≤ b) (b1 : b < 18446744073709551616) (c0 : 0 ≤ c) (c1 : c < 18446744073709551616) :
    Calls Tryd.prog 32 #[.int .i64 6, threeOf a b c] w fun e w' => e = .returned (.bool (Ie.usb 6 a b c)) ∧ Below w.heap.size w w' := by
  have FA := hid (fun (wx : World) => yfinite_any a wx a0 a1)
  have FB := hid (fun (wx : World) => yfinite_any b wx b0 b1)
  have FC := hid (fun (wx : World) => yfinite_any c wx c0 c1)
  have AB := hid (alloc_b w)
  have SB := Ib.sign_andNot b b0 b1
  rw [← Ie.ab] at SB
  clear c0 c1
  have UU : Ie.usb 6 a b c = (Ie.fnb a && Ie.fnb b && Ie.fnb c) := by
    simp [Ie.usb]
  rw [UU, Ie.fnb, Ie.fnb, Ie.fnb]
  clear UU
  generalize Ie.ab b = xb at *
  simp only [threeOf]
  obtain ⟨za, hza⟩ : ∃ z, decide (Ie.ab a < 9218868437227405312) = z := ⟨_, rfl⟩
  rw [hza] at FA ⊢
  cases za
  · go_enter Tryd.func32, Tryd.ntmps32
    go_wp2_with fail
    refine (FA.out _).mono ?_
    rintro e wz ⟨rfl, hz⟩
    replace hz := hz.symm
    subst hz
    go_wp2_with fail
    go_ret
    exact ⟨by simp, AB.out _⟩
  · obtain ⟨zb, hzb⟩ : ∃ z, decide (xb < 9218868437227405312) = z := ⟨_, rfl⟩
    rw [hzb] at FB ⊢
    cases zb
    · go_enter Tryd.func32, Tryd.ntmps32
      go_wp2_with fail
      refine (FA.out _).mono ?_
      rintro e wz ⟨rfl, hz⟩
      replace hz := hz.symm
      subst hz
      go_wp2_with fail
      refine (FB.out _).mono ?_
      rintro e wz ⟨rfl, hz⟩
      replace hz := hz.symm
      subst hz
      go_wp2_with fail
      go_ret
      exact ⟨by simp, AB.out _⟩
    · obtain ⟨zc, hzc⟩ : ∃ z, decide (Ie.ab c < 9218868437227405312) = z := ⟨_, rfl⟩
      rw [hzc] at FC ⊢
      cases zc
      · go_enter Tryd.func32, Tryd.ntmps32
        go_wp2_with fail
        refine (FA.out _).mono ?_
        rintro e wz ⟨rfl, hz⟩
        replace hz := hz.symm
        subst hz
        go_wp2_with fail
        refine (FB.out _).mono ?_
        rintro e wz ⟨rfl, hz⟩
        replace hz := hz.symm
        subst hz
        go_wp2_with fail
        refine (FC.out _).mono ?_
        rintro e wz ⟨rfl, hz⟩
        replace hz := hz.symm
        subst hz
        go_wp2_with fail
        go_ret
        exact ⟨by simp, AB.out _⟩
      · go_enter Tryd.func32, Tryd.ntmps32
        go_wp2_with fail
        refine (FA.out _).mono ?_
        rintro e wz ⟨rfl, hz⟩
        replace hz := hz.symm
        subst hz
        go_wp2_with fail
        refine (FB.out _).mono ?_
        rintro e wz ⟨rfl, hz⟩
        replace hz := hz.symm
        subst hz
        go_wp2_with fail
        refine (FC.out _).mono ?_
        rintro e wz ⟨rfl, hz⟩
        replace hz := hz.symm
        subst hz
        go_wp2_with fail
        go_ret
        exact ⟨rfl, AB.out _⟩

end Go.Proofs.YtjebdobopechfabDoor

/-
  law05: exactly, by the operation's number.
-/
namespace Go.Proofs.YtjebdobopechfabDoor
open Go Go.RowKit Go.Deep

def ExactTold (op a b c d : Int) (w : World) (e : Ending) (w' : World) : Prop := ∃ q : Bool, e = .returned (.bool q) ∧ (q = true ↔ Ie.ExactIs op a b c d) ∧ Below w.heap.size w w'

theorem units_b (b : Int) (b0 : 0 ≤ b) (b1 : b < 18446744073709551616) : ∃ UB : Int, 0 ≤ UB ∧ UB < 2 ^ 2100 ∧ (Ie.fin b → UB = Ie.un (Ie.ab b)) ∧ Hid (∀ wx : World, Calls Tryd.prog 13 #[.int .u64 b] wx fun e w' => ∃ p os, e = .returned (numOf (Ie.ngd b) p (List.length os) (List.length os)) ∧ Ans wx.heap.size w' p os UB ∧ Below wx.heap.size wx w') := by
  have e21 : (2 : Int) ^ 2100 = 2 * 2 ^ 2099 := Nm.two_succ 2099
  have p21 := Nm.two_pos 2099
  cases hn : Ie.isn b
  · refine ⟨Ie.un (Ie.ab b), Ie.un_nn (Ie.ab_bd b).1, ?_, fun _ => rfl, fun wx => units_any b wx b0 b1 hn⟩
    have := Ie.un_lt_inf (Ie.ab_bd b).1 (show Ie.ab b ≤ 9218868437227405312 by rw [Ie.isn, decide_eq_false_iff_not] at hn; omega)
    omega
  · have hm : 0 ≤ Ie.dm b ∧ Ie.dm b < 9007199254740992 := by
      rcases Ie.dec_kinds b _ rfl with ⟨c, m, x, k1⟩ | ⟨c, m, x, k1, k2⟩ | ⟨c, m, x, k1, k2⟩ | ⟨c, m, x, k1⟩ | ⟨c, m, x, k1, k2⟩ <;> rw [m]
      · omega
      · omega
      · exact Ie.man_nn _ (by omega)
      · omega
      · omega
    refine ⟨Ie.dm b * 2 ^ 1074, Int.mul_nonneg hm.1 (Int.le_of_lt (Nm.two_pos _)), ?_, fun h => ?_, fun wx => unitsN_any b wx b0 b1 hn⟩
    · have h53 : (2 : Int) ^ 53 = 9007199254740992 := by decide
      have h1 : Ie.dm b * 2 ^ 1074 < 2 ^ 53 * 2 ^ 1074 := Int.mul_lt_mul_of_pos_right (by omega) (Nm.two_pos _)
      rw [← Nm.two_add] at h1
      have := Nm.two_mono (show 53 + 1074 ≤ 2100 by omega)
      omega
    · have := (Ie.fin_not h).1
      rw [hn] at this
      cases this

theorem exact_any (op a b c d : Int) (w : World) (o1 : 1 ≤ op) (o6 : op ≤ 6) (a0 : 0 ≤ a) (a1 : a < 18446744073709551616) (b0 : 0 ≤ b) (b1 : b < 18446744073709551616) (c0 : 0 ≤ c) (c1 : c < 18446744073709551616) (d0 : 0 ≤ d) (d1 : d < 18446744073709551616)
    (fa : Ie.fin a) (fb : op ≠ 5 → Ie.fin b) (fc : op = 6 → Ie.fin c) (fd : Ie.fin d) :
    Calls Tryd.prog 33 #[.int .i64 op, threeOf a b c, .int .u64 d] w fun e w' => ExactTold op a b c d w e w' := by
  obtain ⟨UA, nA, bA, hA, UAc⟩ := units_b a a0 a1
  obtain ⟨UB, nB, bB, hB, UBc⟩ := units_b b b0 b1
  have ea := hA fa
  have ua : Ie.sn (Ie.ngd a) UA = Ie.uv a := by rw [ea]; rfl
  have ub : Ie.fin b → Ie.sn (Ie.ngd b) UB = Ie.uv b := fun h => by rw [hB h]; rfl
  have fin (P : Prop) [Decidable P] (h : P ↔ Ie.ExactIs op a b c d) : ∀ e w', (e = Ending.returned (.bool (decide P)) ∧ Below w.heap.size w w') → ExactTold op a b c d w e w' := fun e w' ⟨h1, h2⟩ => ⟨decide P, h1, by rw [decide_eq_true_iff]; exact h, h2⟩
  rcases (show op = 1 ∨ op = 2 ∨ op = 3 ∨ op = 4 ∨ op = 5 ∨ op = 6 by omega) with rfl | rfl | rfl | rfl | rfl | rfl
  · exact (exact1 a b c d w _ _ UA UB d0 d1 fd nA nB bA bB UAc UBc).mono (fin _ (by rw [ua, ub (fb (by decide))]; exact Iff.rfl))
  · exact (exact2 a b c d w _ _ UA UB d0 d1 fd nA nB bA bB UAc UBc).mono (fin _ (by rw [ua, Ie.sn_not, ub (fb (by decide)), ← Int.sub_eq_add_neg]; exact Iff.rfl))
  · exact (exact3 a b c d w _ _ UA UB d0 d1 fd nA nB bA bB UAc UBc).mono (fin _ (by rw [ua, ub (fb (by decide))]; exact Iff.rfl))
  · exact (exact4 a b c d w _ _ UA UB d0 d1 fd nA nB bA bB UAc UBc).mono (fin _ (by rw [ua, ub (fb (by decide))]; exact Iff.rfl))
  · exact (exact5 a b c d w _ _ UA UB d0 d1 fd nA nB bA bB UAc UBc).mono (fin _ (by rw [ua]; exact Iff.rfl))
  · exact (exact6 a b c d w _ _ UA UB d0 d1 fd nA nB c0 c1 (fc rfl) bA bB UAc UBc).mono (fin _ (by rw [ua, ub (fb (by decide))]; exact Iff.rfl))
end Go.Proofs.YtjebdobopechfabDoor

/-
  law05: usual by the operation's number; 1 / 3 with its flags.
-/
namespace Go.Proofs.YtjebdobopechfabDoor
open Go Go.RowKit Go.Deep

theorem usual_any (op a b c : Int) (w : World) (o1 : 1 ≤ op) (o6 : op ≤ 6) (a0 : 0 ≤ a) (a1 : a < 18446744073709551616) (b0 : 0 ≤ b) (b1 : b < 18446744073709551616) (c0 : 0 ≤ c) (c1 : c < 18446744073709551616) :
    Calls Tryd.prog 32 #[.int .i64 op, threeOf a b c] w fun e w' => e = .returned (.bool (Ie.usb op a b c)) ∧ Below w.heap.size w w' := by
  rcases (show op = 1 ∨ op = 2 ∨ op = 3 ∨ op = 4 ∨ op = 5 ∨ op = 6 by omega) with rfl | rfl | rfl | rfl | rfl | rfl
  · exact usual1 a b c w a0 a1 b0 b1 c0 c1
  · exact usual2 a b c w a0 a1 b0 b1 c0 c1
  · exact usual3 a b c w a0 a1 b0 b1 c0 c1
  · exact usual4 a b c w a0 a1 b0 b1 c0 c1
  · exact usual5 a b c w a0 a1 b0 b1 c0 c1
  · exact usual6 a b c w a0 a1 b0 b1 c0 c1

namespace Ie
theorem usb_is {op a b c : Int} (o1 : 1 ≤ op) (o6 : op ≤ 6) (h : usb op a b c = true) : fin a ∧ (op ≠ 5 → fin b) ∧ (op = 6 → fin c) ∧ (op = 4 → ab b ≠ 0) ∧ (op = 5 → a ≤ 9223372036854775808) := by
  rcases (show op = 1 ∨ op = 2 ∨ op = 3 ∨ op = 4 ∨ op = 5 ∨ op = 6 by omega) with rfl | rfl | rfl | rfl | rfl | rfl <;> simp [usb, fnb] at h <;> simp only [fin] <;> refine ⟨?_, ?_, ?_, ?_, ?_⟩ <;> intros <;> omega

theorem un_13 : un 4599676419421066581 = 6004799503160661 * 2 ^ 1020 := un_lit (by decide) (by decide)

theorem div_13 {r f : Int} (h : DivIs 4607182418800017408 4613937818241073152 r f) : r = 4599676419421066581 ∧ f = 16 := by
  have f1 : fin 4607182418800017408 := by rw [fin]; decide
  have f3 : fin 4613937818241073152 := by rw [fin]; decide
  have z3 : ab 4613937818241073152 ≠ 0 := by decide
  have hr := h.rs f1 f3 z3
  have e1 : ab 4607182418800017408 = 4607182418800017408 := by decide
  have e3 : ab 4613937818241073152 = 4613937818241073152 := by decide
  have g1 : ngd 4607182418800017408 = false := by decide
  have g3 : ngd 4613937818241073152 = false := by decide
  have q52 : (4503599627370496 : Int) = 2 ^ 52 := by decide
  have eS : un 4607182418800017408 * 2 ^ 1074 = 40564819207303340847894502572032 * 2 ^ 2043 := by
    rw [un_1, q52, show (40564819207303340847894502572032 : Int) = 2 ^ 105 by decide, ← Nm.two_add, ← Nm.two_add, ← Nm.two_add]
  have p2043 := Nm.two_pos 2043
  have hN : Near (2 * (un 4607182418800017408 * 2 ^ 1074)) (un 4613937818241073152) false 4599676419421066581 := by
    have m1 : md (4599676419421066581 - 1) = 12009599006321321 * 2 ^ 1020 := by
      rw [md, show man (4599676419421066581 - 1) = 6004799503160660 by decide, show ex (4599676419421066581 - 1) = 1020 by decide]
      rfl
    have m2 : md 4599676419421066581 = 12009599006321323 * 2 ^ 1020 := by
      rw [md, show man 4599676419421066581 = 6004799503160661 by decide, show ex 4599676419421066581 = 1020 by decide]
      rfl
    have k (c : Int) : c * 2 ^ 1020 * (6755399441055744 * 2 ^ 1023) = c * 6755399441055744 * 2 ^ 2043 := by
      rw [show 2043 = 1020 + 1023 by rfl, Nm.two_add]
      generalize (2 : Int) ^ 1020 = P
      generalize (2 : Int) ^ 1023 = R
      ac_rfl
    rw [eS, un_3]
    refine ⟨by decide, fun _ => Or.inl ?_, fun _ => Or.inl ?_⟩
    · rw [m1, k]
      generalize (2 : Int) ^ 2043 = P at *
      omega
    · rw [m2, k]
      generalize (2 : Int) ^ 2043 = P at *
      omega
  have u3 : 0 < un 4613937818241073152 := un_pos (by decide)
  rw [e1, e3, g1, g3] at hr
  have hr' : RS (sn (false != false) (un 4607182418800017408 * 2 ^ 1074)) (un 4613937818241073152) (false != false) 4599676419421066581 :=
    ⟨false, _, _, rfl, rfl, by rw [eS]; omega, hN, fun _ => rfl⟩
  have er := hr.one u3 u3 hr' rfl
  subst er
  refine ⟨rfl, ?_⟩
  have hf := h.flags f1 f3 z3
  have ea : ab 4599676419421066581 = 4599676419421066581 := by decide
  rw [FlagsIs, ea] at hf
  rcases hf with ⟨_, hx, _⟩ | ⟨_, hx⟩
  · exfalso
    have hx := hx.2
    rw [uv_pos (by decide) (by decide), uv_pos (by decide) (by decide), uv_pos (by decide) (by decide), eS, un_3, un_13] at hx
    have k : (6755399441055744 : Int) * 2 ^ 1023 * (6004799503160661 * 2 ^ 1020) = 40564819207303338596094688886784 * 2 ^ 2043 := by
      rw [show 2043 = 1023 + 1020 by rfl, Nm.two_add, show (40564819207303338596094688886784 : Int) = 6755399441055744 * 6004799503160661 by decide]
      generalize (2 : Int) ^ 1020 = P
      generalize (2 : Int) ^ 1023 = R
      ac_rfl
    rw [k] at hx
    generalize (2 : Int) ^ 2043 = P at *
    omega
  · omega
end Ie
end Go.Proofs.YtjebdobopechfabDoor

/-
  Every operation's flags lie in 0 .. 31.
-/
namespace Go.Proofs.YtjebdobopechfabDoor
open Go Go.RowKit Go.Deep

namespace Ie
theorem Res.f31 {neg more : Bool} {V e r f : Int} (h : Res neg V e more r f) : 0 ≤ f ∧ f ≤ 31 := by
  obtain ⟨x, t, L, _, rfl, _⟩ := h
  rw [flg]
  split
  · omega
  · split <;> split <;> omega

theorem AddIs.f31 {a b r f : Int} (h : AddIs a b r f) : 0 ≤ f ∧ f ≤ 31 := by
  unfold AddIs at h
  repeat' (split at h)
  · omega
  · omega
  · omega
  · omega
  · obtain ⟨_, _, _, _, h⟩ := h
    exact h.f31

theorem TellIs.f31 {op a b c r f : Int} (h : TellIs op a b c r f) : 0 ≤ f ∧ f ≤ 31 := by
  unfold TellIs at h
  split at h
  · exact h.f31
  split at h
  · exact h.f31
  split at h
  · unfold MulIs at h
    repeat' (split at h)
    · omega
    · omega
    · omega
    · exact h.f31
  split at h
  · unfold DivIs at h
    repeat' (split at h)
    · omega
    · omega
    · omega
    · omega
    · omega
    · exact h.f31
  split at h
  · unfold SqrtIs at h
    repeat' (split at h)
    · omega
    · omega
    · omega
    · obtain ⟨_, _, _, _, _, _, h⟩ := h
      exact h.f31
  · unfold FmaIs at h
    repeat' (split at h)
    · omega
    · omega
    · exact h.f31
    · omega
    · obtain ⟨_, _, _, _, h⟩ := h
      exact h.f31
end Ie

end Go.Proofs.YtjebdobopechfabDoor

/-
  SoftFlags (made by mkyflags.py).
-/
namespace Go.Proofs.YtjebdobopechfabDoor
open Go Go.RowKit Go.Deep

theorem Ie.TellIs.bd {op a b c r f : Int} (a0 : 0 ≤ a) (a1 : a < 18446744073709551616) (b0 : 0 ≤ b) (b1 : b < 18446744073709551616) (c0 : 0 ≤ c) (c1 : c < 18446744073709551616) (h : Ie.TellIs op a b c r f) : 0 ≤ r ∧ r < 18446744073709551616 := by
  unfold Ie.TellIs at h
  split at h
  · exact h.bd a0 a1 b0 b1
  split at h
  · exact h.bd a0 a1 (Ie.ng_uv b b0 b1).2.2.2.1 (Ie.ng_uv b b0 b1).2.2.2.2
  split at h
  · exact h.bd
  split at h
  · exact h.bd
  split at h
  · unfold Ie.SqrtIs at h
    repeat' (split at h)
    · omega
    · omega
    · omega
    · obtain ⟨_, _, _, _, _, _, x, t, L, hr, _, hR, _⟩ := h
      have h1 := hR.bd
      have h2 : r = x := hr
      omega
  · exact h.bd c0 c1

/-- A Three in its box. -/
def TB (w wx : World) (bt : Nat) (a b c : Int) : Prop := Below w.heap.size w wx ∧ wx.cell? ⟨bt, 0, none⟩ = some (.int .u64 a) ∧ wx.cell? ⟨bt, 1, none⟩ = some (.int .u64 b) ∧ wx.cell? ⟨bt, 2, none⟩ = some (.int .u64 c)

theorem TB.on {w wx w' : World} {bt : Nat} {a b c : Int} (h : TB w wx bt a b c) (hB : Below wx.heap.size wx w') : TB w w' bt a b c :=
  ⟨h.1.trans (hB.mono h.1.size), bcell hB h.2.1, bcell hB h.2.2.1, bcell hB h.2.2.2⟩

set_option maxRecDepth 100000 in
set_option maxHeartbeats 8000000 in
theorem flags_any (a b c : Int) (w : World) (a0 : 0 ≤ a) (a1 : a < 18446744073709551616) (b0 : 0 ≤ b) (b1 : b < 18446744073709551616) (c0 : 0 ≤ c) (c1 : c < 18446744073709551616) (hT : Tab w) :
    Calls Tryd.prog 8 #[threeOf a b c] w fun e w' => e = .returned (.bool true) ∧ Below w.heap.size w w' := by
  have WK := hid (fun (wx : World) => works_any wx)
  have TD := hid (fun (op : Int) (wx : World) (hx : Below w.heap.size w wx) (o1 : 1 ≤ op) (o6 : op ≤ 6) => told_any op a b c wx o1 o6 a0 a1 b0 b1 c0 c1 (hT.below hx))
  have OW : Hid (∀ (op : Int) (wx : World), Below w.heap.size w wx → 1 ≤ op → op ≤ 6 → ∀ r f, Ie.TellIs op a b c r f → Calls Tryd.prog 31 #[.int .i64 op, threeOf a b c] wx fun e w' => e = .returned (.int .u64 r) ∧ Below wx.heap.size wx w') := by
    intro op wx hx o1 o6 r f h
    refine (own_any op a b c wx o1 o6 a0 a1 b0 b1 c0 c1 (hT.below hx)).mono ?_
    rintro e w' ⟨r', f', rfl, h', hB⟩
    rw [Ie.TellIs.one o1 o6 a0 h h']
    exact ⟨rfl, hB⟩
  have US := hid (fun (op : Int) (wx : World) (o1 : 1 ≤ op) (o6 : op ≤ 6) => usual_any op a b c wx o1 o6 a0 a1 b0 b1 c0 c1)
  have FI := hid (fun (r : Int) (wx : World) (r0 : 0 ≤ r) (r1 : r < 18446744073709551616) => yfinite_any r wx r0 r1)
  have EX : Hid (∀ (op r : Int) (wx : World) (q : Bool), 1 ≤ op → op ≤ 6 → 0 ≤ r → r < 18446744073709551616 → Ie.usb op a b c = true → Ie.ab r < 9218868437227405312 → (q = true ↔ Ie.ExactIs op a b c r) → Calls Tryd.prog 33 #[.int .i64 op, threeOf a b c, .int .u64 r] wx fun e w' => e = .returned (.bool q) ∧ Below wx.heap.size wx w') := by
    intro op r wx q o1 o6 r0 r1 hu hr hq
    obtain ⟨fa, fb, fc, _, _⟩ := Ie.usb_is o1 o6 hu
    refine (exact_any op a b c r wx o1 o6 a0 a1 b0 b1 c0 c1 r0 r1 fa fb fc hr).mono ?_
    rintro e w' ⟨q', rfl, h, hB⟩
    have : q' = q := by
      rw [Bool.eq_iff_iff, h, hq]
    rw [this]
    exact ⟨rfl, hB⟩
  have FL : Hid (∀ op r f, 1 ≤ op → op ≤ 6 → Ie.usb op a b c = true → Ie.TellIs op a b c r f → Ie.FlagsIs r f (Ie.ab r < 9218868437227405312 ∧ Ie.ExactIs op a b c r)) := by
    intro op r f o1 o6 hu h
    obtain ⟨fa, fb, fc, hb, ha⟩ := Ie.usb_is o1 o6 hu
    exact h.flags o1 o6 b0 b1 fa fb fc hb ha
  have BD : Hid (∀ op r f, Ie.TellIs op a b c r f → (0 ≤ r ∧ r < 18446744073709551616) ∧ (0 ≤ f ∧ f ≤ 31)) := fun op r f h => ⟨h.bd a0 a1 b0 b1 c0 c1, h.f31⟩
  have T4 := hid (fun (wx : World) (hx : Below w.heap.size w wx) => told_any 4 4607182418800017408 4613937818241073152 0 wx (by decide) (by decide) (by decide) (by decide) (by decide) (by decide) (by decide) (by decide) (hT.below hx))
  have AB := hid (alloc_b w)
  clear hT a0 a1 b0 b1 c0 c1
  simp only [threeOf] at *
  go_enter Tryd.func8, Tryd.ntmps8
  go_wp2_with fail
  have S0 : Hid (TB w (w.alloc (.cells #[.int .u64 a, .int .u64 b, .int .u64 c] 42)) w.heap.size a b c) := ⟨AB.out _, by simp, by simp, by simp⟩
  generalize w.alloc (.cells #[.int .u64 a, .int .u64 b, .int .u64 c] 42) = w1 at *
  refine (T4.out _ S0.out.1).mono ?_
  rintro e w2 ⟨r, f, rfl, h, hB⟩
  rw [Ie.tell4] at h
  obtain ⟨rfl, rfl⟩ := Ie.div_13 h
  have S1 := hid (S0.out.on hB)
  clear hB h S0 T4 AB
  go_wp2_with fail
  refine (WK.out _).mono ?_
  rintro e w3 ⟨rfl, hB⟩
  have S2 := hid (S1.out.on hB)
  clear hB S1 WK
  generalize hbt : w.heap.size = bt at S2
  clear hbt
  go_wp2_with fail
  go_loopw [6] (fun i wr => ∃ j : Int, 1 ≤ j ∧ j ≤ 7 ∧ i = .int .i64 j ∧ Hid (TB w wr bt a b c)) (fun i _ => (8 - intOf i).toNat)
  case atStart => exact ⟨1, by decide, by decide, rfl, S2⟩
  case round =>
    obtain ⟨j, j1, j7, rfl, S3⟩ := hrel
    clear S2
    by_cases hlt : j ≤ 6
    · obtain ⟨x0, x1, x2⟩ := S3.out.2
      go_wp2_with fail
      refine (TD.out j _ S3.out.1 j1 hlt).mono ?_
      rintro e w4 ⟨r, f, rfl, h, hB⟩
      have S4 := hid (S3.out.on hB)
      have HT := hid h
      have HB := hid (BD.out j r f h)
      clear h hB x0 x1 x2 S3 TD
      obtain ⟨x0, x1, x2⟩ := S4.out.2
      obtain ⟨f0, f31⟩ := HB.out.2
      go_wp2_with fail
      refine (OW.out j _ S4.out.1 j1 hlt r f HT.out).mono ?_
      rintro e w5 ⟨rfl, hB⟩
      have S5 := hid (S4.out.on hB)
      clear hB x0 x1 x2 S4 OW
      obtain ⟨x0, x1, x2⟩ := S5.out.2
      go_wp2_with fail
      refine (US.out j _ j1 hlt).mono ?_
      rintro e w6 ⟨rfl, hB⟩
      have S6 := hid (S5.out.on hB)
      clear hB x0 x1 x2 S5 US
      cases hu : Ie.usb j a b c
      · clear EX FL FI
        go_wp2_with fail
        go_roundw
        case rel => exact ⟨j + 1, by omega, by omega, by go_num, S6⟩
        case measure => first | (simp [intOf]; omega) | (simp; omega)
      · have HF := hid (FL.out j r f j1 hlt hu HT.out)
        have HU := hid hu
        have SB := Ib.sign_andNot r HB.out.1.1 HB.out.1.2
        rw [← Ie.ab] at SB
        have FR := hid (fun (wx : World) => FI.out r wx HB.out.1.1 HB.out.1.2)
        have ER := hid (fun (wx : World) (q : Bool) (h1 : Ie.ab r < 9218868437227405312) (h2 : q = true ↔ Ie.ExactIs j a b c r) => EX.out j r wx q j1 hlt HB.out.1.1 HB.out.1.2 HU.out h1 h2)
        clear EX FL FI hu HU HT HB
        rcases HF.out with ⟨hf, hE, hx⟩ | ⟨hE, ⟨hx, hf⟩ | ⟨hx, ⟨hf, hg⟩ | ⟨hf, hg⟩⟩⟩
        · clear f0 f31 HF
          generalize Ie.ab r = xr at *
          subst hf
          have ER2 := hid (fun (wx : World) => ER.out wx true hx ⟨fun _ => hE.2, fun _ => rfl⟩)
          have hx2 : (xr == 9218868437227405312) = false := by rw [beq_eq_false_iff_ne]; omega
          rw [decide_eq_true hx] at FR
          clear ER hE
          obtain ⟨x0, x1, x2⟩ := S6.out.2
          go_wp2_with fail
          refine (FR.out _).mono ?_
          rintro e wz ⟨rfl, hz⟩
          replace hz := hz.symm
          subst hz
          go_wp2_with fail
          refine (ER2.out _).mono ?_
          rintro e w7 ⟨rfl, hB⟩
          have S7 := hid (S6.out.on hB)
          clear hB x0 x1 x2 S6 ER2 FR
          go_wp2_with fail
          go_roundw
          case rel => exact ⟨j + 1, by omega, by omega, by go_num, S7⟩
          case measure => first | (simp [intOf]; omega) | (simp; omega)
        · clear f0 f31 HF ER FR hE
          generalize Ie.ab r = xr at *
          subst hf
          have hx2 : (xr == 9218868437227405312) = true := by rw [hx]; rfl
          obtain ⟨x0, x1, x2⟩ := S6.out.2
          go_wp2_with fail
          go_roundw
          case rel => exact ⟨j + 1, by omega, by omega, by go_num, S6⟩
          case measure => first | (simp [intOf]; omega) | (simp; omega)
        · clear f0 f31 HF
          generalize Ie.ab r = xr at *
          subst hf
          have ER2 := hid (fun (wx : World) => ER.out wx false hx ⟨fun h => absurd h (by decide), fun h => absurd ⟨hx, h⟩ hE⟩)
          have hx2 : (xr == 9218868437227405312) = false := by rw [beq_eq_false_iff_ne]; omega
          rw [decide_eq_true hx] at FR
          clear ER hE
          obtain ⟨x0, x1, x2⟩ := S6.out.2
          go_wp2_with fail
          refine (FR.out _).mono ?_
          rintro e wz ⟨rfl, hz⟩
          replace hz := hz.symm
          subst hz
          go_wp2_with fail
          refine (ER2.out _).mono ?_
          rintro e w7 ⟨rfl, hB⟩
          have S7 := hid (S6.out.on hB)
          clear hB x0 x1 x2 S6 ER2 FR
          go_wp2_with fail
          go_roundw
          case rel => exact ⟨j + 1, by omega, by omega, by go_num, S7⟩
          case measure => first | (simp [intOf]; omega) | (simp; omega)
        · clear f0 f31 HF
          generalize Ie.ab r = xr at *
          subst hf
          have ER2 := hid (fun (wx : World) => ER.out wx false hx ⟨fun h => absurd h (by decide), fun h => absurd ⟨hx, h⟩ hE⟩)
          have hx2 : (xr == 9218868437227405312) = false := by rw [beq_eq_false_iff_ne]; omega
          rw [decide_eq_true hx] at FR
          clear ER hE
          obtain ⟨x0, x1, x2⟩ := S6.out.2
          by_cases hs : xr < 4503599627370496
          · go_wp2_with fail
            refine (FR.out _).mono ?_
            rintro e wz ⟨rfl, hz⟩
            replace hz := hz.symm
            subst hz
            go_wp2_with fail
            refine (ER2.out _).mono ?_
            rintro e w7 ⟨rfl, hB⟩
            have S7 := hid (S6.out.on hB)
            clear hB x0 x1 x2 S6 ER2 FR
            go_wp2_with fail
            go_roundw
            case rel => exact ⟨j + 1, by omega, by omega, by go_num, S7⟩
            case measure => first | (simp [intOf]; omega) | (simp; omega)
          · go_wp2_with fail
            refine (FR.out _).mono ?_
            rintro e wz ⟨rfl, hz⟩
            replace hz := hz.symm
            subst hz
            go_wp2_with fail
            refine (ER2.out _).mono ?_
            rintro e w7 ⟨rfl, hB⟩
            have S7 := hid (S6.out.on hB)
            clear hB x0 x1 x2 S6 ER2 FR
            go_wp2_with fail
            go_roundw
            case rel => exact ⟨j + 1, by omega, by omega, by go_num, S7⟩
            case measure => first | (simp [intOf]; omega) | (simp; omega)
    · go_wp2_with fail
      go_ret
      exact ⟨rfl, S3.out.1⟩
end Go.Proofs.YtjebdobopechfabDoor

namespace Go.Proofs.YtjebdobopechfabDoor
open Go.RowKit Go.Deep Go.ChangeShapes Go.WideShapes Go.ChangeAt

theorem array3 {α : Type} {cs : Array α} (h : cs.size = 3) : ∃ c0 c1 c2, cs = #[c0, c1, c2] := by
  obtain ⟨l⟩ := cs
  match l, h with
  | [c0, c1, c2], _ => exact ⟨c0, c1, c2, rfl⟩

theorem list3 {α : Type} {l : List α} (h : l.length = 3) : ∃ c0 c1 c2, l = [c0, c1, c2] := by
  match l, h with
  | [c0, c1, c2], _ => exact ⟨c0, c1, c2, rfl⟩

theorem open_three {H : Type} {enc : TypeId × Value → H} {W : World} {base : Nat} {v : Value} {d : DataW H} {p : List MemPlace} (hv : Value.okWide Tryd.prog W .any base 42 v) (h : DataW.Trod enc Tryd.prog W 0 (fun _ => true) true 42 v d p) :
    ∃ a b c : Int, v = threeOf a b c ∧ (0 ≤ a ∧ a < 18446744073709551616) ∧ (0 ≤ b ∧ b < 18446744073709551616) ∧ (0 ≤ c ∧ c < 18446744073709551616) := by
  obtain ⟨cs, rfl, hs3⟩ := okWide_struct Tryd.underlying42 hv
  obtain ⟨a0, a1, a2, rfl⟩ := array3 (hs3.trans (show Tryd.prog.cellsOf 42 = 3 by kernel_rfl))
  obtain ⟨fuel, hf⟩ := h
  obtain ⟨xs, n, _, hx, _, hlen, hfs⟩ := DataW.trod_struct Tryd.underlying42 hf
  obtain ⟨y0, y1, y2, rfl⟩ := list3 hlen
  have cu : Tryd.prog.cellsOf 22 = 1 := by kernel_rfl
  have f0 : DataW.trod enc Tryd.prog W 0 (fun _ => true) true n 22 [a0] = some y0 := by simpa [Value.cells, cu] using hfs 0 _ rfl
  have f1 : DataW.trod enc Tryd.prog W 0 (fun _ => true) true n 22 [a1] = some y1 := by simpa [Value.cells, cu] using hfs 1 _ rfl
  have f2 : DataW.trod enc Tryd.prog W 0 (fun _ => true) true n 22 [a2] = some y2 := by simpa [Value.cells, cu] using hfs 2 _ rfl
  obtain ⟨a, e0, _, w0⟩ := DataW.trod_int Tryd.underlying22 f0
  obtain ⟨b, e1, _, w1⟩ := DataW.trod_int Tryd.underlying22 f1
  obtain ⟨c, e2, _, w2⟩ := DataW.trod_int Tryd.underlying22 f2
  obtain rfl : a0 = _ := (List.cons.inj e0).1
  obtain rfl : a1 = _ := (List.cons.inj e1).1
  obtain rfl : a2 = _ := (List.cons.inj e2).1
  have b0 := bounds_u64 w0
  have b1 := bounds_u64 w1
  have b2 := bounds_u64 w2
  exact ⟨a, b, c, rfl, by omega, by omega, by omega⟩
end Go.Proofs.YtjebdobopechfabDoor
