import Derived.Test.YtjebdobopechfabDoorYNum
import Derived.Test.YtjebdobopechfabDoorXWalk1
/-
  law05: units, lifted, one, unit (made by mkyunits.py).
-/
namespace Go.Proofs.YtjebdobopechfabDoor
open Go Go.RowKit Go.Deep

namespace Ie
/-- The value of a double that is no NaN, in units of 2^-1074. -/
def us (d : Int) : Int := sn (ngd d) (un (ab d))

theorem un_inf : un 9218868437227405312 = 1 * 2 ^ 2098 := by
  have e1 : man 9218868437227405312 = 4503599627370496 := by decide
  have e2 : ex 9218868437227405312 = 2046 := by decide
  rw [un, e1, e2, show 2098 = 52 + 2046 by rfl, Nm.two_add, Int.one_mul]; rfl

theorem un_lt_inf {x : Int} (h0 : 0 ≤ x) (h1 : x ≤ 9218868437227405312) : un x < 2 ^ 2099 := by
  have := un_le h0 h1
  rw [un_inf, Int.one_mul] at this
  have e : (2 : Int) ^ 2099 = 2 * 2 ^ 2098 := Nm.two_succ 2098
  have := Nm.two_pos 2098
  omega
end Ie

/-- What units answers. -/
def UnitsTold (d : Int) (w : World) (e : Ending) (w' : World) : Prop :=
  ∃ p os, e = .returned (numOf (Ie.ngd d) p (List.length os) (List.length os)) ∧ Ans w.heap.size w' p os (Ie.un (Ie.ab d)) ∧ Below w.heap.size w w'

theorem UnitsTold.num {d : Int} {w : World} {e : Ending} {w' : World} (h : UnitsTold d w e w') : NumIs (Ie.us d) w e w' := by
  obtain ⟨p, os, rfl, A, hB⟩ := h
  exact ⟨_, p, os, _, rfl, A, rfl, Ie.un_nn (Ie.ab_bd d).1, hB⟩

set_option maxRecDepth 100000 in
set_option maxHeartbeats 4000000 in
theorem units_any (d : Int) (w : World) (h0 : 0 ≤ d) (h1 : d < 18446744073709551616) (hn : Ie.isn d = false) :
    Calls Tryd.prog 13 #[.int .u64 d] w fun e w' => UnitsTold d w e w' := by
  have D := hid (fun (wx : World) => decode_any d wx h0 h1)
  rw [← Ie.ngd] at D
  simp only [partsOf] at D
  have bm : 0 ≤ Ie.dm d ∧ Ie.dm d < 18446744073709551616 ∧ -1074 ≤ Ie.de d ∧ Ie.de d ≤ 971 := by
    rcases Ie.dec_kinds d _ rfl with ⟨c, m, x, k1⟩ | ⟨c, m, x, k1, k2⟩ | ⟨c, m, x, k1, k2⟩ | ⟨c, m, x, k1⟩ | ⟨c, m, x, k1, k2⟩ <;> rw [m, x]
    · omega
    · omega
    · have mb := Ie.man_nn (d % 9223372036854775808) (by omega)
      have eb : (Ie.ex (d % 9223372036854775808) : Int) ≤ 2045 := by simp only [Ie.ex]; omega
      omega
    · omega
    · omega
  obtain ⟨m0, m1, x0, x1⟩ := bm
  have FU := hid (fun (wx : World) => fromUint_any (Ie.dm d) wx m0 m1)
  have F1 := hid (fun (wx : World) => fromUint_any 1 wx (by omega) (by omega))
  have SL : Hid (∀ (wx : World) (p : Option Addr) (os : List Int) (B : Nat) (m k : Int), (k + 1074 = 2098 ∧ m = 1 ∧ Ie.isi d = true) ∨ (m = Ie.dm d ∧ k = Ie.de d ∧ Ie.isi d = false) → Ans B wx p os m → Calls Tryd.prog 36 #[.slice p os.length os.length, .int .i64 (k + 1074)] wx fun e w' => ∃ r os, e = .returned (.tuple #[.slice r (List.length os) (List.length os), .int .i64 0]) ∧ Ans wx.heap.size w' r os (Ie.un (Ie.ab d)) ∧ Below wx.heap.size wx w') := by
    intro wx p os B m k hm A
    have key : ∃ j : Nat, k + 1074 = (j : Int) ∧ j ≤ 2100 ∧ m * 2 ^ j = Ie.un (Ie.ab d) ∧ m < 2 ^ 64 := by
      rcases hm with ⟨a, b, c⟩ | ⟨a, b, c⟩
      · refine ⟨2098, by omega, by omega, ?_, by rw [b]; decide⟩
        rw [Ie.isi, decide_eq_true_eq] at c
        rw [c, Ie.un_inf, b]
      · have f : Ie.fin d := by
          rw [Ie.isn, decide_eq_false_iff_not] at hn
          rw [Ie.isi, decide_eq_false_iff_not] at c
          rw [Ie.fin]; omega
        obtain ⟨_, _, g, _⟩ := Ie.dec_f d f
        obtain ⟨j, hj⟩ : ∃ j : Nat, (j : Int) = Ie.de d + 1074 := ⟨(Ie.de d + 1074).toNat, by omega⟩
        refine ⟨j, by omega, by omega, by rw [a]; exact g j hj, ?_⟩
        have : (2 : Int) ^ 64 = 18446744073709551616 := Nm.two_64
        omega
    obtain ⟨j, hj, hj2, hv, hm2⟩ := key
    obtain ⟨g, t⟩ := A.tl' hm2 (by omega)
    have room : m * 2 ^ j < Nm.pw 4096 := by
      rw [pw_4096]
      have h1 : m * 2 ^ j < 2 ^ 64 * 2 ^ j := Int.mul_lt_mul_of_pos_right hm2 (Nm.two_pos j)
      rw [← Nm.two_add] at h1
      have := Nm.two_mono (show 64 + j ≤ 262144 by omega)
      omega
    have := shl_any p _ _ os (k + 1074) j wx g t hj (by rw [A.2.2.2.1]; exact room)
    rw [A.2.2.2.1, hv] at this
    exact this
  have WT : Hid (∀ (w2 : World) (p : Option Addr) (os : List Int), Ans (w.heap.size + 1) w2 p os (Ie.un (Ie.ab d)) → Below w.heap.size w w2 →
      UnitsTold d w (.returned (numOf (Ie.ngd d) p (List.length os) (List.length os))) ((w2.setCell ⟨w.heap.size, 0, none⟩ (.bool (Ie.ngd d))).setCell ⟨w.heap.size, 1, none⟩ (.slice p os.length os.length))) := by
    intro w2 p os A hB
    have A' := A.set2 (b := w.heap.size) (u0 := .bool (Ie.ngd d)) (u1 := .slice p os.length os.length) (by omega)
    exact ⟨p, os, rfl, ⟨A'.1, A'.2.1, A'.2.2.1, A'.2.2.2.1, fun a h => by have := A'.2.2.2.2 a h; omega⟩, set2_below hB (Nat.le_refl _)⟩
  have c3 := Ie.isi_cls d
  generalize Ie.ngd d = neg at *
  generalize Ie.cls d = c at *
  generalize Ie.un (Ie.ab d) = U at *
  generalize Ie.isi d = inf at *
  generalize Ie.dm d = m at *
  generalize Ie.de d = x at *
  have R0 := Row2.new w 28 (.bool false) (.slice none 0 0)
  have sz : (w.alloc (.cells #[.bool false, .slice none 0 0] 28)).heap.size = w.heap.size + 1 := by simp
  have PR : Hid (∀ (w1 : World), Below (w.alloc (.cells #[.bool false, .slice none 0 0] 28)).heap.size (w.alloc (.cells #[.bool false, .slice none 0 0] 28)) w1 →
      (Below w.heap.size w (w1.alloc (.cells #[.bool neg, .int .i64 c, .int .u64 m, .int .i64 x] 38)) ∧ w.heap.size + 2 ≤ (w1.alloc (.cells #[.bool neg, .int .i64 c, .int .u64 m, .int .i64 x] 38)).heap.size) ∧
      Row2 (w1.alloc (.cells #[.bool neg, .int .i64 c, .int .u64 m, .int .i64 x] 38)) w.heap.size 28 (.bool false) (.slice none 0 0) ∧ Row4 (w1.alloc (.cells #[.bool neg, .int .i64 c, .int .u64 m, .int .i64 x] 38)) w1.heap.size 38 (.bool neg) (.int .i64 c) (.int .u64 m) (.int .i64 x)) := by
    intro w1 hB
    have h1 := (alloc_b w (.cells #[.bool false, .slice none 0 0] 28)).trans (hB.mono (alloc_b w _).size)
    have s1 := hB.size
    exact ⟨⟨Below.alloc h1 h1.size _, by simp; omega⟩, (R0.below hB R0.lt).below (alloc_b w1 _) (by omega), Row4.new w1 _ _ _ _ _⟩
  clear hn R0 sz h0 h1
  go_enter Tryd.func13, Tryd.ntmps13
  go_wp2_with fail
  refine (D.out _).mono ?_
  rintro e w1 ⟨rfl, hB⟩
  obtain ⟨⟨b1, s1⟩, R1, P1⟩ := PR.out w1 hB
  have HB := hid (And.intro b1 s1)
  have HR := hid R1
  have HP := hid P1
  clear hB b1 s1 R1 P1 PR D
  go_wp2_with fail
  generalize w1.alloc (.cells #[.bool neg, .int .i64 c, .int .u64 m, .int .i64 x] 38) = wA at *
  refine (FU.out _).mono ?_
  rintro e wb ⟨p, os, rfl, A, hB⟩
  have Rb := HR.out.below hB HR.out.lt
  have Pb := HP.out.below hB HP.out.lt
  have Bb := HB.out.1.trans (hB.mono HB.out.1.size)
  have sb := hB.size
  have sa := HB.out.2
  obtain ⟨⟨q0, q1, q2, q3⟩, -⟩ := Pb.cells
  cases inf
  · have c3' : (c == 3) = false := c3
    have SH := hid (SL.out wb p os _ m x (.inr ⟨rfl, rfl, rfl⟩) A)
    have HRb := hid Rb
    have HPb := hid Pb
    have HBb := hid (And.intro Bb (Nat.le_trans sa sb))
    clear hB Rb Pb Bb sb sa A SL HB HR HP F1 FU c3
    go_wp2_with fail
    refine SH.out.mono ?_
    rintro e wc ⟨r, os', rfl, A', hB'⟩
    have Rc := HRb.out.below hB' HRb.out.lt
    have Pc := HPb.out.below hB' HPb.out.lt
    have hs := HBb.out.2
    have KK := hid (WT.out wc r os' ⟨A'.1, A'.2.1, A'.2.2.1, A'.2.2.2.1, fun a h => by have := A'.2.2.2.2 a h; omega⟩ (HBb.out.1.trans (hB'.mono HBb.out.1.size)))
    clear q0 q1 q2 q3
    obtain ⟨⟨q0, q1, q2, q3⟩, -⟩ := Pc.cells
    clear Pc A' hB' HRb HPb HBb hs SH
    have RR := hid Rc
    obtain ⟨⟨r0, r1⟩, ⟨f0, f1⟩⟩ := Rc.cells
    clear Rc
    go_wp2_with fail
    (try simp only [Exit.inBlock, Exit.then])
    refine bodyPost_ret (results_cell_row rfl _ _ (w.heap.size) 28 _ (0, 0) _ rfl (Row2.set RR.out) Tryd.underlying28 rfl (by kernel_rfl)) rfl ?_
    exact KK.out
  · have c3' : c = 3 := by simpa using c3
    subst c3'
    have HRb := hid Rb
    have HPb := hid Pb
    have HBb := hid (And.intro Bb (Nat.le_trans sa sb))
    have SL1 := hid (fun (wx : World) (p : Option Addr) (os : List Int) (B : Nat) (A : Ans B wx p os 1) => SL.out wx p os B 1 1024 (.inl ⟨rfl, rfl, rfl⟩) A)
    clear hB Rb Pb Bb sb sa A SL HB HR HP FU c3
    go_wp2_with fail
    refine (F1.out _).mono ?_
    rintro e wd ⟨p', os'', rfl, A'', hB''⟩
    have SH := hid (SL1.out wd p' os'' _ A'')
    have HRd := hid (HRb.out.below hB'' HRb.out.lt)
    have HPd := hid (HPb.out.below hB'' HPb.out.lt)
    have HBd := hid (And.intro (HBb.out.1.trans (hB''.mono HBb.out.1.size)) (Nat.le_trans HBb.out.2 hB''.size))
    clear q0 q1 q2 q3 A'' hB'' HRb HPb HBb SL1 F1
    obtain ⟨⟨q0, q1, q2, q3⟩, -⟩ := HPd.out.cells
    go_wp2_with fail
    refine SH.out.mono ?_
    rintro e wc ⟨r, os', rfl, A', hB'⟩
    have Rc := HRd.out.below hB' HRd.out.lt
    have Pc := HPd.out.below hB' HPd.out.lt
    have hs := HBd.out.2
    have KK := hid (WT.out wc r os' ⟨A'.1, A'.2.1, A'.2.2.1, A'.2.2.2.1, fun a h => by have := A'.2.2.2.2 a h; omega⟩ (HBd.out.1.trans (hB'.mono HBd.out.1.size)))
    clear q0 q1 q2 q3
    obtain ⟨⟨q0, q1, q2, q3⟩, -⟩ := Pc.cells
    clear Pc A' hB' HRd HPd HBd hs SH
    have RR := hid Rc
    obtain ⟨⟨r0, r1⟩, ⟨f0, f1⟩⟩ := Rc.cells
    clear Rc
    go_wp2_with fail
    (try simp only [Exit.inBlock, Exit.then])
    refine bodyPost_ret (results_cell_row rfl _ _ (w.heap.size) 28 _ (0, 0) _ rfl (Row2.set RR.out) Tryd.underlying28 rfl (by kernel_rfl)) rfl ?_
    exact KK.out
end Go.Proofs.YtjebdobopechfabDoor
