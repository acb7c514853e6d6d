import Derived.Test.YthpeolamapoamaaDoorXOps
import Derived.Test.YthpeolamapoamaaDoorIUD
/-
  CoreDivides (made by mktdiv.py).
-/
namespace Go.Proofs.YthpeolamapoamaaDoor
open Go Go.RowKit Go.Deep

theorem i64_and2047 (n : Int) (h0 : 0 ≤ n) (h1 : n < 9223372036854775808) : bits .and .i64 n 2047 = n % 2048 := by
  obtain ⟨x, rfl⟩ := Int.eq_ofNat_of_zero_le h0
  have h : x &&& 2047 = x % 2048 := Nat.and_two_pow_sub_one_eq_mod x 11
  have e1 : (BitVec.ofInt 64 (x : Int)).toNat = x := by
    rw [BitVec.ofInt_natCast, BitVec.toNat_ofNat]; exact Nat.mod_eq_of_lt (by omega)
  have e2 : (BitVec.ofInt 64 (2047 : Int)).toNat = 2047 := by decide
  show IntKind.i64.wrap ((BitVec.ofInt 64 (x : Int) &&& BitVec.ofInt 64 (2047 : Int)).toNat : Int) = _
  rw [BitVec.toNat_and, e1, e2, h]
  have : x % 2048 < 2048 := Nat.mod_lt _ (by omega)
  rw [IntKind.wrap_i64]
  omega

theorem Ie.dnd_bd (d : Int) (h0 : 0 ≤ d) (h1 : d < 18446744073709551616) : 0 ≤ Ie.dnd d ∧ Ie.dnd d < 18446744073709551616 := by
  rw [Ie.dnd]
  split
  · omega
  · obtain ⟨a0, a1⟩ := Ie.ng_bd d h0 h1
    obtain ⟨b0, b1⟩ := Ie.upd_bd _ a0 a1
    exact Ie.ng_bd _ b0 b1

set_option maxRecDepth 100000 in
set_option maxHeartbeats 8000000 in
theorem middle_any (d : Int) (w : World) (h0 : 0 ≤ d) (h1 : d < 18446744073709551616) :
    Calls Tryd.prog 5 #[.int .u64 d] w fun e w' => e = .returned (.bool (Ie.midd d)) ∧ w' = w := by
  obtain ⟨q, hq⟩ : ∃ q, d / 4503599627370496 = q := ⟨_, rfl⟩
  have q0 : 0 ≤ q := by omega
  have q1 : q < 4096 := by omega
  have B := i64_and2047 q q0 (by omega)
  obtain ⟨m, hm⟩ : ∃ m, q % 2048 = m := ⟨_, rfl⟩
  have m0 : 0 ≤ m ∧ m < 2048 := by omega
  have E : Ie.midd d = (decide (623 ≤ m) && decide (m ≤ 1423)) := by rw [Ie.midd, Ie.fld, hq, hm]
  rw [E]
  rw [hm] at B
  clear E hm
  rcases (show m < 623 ∨ (623 ≤ m ∧ m ≤ 1423) ∨ (623 ≤ m ∧ 1423 < m) by omega) with g | ⟨g, g'⟩ | ⟨g, g'⟩
  · rw [decide_eq_false (show ¬ 623 ≤ m by omega), Bool.false_and]
    go_enter Tryd.func5, Tryd.ntmps5
    go_wp2
    go_ret
    exact ⟨rfl, rfl⟩
  · rw [decide_eq_true g, decide_eq_true g', Bool.true_and]
    go_enter Tryd.func5, Tryd.ntmps5
    go_wp2
    go_ret
    exact ⟨rfl, rfl⟩
  · have dd : decide (m ≤ 1423) = false := decide_eq_false (by omega)
    rw [decide_eq_true g, dd, Bool.true_and]
    go_enter Tryd.func5, Tryd.ntmps5
    go_wp2
    go_ret
    exact ⟨rfl, rfl⟩

set_option maxRecDepth 100000 in
set_option maxHeartbeats 8000000 in
theorem trest_any (a b q : Int) (w : World) (a0 : 0 ≤ a) (a1 : a < 18446744073709551616) (b0 : 0 ≤ b) (b1 : b < 18446744073709551616) (q0 : 0 ≤ q) (q1 : q < 18446744073709551616) (hT : Tab w) :
    Calls Tryd.prog 6 #[.int .u64 a, .int .u64 b, .int .u64 q] w fun e w' => ∃ r f, e = .returned (.int .u64 (r % 9223372036854775808)) ∧ Ie.FmaIs (Ie.ng q) b a r f ∧ Below w.heap.size w w' := by
  have NG := hid (neg_any q w q0 q1)
  obtain ⟨n0, n1⟩ := Ie.ng_bd q q0 q1
  have FM := hid (softFma_any (Ie.ng q) b a w n0 n1 b0 b1 a0 a1 hT)
  generalize Ie.ng q = n at *
  have AB := hid (fun (r : Int) (wx : World) (r0 : 0 ≤ r) (r1 : r < 18446744073709551616) => abs_any r wx r0 r1)
  clear hT
  go_enter Tryd.func6, Tryd.ntmps6
  go_wp2_with fail
  refine NG.out.mono ?_
  rintro e wz ⟨rfl, hz⟩
  replace hz := hz.symm
  subst hz
  go_wp2_with fail
  refine FM.out.mono ?_
  rintro e w1 ⟨r, f, rfl, hr, hB⟩
  obtain ⟨r0, r1⟩ := Ie.FmaIs.bd a0 a1 hr
  have KK := hid (And.intro hr hB)
  clear hr hB FM NG
  go_wp2_with fail
  refine (AB.out r _ r0 r1).mono ?_
  rintro e wz ⟨rfl, hz⟩
  replace hz := hz.symm
  subst hz
  go_wp2_with fail
  go_ret
  exact ⟨r, f, rfl, KK.out.1, KK.out.2⟩

set_option maxRecDepth 100000 in
set_option maxHeartbeats 8000000 in
theorem divides_law (a b : Int) (w : World) (a0 : 0 ≤ a) (a1 : a < 18446744073709551616) (b0 : 0 ≤ b) (b1 : b < 18446744073709551616) (hT : Tab w) :
    Calls Tryd.prog 3 #[.int .u64 a, .int .u64 b] w fun e w' => e = .returned (.bool true) ∧ Below w.heap.size w w' := by
  have VD := hid (fun (x y : Int) (wx : World) (hx : Below w.heap.size w wx) (x0 : 0 ≤ x) (x1 : x < 18446744073709551616) (y0 : 0 ≤ y) (y1 : y < 18446744073709551616) => softDiv_any x y wx x0 x1 y0 y1 (hT.below hx))
  have DL := hid (fun (wx : World) (hx : Below w.heap.size w wx) => softDiv_any 4618441417868443648 4611686018427387904 wx (by omega) (by omega) (by omega) (by omega) (hT.below hx))
  have RT := hid (fun (q : Int) (wx : World) (hx : Below w.heap.size w wx) (q0 : 0 ≤ q) (q1 : q < 18446744073709551616) => trest_any a b q wx a0 a1 b0 b1 q0 q1 (hT.below hx))
  clear hT
  go_enter Tryd.func3, Tryd.ntmps3
  go_wp2_with fail
  refine (DL.out w (Below.refl _ _)).mono ?_
  rintro e w1 ⟨r, f, rfl, hr, hB⟩
  obtain rfl := Ie.div_62 hr
  have HB := hid hB
  clear hB hr DL
  go_wp2_with fail
  refine (VD.out a b _ HB.out a0 a1 b0 b1).mono ?_
  rintro e w2 ⟨q, fq, rfl, hr, hB⟩
  have HN := hid (HB.out.trans (hB.mono HB.out.size))
  obtain ⟨q0, q1⟩ := Ie.DivIs.bd hr
  have qH := hid hr
  clear hB HB hr
  have HB := HN
  clear HN
  cases ma : Ie.midd a
  · have M := hid (fun (wx : World) => middle_any a wx a0 a1)
    rw [ma] at M
    go_wp2_with fail
    refine (M.out _).mono ?_
    rintro e wz ⟨rfl, hz⟩
    replace hz := hz.symm
    subst hz
    go_wp2_with fail
    go_ret
    exact ⟨rfl, HB.out⟩
  · have Ma := hid (fun (wx : World) => middle_any a wx a0 a1)
    rw [ma] at Ma
    go_wp2_with fail
    refine (Ma.out _).mono ?_
    rintro e wz ⟨rfl, hz⟩
    replace hz := hz.symm
    subst hz
    cases mb : Ie.midd b
    · have M := hid (fun (wx : World) => middle_any b wx b0 b1)
      rw [mb] at M
      go_wp2_with fail
      refine (M.out _).mono ?_
      rintro e wz ⟨rfl, hz⟩
      replace hz := hz.symm
      subst hz
      go_wp2_with fail
      go_ret
      exact ⟨rfl, HB.out⟩
    · have Mb := hid (fun (wx : World) => middle_any b wx b0 b1)
      rw [mb] at Mb
      go_wp2_with fail
      refine (Mb.out _).mono ?_
      rintro e wz ⟨rfl, hz⟩
      replace hz := hz.symm
      subst hz
      cases mq : Ie.midd q
      · have M := hid (fun (wx : World) => middle_any q wx q0 q1)
        rw [mq] at M
        go_wp2_with fail
        refine (M.out _).mono ?_
        rintro e wz ⟨rfl, hz⟩
        replace hz := hz.symm
        subst hz
        go_wp2_with fail
        go_ret
        exact ⟨rfl, HB.out⟩
      · have Mq := hid (fun (wx : World) => middle_any q wx q0 q1)
        rw [mq] at Mq
        go_wp2_with fail
        refine (Mq.out _).mono ?_
        rintro e wz ⟨rfl, hz⟩
        replace hz := hz.symm
        subst hz
        obtain ⟨ha, fa, -, -⟩ := Ie.midd_is a0 a1 ma
        obtain ⟨hb, fb, -, -⟩ := Ie.midd_is b0 b1 mb
        obtain ⟨hq, fq1, ⟨-, fu, nu⟩, fd, nd⟩ := Ie.midd_is q0 q1 mq
        have QR := hid (qH.out.rs fa fb (by omega))
        have LE : Hid (∀ (p r s f f' : Int), 0 ≤ p → p < 18446744073709551616 → Ie.fin p → Ie.ngd p = Ie.ngd q → Ie.FmaIs (Ie.ng q) b a r f → Ie.FmaIs (Ie.ng p) b a s f' → r % 9223372036854775808 ≤ s % 9223372036854775808) := by
          intro p r s f f' p0 p1 fp np h h'
          have fq2 : Ie.fin (Ie.ng q) := by rw [Ie.fin, (Ie.ng_parts q0 q1).2.1]; exact fq1
          have fp2 : Ie.fin (Ie.ng p) := by rw [Ie.fin, (Ie.ng_parts p0 p1).2.1]; exact fp
          exact Ie.rest_le q0 q1 p0 p1 ha hb QR.out np fp (h.rs fq2 fb fa) (h'.rs fp2 fb fa)
        obtain ⟨u0, u1⟩ := Ie.upd_bd q q0 q1
        obtain ⟨d0, d1⟩ := Ie.dnd_bd q q0 q1
        have UP := hid (fun (wx : World) => up_any q wx q0 q1)
        have DN := hid (fun (wx : World) => down_any q wx q0 q1)
        have GU := hid (fun (r s f f' : Int) => LE.out (Ie.upd q) r s f f' u0 u1 fu nu)
        have GD := hid (fun (r s f f' : Int) => LE.out (Ie.dnd q) r s f f' d0 d1 fd nd)
        clear ha fa hb fb hq fq1 fu nu fd nd QR LE qH ma mb mq Ma Mb Mq VD
        generalize Ie.upd q = u at *
        generalize Ie.dnd q = d at *
        go_wp2_with fail
        refine (RT.out q _ HB.out q0 q1).mono ?_
        rintro e wr ⟨r, fr, rfl, hr, hB⟩
        have HN := hid (HB.out.trans (hB.mono HB.out.size))
        have rH := hid hr
        have rb : 0 ≤ r % 9223372036854775808 := by omega
        clear hB HB hr
        have HB := HN
        clear HN
        generalize hx : r % 9223372036854775808 = x at *
        go_wp2_with fail
        refine (UP.out _).mono ?_
        rintro e wz ⟨rfl, hz⟩
        replace hz := hz.symm
        subst hz
        go_wp2_with fail
        refine (RT.out u _ HB.out u0 u1).mono ?_
        rintro e ws ⟨s, fs, rfl, hs, hB⟩
        have HN := hid (HB.out.trans (hB.mono HB.out.size))
        have le1 := GU.out _ _ _ _ rH.out hs
        rw [hx] at le1
        clear hB HB hs GU
        have HB := HN
        clear HN
        generalize s % 9223372036854775808 = y at *
        go_wp2_with fail
        refine (DN.out _).mono ?_
        rintro e wz ⟨rfl, hz⟩
        replace hz := hz.symm
        subst hz
        go_wp2_with fail
        refine (RT.out d _ HB.out d0 d1).mono ?_
        rintro e ws2 ⟨s2, fs2, rfl, hs, hB⟩
        have HN := hid (HB.out.trans (hB.mono HB.out.size))
        have le2 := GD.out _ _ _ _ rH.out hs
        rw [hx] at le2
        clear hB HB hs GD
        have HB := HN
        clear HN
        generalize s2 % 9223372036854775808 = y2 at *
        go_wp2_with fail
        go_ret
        exact ⟨rfl, HB.out⟩
end Go.Proofs.YthpeolamapoamaaDoor
