/-
  Texts put together: FExactL.
-/
import Derived.Test.YtbdbpjghmejfjaaDoorRF
import Derived.Test.YtbdbpjghmejfjaaDoorRH
namespace Go.Proofs.YtbdbpjghmejfjaaDoor
open Go Go.RowKit Go.Deep

theorem Ie.fzero {d : Int} (h : Ie.fnt d = true) : Ie.dm d = 0 ↔ d % 9223372036854775808 = 0 := by
  have hc : Ie.cls d < 3 := of_decide_eq_true h
  rw [← (Ie.fdec d hc).2.2.2.2]
  unfold Ie.cls Ie.fld
  constructor
  · intro g
    split at g
    · split at g <;> omega
    · split at g
      · split at g <;> omega
      · omega
  · intro g
    rw [if_pos (by omega), if_pos (by omega)]

namespace Fx
theorem ex_pow2 {m e : Int} {xs : List Int} {E : Int} (hm : 0 < m) (he : -1074 ≤ e) (h : Ex m e xs E) : dv xs * 10 ^ E.toNat * 2 ^ (-e).toNat = m * 10 ^ (-E).toNat * 2 ^ e.toNat := by
  have lo := h.lo
  have q : dv xs * 10 ^ (E + 1074).toNat * 2 ^ (-e).toNat = m * 2 ^ e.toNat * 10 ^ 1074 := by
    rw [h.eq hm, F5]
    have e1 : (e + 1074).toNat + (-e).toNat = e.toNat + 1074 := by omega
    have e2 : (2 : Int) ^ (e + 1074).toNat * 2 ^ (-e).toNat = 2 ^ e.toNat * 2 ^ 1074 := by rw [← Int.pow_add, ← Int.pow_add, e1]
    generalize 1074 = z at *
    rw [show (10 : Int) = 2 * 5 from rfl, Int.mul_pow]
    generalize (2 : Int) ^ (e + 1074).toNat = x1 at *
    generalize (2 : Int) ^ (-e).toNat = x2 at *
    generalize (2 : Int) ^ e.toNat = x3 at *
    generalize (2 : Int) ^ z = x4 at *
    generalize (5 : Int) ^ z = x5 at *
    rw [show m * x1 * x5 * x2 = m * (x1 * x2) * x5 by ac_rfl, e2]
    ac_rfl
  have e3 : E.toNat + 1074 = (E + 1074).toNat + (-E).toNat := by omega
  have e4 : (10 : Int) ^ E.toNat * 10 ^ 1074 = 10 ^ (E + 1074).toNat * 10 ^ (-E).toNat := by rw [← Int.pow_add, ← Int.pow_add, e3]
  refine Int.eq_of_mul_eq_mul_right (a := 10 ^ 1074) (by have := p_pos 1074; omega) ?_
  generalize (10 : Int) ^ 1074 = z at *
  rw [show dv xs * 10 ^ E.toNat * 2 ^ (-e).toNat * z = dv xs * 2 ^ (-e).toNat * (10 ^ E.toNat * z) by ac_rfl, e4, show dv xs * 2 ^ (-e).toNat * (10 ^ (E + 1074).toNat * 10 ^ (-E).toNat) = dv xs * 10 ^ (E + 1074).toNat * 2 ^ (-e).toNat * 10 ^ (-E).toNat by ac_rfl, q]
  ac_rfl
theorem fnt1200 : Ie.fnt 13876364508114452480 = true := by decide
theorem al1200 : aN 13876364508114452480 = true ∧ aS 13876364508114452480 = [49, 50] ∧ aE 13876364508114452480 = 2 ∧ aR 13876364508114452480 = 0 := by
  refine ⟨by decide, ?_, ?_, by decide⟩
  · rw [aS, if_pos fnt1200, c1200.1]
  · rw [aE, if_pos fnt1200, c1200.2]
end Fx

set_option maxRecDepth 100000 in
set_option maxHeartbeats 8000000 in
theorem exact_law (d : Int) (w : World) (hT : Tab w) (h0 : 0 ≤ d) (h1 : d < 18446744073709551616) :
    Calls Tryd.prog 4 #[.int .u64 d] w fun e w' => e = .returned (.bool true) ∧ Below w.heap.size w w' := by
  have PC : Hid (Calls Tryd.prog 6 #[.int .u64 13876364508114452480] w fun e w' => e = .returned (.tuple #[.agg #[.bool true, .string ⟨#[49, 50]⟩, .int .i64 2], .int .i64 0]) ∧ Below w.heap.size w w') := by
    refine (fall_any 13876364508114452480 w hT (by omega) (by omega)).mono ?_
    rintro e w' ⟨s, rfl, hs, hB⟩
    obtain ⟨a, b, c, g⟩ := Fx.al1200
    rw [b] at hs
    have e1 : s = ⟨#[49, 50]⟩ := hs.inj rfl
    rw [a, c, g, e1]
    exact ⟨rfl, hB⟩
  have WO := hid lworks_any
  have PL : Hid (∀ wx : World, Below w.heap.size w wx → Calls Tryd.prog 6 #[.int .u64 d] wx fun e w' => AllTold d wx e w') := fun wx hB => fall_any d wx (hT.below hB) h0 h1
  have FI := hid (fun wx : World => lfinite_any d wx h0 h1)
  have BA : ∀ wx : World, Below wx.heap.size wx (wx.alloc (.cells #[.bool true, .string ⟨#[49, 50]⟩, .int .i64 2] 29)) := fun wx => alloc_b wx _
  have HBA := hid BA
  clear BA
  by_cases hf : Ie.fnt d = true
  · rw [hf] at FI
    have R0 := Fx.X_room hf
    obtain ⟨r1, r2, r3, r4, r5⟩ := R0
    have PL2 : Hid (∀ wx : World, Below w.heap.size w wx → Calls Tryd.prog 6 #[.int .u64 d] wx fun e w' => ∃ s, e = .returned (.tuple #[.agg #[.bool (decide (9223372036854775808 ≤ d)), .string s, .int .i64 (Fx.P d)], .int .i64 0]) ∧ Str s (Fx.X d) ∧ Below wx.heap.size wx w') := by
      intro wx hB
      refine (PL.out wx hB).mono ?_
      rintro e w' ⟨s, rfl, hs, hB⟩
      rw [Fx.aS, if_pos hf] at hs
      rw [Fx.aN, Fx.aE, Fx.aR, if_pos hf, if_pos hf, hf, Bool.true_and]
      exact ⟨s, rfl, hs, hB⟩
    have AN := Ib.sign_andNot d h0 h1
    obtain ⟨a, ha⟩ : ∃ a, d % 9223372036854775808 = a := ⟨_, rfl⟩
    rw [ha] at AN
    have p0 : -1074 ≤ Fx.P d := r3
    have p1 : Fx.P d ≤ 308 := by omega
    by_cases hz : a = 0
    · have m0 : Ie.dm d = 0 := (Ie.fzero hf).2 (by omega)
      obtain ⟨x1, x2⟩ := Fx.X_zero hf m0
      rw [x1, x2] at PL2
      have SZ : Hid (∀ s, Str s [48] → s = ⟨#[48]⟩) := fun s hs => hs.inj rfl
      subst hz
      clear PL hT h0 hf r1 r2 r3 r4 r5 m0 x1 x2 p0 p1 ha
      rcases (show d < 9223372036854775808 ∨ 9223372036854775808 ≤ d by omega) with hd | hd
      · rw [decide_eq_false (show ¬ 9223372036854775808 ≤ d by omega)] at PL2
        go_enter Tryd.func4, Tryd.ntmps4
        go_wp2_with fail
        refine PC.out.mono ?_
        rintro e w1 ⟨rfl, B1⟩
        go_upto_region 2 with fail
        have Z := FR3.new w1 (.bool true) (.string ⟨#[49, 50]⟩) (.int .i64 2)
        have HB1 := hid (B1.trans ((HBA.out w1).mono B1.size))
        have HZ := hid Z
        have hge := B1.size
        have HGE := hid hge
        clear Z B1 PC HBA hge
        generalize w1.alloc (.cells #[.bool true, .string ⟨#[49, 50]⟩, .int .i64 2] 29) = wA at *
        generalize w1.heap.size = b at *
        go_wp2_with fail
        refine (WO.out _).mono ?_
        rintro e w2 ⟨rfl, B2⟩
        have HB2 := hid (HB1.out.trans (B2.mono HB1.out.size))
        have HZ2 := hid (HZ.out.below B2 HZ.out.lt)
        obtain ⟨⟨c0, c1, c2⟩, q0, q1, q2⟩ := HZ2.out.cells
        clear B2 WO HB1 HZ
        go_wp2_with fail
        refine (PL2.out _ HB2.out).mono ?_
        rintro e w3 ⟨s, rfl, hs, B3⟩
        obtain rfl := SZ.out s hs
        clear hs SZ
        have HB3 := hid (HB2.out.trans (B3.mono HB2.out.size))
        have HZ3 := hid (HZ2.out.below B3 HZ2.out.lt)
        have ZP := hid (HZ3.out.put (.bool false) (.string ⟨#[48]⟩) (.int .i64 0))
        have BP := hid (fset3_below (u0 := .bool false) (u1 := .string ⟨#[48]⟩) (u2 := .int .i64 0) HB3.out HGE.out)
        clear c0 c1 c2 q0 q1 q2 B3 PL2 HB2 HZ2 HB3 HGE
        obtain ⟨⟨c0, c1, c2⟩, q0, q1, q2⟩ := HZ3.out.cells
        clear HZ3
        go_upto_region 5 with fail
        clear c0 c1 c2 q0 q1 q2
        generalize ((w3.setCell ⟨b, 0, none⟩ (.bool false)).setCell ⟨b, 1, none⟩ (.string ⟨#[48]⟩)).setCell ⟨b, 2, none⟩ (.int .i64 0) = w4 at *
        obtain ⟨⟨c0, c1, c2⟩, -⟩ := ZP.out.cells
        go_wp2_with fail
        refine (FI.out _).mono ?_
        rintro e wz ⟨rfl, hz⟩
        replace hz := hz.symm
        subst hz
        clear FI
        go_wp2_with fail
        go_ret
        exact ⟨rfl, BP.out⟩
      · rw [decide_eq_true hd] at PL2
        go_enter Tryd.func4, Tryd.ntmps4
        go_wp2_with fail
        refine PC.out.mono ?_
        rintro e w1 ⟨rfl, B1⟩
        go_upto_region 2 with fail
        have Z := FR3.new w1 (.bool true) (.string ⟨#[49, 50]⟩) (.int .i64 2)
        have HB1 := hid (B1.trans ((HBA.out w1).mono B1.size))
        have HZ := hid Z
        have hge := B1.size
        have HGE := hid hge
        clear Z B1 PC HBA hge
        generalize w1.alloc (.cells #[.bool true, .string ⟨#[49, 50]⟩, .int .i64 2] 29) = wA at *
        generalize w1.heap.size = b at *
        go_wp2_with fail
        refine (WO.out _).mono ?_
        rintro e w2 ⟨rfl, B2⟩
        have HB2 := hid (HB1.out.trans (B2.mono HB1.out.size))
        have HZ2 := hid (HZ.out.below B2 HZ.out.lt)
        obtain ⟨⟨c0, c1, c2⟩, q0, q1, q2⟩ := HZ2.out.cells
        clear B2 WO HB1 HZ
        go_wp2_with fail
        refine (PL2.out _ HB2.out).mono ?_
        rintro e w3 ⟨s, rfl, hs, B3⟩
        obtain rfl := SZ.out s hs
        clear hs SZ
        have HB3 := hid (HB2.out.trans (B3.mono HB2.out.size))
        have HZ3 := hid (HZ2.out.below B3 HZ2.out.lt)
        have ZP := hid (HZ3.out.put (.bool true) (.string ⟨#[48]⟩) (.int .i64 0))
        have BP := hid (fset3_below (u0 := .bool true) (u1 := .string ⟨#[48]⟩) (u2 := .int .i64 0) HB3.out HGE.out)
        clear c0 c1 c2 q0 q1 q2 B3 PL2 HB2 HZ2 HB3 HGE
        obtain ⟨⟨c0, c1, c2⟩, q0, q1, q2⟩ := HZ3.out.cells
        clear HZ3
        go_upto_region 5 with fail
        clear c0 c1 c2 q0 q1 q2
        generalize ((w3.setCell ⟨b, 0, none⟩ (.bool true)).setCell ⟨b, 1, none⟩ (.string ⟨#[48]⟩)).setCell ⟨b, 2, none⟩ (.int .i64 0) = w4 at *
        obtain ⟨⟨c0, c1, c2⟩, -⟩ := ZP.out.cells
        go_wp2_with fail
        refine (FI.out _).mono ?_
        rintro e wz ⟨rfl, hz⟩
        replace hz := hz.symm
        subst hz
        clear FI
        go_wp2_with fail
        go_ret
        exact ⟨rfl, BP.out⟩
    · have m0 : 0 < Ie.dm d := by
        have := (Ie.fdec d (of_decide_eq_true hf)).1
        have := Ie.fzero hf
        omega
      have hz' : (a == 0) = false := by rw [beq_eq_false_iff_ne]; exact hz
      obtain ⟨-, -, e0, e1, -⟩ := Ie.fdec d (of_decide_eq_true hf)
      have nm := (Fx.X_ex hf).nml m0
      have RD : Hid (∀ (wx : World) (s : ByteArray), Str s (Fx.X d) → Calls Tryd.prog 9 #[.string s] wx fun e w' => ∃ r os, e = .returned (.tuple #[.slice r (List.length os) (List.length os), .int .i64 0, .int .i64 0]) ∧ Nn w' r os (dv (Fx.X d)) ∧ Below wx.heap.size wx w') :=
        fun wx s hs => nread_any wx hs (by omega) nm.digs nm.ne
      have SF : Hid (∀ (s : ByteArray), Str s (Fx.X d) → ∃ (n l : Nat) (x y : Int), s.size = n ∧ (n : Int) - 1 = (l : Int) ∧ (n : Int) ≤ 1383 ∧ l < n ∧ 0 < n ∧ (x == 48) = false ∧ (y == 48) = false ∧ (∀ h : 0 < s.size, ((s[0]'h).toNat : Int) = x) ∧ (∀ h : l < s.size, ((s[l]'h).toNat : Int) = y)) := by
        intro s hs
        have z := hs.size
        refine ⟨s.size, s.size - 1, (Fx.X d).getD 0 0, (Fx.X d).getD ((Fx.X d).length - 1) 0, rfl, by omega, by omega, by omega, by omega, ?_, ?_, fun h => hs.at 0 h, fun h => ?_⟩
        · rw [beq_eq_false_iff_ne]; exact nm.head
        · rw [beq_eq_false_iff_ne]; exact nm.last
        · rw [hs.at _ h, z]
      have EQ := Fx.ex_pow2 m0 e0 (Fx.X_ex hf)
      obtain ⟨up, hup⟩ : ∃ up : Nat, (Fx.P d).toNat = up := ⟨_, rfl⟩
      obtain ⟨dw, hdw⟩ : ∃ dw : Nat, (-(Fx.P d)).toNat = dw := ⟨_, rfl⟩
      have upb : up ≤ 308 := by omega
      have dwb : dw ≤ 1074 := by omega
      have PT := hid (fun wx : World => npow10_any (up : Int) up wx rfl (by omega))
      have SC := hid (fun wx : World => scaled_any d dw wx h0 h1 hf (by omega))
      rw [hup, hdw] at EQ
      have dnb : Fx.dn d ≤ 1074 := by unfold Fx.dn; omega
      have TE : dv (Fx.X d) * 10 ^ up * 2 ^ Fx.dn d = Fx.top d dw := EQ
      have vb : dv (Fx.X d) < 10 ^ 1383 := Int.lt_of_lt_of_le (dv_bd nm.digs).2 (Fx.p_le (by omega))
      have fit1 : dv (Fx.X d) * 10 ^ up < 10 ^ (1383 + up) := by
        rw [Int.pow_add]
        exact Int.mul_lt_mul_of_pos_right vb (Fx.p_pos up)
      have fit2 : dv (Fx.X d) * 10 ^ up * 2 ^ Fx.dn d < 10 ^ (1383 + up + Fx.dn d) := by
        have D0 : (0 : Int) < 2 ^ Fx.dn d := Int.pow_pos (by omega)
        rw [Int.pow_add _ (1383 + up)]
        exact Int.lt_of_lt_of_le (Int.mul_lt_mul_of_pos_right fit1 D0) (Int.mul_le_mul_of_nonneg_left (f2_10 _) (Int.le_of_lt (Fx.p_pos _)))
      have fit1' := hid (Int.lt_trans fit1 (fp10_pw (j := 1383 + up) (by omega)))
      have fit2' := hid (Int.lt_trans fit2 (fp10_pw (j := 1383 + up + Fx.dn d) (by omega)))
      have HTE := hid TE
      unfold ScaledTold at SC
      have dni : (Fx.dn d : Int) ≤ 1074 := by omega
      clear PL hT h0 hf r1 r2 r3 r4 r5 ha EQ TE fit1 fit2 vb nm e0 e1 hz m0 dnb
      generalize dv (Fx.X d) = V at *
      generalize Fx.top d dw = A at *
      generalize hDn : Fx.dn d = j at *
      generalize Fx.X d = X at *
      generalize hP : Fx.P d = P at *
      clear hDn hP
      have MU : Hid (∀ (wx : World) (p q : Option Addr) (os zs : List Int), Nn wx p os V → Nn wx q zs (10 ^ up) → Calls Tryd.prog 11 #[.slice p (List.length os) (List.length os), .slice q (List.length zs) (List.length zs)] wx fun e w' => NnTold (V * 10 ^ up) wx e w') := fun wx p q os zs A C => nmul_any A C fit1'.out
      have SN : Hid (∀ (wx : World) (p : Option Addr) (os : List Int), Nn wx p os (V * 10 ^ up) → Calls Tryd.prog 13 #[.slice p (List.length os) (List.length os), .int .i64 (j : Int)] wx fun e w' => NnTold A wx e w') := by
        intro wx p os h
        have := nshl_any h (n := j) rfl fit2'.out
        rw [HTE.out] at this
        exact this
      clear fit1' fit2' HTE
      generalize V * 10 ^ up = Y at *
      generalize (10 : Int) ^ up = G at *
      rcases (show P < 0 ∨ 0 ≤ P by omega) with hp | hp
      · have u0 : up = 0 := by omega
        have nd : -P = (dw : Int) := by omega
        subst u0
        clear hup hdw
        rcases (show d < 9223372036854775808 ∨ 9223372036854775808 ≤ d by omega) with hd | hd
        · rw [decide_eq_false (show ¬ 9223372036854775808 ≤ d by omega)] at PL2
          go_enter Tryd.func4, Tryd.ntmps4
          go_wp2_with fail
          refine PC.out.mono ?_
          rintro e w1 ⟨rfl, B1⟩
          go_upto_region 2 with fail
          have Z := FR3.new w1 (.bool true) (.string ⟨#[49, 50]⟩) (.int .i64 2)
          have HB1 := hid (B1.trans ((HBA.out w1).mono B1.size))
          have HZ := hid Z
          have hge := B1.size
          have HGE := hid hge
          clear Z B1 PC HBA hge
          generalize w1.alloc (.cells #[.bool true, .string ⟨#[49, 50]⟩, .int .i64 2] 29) = wA at *
          generalize w1.heap.size = b at *
          go_wp2_with fail
          refine (WO.out _).mono ?_
          rintro e w2 ⟨rfl, B2⟩
          have HB2 := hid (HB1.out.trans (B2.mono HB1.out.size))
          have HZ2 := hid (HZ.out.below B2 HZ.out.lt)
          obtain ⟨⟨c0, c1, c2⟩, q0, q1, q2⟩ := HZ2.out.cells
          clear B2 WO HB1 HZ
          go_wp2_with fail
          refine (PL2.out _ HB2.out).mono ?_
          rintro e w3 ⟨s, rfl, hs, B3⟩
          have HS := hid hs
          obtain ⟨n, l, x, y, s1, s2, s3, s4, s5, s6, s7, s8, s9⟩ := SF.out s hs
          clear hs SF
          have HB3 := hid (HB2.out.trans (B3.mono HB2.out.size))
          have HZ3 := hid (HZ2.out.below B3 HZ2.out.lt)
          have ZP := hid (HZ3.out.put (.bool false) (.string s) (.int .i64 P))
          have BP := hid (fset3_below (u0 := .bool false) (u1 := .string s) (u2 := .int .i64 P) HB3.out HGE.out)
          clear c0 c1 c2 q0 q1 q2 B3 PL2 HB2 HZ2 HB3 HGE
          obtain ⟨⟨c0, c1, c2⟩, q0, q1, q2⟩ := HZ3.out.cells
          clear HZ3
          go_upto_region 5 with fail
          clear c0 c1 c2 q0 q1 q2
          generalize ((w3.setCell ⟨b, 0, none⟩ (.bool false)).setCell ⟨b, 1, none⟩ (.string s)).setCell ⟨b, 2, none⟩ (.int .i64 P) = w4 at *
          obtain ⟨⟨c0, c1, c2⟩, -⟩ := ZP.out.cells
          go_wp2_with fail
          refine (FI.out _).mono ?_
          rintro e wz ⟨rfl, hz⟩
          replace hz := hz.symm
          subst hz
          clear FI
          have s4i : (l : Int) < (n : Int) := by omega
          obtain ⟨SS, KS, CS, BS, MS⟩ := state (fun w' => w'.cell? ⟨b, 1, none⟩ = some (.string s) ∧ w'.cell? ⟨b, 2, none⟩ = some (.int .i64 P)) w ((Stays.cell _ _).and (Stays.cell _ _))
          have S4 := hid (MS.out _ ⟨c1, c2⟩ BP.out)
          have R4 := hid (RD.out w4 s HS.out)
          clear MS BP ZP RD HS
          go_wp2_with fail
          refine R4.out.mono ?_
          rintro e w5 ⟨pv, ov, rfl, A5, B5⟩
          have S5 := hid (KS.out _ _ S4.out B5)
          have HA5 := hid A5
          clear A5 B5 S4 R4 c0 c1 c2
          obtain ⟨c1, c2⟩ := CS.out _ S5.out
          go_wp2_with fail
          refine (PT.out _).mono ?_
          rintro e w6 ⟨pt, ot, rfl, A6, B6⟩
          have S6 := hid (KS.out _ _ S5.out B6)
          have M6 := hid (MU.out w6 pv pt ov ot (HA5.out.on B6) A6)
          clear A6 B6 S5 HA5 PT MU c1 c2
          go_wp2_with fail
          refine M6.out.mono ?_
          rintro e w7 ⟨pm, om, rfl, A7, B7⟩
          have S7 := hid (KS.out _ _ S6.out B7)
          have HA7 := hid A7
          clear A7 B7 S6 M6
          go_wp2_with fail
          refine (SC.out _).mono ?_
          rintro e w8 ⟨pa, oa, rfl, A8, B8⟩
          have S8 := hid (KS.out _ _ S7.out B8)
          have HA8 := hid A8
          have N8 := hid (SN.out w8 pm om (HA7.out.on B8))
          clear A8 B8 S7 HA7 SC SN
          go_wp2_with fail
          refine N8.out.mono ?_
          rintro e w9 ⟨pn, on, rfl, A9, B9⟩
          have S9 := hid (KS.out _ _ S8.out B9)
          have C9 := ncmp_any A9 (HA8.out.on B9)
          rw [cmpI_eq rfl] at C9
          have HC9 := hid C9
          clear A9 B9 S8 HA8 N8 C9
          go_wp2_with fail
          refine HC9.out.mono ?_
          rintro e w10 ⟨rfl, B10⟩
          have S10 := hid (KS.out _ _ S9.out B10)
          clear B10 S9 HC9
          go_wp2_with fail
          go_ret
          exact ⟨rfl, BS.out _ S10.out⟩
        · rw [decide_eq_true hd] at PL2
          go_enter Tryd.func4, Tryd.ntmps4
          go_wp2_with fail
          refine PC.out.mono ?_
          rintro e w1 ⟨rfl, B1⟩
          go_upto_region 2 with fail
          have Z := FR3.new w1 (.bool true) (.string ⟨#[49, 50]⟩) (.int .i64 2)
          have HB1 := hid (B1.trans ((HBA.out w1).mono B1.size))
          have HZ := hid Z
          have hge := B1.size
          have HGE := hid hge
          clear Z B1 PC HBA hge
          generalize w1.alloc (.cells #[.bool true, .string ⟨#[49, 50]⟩, .int .i64 2] 29) = wA at *
          generalize w1.heap.size = b at *
          go_wp2_with fail
          refine (WO.out _).mono ?_
          rintro e w2 ⟨rfl, B2⟩
          have HB2 := hid (HB1.out.trans (B2.mono HB1.out.size))
          have HZ2 := hid (HZ.out.below B2 HZ.out.lt)
          obtain ⟨⟨c0, c1, c2⟩, q0, q1, q2⟩ := HZ2.out.cells
          clear B2 WO HB1 HZ
          go_wp2_with fail
          refine (PL2.out _ HB2.out).mono ?_
          rintro e w3 ⟨s, rfl, hs, B3⟩
          have HS := hid hs
          obtain ⟨n, l, x, y, s1, s2, s3, s4, s5, s6, s7, s8, s9⟩ := SF.out s hs
          clear hs SF
          have HB3 := hid (HB2.out.trans (B3.mono HB2.out.size))
          have HZ3 := hid (HZ2.out.below B3 HZ2.out.lt)
          have ZP := hid (HZ3.out.put (.bool true) (.string s) (.int .i64 P))
          have BP := hid (fset3_below (u0 := .bool true) (u1 := .string s) (u2 := .int .i64 P) HB3.out HGE.out)
          clear c0 c1 c2 q0 q1 q2 B3 PL2 HB2 HZ2 HB3 HGE
          obtain ⟨⟨c0, c1, c2⟩, q0, q1, q2⟩ := HZ3.out.cells
          clear HZ3
          go_upto_region 5 with fail
          clear c0 c1 c2 q0 q1 q2
          generalize ((w3.setCell ⟨b, 0, none⟩ (.bool true)).setCell ⟨b, 1, none⟩ (.string s)).setCell ⟨b, 2, none⟩ (.int .i64 P) = w4 at *
          obtain ⟨⟨c0, c1, c2⟩, -⟩ := ZP.out.cells
          go_wp2_with fail
          refine (FI.out _).mono ?_
          rintro e wz ⟨rfl, hz⟩
          replace hz := hz.symm
          subst hz
          clear FI
          have s4i : (l : Int) < (n : Int) := by omega
          obtain ⟨SS, KS, CS, BS, MS⟩ := state (fun w' => w'.cell? ⟨b, 1, none⟩ = some (.string s) ∧ w'.cell? ⟨b, 2, none⟩ = some (.int .i64 P)) w ((Stays.cell _ _).and (Stays.cell _ _))
          have S4 := hid (MS.out _ ⟨c1, c2⟩ BP.out)
          have R4 := hid (RD.out w4 s HS.out)
          clear MS BP ZP RD HS
          go_wp2_with fail
          refine R4.out.mono ?_
          rintro e w5 ⟨pv, ov, rfl, A5, B5⟩
          have S5 := hid (KS.out _ _ S4.out B5)
          have HA5 := hid A5
          clear A5 B5 S4 R4 c0 c1 c2
          obtain ⟨c1, c2⟩ := CS.out _ S5.out
          go_wp2_with fail
          refine (PT.out _).mono ?_
          rintro e w6 ⟨pt, ot, rfl, A6, B6⟩
          have S6 := hid (KS.out _ _ S5.out B6)
          have M6 := hid (MU.out w6 pv pt ov ot (HA5.out.on B6) A6)
          clear A6 B6 S5 HA5 PT MU c1 c2
          go_wp2_with fail
          refine M6.out.mono ?_
          rintro e w7 ⟨pm, om, rfl, A7, B7⟩
          have S7 := hid (KS.out _ _ S6.out B7)
          have HA7 := hid A7
          clear A7 B7 S6 M6
          go_wp2_with fail
          refine (SC.out _).mono ?_
          rintro e w8 ⟨pa, oa, rfl, A8, B8⟩
          have S8 := hid (KS.out _ _ S7.out B8)
          have HA8 := hid A8
          have N8 := hid (SN.out w8 pm om (HA7.out.on B8))
          clear A8 B8 S7 HA7 SC SN
          go_wp2_with fail
          refine N8.out.mono ?_
          rintro e w9 ⟨pn, on, rfl, A9, B9⟩
          have S9 := hid (KS.out _ _ S8.out B9)
          have C9 := ncmp_any A9 (HA8.out.on B9)
          rw [cmpI_eq rfl] at C9
          have HC9 := hid C9
          clear A9 B9 S8 HA8 N8 C9
          go_wp2_with fail
          refine HC9.out.mono ?_
          rintro e w10 ⟨rfl, B10⟩
          have S10 := hid (KS.out _ _ S9.out B10)
          clear B10 S9 HC9
          go_wp2_with fail
          go_ret
          exact ⟨rfl, BS.out _ S10.out⟩
      · have d0 : dw = 0 := by omega
        have nd : P = (up : Int) := by omega
        subst d0
        subst nd
        have hp1 : ¬ (up : Int) < 0 := by omega
        clear hup hdw
        rcases (show d < 9223372036854775808 ∨ 9223372036854775808 ≤ d by omega) with hd | hd
        · rw [decide_eq_false (show ¬ 9223372036854775808 ≤ d by omega)] at PL2
          go_enter Tryd.func4, Tryd.ntmps4
          go_wp2_with fail
          refine PC.out.mono ?_
          rintro e w1 ⟨rfl, B1⟩
          go_upto_region 2 with fail
          have Z := FR3.new w1 (.bool true) (.string ⟨#[49, 50]⟩) (.int .i64 2)
          have HB1 := hid (B1.trans ((HBA.out w1).mono B1.size))
          have HZ := hid Z
          have hge := B1.size
          have HGE := hid hge
          clear Z B1 PC HBA hge
          generalize w1.alloc (.cells #[.bool true, .string ⟨#[49, 50]⟩, .int .i64 2] 29) = wA at *
          generalize w1.heap.size = b at *
          go_wp2_with fail
          refine (WO.out _).mono ?_
          rintro e w2 ⟨rfl, B2⟩
          have HB2 := hid (HB1.out.trans (B2.mono HB1.out.size))
          have HZ2 := hid (HZ.out.below B2 HZ.out.lt)
          obtain ⟨⟨c0, c1, c2⟩, q0, q1, q2⟩ := HZ2.out.cells
          clear B2 WO HB1 HZ
          go_wp2_with fail
          refine (PL2.out _ HB2.out).mono ?_
          rintro e w3 ⟨s, rfl, hs, B3⟩
          have HS := hid hs
          obtain ⟨n, l, x, y, s1, s2, s3, s4, s5, s6, s7, s8, s9⟩ := SF.out s hs
          clear hs SF
          have HB3 := hid (HB2.out.trans (B3.mono HB2.out.size))
          have HZ3 := hid (HZ2.out.below B3 HZ2.out.lt)
          have ZP := hid (HZ3.out.put (.bool false) (.string s) (.int .i64 (up : Int)))
          have BP := hid (fset3_below (u0 := .bool false) (u1 := .string s) (u2 := .int .i64 (up : Int)) HB3.out HGE.out)
          clear c0 c1 c2 q0 q1 q2 B3 PL2 HB2 HZ2 HB3 HGE
          obtain ⟨⟨c0, c1, c2⟩, q0, q1, q2⟩ := HZ3.out.cells
          clear HZ3
          go_upto_region 5 with fail
          clear c0 c1 c2 q0 q1 q2
          generalize ((w3.setCell ⟨b, 0, none⟩ (.bool false)).setCell ⟨b, 1, none⟩ (.string s)).setCell ⟨b, 2, none⟩ (.int .i64 (up : Int)) = w4 at *
          obtain ⟨⟨c0, c1, c2⟩, -⟩ := ZP.out.cells
          go_wp2_with fail
          refine (FI.out _).mono ?_
          rintro e wz ⟨rfl, hz⟩
          replace hz := hz.symm
          subst hz
          clear FI
          have s4i : (l : Int) < (n : Int) := by omega
          obtain ⟨SS, KS, CS, BS, MS⟩ := state (fun w' => w'.cell? ⟨b, 1, none⟩ = some (.string s) ∧ w'.cell? ⟨b, 2, none⟩ = some (.int .i64 (up : Int))) w ((Stays.cell _ _).and (Stays.cell _ _))
          have S4 := hid (MS.out _ ⟨c1, c2⟩ BP.out)
          have R4 := hid (RD.out w4 s HS.out)
          clear MS BP ZP RD HS
          go_wp2_with fail
          refine R4.out.mono ?_
          rintro e w5 ⟨pv, ov, rfl, A5, B5⟩
          have S5 := hid (KS.out _ _ S4.out B5)
          have HA5 := hid A5
          clear A5 B5 S4 R4 c0 c1 c2
          obtain ⟨c1, c2⟩ := CS.out _ S5.out
          go_wp2_with fail
          refine (PT.out _).mono ?_
          rintro e w6 ⟨pt, ot, rfl, A6, B6⟩
          have S6 := hid (KS.out _ _ S5.out B6)
          have M6 := hid (MU.out w6 pv pt ov ot (HA5.out.on B6) A6)
          clear A6 B6 S5 HA5 PT MU c1 c2
          go_wp2_with fail
          refine M6.out.mono ?_
          rintro e w7 ⟨pm, om, rfl, A7, B7⟩
          have S7 := hid (KS.out _ _ S6.out B7)
          have HA7 := hid A7
          clear A7 B7 S6 M6
          go_wp2_with fail
          refine (SC.out _).mono ?_
          rintro e w8 ⟨pa, oa, rfl, A8, B8⟩
          have S8 := hid (KS.out _ _ S7.out B8)
          have HA8 := hid A8
          have N8 := hid (SN.out w8 pm om (HA7.out.on B8))
          clear A8 B8 S7 HA7 SC SN
          go_wp2_with fail
          refine N8.out.mono ?_
          rintro e w9 ⟨pn, on, rfl, A9, B9⟩
          have S9 := hid (KS.out _ _ S8.out B9)
          have C9 := ncmp_any A9 (HA8.out.on B9)
          rw [cmpI_eq rfl] at C9
          have HC9 := hid C9
          clear A9 B9 S8 HA8 N8 C9
          go_wp2_with fail
          refine HC9.out.mono ?_
          rintro e w10 ⟨rfl, B10⟩
          have S10 := hid (KS.out _ _ S9.out B10)
          clear B10 S9 HC9
          go_wp2_with fail
          go_ret
          exact ⟨rfl, BS.out _ S10.out⟩
        · rw [decide_eq_true hd] at PL2
          go_enter Tryd.func4, Tryd.ntmps4
          go_wp2_with fail
          refine PC.out.mono ?_
          rintro e w1 ⟨rfl, B1⟩
          go_upto_region 2 with fail
          have Z := FR3.new w1 (.bool true) (.string ⟨#[49, 50]⟩) (.int .i64 2)
          have HB1 := hid (B1.trans ((HBA.out w1).mono B1.size))
          have HZ := hid Z
          have hge := B1.size
          have HGE := hid hge
          clear Z B1 PC HBA hge
          generalize w1.alloc (.cells #[.bool true, .string ⟨#[49, 50]⟩, .int .i64 2] 29) = wA at *
          generalize w1.heap.size = b at *
          go_wp2_with fail
          refine (WO.out _).mono ?_
          rintro e w2 ⟨rfl, B2⟩
          have HB2 := hid (HB1.out.trans (B2.mono HB1.out.size))
          have HZ2 := hid (HZ.out.below B2 HZ.out.lt)
          obtain ⟨⟨c0, c1, c2⟩, q0, q1, q2⟩ := HZ2.out.cells
          clear B2 WO HB1 HZ
          go_wp2_with fail
          refine (PL2.out _ HB2.out).mono ?_
          rintro e w3 ⟨s, rfl, hs, B3⟩
          have HS := hid hs
          obtain ⟨n, l, x, y, s1, s2, s3, s4, s5, s6, s7, s8, s9⟩ := SF.out s hs
          clear hs SF
          have HB3 := hid (HB2.out.trans (B3.mono HB2.out.size))
          have HZ3 := hid (HZ2.out.below B3 HZ2.out.lt)
          have ZP := hid (HZ3.out.put (.bool true) (.string s) (.int .i64 (up : Int)))
          have BP := hid (fset3_below (u0 := .bool true) (u1 := .string s) (u2 := .int .i64 (up : Int)) HB3.out HGE.out)
          clear c0 c1 c2 q0 q1 q2 B3 PL2 HB2 HZ2 HB3 HGE
          obtain ⟨⟨c0, c1, c2⟩, q0, q1, q2⟩ := HZ3.out.cells
          clear HZ3
          go_upto_region 5 with fail
          clear c0 c1 c2 q0 q1 q2
          generalize ((w3.setCell ⟨b, 0, none⟩ (.bool true)).setCell ⟨b, 1, none⟩ (.string s)).setCell ⟨b, 2, none⟩ (.int .i64 (up : Int)) = w4 at *
          obtain ⟨⟨c0, c1, c2⟩, -⟩ := ZP.out.cells
          go_wp2_with fail
          refine (FI.out _).mono ?_
          rintro e wz ⟨rfl, hz⟩
          replace hz := hz.symm
          subst hz
          clear FI
          have s4i : (l : Int) < (n : Int) := by omega
          obtain ⟨SS, KS, CS, BS, MS⟩ := state (fun w' => w'.cell? ⟨b, 1, none⟩ = some (.string s) ∧ w'.cell? ⟨b, 2, none⟩ = some (.int .i64 (up : Int))) w ((Stays.cell _ _).and (Stays.cell _ _))
          have S4 := hid (MS.out _ ⟨c1, c2⟩ BP.out)
          have R4 := hid (RD.out w4 s HS.out)
          clear MS BP ZP RD HS
          go_wp2_with fail
          refine R4.out.mono ?_
          rintro e w5 ⟨pv, ov, rfl, A5, B5⟩
          have S5 := hid (KS.out _ _ S4.out B5)
          have HA5 := hid A5
          clear A5 B5 S4 R4 c0 c1 c2
          obtain ⟨c1, c2⟩ := CS.out _ S5.out
          go_wp2_with fail
          refine (PT.out _).mono ?_
          rintro e w6 ⟨pt, ot, rfl, A6, B6⟩
          have S6 := hid (KS.out _ _ S5.out B6)
          have M6 := hid (MU.out w6 pv pt ov ot (HA5.out.on B6) A6)
          clear A6 B6 S5 HA5 PT MU c1 c2
          go_wp2_with fail
          refine M6.out.mono ?_
          rintro e w7 ⟨pm, om, rfl, A7, B7⟩
          have S7 := hid (KS.out _ _ S6.out B7)
          have HA7 := hid A7
          clear A7 B7 S6 M6
          go_wp2_with fail
          refine (SC.out _).mono ?_
          rintro e w8 ⟨pa, oa, rfl, A8, B8⟩
          have S8 := hid (KS.out _ _ S7.out B8)
          have HA8 := hid A8
          have N8 := hid (SN.out w8 pm om (HA7.out.on B8))
          clear A8 B8 S7 HA7 SC SN
          go_wp2_with fail
          refine N8.out.mono ?_
          rintro e w9 ⟨pn, on, rfl, A9, B9⟩
          have S9 := hid (KS.out _ _ S8.out B9)
          have C9 := ncmp_any A9 (HA8.out.on B9)
          rw [cmpI_eq rfl] at C9
          have HC9 := hid C9
          clear A9 B9 S8 HA8 N8 C9
          go_wp2_with fail
          refine HC9.out.mono ?_
          rintro e w10 ⟨rfl, B10⟩
          have S10 := hid (KS.out _ _ S9.out B10)
          clear B10 S9 HC9
          go_wp2_with fail
          go_ret
          exact ⟨rfl, BS.out _ S10.out⟩
  · have hf' : Ie.fnt d = false := by simpa using hf
    rw [hf'] at FI
    have PL2 : Hid (∀ wx : World, Below w.heap.size w wx → Calls Tryd.prog 6 #[.int .u64 d] wx fun e w' => e = .returned (.tuple #[.agg #[.bool false, .string ⟨#[]⟩, .int .i64 0], .int .i64 5]) ∧ Below wx.heap.size wx w') := by
      intro wx hB
      refine (PL.out wx hB).mono ?_
      rintro e w' ⟨s, rfl, hs, hB⟩
      rw [Fx.aS, if_neg hf] at hs
      have e1 : s = ⟨#[]⟩ := hs.inj rfl
      rw [Fx.aN, Fx.aE, Fx.aR, if_neg hf, if_neg hf, hf', Bool.false_and, e1]
      exact ⟨rfl, hB⟩
    clear PL hT h0 h1 hf hf'
    go_enter Tryd.func4, Tryd.ntmps4
    go_wp2_with fail
    refine PC.out.mono ?_
    rintro e w1 ⟨rfl, B1⟩
    go_upto_region 2 with fail
    have Z := FR3.new w1 (.bool true) (.string ⟨#[49, 50]⟩) (.int .i64 2)
    have HB1 := hid (B1.trans ((HBA.out w1).mono B1.size))
    have HZ := hid Z
    have hge := B1.size
    have HGE := hid hge
    clear Z B1 PC HBA hge
    generalize w1.alloc (.cells #[.bool true, .string ⟨#[49, 50]⟩, .int .i64 2] 29) = wA at *
    generalize w1.heap.size = b at *
    go_wp2_with fail
    refine (WO.out _).mono ?_
    rintro e w2 ⟨rfl, B2⟩
    have HB2 := hid (HB1.out.trans (B2.mono HB1.out.size))
    have HZ2 := hid (HZ.out.below B2 HZ.out.lt)
    obtain ⟨⟨c0, c1, c2⟩, q0, q1, q2⟩ := HZ2.out.cells
    clear B2 WO HB1 HZ
    go_wp2_with fail
    refine (PL2.out _ HB2.out).mono ?_
    rintro e w3 ⟨rfl, B3⟩
    have HB3 := hid (HB2.out.trans (B3.mono HB2.out.size))
    have HZ3 := hid (HZ2.out.below B3 HZ2.out.lt)
    have ZP := hid (HZ3.out.put (.bool false) (.string ⟨#[]⟩) (.int .i64 0))
    have BP := hid (fset3_below (u0 := .bool false) (u1 := .string ⟨#[]⟩) (u2 := .int .i64 0) HB3.out HGE.out)
    clear c0 c1 c2 q0 q1 q2 B3 PL2 HB2 HZ2 HB3 HGE
    obtain ⟨⟨c0, c1, c2⟩, q0, q1, q2⟩ := HZ3.out.cells
    clear HZ3
    go_upto_region 5 with fail
    clear c0 c1 c2 q0 q1 q2
    generalize ((w3.setCell ⟨b, 0, none⟩ (.bool false)).setCell ⟨b, 1, none⟩ (.string ⟨#[]⟩)).setCell ⟨b, 2, none⟩ (.int .i64 0) = w4 at *
    obtain ⟨⟨c0, c1, c2⟩, -⟩ := ZP.out.cells
    go_wp2_with fail
    refine (FI.out _).mono ?_
    rintro e wz ⟨rfl, hz⟩
    replace hz := hz.symm
    subst hz
    clear FI
    go_wp2_with fail
    go_ret
    exact ⟨rfl, BP.out⟩
end Go.Proofs.YtbdbpjghmejfjaaDoor
