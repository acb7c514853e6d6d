import Derived.Test.YtpnjafacoeinnabDoorIWholeN
namespace Go.Proofs.YtpnjafacoeinnabDoor
open Go Go.RowKit Go.Deep

set_option maxRecDepth 100000 in
set_option maxHeartbeats 16000000 in
theorem wholeLaw_f (d i : Int) (w : World) (hT : Tab w) (h0 : 0 ≤ d) (h1 : d < 18446744073709551616) (i0 : -9223372036854775808 ≤ i) (i1 : i ≤ 9223372036854775807) (hr : d % 9223372036854775808 < 9218868437227405312) (hs : ¬ 9223372036854775808 ≤ d) :
    Calls Tryd.prog 5 #[.int .u64 d, .int .i64 i] w fun r w' => r = .returned (.bool true) ∧ Below w.heap.size w w'  := by
  have AW := hid (awake_any w hT)
  have SM := hid (fun (a : -9007199254740992 ≤ i) (b : i ≤ 9007199254740992) => small_facts i w hT a b)
  have FN := hid (fun (a : 0 ≤ i) (wx : World) (hx : Below w.heap.size w wx) => fromI_nn i wx (hT.below hx) a i1)
  have FG := hid (fun (a : i < 0) (wx : World) (hx : Below w.heap.size w wx) => fromI_ng i wx (hT.below hx) a i0)
  have FU := hid (fun (u : Int) (u0 : 0 ≤ u) (u1 : u < 18446744073709551616) (wx : World) (hx : Below w.heap.size w wx) => fromU_any u wx (hT.below hx) u0 u1)
  have HT := hid hT
  obtain ⟨r, hrr⟩ : ∃ r, d % 9223372036854775808 = r := ⟨_, rfl⟩
  have hneg : decide (9223372036854775808 ≤ d) = false := by simp; omega
  have r0 : 0 ≤ r := by omega
  have r1 : r < 9218868437227405312 := by omega
  obtain ⟨V, hV⟩ : ∃ V, Ie.whp r = V := ⟨_, rfl⟩
  have Vb := Ie.whp_bd r r0 r1
  rw [hV] at Vb
  have WH : Hid (∀ wx : World, Calls Tryd.prog 18 #[.int .u64 d] wx fun e w' => ∃ q os, e = .returned (.tuple #[.bool false, .slice q (List.length os) (List.length os), .int .i64 0]) ∧ At w' q os V ∧ Below wx.heap.size wx w') := by
    intro wx
    have := whole_fin d wx h0 h1 hr
    simp only [WholeTold] at this
    rw [hneg, hrr, hV] at this
    refine this.mono ?_
    rintro e w' ⟨q, os, h1, A, h3⟩
    exact ⟨q, os, h1, A.at' Vb.2, h3⟩
  have TI := hid (fun (wx : World) => toInt_fin d wx h0 h1 hr false hneg V (by rw [hrr, hV]) Vb.1 Vb.2)
  have RD := hid (fun (wx : World) (hx : Below w.heap.size w wx) (q : Option Addr) (os : List Int) (v : Int) (A : At wx q os v) => roundF q os.length os.length os wx A.1 (hT.below hx) A.2.2 v 0 false A.2.1)
  have IN := hid (fun (wx : World) (hx : Below w.heap.size w wx) => integral_any d wx (hT.below hx) h0 h1)
  have AB : Hid (∀ wx : World, Calls Tryd.prog 19 #[.int .u64 d] wx fun e w' => e = .returned (.int .u64 r) ∧ w' = wx) := by
    intro wx
    have := abs_any d wx h0 h1
    rw [hrr] at this
    exact this
  have IG : Hid (Ie.intg d = true ↔ Ie.vl r = V * 2 ^ 1075) := by
    rw [Hid, Ie.intg, decide_eq_true_iff, hrr, hV]
    exact ⟨fun h => h.2, fun h => ⟨r1, h⟩⟩
  have RI := hid (fun (X : Int) (hv : Ie.vl r = V * 2 ^ 1075) (h : Ie.Rnd V 1 0 false X) => Ie.rnd_int r X r0 r1 (by rw [hV]; exact hv) (by rw [hV]; exact h))
  have RN : Hid (∀ X, ¬ Ie.vl r = V * 2 ^ 1075 → Ie.Rnd V 1 0 false X → X < r ∧ 0 ≤ X ∧ V ≤ 9007199254740991 ∧ ∀ Y, Ie.Rnd (V + 1) 1 0 false Y → r < Y) := by
    intro X hv h
    have := Ie.rnd_nint r X r0 (by rw [hV]; exact hv) (by rw [hV]; exact h)
    rw [hV] at this
    exact this
  have TU : Hid (∀ (wx : World) (q : Option Addr) (os : List Int), At wx q os V → V < 18446744073709551616 → Calls Tryd.prog 22 #[.slice q os.length os.length] wx fun e w' => e = .returned (.tuple #[.int .u64 V, .bool true]) ∧ w' = wx) := by
    intro wx q os A hv
    exact toU_is q _ _ os wx A.1 V A.2.1 hv
  have TV : Hid (∀ (wx : World) (q : Option Addr) (os : List Int), At wx q os V → 18446744073709551616 ≤ V → ∃ u, Calls Tryd.prog 22 #[.slice q os.length os.length] wx fun e w' => e = .returned (.tuple #[.int .u64 u, .bool false]) ∧ w' = wx) := by
    intro wx q os A hv
    have := toUint_any q _ _ os wx A.1
    have h2 : decide (Nm.tsize os ≤ 1) = false := by
      rw [decide_eq_false_iff_not]
      intro hh
      have := (Nm.tsize_le_iff A.1.2.2.2.2 1).1 hh
      rw [A.2.1] at this
      have e : Nm.pw 1 = 18446744073709551616 := rfl
      omega
    rw [h2] at this
    exact ⟨_, this⟩
  have RS : Hid (¬ Ie.vl r = V * 2 ^ 1075 → V ≤ 9007199254740991) := by
    intro hv
    have := Ie.whp_small r r0 (by rw [hV]; exact hv)
    rw [hV] at this
    exact this
  have V0 := Vb.1
  have VB := hid Vb.2
  clear hneg hV Vb hr
  generalize Ie.intg d = ig at *
  clear hT
  go_enter Tryd.func5, Tryd.ntmps5
  go_wp2_with fail
  refine AW.out.mono ?_
  rintro e' w1 ⟨rfl, hB⟩
  have HB1 := hid hB
  clear hB AW
  obtain ⟨sm, hsm⟩ : ∃ sm : Bool, decide (-9007199254740992 ≤ i ∧ i ≤ 9007199254740992) = sm := ⟨_, rfl⟩
  have HSM := hid hsm
  clear hsm
  go_upto_region 3 with fail
  go_cut [31] from 26 to 30 (fun b wx => b = .bool sm ∧ wx = w1)
  case first =>
    by_cases s1 : i ≤ 9007199254740992
    · by_cases s0 : -9007199254740992 ≤ i
      · have e1 : sm = true := by rw [← HSM.out, decide_eq_true_iff]; exact ⟨s0, s1⟩
        subst e1
        go_wp2_with fail
        go_meet
        exact ⟨by simp, rfl⟩
      · have e1 : sm = false := by rw [← HSM.out, decide_eq_false_iff_not]; intro h; exact s0 h.1
        subst e1
        go_wp2_with fail
        go_meet
        exact ⟨by simp, rfl⟩
    · have e1 : sm = false := by rw [← HSM.out, decide_eq_false_iff_not]; intro h; exact s1 h.2
      subst e1
      go_wp2_with fail
      go_meet
      exact ⟨by simp, rfl⟩
  case rest =>
  obtain ⟨h31, hwc⟩ := hcut
  subst h31
  subst hwc
  go_upto_if 31 with fail
  go_cut [5, 6] from 32 to 50 (fun a b wx => ∃ u v, a = u ∧ b = v ∧ Hid (Below w.heap.size w wx))
  case first =>
    have HX0 := HB1
    cases sm
    · clear SM FN FG FU
      go_wp2_with fail
      go_meet
      exact ⟨_, _, rfl, rfl, HX0⟩
    · have hsm := of_decide_eq_true HSM.out
      obtain ⟨X, hX⟩ := SM.out hsm.1 hsm.2
      clear SM FN FG FU hsm
      go_wp2_with fail
      refine ((hX.out _ HX0.out).1).mono ?_
      rintro e' x1 ⟨rfl, hB1⟩
      have HX1 := hid (HX0.out.trans (hB1.mono HX0.out.size))
      clear hB1
      go_wp2_with fail
      refine ((hX.out _ HX1.out).2.1).mono ?_
      rintro e' x2 ⟨rfl, hB2⟩
      have HX2 := hid (HX1.out.trans (hB2.mono HX1.out.size))
      clear hB2
      go_wp2_with fail
      refine ((hX.out _ HX2.out).1).mono ?_
      rintro e' x3 ⟨rfl, hB3⟩
      have HX3 := hid (HX2.out.trans (hB3.mono HX2.out.size))
      clear hB3
      go_wp2_with fail
      refine ((hX.out _ HX3.out).2.2).mono ?_
      rintro e' x4 ⟨rfl, hB4⟩
      have HX4 := hid (HX3.out.trans (hB4.mono HX3.out.size))
      clear hB4
      go_wp2_with fail
      go_meet
      exact ⟨_, _, rfl, rfl, HX4⟩
  case rest =>
    obtain ⟨u5, v6, h5, h6, HBc⟩ := hcut
    have h5 := h5.symm
    have h6 := h6.symm
    subst h5
    subst h6
    clear SM HB1
    go_upto_region 7 with fail
    go_cut [74] from 51 to 73 (fun b wx => b = .bool false ∧ Hid (Below w.heap.size w wx))
    case first =>
      have HX0 := HBc
      by_cases hs : 0 ≤ i
      · have FN1 := hid (FN.out hs)
        have FU1 := hid (FU.out i hs (by omega))
        clear FN FU FG
        go_wp2_with fail
        refine (FN1.out _ HX0.out).mono ?_
        rintro e' x1 ⟨x, rfl, rx, hB1⟩
        have HX1 := hid (HX0.out.trans (hB1.mono HX0.out.size))
        have RX := hid rx
        have xb := rx.bd
        obtain ⟨xb0, xb1⟩ := xb
        clear rx
        clear hB1
        go_wp2_with fail
        refine (FU1.out _ HX1.out).mono ?_
        rintro e' x2 ⟨y, rfl, ry, hB2⟩
        have HX2 := hid (HX1.out.trans (hB2.mono HX1.out.size))
        have hyx : y = x := ry.one (by omega) (by omega) RX.out (a := 0) (a' := 0) (by omega) rfl
        subst hyx
        clear ry
        clear hB2
        go_wp2_with fail
        go_meet
        exact ⟨by simp, HX2⟩
      · have hs' : i < 0 := by omega
        have W1 : IntKind.u64.wrap i = i + 18446744073709551616 := by rw [IntKind.wrap_u64]; omega
        have W2 : IntKind.u64.wrap (-(i + 18446744073709551616)) = -i := by rw [IntKind.wrap_u64]; omega
        have FN1 := hid (FG.out hs')
        have FU1 := hid (fun (u : Int) (hu : u = -i) => FU.out u (by omega) (by omega))
        clear FN FU FG
        go_wp2_with fail
        refine (FN1.out _ HX0.out).mono ?_
        rintro e' x1 ⟨x, rfl, rx, hB1⟩
        have HX1 := hid (HX0.out.trans (hB1.mono HX0.out.size))
        have RX := hid rx
        have xb := rx.bd
        obtain ⟨xb0, xb1⟩ := xb
        clear rx
        clear hB1
        go_wp2_with fail
        refine (FU1.out _ (by omega) _ HX1.out).mono ?_
        rintro e' x2 ⟨y, rfl, ry, hB2⟩
        have HX2 := hid (HX1.out.trans (hB2.mono HX1.out.size))
        have hyx : y = x := ry.one (by omega) (by omega) RX.out (a := 0) (a' := 0) (by omega) rfl
        subst hyx
        clear ry
        clear hB2
        go_wp2_with fail
        go_meet
        exact ⟨by simp, HX2⟩
    case rest =>
      obtain ⟨h74, HBd⟩ := hcut
      subst h74
      clear FN FG FU HBc
      have HX0 := HBd
      cases ig
      · have hv : V < 9223372036854775808 := by have := RS.out (fun h => by have := IG.out.2 h; cases this); omega
        go_wp2_with fail
        refine (WH.out _).mono ?_
        rintro e' x1 ⟨q, os, rfl, A1, hB1⟩
        have HX1 := hid (HX0.out.trans (hB1.mono HX0.out.size))
        have AT1 := hid A1
        clear hB1 A1
        go_wp2_with fail
        refine (TI.out _).mono ?_
        rintro e' x2 ⟨j, f, rfl, hj, hB2⟩
        have HX2 := hid (HX1.out.trans (hB2.mono HX1.out.size))
        have AT2 := hid (AT1.out.below hB2)
        clear hB2
        obtain ⟨hj1, hf1⟩ : j = V ∧ f = 0 := by rcases hj with ⟨a1, a2, a3⟩ | ⟨a1, a2, a3⟩ <;> simp at a1 a2 <;> omega
        clear hj
        have hj2 := hj1.symm
        clear hj1
        subst hj2
        subst hf1
        go_wp2_with fail
        refine (RD.out _ HX2.out q os _ AT2.out).mono ?_
        rintro e' x3 ⟨X, rfl, rX, hB3⟩
        have HX3 := hid (HX2.out.trans (hB3.mono HX2.out.size))
        have AT3 := hid (AT2.out.below hB3)
        have Xb := rX.bd
        obtain ⟨X0, X1⟩ := Xb
        obtain ⟨n1, n2, n3, n4⟩ := RN.out X (fun h => by have := IG.out.2 h; cases this) rX
        have N4 := hid n4
        clear rX hB3 n4
        have hne : (X == r) = false := by rw [beq_eq_false_iff_ne]; omega
        go_wp2_with fail
        refine (IN.out _ HX3.out).mono ?_
        rintro e' x4 ⟨rfl, hB4⟩
        have HX4 := hid (HX3.out.trans (hB4.mono HX3.out.size))
        have AT4 := hid (AT3.out.below hB4)
        clear hB4
        go_wp2_with fail
        refine (AB.out _).mono ?_
        rintro e' xa ⟨rfl, rfl⟩
        go_wp2_with fail
        refine (AB.out _).mono ?_
        rintro e' xa ⟨rfl, rfl⟩
        go_wp2_with fail
        refine (add_one q os _ _ AT4.out (by have e := Nm.pw_mono (show 1 ≤ 4096 by omega); have e1 : Nm.pw 1 = 18446744073709551616 := rfl; omega) _ rfl).mono ?_
        rintro e' x5 ⟨q5, o5, rfl, A5, hB5⟩
        have HX5 := hid (HX4.out.trans (hB5.mono HX4.out.size))
        have AT5 := hid (AT4.out.below hB5)
        have O5 := hid A5
        clear hB5 A5
        go_wp2_with fail
        refine (RD.out _ HX5.out q5 o5 _ O5.out).mono ?_
        rintro e' x6 ⟨Y, rfl, rY, hB6⟩
        have HX6 := hid (HX5.out.trans (hB6.mono HX5.out.size))
        have AT6 := hid (AT5.out.below hB6)
        have Yb := rY.bd
        have n5 := N4.out Y rY
        obtain ⟨Y0, Y1⟩ := Yb
        have C1 := hid (fun (wx : World) => cmp_lt X r wx n2 n1 (by omega))
        have C2 := hid (fun (wx : World) => cmp_lt r Y wx r0 n5 Y1)
        clear hB6 rY N4
        go_wp2_with fail
        refine (AB.out _).mono ?_
        rintro e' xa ⟨rfl, rfl⟩
        go_wp2_with fail
        refine (C1.out _).mono ?_
        rintro e' xa ⟨rfl, rfl⟩
        go_wp2_with fail
        refine (AB.out _).mono ?_
        rintro e' xa ⟨rfl, rfl⟩
        go_wp2_with fail
        refine (C2.out _).mono ?_
        rintro e' xa ⟨rfl, rfl⟩
        go_wp2_with fail
        refine (TU.out _ q os AT6.out (by omega)).mono ?_
        rintro e' xa ⟨rfl, rfl⟩
        go_wp2_with fail
        go_ret
        exact ⟨by simp, HX6.out⟩
      · rcases (show 18446744073709551616 ≤ V ∨ (9223372036854775808 < V ∧ V < 18446744073709551616) ∨ V = 9223372036854775808 ∨ V < 9223372036854775808 by omega) with hv | ⟨hv, hv2⟩ | hv | hv
        · go_wp2_with fail
          refine (WH.out _).mono ?_
          rintro e' x1 ⟨q, os, rfl, A1, hB1⟩
          have HX1 := hid (HX0.out.trans (hB1.mono HX0.out.size))
          have AT1 := hid A1
          clear hB1 A1
          go_wp2_with fail
          refine (TI.out _).mono ?_
          rintro e' x2 ⟨j, f, rfl, hj, hB2⟩
          have HX2 := hid (HX1.out.trans (hB2.mono HX1.out.size))
          have AT2 := hid (AT1.out.below hB2)
          clear hB2
          obtain ⟨hj1, hf1⟩ : j = 0 ∧ f = 41 := by rcases hj with ⟨a1, a2, a3⟩ | ⟨a1, a2, a3⟩ <;> simp at a1 a2 <;> omega
          clear hj
          have hj2 := hj1.symm
          clear hj1
          subst hj2
          subst hf1
          go_wp2_with fail
          refine (RD.out _ HX2.out q os _ AT2.out).mono ?_
          rintro e' x3 ⟨X, rfl, rX, hB3⟩
          have HX3 := hid (HX2.out.trans (hB3.mono HX2.out.size))
          have AT3 := hid (AT2.out.below hB3)
          have Xb := rX.bd
          obtain ⟨X0, X1⟩ := Xb
          have hXr := RI.out X (IG.out.1 (by first | rfl | trivial)) rX
          subst hXr
          clear rX hB3
          go_wp2_with fail
          refine (IN.out _ HX3.out).mono ?_
          rintro e' x4 ⟨rfl, hB4⟩
          have HX4 := hid (HX3.out.trans (hB4.mono HX3.out.size))
          have AT4 := hid (AT3.out.below hB4)
          clear hB4
          go_wp2_with fail
          refine (AB.out _).mono ?_
          rintro e' xa ⟨rfl, rfl⟩
          go_wp2_with fail
          refine (AB.out _).mono ?_
          rintro e' xa ⟨rfl, rfl⟩
          go_wp2_with fail
          obtain ⟨u, hu⟩ := TV.out _ q os AT4.out hv
          refine hu.mono ?_
          rintro e' xa ⟨rfl, rfl⟩
          clear hu
          go_wp2_with fail
          go_ret
          exact ⟨by simp, HX4.out⟩
        · go_wp2_with fail
          refine (WH.out _).mono ?_
          rintro e' x1 ⟨q, os, rfl, A1, hB1⟩
          have HX1 := hid (HX0.out.trans (hB1.mono HX0.out.size))
          have AT1 := hid A1
          clear hB1 A1
          go_wp2_with fail
          refine (TI.out _).mono ?_
          rintro e' x2 ⟨j, f, rfl, hj, hB2⟩
          have HX2 := hid (HX1.out.trans (hB2.mono HX1.out.size))
          have AT2 := hid (AT1.out.below hB2)
          clear hB2
          obtain ⟨hj1, hf1⟩ : j = 0 ∧ f = 41 := by rcases hj with ⟨a1, a2, a3⟩ | ⟨a1, a2, a3⟩ <;> simp at a1 a2 <;> omega
          clear hj
          have hj2 := hj1.symm
          clear hj1
          subst hj2
          subst hf1
          go_wp2_with fail
          refine (RD.out _ HX2.out q os _ AT2.out).mono ?_
          rintro e' x3 ⟨X, rfl, rX, hB3⟩
          have HX3 := hid (HX2.out.trans (hB3.mono HX2.out.size))
          have AT3 := hid (AT2.out.below hB3)
          have Xb := rX.bd
          obtain ⟨X0, X1⟩ := Xb
          have hXr := RI.out X (IG.out.1 (by first | rfl | trivial)) rX
          subst hXr
          clear rX hB3
          go_wp2_with fail
          refine (IN.out _ HX3.out).mono ?_
          rintro e' x4 ⟨rfl, hB4⟩
          have HX4 := hid (HX3.out.trans (hB4.mono HX3.out.size))
          have AT4 := hid (AT3.out.below hB4)
          clear hB4
          go_wp2_with fail
          refine (AB.out _).mono ?_
          rintro e' xa ⟨rfl, rfl⟩
          go_wp2_with fail
          refine (AB.out _).mono ?_
          rintro e' xa ⟨rfl, rfl⟩
          go_wp2_with fail
          refine (TU.out _ q os AT4.out (by omega)).mono ?_
          rintro e' xa ⟨rfl, rfl⟩
          go_wp2_with fail
          go_ret
          exact ⟨by simp, HX4.out⟩
        · subst hv
          go_wp2_with fail
          refine (WH.out _).mono ?_
          rintro e' x1 ⟨q, os, rfl, A1, hB1⟩
          have HX1 := hid (HX0.out.trans (hB1.mono HX0.out.size))
          have AT1 := hid A1
          clear hB1 A1
          go_wp2_with fail
          refine (TI.out _).mono ?_
          rintro e' x2 ⟨j, f, rfl, hj, hB2⟩
          have HX2 := hid (HX1.out.trans (hB2.mono HX1.out.size))
          have AT2 := hid (AT1.out.below hB2)
          clear hB2
          obtain ⟨hj1, hf1⟩ : j = 0 ∧ f = 41 := by rcases hj with ⟨a1, a2, a3⟩ | ⟨a1, a2, a3⟩ <;> simp at a1 a2 <;> omega
          clear hj
          have hj2 := hj1.symm
          clear hj1
          subst hj2
          subst hf1
          go_wp2_with fail
          refine (RD.out _ HX2.out q os _ AT2.out).mono ?_
          rintro e' x3 ⟨X, rfl, rX, hB3⟩
          have HX3 := hid (HX2.out.trans (hB3.mono HX2.out.size))
          have AT3 := hid (AT2.out.below hB3)
          have Xb := rX.bd
          obtain ⟨X0, X1⟩ := Xb
          have hXr := RI.out X (IG.out.1 (by first | rfl | trivial)) rX
          subst hXr
          clear rX hB3
          go_wp2_with fail
          refine (IN.out _ HX3.out).mono ?_
          rintro e' x4 ⟨rfl, hB4⟩
          have HX4 := hid (HX3.out.trans (hB4.mono HX3.out.size))
          have AT4 := hid (AT3.out.below hB4)
          clear hB4
          go_wp2_with fail
          refine (AB.out _).mono ?_
          rintro e' xa ⟨rfl, rfl⟩
          go_wp2_with fail
          refine (AB.out _).mono ?_
          rintro e' xa ⟨rfl, rfl⟩
          go_wp2_with fail
          refine (TU.out _ q os AT4.out (by omega)).mono ?_
          rintro e' xa ⟨rfl, rfl⟩
          go_wp2_with fail
          go_ret
          exact ⟨by simp, HX4.out⟩
        · go_wp2_with fail
          refine (WH.out _).mono ?_
          rintro e' x1 ⟨q, os, rfl, A1, hB1⟩
          have HX1 := hid (HX0.out.trans (hB1.mono HX0.out.size))
          have AT1 := hid A1
          clear hB1 A1
          go_wp2_with fail
          refine (TI.out _).mono ?_
          rintro e' x2 ⟨j, f, rfl, hj, hB2⟩
          have HX2 := hid (HX1.out.trans (hB2.mono HX1.out.size))
          have AT2 := hid (AT1.out.below hB2)
          clear hB2
          obtain ⟨hj1, hf1⟩ : j = V ∧ f = 0 := by rcases hj with ⟨a1, a2, a3⟩ | ⟨a1, a2, a3⟩ <;> simp at a1 a2 <;> omega
          clear hj
          have hj2 := hj1.symm
          clear hj1
          subst hj2
          subst hf1
          go_wp2_with fail
          refine (RD.out _ HX2.out q os _ AT2.out).mono ?_
          rintro e' x3 ⟨X, rfl, rX, hB3⟩
          have HX3 := hid (HX2.out.trans (hB3.mono HX2.out.size))
          have AT3 := hid (AT2.out.below hB3)
          have Xb := rX.bd
          obtain ⟨X0, X1⟩ := Xb
          have hXr := RI.out X (IG.out.1 (by first | rfl | trivial)) rX
          subst hXr
          clear rX hB3
          go_wp2_with fail
          refine (IN.out _ HX3.out).mono ?_
          rintro e' x4 ⟨rfl, hB4⟩
          have HX4 := hid (HX3.out.trans (hB4.mono HX3.out.size))
          have AT4 := hid (AT3.out.below hB4)
          clear hB4
          go_wp2_with fail
          refine (AB.out _).mono ?_
          rintro e' xa ⟨rfl, rfl⟩
          go_wp2_with fail
          refine (AB.out _).mono ?_
          rintro e' xa ⟨rfl, rfl⟩
          go_wp2_with fail
          refine (TU.out _ q os AT4.out (by omega)).mono ?_
          rintro e' xa ⟨rfl, rfl⟩
          go_wp2_with fail
          go_ret
          exact ⟨by simp, HX4.out⟩
end Go.Proofs.YtpnjafacoeinnabDoor
