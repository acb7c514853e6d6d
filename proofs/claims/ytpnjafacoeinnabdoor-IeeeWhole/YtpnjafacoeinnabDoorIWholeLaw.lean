import Derived.Test.YtpnjafacoeinnabDoorIWholeLawF
import Derived.Test.YtpnjafacoeinnabDoorIWholeLawT
namespace Go.Proofs.YtpnjafacoeinnabDoor
open Go Go.RowKit Go.Deep

set_option maxRecDepth 100000 in
set_option maxHeartbeats 16000000 in
theorem wholeLaw_i (d i : Int) (w : World) (hT : Tab w) (h0 : 0 ≤ d) (h1 : d < 18446744073709551616) (i0 : -9223372036854775808 ≤ i) (i1 : i ≤ 9223372036854775807) (hr : 9218868437227405312 ≤ d % 9223372036854775808) :
    Calls Tryd.prog 5 #[.int .u64 d, .int .i64 i] w fun r w' => r = .returned (.bool true) ∧ Below w.heap.size w w'  := by
  have AW := hid (awake_any w hT)
  have SM := hid (fun (a : -9007199254740992 ≤ i) (b : i ≤ 9007199254740992) => small_facts i w hT a b)
  have FN := hid (fun (a : 0 ≤ i) (wx : World) (hx : Below w.heap.size w wx) => fromI_nn i wx (hT.below hx) a i1)
  have FG := hid (fun (a : i < 0) (wx : World) (hx : Below w.heap.size w wx) => fromI_ng i wx (hT.below hx) a i0)
  have FU := hid (fun (u : Int) (u0 : 0 ≤ u) (u1 : u < 18446744073709551616) (wx : World) (hx : Below w.heap.size w wx) => fromU_any u wx (hT.below hx) u0 u1)
  have HT := hid hT
  have WH := hid (fun (wx : World) => whole_inf d wx h0 h1 hr)
  have TI := hid (fun (wx : World) => toInt_inf d wx h0 h1 hr)
  have IN := hid (fun (wx : World) => integral_inf d wx h0 h1 hr)
  clear hT
  go_enter Tryd.func5, Tryd.ntmps5
  go_wp2_with fail
  refine AW.out.mono ?_
  rintro e' w1 ⟨rfl, hB⟩
  have HB1 := hid hB
  clear hB AW
  obtain ⟨sm, hsm⟩ : ∃ sm : Bool, decide (-9007199254740992 ≤ i ∧ i ≤ 9007199254740992) = sm := ⟨_, rfl⟩
  have HSM := hid hsm
  clear hsm
  go_upto_region 3 with fail
  go_cut [31] from 26 to 30 (fun b wx => b = .bool sm ∧ wx = w1)
  case first =>
    by_cases s1 : i ≤ 9007199254740992
    · by_cases s0 : -9007199254740992 ≤ i
      · have e1 : sm = true := by rw [← HSM.out, decide_eq_true_iff]; exact ⟨s0, s1⟩
        subst e1
        go_wp2_with fail
        go_meet
        exact ⟨by simp, rfl⟩
      · have e1 : sm = false := by rw [← HSM.out, decide_eq_false_iff_not]; intro h; exact s0 h.1
        subst e1
        go_wp2_with fail
        go_meet
        exact ⟨by simp, rfl⟩
    · have e1 : sm = false := by rw [← HSM.out, decide_eq_false_iff_not]; intro h; exact s1 h.2
      subst e1
      go_wp2_with fail
      go_meet
      exact ⟨by simp, rfl⟩
  case rest =>
  obtain ⟨h31, hwc⟩ := hcut
  subst h31
  subst hwc
  go_upto_if 31 with fail
  go_cut [5, 6] from 32 to 50 (fun a b wx => ∃ u v, a = u ∧ b = v ∧ Hid (Below w.heap.size w wx))
  case first =>
    have HX0 := HB1
    cases sm
    · clear SM FN FG FU
      go_wp2_with fail
      go_meet
      exact ⟨_, _, rfl, rfl, HX0⟩
    · have hsm := of_decide_eq_true HSM.out
      obtain ⟨X, hX⟩ := SM.out hsm.1 hsm.2
      clear SM FN FG FU hsm
      go_wp2_with fail
      refine ((hX.out _ HX0.out).1).mono ?_
      rintro e' x1 ⟨rfl, hB1⟩
      have HX1 := hid (HX0.out.trans (hB1.mono HX0.out.size))
      clear hB1
      go_wp2_with fail
      refine ((hX.out _ HX1.out).2.1).mono ?_
      rintro e' x2 ⟨rfl, hB2⟩
      have HX2 := hid (HX1.out.trans (hB2.mono HX1.out.size))
      clear hB2
      go_wp2_with fail
      refine ((hX.out _ HX2.out).1).mono ?_
      rintro e' x3 ⟨rfl, hB3⟩
      have HX3 := hid (HX2.out.trans (hB3.mono HX2.out.size))
      clear hB3
      go_wp2_with fail
      refine ((hX.out _ HX3.out).2.2).mono ?_
      rintro e' x4 ⟨rfl, hB4⟩
      have HX4 := hid (HX3.out.trans (hB4.mono HX3.out.size))
      clear hB4
      go_wp2_with fail
      go_meet
      exact ⟨_, _, rfl, rfl, HX4⟩
  case rest =>
    obtain ⟨u5, v6, h5, h6, HBc⟩ := hcut
    have h5 := h5.symm
    have h6 := h6.symm
    subst h5
    subst h6
    clear SM HB1
    go_upto_region 7 with fail
    go_cut [74] from 51 to 73 (fun b wx => b = .bool false ∧ Hid (Below w.heap.size w wx))
    case first =>
      have HX0 := HBc
      by_cases hs : 0 ≤ i
      · have FN1 := hid (FN.out hs)
        have FU1 := hid (FU.out i hs (by omega))
        clear FN FU FG
        go_wp2_with fail
        refine (FN1.out _ HX0.out).mono ?_
        rintro e' x1 ⟨x, rfl, rx, hB1⟩
        have HX1 := hid (HX0.out.trans (hB1.mono HX0.out.size))
        have RX := hid rx
        have xb := rx.bd
        obtain ⟨xb0, xb1⟩ := xb
        clear rx
        clear hB1
        go_wp2_with fail
        refine (FU1.out _ HX1.out).mono ?_
        rintro e' x2 ⟨y, rfl, ry, hB2⟩
        have HX2 := hid (HX1.out.trans (hB2.mono HX1.out.size))
        have hyx : y = x := ry.one (by omega) (by omega) RX.out (a := 0) (a' := 0) (by omega) rfl
        subst hyx
        clear ry
        clear hB2
        go_wp2_with fail
        go_meet
        exact ⟨by simp, HX2⟩
      · have hs' : i < 0 := by omega
        have W1 : IntKind.u64.wrap i = i + 18446744073709551616 := by rw [IntKind.wrap_u64]; omega
        have W2 : IntKind.u64.wrap (-(i + 18446744073709551616)) = -i := by rw [IntKind.wrap_u64]; omega
        have FN1 := hid (FG.out hs')
        have FU1 := hid (fun (u : Int) (hu : u = -i) => FU.out u (by omega) (by omega))
        clear FN FU FG
        go_wp2_with fail
        refine (FN1.out _ HX0.out).mono ?_
        rintro e' x1 ⟨x, rfl, rx, hB1⟩
        have HX1 := hid (HX0.out.trans (hB1.mono HX0.out.size))
        have RX := hid rx
        have xb := rx.bd
        obtain ⟨xb0, xb1⟩ := xb
        clear rx
        clear hB1
        go_wp2_with fail
        refine (FU1.out _ (by omega) _ HX1.out).mono ?_
        rintro e' x2 ⟨y, rfl, ry, hB2⟩
        have HX2 := hid (HX1.out.trans (hB2.mono HX1.out.size))
        have hyx : y = x := ry.one (by omega) (by omega) RX.out (a := 0) (a' := 0) (by omega) rfl
        subst hyx
        clear ry
        clear hB2
        go_wp2_with fail
        go_meet
        exact ⟨by simp, HX2⟩
    case rest =>
      obtain ⟨h74, HBd⟩ := hcut
      subst h74
      clear FN FG FU HBc
      have HX0 := HBd
      go_wp2_with fail
      refine (WH.out _).mono ?_
      rintro e' x1 ⟨rfl, rfl⟩
      go_wp2_with fail
      refine (TI.out _).mono ?_
      rintro e' x2 ⟨rfl, rfl⟩
      go_wp2_with fail
      refine (IN.out _).mono ?_
      rintro e' x3 ⟨rfl, hB3⟩
      have HX3 := hid (HX0.out.trans (hB3.mono HX0.out.size))
      clear hB3
      go_wp2_with fail
      go_ret
      exact ⟨by simp, HX3.out⟩

theorem wholeLaw_any (d i : Int) (w : World) (hT : Tab w) (h0 : 0 ≤ d) (h1 : d < 18446744073709551616) (i0 : -9223372036854775808 ≤ i) (i1 : i ≤ 9223372036854775807) :
    Calls Tryd.prog 5 #[.int .u64 d, .int .i64 i] w fun r w' => r = .returned (.bool true) ∧ Below w.heap.size w w'  := by
  by_cases hr : 9218868437227405312 ≤ d % 9223372036854775808
  · exact wholeLaw_i d i w hT h0 h1 i0 i1 hr
  · by_cases hs : 9223372036854775808 ≤ d
    · exact wholeLaw_t d i w hT h0 h1 i0 i1 (by omega) hs
    · exact wholeLaw_f d i w hT h0 h1 i0 i1 (by omega) hs
end Go.Proofs.YtpnjafacoeinnabDoor
