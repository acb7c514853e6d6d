import Derived.Test.YtpnjafacoeinnaaDoorIUp
/-
  ieee: place, Total, AtRank, Down.
-/
namespace Go.Proofs.YtpnjafacoeinnaaDoor
open Go Go.RowKit Go.Deep

set_option maxRecDepth 100000 in
theorem place_any (d : Int) (w : World) (h0 : 0 ≤ d) (h1 : d < 18446744073709551616) :
    Calls Tryd.prog 29 #[.int .u64 d] w fun e w' => e = .returned (.int .i64 (Ie.plc d)) ∧ w' = w := by
  have B := Ib.sign_and d h0 h1
  by_cases hs : d < 9223372036854775808
  · have E : Hid (Ie.plc d = d) := by rw [Hid, Ie.plc, if_pos hs]
    have q : d / 9223372036854775808 = 0 := by omega
    rw [q, Int.zero_mul] at B
    clear q
    go_enter Tryd.func29, Tryd.ntmps29
    go_wp2
    go_ret
    exact ⟨i_retI E.out.symm, rfl⟩
  · have E : Hid (Ie.plc d = 9223372036854775807 - d) := by rw [Hid, Ie.plc, if_neg hs]
    have q : d / 9223372036854775808 = 1 := by omega
    rw [q, Int.one_mul] at B
    have X := Ib.low_xor d (by omega) h1
    obtain ⟨y, hy, Y⟩ : ∃ y, bits .xor .u64 d 9223372036854775807 = y ∧ Hid (y = 27670116110564327423 - d) := ⟨_, X, rfl⟩
    have y0 : 9223372036854775808 ≤ y := by have := Y.out; omega
    have y1 : y < 18446744073709551616 := by have := Y.out; omega
    have W : IntKind.i64.wrap y = y - 18446744073709551616 := by rw [IntKind.wrap_i64]; omega
    clear q X
    go_enter Tryd.func29, Tryd.ntmps29
    go_wp2
    go_ret
    exact ⟨i_retI (by rw [E.out]; have := Y.out; omega), rfl⟩

set_option maxRecDepth 100000 in
set_option maxHeartbeats 1000000 in
theorem total_any (a b : Int) (w : World) (a0 : 0 ≤ a) (a1 : a < 18446744073709551616) (b0 : 0 ≤ b) (b1 : b < 18446744073709551616) :
    Calls Tryd.prog 16 #[.int .u64 a, .int .u64 b] w fun e w' => e = .returned (.int .i64 (Ie.cm (Ie.plc a) (Ie.plc b))) ∧ w' = w := by
  have P1 := hid (place_any a w a0 a1)
  have P2 := hid (place_any b w b0 b1)
  go_enter Tryd.func16, Tryd.ntmps16
  go_wp2_with fail
  refine P1.out.mono ?_
  rintro e w' ⟨rfl, rfl⟩
  go_wp2_with fail
  refine P2.out.mono ?_
  rintro e w' ⟨rfl, rfl⟩
  go_wp2_with fail
  refine (ccmp_any _ _ _).mono ?_
  rintro e w' ⟨rfl, rfl⟩
  go_wp2_with fail
  go_ret
  exact ⟨rfl, rfl⟩

set_option maxRecDepth 100000 in
set_option maxHeartbeats 1000000 in
theorem atRank_in (i : Int) (w : World) (h0 : -9218868437227405312 ≤ i) (h1 : i ≤ 9218868437227405312) :
    Calls Tryd.prog 17 #[.int .i64 i] w fun e w' => e = .returned (.tuple #[.int .u64 (Ie.atr i), .bool true]) ∧ w' = w := by
  rcases (show i < 0 ∨ 0 ≤ i by omega) with h | h
  · have E : Hid (Ie.sg true (-i) = Ie.atr i) := by rw [Hid, Ie.sg, if_pos rfl, Ie.atr, if_pos h]; omega
    have W1 : IntKind.u64.wrap i = i + 18446744073709551616 := by rw [IntKind.wrap_u64]; omega
    have W2 : IntKind.u64.wrap (-(i + 18446744073709551616)) = -i := by rw [IntKind.wrap_u64]; omega
    have SG := hid (fun (x : Int) (hx : x = -i) => signed_any true x w (by omega) (by omega))
    go_enter Tryd.func17, Tryd.ntmps17
    go_wp2_with fail
    refine (SG.out _ (by omega)).mono ?_
    rintro e w' ⟨rfl, rfl⟩
    go_wp2_with fail
    go_ret2
    exact ⟨ret_u64b E.out rfl, rfl⟩
  · have E : Hid (Ie.sg false i = Ie.atr i) := by rw [Hid, Ie.sg, if_neg (by decide), Ie.atr, if_neg (by omega)]
    have SG := hid (fun (x : Int) (hx : x = i) => signed_any false x w (by omega) (by omega))
    have hf : decide (i < 0) = false := by simp; omega
    go_enter Tryd.func17, Tryd.ntmps17
    go_wp2_with fail
    refine (SG.out _ (by omega)).mono ?_
    rintro e w' ⟨rfl, rfl⟩
    go_wp2_with fail
    go_ret2
    exact ⟨ret_u64b E.out rfl, rfl⟩

set_option maxRecDepth 100000 in
set_option maxHeartbeats 1000000 in
theorem atRank_out (i : Int) (w : World) (l0 : -9223372036854775808 ≤ i) (l1 : i ≤ 9223372036854775807) (h : i < -9218868437227405312 ∨ 9218868437227405312 < i) :
    Calls Tryd.prog 17 #[.int .i64 i] w fun e w' => e = .returned (.tuple #[.int .u64 0, .bool false]) ∧ w' = w := by
  rcases h with h | h
  · have W1 : IntKind.u64.wrap i = i + 18446744073709551616 := by rw [IntKind.wrap_u64]; omega
    have W2 : IntKind.u64.wrap (-(i + 18446744073709551616)) = -i := by rw [IntKind.wrap_u64]; omega
    go_enter Tryd.func17, Tryd.ntmps17
    go_wp2
    go_ret2
    exact ⟨rfl, rfl⟩
  · go_enter Tryd.func17, Tryd.ntmps17
    go_wp2
    go_ret2
    exact ⟨rfl, rfl⟩
theorem Ie.ng_bd (d : Int) (h0 : 0 ≤ d) (h1 : d < 18446744073709551616) : 0 ≤ Ie.ng d ∧ Ie.ng d < 18446744073709551616 := by
  simp only [Ie.ng]; split <;> omega

theorem Ie.upd_bd (d : Int) (h0 : 0 ≤ d) (h1 : d < 18446744073709551616) : 0 ≤ Ie.upd d ∧ Ie.upd d < 18446744073709551616 := by
  simp only [Ie.upd]
  split
  · omega
  · split
    · omega
    · split
      · omega
      · split <;> omega

set_option maxRecDepth 100000 in
set_option maxHeartbeats 2000000 in
theorem down_any (d : Int) (w : World) (h0 : 0 ≤ d) (h1 : d < 18446744073709551616) :
    Calls Tryd.prog 19 #[.int .u64 d] w fun e w' => e = .returned (.int .u64 (Ie.dnd d)) ∧ w' = w := by
  have CL := hid (class_any d w h0 h1)
  have c4 := Ie.cls4 d
  obtain ⟨c, hc⟩ : ∃ c, Ie.cls d = c := ⟨_, rfl⟩
  rw [hc] at CL c4
  by_cases hn : c = 4
  · have E : Hid (9221120237041090560 = Ie.dnd d) := by rw [Hid, Ie.dnd, if_pos (c4.1 hn)]
    subst hn
    clear hc c4
    go_enter Tryd.func19, Tryd.ntmps19
    go_wp2_with fail
    refine CL.out.mono ?_
    rintro e w' ⟨rfl, rfl⟩
    go_wp2_with fail
    go_ret
    exact ⟨i_retU E.out, rfl⟩
  · have ok : Ie.okd d = true := by
      cases h : Ie.okd d
      · exact absurd (c4.2 h) hn
      · rfl
    have hn' : (c == 4) = false := by rw [beq_eq_false_iff_ne]; exact hn
    have E : Hid (Ie.dnd d = Ie.ng (Ie.upd (Ie.ng d))) := by rw [Hid, Ie.dnd, ok, if_neg (by decide)]
    have b1 := Ie.ng_bd d h0 h1
    have b2 := Ie.upd_bd _ b1.1 b1.2
    have N1 := hid (neg_any d w h0 h1)
    have U1 := hid (up_any _ w b1.1 b1.2)
    have N2 := hid (neg_any _ w b2.1 b2.2)
    clear hc c4 ok hn b1 b2
    go_enter Tryd.func19, Tryd.ntmps19
    go_wp2_with fail
    refine CL.out.mono ?_
    rintro e w' ⟨rfl, rfl⟩
    go_wp2_with fail
    refine N1.out.mono ?_
    rintro e w' ⟨rfl, rfl⟩
    go_wp2_with fail
    refine U1.out.mono ?_
    rintro e w' ⟨rfl, rfl⟩
    go_wp2_with fail
    refine N2.out.mono ?_
    rintro e w' ⟨rfl, rfl⟩
    go_wp2_with fail
    go_ret
    exact ⟨i_retU E.out.symm, rfl⟩
end Go.Proofs.YtpnjafacoeinnaaDoor
