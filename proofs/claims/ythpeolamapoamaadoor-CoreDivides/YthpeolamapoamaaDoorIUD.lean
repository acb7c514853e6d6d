/-
  Texts put together: IWalk1A, IUp, IDown, IWalk1.
-/
import Derived.Test.YthpeolamapoamaaDoorIWalk1B
import Derived.Test.YthpeolamapoamaaDoorIOrdD
/-
  ieee: Neg.
-/
namespace Go.Proofs.YthpeolamapoamaaDoor
open Go Go.RowKit Go.Deep

set_option maxRecDepth 100000 in
theorem neg_any (d : Int) (w : World) (h0 : 0 ≤ d) (h1 : d < 18446744073709551616) :
    Calls Tryd.prog 12 #[.int .u64 d] w fun e w' => e = .returned (.int .u64 (Ie.ng d)) ∧ w' = w := by
  have B : bits .xor .u64 d 9223372036854775808 = Ie.ng d := Ib.sign_xor d h0 h1
  go_enter Tryd.func12, Tryd.ntmps12
  go_wp2
  go_ret
  exact ⟨rfl, rfl⟩
end Go.Proofs.YthpeolamapoamaaDoor

/-
  ieee: Up, Down.
-/
namespace Go.Proofs.YthpeolamapoamaaDoor
open Go Go.RowKit Go.Deep

set_option maxRecDepth 100000 in
set_option maxHeartbeats 2000000 in
theorem up_any (d : Int) (w : World) (h0 : 0 ≤ d) (h1 : d < 18446744073709551616) :
    Calls Tryd.prog 7 #[.int .u64 d] w fun e w' => e = .returned (.int .u64 (Ie.upd d)) ∧ w' = w := by
  have B := Ib.sign_and d h0 h1
  have CL := hid (class_any d w h0 h1)
  have c4 := Ie.cls4 d
  obtain ⟨c, hc⟩ : ∃ c, Ie.cls d = c := ⟨_, rfl⟩
  rw [hc] at CL c4
  obtain ⟨sv, hsv⟩ : ∃ sv, d / 9223372036854775808 * 9223372036854775808 = sv := ⟨_, rfl⟩
  rw [hsv] at B
  by_cases hn : c = 4
  · have E : Hid (9221120237041090560 = Ie.upd d) := by rw [Hid, Ie.upd, if_pos (c4.1 hn)]
    subst hn
    clear hc hsv c4
    go_enter Tryd.func7, Tryd.ntmps7
    go_wp2_with fail
    refine CL.out.mono ?_
    rintro e w' ⟨rfl, rfl⟩
    go_wp2_with fail
    go_ret
    exact ⟨i_retU E.out, rfl⟩
  · have ok : Ie.okd d = true := by
      cases h : Ie.okd d
      · exact absurd (c4.2 h) hn
      · rfl
    have hn' : (c == 4) = false := by rw [beq_eq_false_iff_ne]; exact hn
    have E0 : Ie.upd d = if d = 9218868437227405312 then d else if d = 9223372036854775808 then 1 else if 9223372036854775808 < d then d - 1 else d + 1 := by rw [Ie.upd, ok, if_neg (by decide)]
    by_cases e1 : d = 9218868437227405312
    · subst e1
      rw [if_pos rfl] at E0
      have E := hid E0
      clear hc hsv c4 ok E0 hn
      go_enter Tryd.func7, Tryd.ntmps7
      go_wp2_with fail
      refine CL.out.mono ?_
      rintro e w' ⟨rfl, rfl⟩
      go_wp2_with fail
      go_ret
      exact ⟨i_retU E.out.symm, rfl⟩
    · have e1' : (d == 9218868437227405312) = false := by rw [beq_eq_false_iff_ne]; exact e1
      rw [if_neg e1] at E0
      by_cases e2 : d = 9223372036854775808
      · subst e2
        rw [if_pos rfl] at E0
        have E := hid E0
        clear hc hsv c4 ok E0 hn
        go_enter Tryd.func7, Tryd.ntmps7
        go_wp2_with fail
        refine CL.out.mono ?_
        rintro e w' ⟨rfl, rfl⟩
        go_wp2_with fail
        go_ret
        exact ⟨i_retU E.out.symm, rfl⟩
      · have e2' : (d == 9223372036854775808) = false := by rw [beq_eq_false_iff_ne]; exact e2
        rw [if_neg e2] at E0
        by_cases e3 : 9223372036854775808 < d
        · rw [if_pos e3] at E0
          have E := hid E0
          have hz : sv = 9223372036854775808 := by omega
          subst hz
          clear hc hsv c4 ok E0 hn e1 e2
          go_enter Tryd.func7, Tryd.ntmps7
          go_wp2_with fail
          refine CL.out.mono ?_
          rintro e w' ⟨rfl, rfl⟩
          go_wp2_with fail
          go_ret
          exact ⟨i_retU E.out.symm, rfl⟩
        · rw [if_neg e3] at E0
          have E := hid E0
          have hz : sv = 0 := by omega
          subst hz
          have lt : d < 9223372036854775808 := by omega
          clear hc hsv c4 ok E0 hn e1 e2 e3
          go_enter Tryd.func7, Tryd.ntmps7
          go_wp2_with fail
          refine CL.out.mono ?_
          rintro e w' ⟨rfl, rfl⟩
          go_wp2_with fail
          go_ret
          exact ⟨i_retU E.out.symm, rfl⟩

end Go.Proofs.YthpeolamapoamaaDoor

/-
  ieee: Down.
-/
namespace Go.Proofs.YthpeolamapoamaaDoor
open Go Go.RowKit Go.Deep

theorem Ie.ng_bd (d : Int) (h0 : 0 ≤ d) (h1 : d < 18446744073709551616) : 0 ≤ Ie.ng d ∧ Ie.ng d < 18446744073709551616 := by
  simp only [Ie.ng]; split <;> omega

theorem Ie.upd_bd (d : Int) (h0 : 0 ≤ d) (h1 : d < 18446744073709551616) : 0 ≤ Ie.upd d ∧ Ie.upd d < 18446744073709551616 := by
  simp only [Ie.upd]
  split
  · omega
  · split
    · omega
    · split
      · omega
      · split <;> omega

set_option maxRecDepth 100000 in
set_option maxHeartbeats 2000000 in
theorem down_any (d : Int) (w : World) (h0 : 0 ≤ d) (h1 : d < 18446744073709551616) :
    Calls Tryd.prog 8 #[.int .u64 d] w fun e w' => e = .returned (.int .u64 (Ie.dnd d)) ∧ w' = w := by
  have CL := hid (class_any d w h0 h1)
  have c4 := Ie.cls4 d
  obtain ⟨c, hc⟩ : ∃ c, Ie.cls d = c := ⟨_, rfl⟩
  rw [hc] at CL c4
  by_cases hn : c = 4
  · have E : Hid (9221120237041090560 = Ie.dnd d) := by rw [Hid, Ie.dnd, if_pos (c4.1 hn)]
    subst hn
    clear hc c4
    go_enter Tryd.func8, Tryd.ntmps8
    go_wp2_with fail
    refine CL.out.mono ?_
    rintro e w' ⟨rfl, rfl⟩
    go_wp2_with fail
    go_ret
    exact ⟨i_retU E.out, rfl⟩
  · have ok : Ie.okd d = true := by
      cases h : Ie.okd d
      · exact absurd (c4.2 h) hn
      · rfl
    have hn' : (c == 4) = false := by rw [beq_eq_false_iff_ne]; exact hn
    have E : Hid (Ie.dnd d = Ie.ng (Ie.upd (Ie.ng d))) := by rw [Hid, Ie.dnd, ok, if_neg (by decide)]
    have b1 := Ie.ng_bd d h0 h1
    have b2 := Ie.upd_bd _ b1.1 b1.2
    have N1 := hid (neg_any d w h0 h1)
    have U1 := hid (up_any _ w b1.1 b1.2)
    have N2 := hid (neg_any _ w b2.1 b2.2)
    clear hc c4 ok hn b1 b2
    go_enter Tryd.func8, Tryd.ntmps8
    go_wp2_with fail
    refine CL.out.mono ?_
    rintro e w' ⟨rfl, rfl⟩
    go_wp2_with fail
    refine N1.out.mono ?_
    rintro e w' ⟨rfl, rfl⟩
    go_wp2_with fail
    refine U1.out.mono ?_
    rintro e w' ⟨rfl, rfl⟩
    go_wp2_with fail
    refine N2.out.mono ?_
    rintro e w' ⟨rfl, rfl⟩
    go_wp2_with fail
    go_ret
    exact ⟨i_retU E.out.symm, rfl⟩
end Go.Proofs.YthpeolamapoamaaDoor

/-
  ieee: Abs.
-/
namespace Go.Proofs.YthpeolamapoamaaDoor
open Go Go.RowKit Go.Deep

set_option maxRecDepth 100000 in
theorem abs_any (d : Int) (w : World) (h0 : 0 ≤ d) (h1 : d < 18446744073709551616) :
    Calls Tryd.prog 10 #[.int .u64 d] w fun e w' => e = .returned (.int .u64 (d % 9223372036854775808)) ∧ w' = w := by
  have B := Ib.sign_andNot d h0 h1
  go_enter Tryd.func10, Tryd.ntmps10
  go_wp2
  go_ret
  exact ⟨rfl, rfl⟩
end Go.Proofs.YthpeolamapoamaaDoor
