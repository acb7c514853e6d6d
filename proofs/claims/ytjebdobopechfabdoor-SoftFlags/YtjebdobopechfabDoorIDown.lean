import Derived.Test.YtjebdobopechfabDoorIUp
/-
  ieee: Down.
-/
namespace Go.Proofs.YtjebdobopechfabDoor
open Go Go.RowKit Go.Deep

theorem Ie.ng_bd (d : Int) (h0 : 0 ≤ d) (h1 : d < 18446744073709551616) : 0 ≤ Ie.ng d ∧ Ie.ng d < 18446744073709551616 := by
  simp only [Ie.ng]; split <;> omega

theorem Ie.upd_bd (d : Int) (h0 : 0 ≤ d) (h1 : d < 18446744073709551616) : 0 ≤ Ie.upd d ∧ Ie.upd d < 18446744073709551616 := by
  simp only [Ie.upd]
  split
  · omega
  · split
    · omega
    · split
      · omega
      · split <;> omega

set_option maxRecDepth 100000 in
set_option maxHeartbeats 2000000 in
theorem down_any (d : Int) (w : World) (h0 : 0 ≤ d) (h1 : d < 18446744073709551616) :
    Calls Tryd.prog 16 #[.int .u64 d] w fun e w' => e = .returned (.int .u64 (Ie.dnd d)) ∧ w' = w := by
  have CL := hid (class_any d w h0 h1)
  have c4 := Ie.cls4 d
  obtain ⟨c, hc⟩ : ∃ c, Ie.cls d = c := ⟨_, rfl⟩
  rw [hc] at CL c4
  by_cases hn : c = 4
  · have E : Hid (9221120237041090560 = Ie.dnd d) := by rw [Hid, Ie.dnd, if_pos (c4.1 hn)]
    subst hn
    clear hc c4
    go_enter Tryd.func16, Tryd.ntmps16
    go_wp2_with fail
    refine CL.out.mono ?_
    rintro e w' ⟨rfl, rfl⟩
    go_wp2_with fail
    go_ret
    exact ⟨i_retU E.out, rfl⟩
  · have ok : Ie.okd d = true := by
      cases h : Ie.okd d
      · exact absurd (c4.2 h) hn
      · rfl
    have hn' : (c == 4) = false := by rw [beq_eq_false_iff_ne]; exact hn
    have E : Hid (Ie.dnd d = Ie.ng (Ie.upd (Ie.ng d))) := by rw [Hid, Ie.dnd, ok, if_neg (by decide)]
    have b1 := Ie.ng_bd d h0 h1
    have b2 := Ie.upd_bd _ b1.1 b1.2
    have N1 := hid (neg_any d w h0 h1)
    have U1 := hid (up_any _ w b1.1 b1.2)
    have N2 := hid (neg_any _ w b2.1 b2.2)
    clear hc c4 ok hn b1 b2
    go_enter Tryd.func16, Tryd.ntmps16
    go_wp2_with fail
    refine CL.out.mono ?_
    rintro e w' ⟨rfl, rfl⟩
    go_wp2_with fail
    refine N1.out.mono ?_
    rintro e w' ⟨rfl, rfl⟩
    go_wp2_with fail
    refine U1.out.mono ?_
    rintro e w' ⟨rfl, rfl⟩
    go_wp2_with fail
    refine N2.out.mono ?_
    rintro e w' ⟨rfl, rfl⟩
    go_wp2_with fail
    go_ret
    exact ⟨i_retU E.out.symm, rfl⟩
end Go.Proofs.YtjebdobopechfabDoor
