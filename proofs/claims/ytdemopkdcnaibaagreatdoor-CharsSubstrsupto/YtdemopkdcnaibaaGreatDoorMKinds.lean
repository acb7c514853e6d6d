import Derived.Test.YtdemopkdcnaibaaGreatDoorXDef
/-
  remain: nan, infinite (made by mkmkinds.py).
-/
namespace Go.Proofs.YtdemopkdcnaibaaGreatDoor
open Go Go.RowKit Go.Deep

set_option maxRecDepth 100000 in
theorem mnan_any (d : Int) (w : World) (h0 : 0 ≤ d) (h1 : d < 18446744073709551616) :
    Calls Tryz.prog 153 #[.int .u64 d] w fun e w' => e = .returned (.bool (Ie.isn d)) ∧ w' = w := by
  have CL := hid (class_any d w h0 h1)
  have E := hid (Ie.isn_cls d)
  generalize Ie.cls d = c at CL E
  go_enter Tryz.func153, Tryz.ntmps153
  go_wp2_with fail
  refine CL.out.mono ?_
  rintro e w' ⟨rfl, rfl⟩
  go_wp2_with fail
  go_ret
  exact ⟨by rw [E.out]; rfl, rfl⟩

set_option maxRecDepth 100000 in
theorem minfinite_any (d : Int) (w : World) (h0 : 0 ≤ d) (h1 : d < 18446744073709551616) :
    Calls Tryz.prog 154 #[.int .u64 d] w fun e w' => e = .returned (.bool (Ie.isi d)) ∧ w' = w := by
  have CL := hid (class_any d w h0 h1)
  have E := hid (Ie.isi_cls d)
  generalize Ie.cls d = c at CL E
  go_enter Tryz.func154, Tryz.ntmps154
  go_wp2_with fail
  refine CL.out.mono ?_
  rintro e w' ⟨rfl, rfl⟩
  go_wp2_with fail
  go_ret
  exact ⟨by rw [E.out]; rfl, rfl⟩

theorem Ie.fin_kinds {d : Int} (h : Ie.fin d) : Ie.isn d = false ∧ Ie.isi d = false := by
  rw [Ie.fin] at h
  exact ⟨by rw [Ie.isn, decide_eq_false_iff_not]; omega, by rw [Ie.isi, decide_eq_false_iff_not]; omega⟩
theorem Ie.kinds (d : Int) : Ie.isn d = true ∨ (Ie.isn d = false ∧ Ie.isi d = true ∧ ¬ Ie.fin d) ∨ (Ie.isn d = false ∧ Ie.isi d = false ∧ Ie.fin d) := by
  simp only [Ie.isn, Ie.isi, Ie.fin, decide_eq_true_iff, decide_eq_false_iff_not]; omega
end Go.Proofs.YtdemopkdcnaibaaGreatDoor
