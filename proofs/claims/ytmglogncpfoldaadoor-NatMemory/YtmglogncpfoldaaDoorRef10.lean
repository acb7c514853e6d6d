/-
  THE REFERENCE's Sub, MulAdd.
-/
import Derived.Test.YtmglogncpfoldaaDoorRef9
namespace Go.Proofs.YtmglogncpfoldaaDoor
open Go.RowKit Go.Deep

/-- The error of Sub. -/
def subErr (za zb : List Int) : Int := if 4096 < Nm.tsize za ∨ 4096 < Nm.tsize zb then 2 else 10

theorem cmpI_neg {x y c : Int} (h : cmpI x y = c) : c < 0 ↔ x < y := by
  subst h
  unfold cmpI
  split
  · omega
  · split <;> omega

set_option maxHeartbeats 1000000 in
theorem refSub_any (p q : Option Addr) (n cap m cap' : Nat) (za zb : List Int) (w : World) (ha : Arg w p n cap za) (hb : Arg w q m cap' zb) :
    Calls Tryd.prog 23 #[.slice p n cap, .slice q m cap'] w fun e w' => Tells ((4096 < Nm.tsize za ∨ 4096 < Nm.tsize zb) ∨ Nm.val za < Nm.val zb) (subErr za zb) (Nm.val za - Nm.val zb) w e w' := by
  have HA := hid ha
  have HB := hid hb
  by_cases h1 : 4096 < Nm.tsize za
  · have S1 := hid (refBig_is true p n cap za w ha (by simpa using h1))
    have EE : subErr za zb = 2 := if_pos (.inl h1)
    have E : Hid (Tells ((4096 < Nm.tsize za ∨ 4096 < Nm.tsize zb) ∨ Nm.val za < Nm.val zb) (subErr za zb) (Nm.val za - Nm.val zb) w (.returned (.tuple #[.slice none 0 0, .int .i64 2])) w) := by rw [EE]; exact Tells.bad (.inl (.inl h1)) (Below.refl _ _)
    clear ha hb h1 HA HB EE
    go_enter Tryd.func23, Tryd.ntmps23
    go_wp2_with fail
    refine S1.out.mono ?_
    rintro e w' ⟨rfl, rfl⟩
    go_wp2
    go_ret2
    exact E.out
  have S1 := hid (refBig_is false p n cap za w ha (by simp; omega))
  by_cases h2 : 4096 < Nm.tsize zb
  · have S2 := hid (refBig_is true q m cap' zb w hb (by simpa using h2))
    have EE : subErr za zb = 2 := if_pos (.inr h2)
    have E : Hid (Tells ((4096 < Nm.tsize za ∨ 4096 < Nm.tsize zb) ∨ Nm.val za < Nm.val zb) (subErr za zb) (Nm.val za - Nm.val zb) w (.returned (.tuple #[.slice none 0 0, .int .i64 2])) w) := by rw [EE]; exact Tells.bad (.inl (.inr h2)) (Below.refl _ _)
    clear ha hb h1 h2 HA HB EE
    go_enter Tryd.func23, Tryd.ntmps23
    go_wp2_with fail
    refine S1.out.mono ?_
    rintro e w' ⟨rfl, rfl⟩
    go_wp2_with fail
    refine S2.out.mono ?_
    rintro e w' ⟨rfl, rfl⟩
    go_wp2
    go_ret2
    exact E.out
  have S2 := hid (refBig_is false q m cap' zb w hb (by simp; omega))
  have T1 : Hid (Nm.tsize za ≤ 4096) := by show _ ≤ _; omega
  have T2 : Hid (Nm.tsize zb ≤ 4096) := by show _ ≤ _; omega
  have CC := refCmp_any p q n cap m cap' za zb w ha hb
  obtain ⟨c, hc⟩ : ∃ c, cmpI (Nm.val za) (Nm.val zb) = c := ⟨_, rfl⟩
  have NC := hid (cmpI_neg hc)
  rw [hc] at CC
  have HCC := hid CC
  clear CC hc
  by_cases h3 : Nm.val za < Nm.val zb
  · have hc0 : c < 0 := NC.out.2 h3
    have EE : subErr za zb = 10 := if_neg (by omega)
    have E : Hid (∀ x, Below w.heap.size w x → Tells ((4096 < Nm.tsize za ∨ 4096 < Nm.tsize zb) ∨ Nm.val za < Nm.val zb) (subErr za zb) (Nm.val za - Nm.val zb) w (.returned (.tuple #[.slice none 0 0, .int .i64 10])) x) := fun x hx => by rw [EE]; exact Tells.bad (.inr h3) hx
    clear ha hb h1 h2 h3 HA HB EE NC T1 T2
    go_enter Tryd.func23, Tryd.ntmps23
    go_wp2_with fail
    refine S1.out.mono ?_
    rintro e w' ⟨rfl, rfl⟩
    go_wp2_with fail
    refine S2.out.mono ?_
    rintro e w' ⟨rfl, rfl⟩
    go_wp2_with fail
    refine HCC.out.mono ?_
    rintro e w1 ⟨rfl, hb1⟩
    have D := hid hb1
    clear hb1
    go_wp2
    go_ret2
    exact E.out _ D.out
  · have hc0 : ¬ c < 0 := fun h => h3 (NC.out.1 h)
    have LE : Hid (Nm.val zb ≤ Nm.val za) := by show _ ≤ _; omega
    have NP : Hid (¬ ((4096 < Nm.tsize za ∨ 4096 < Nm.tsize zb) ∨ Nm.val za < Nm.val zb)) := by show ¬ _; omega
    clear ha hb h1 h2 h3 NC
    go_enter Tryd.func23, Tryd.ntmps23
    go_wp2_with fail
    refine S1.out.mono ?_
    rintro e w' ⟨rfl, rfl⟩
    go_wp2_with fail
    refine S2.out.mono ?_
    rintro e w' ⟨rfl, rfl⟩
    go_wp2_with fail
    refine HCC.out.mono ?_
    rintro e w1 ⟨rfl, hb1⟩
    have D := hid hb1
    clear hb1
    go_wp2_with fail
    refine (less_any p q n cap m cap' za zb _ (HA.out.below D.out (Nat.le_refl _)) (HB.out.below D.out (Nat.le_refl _)) (by have := T1.out; omega) LE.out).mono ?_
    rintro e w2 ⟨r, os, rfl, hA, hb1⟩
    have E : Hid (Tells ((4096 < Nm.tsize za ∨ 4096 < Nm.tsize zb) ∨ Nm.val za < Nm.val zb) (subErr za zb) (Nm.val za - Nm.val zb) w' (.returned (.tuple #[.slice r (List.length os) (List.length os), .int .i64 0])) w2) := Tells.good NP.out (hA.mono D.out.size) (chain D.out hb1 (Nat.le_refl _))
    clear hA hb1
    go_wp2
    go_ret2
    exact E.out

set_option maxHeartbeats 1000000 in
theorem refMulAdd_any (p : Option Addr) (n cap : Nat) (za : List Int) (mm cc : Int) (w : World) (ha : Arg w p n cap za) (hm0 : 0 ≤ mm) (hm1 : mm < 18446744073709551616) (hc0 : 0 ≤ cc) (hc1 : cc < 18446744073709551616) :
    Calls Tryd.prog 25 #[.slice p n cap, .int .u64 mm, .int .u64 cc] w fun e w' => Tells (4096 < Nm.tsize za ∨ Nm.pw 4096 ≤ Nm.val za * mm + cc) 2 (Nm.val za * mm + cc) w e w' := by
  have HA := hid ha
  by_cases h1 : 4096 < Nm.tsize za
  · have S1 := hid (refBig_is true p n cap za w ha (by simpa using h1))
    have E : Hid (Tells (4096 < Nm.tsize za ∨ Nm.pw 4096 ≤ Nm.val za * mm + cc) 2 (Nm.val za * mm + cc) w (.returned (.tuple #[.slice none 0 0, .int .i64 2])) w) := Tells.bad (.inl h1) (Below.refl _ _)
    clear ha h1 HA
    go_enter Tryd.func25, Tryd.ntmps25
    go_wp2_with fail
    refine S1.out.mono ?_
    rintro e w' ⟨rfl, rfl⟩
    go_wp2
    go_ret2
    exact E.out
  have S1 := hid (refBig_is false p n cap za w ha (by simp; omega))
  have T1 : Hid (Nm.tsize za ≤ 4096) := by show _ ≤ _; omega
  have L1 := hid (one_limb ⟨hm0, hm1⟩)
  have L2 := hid (one_limb ⟨hc0, hc1⟩)
  have V1 : Hid (Nm.val [mm] = mm) := by simp [Hid, Nm.val]
  have V2 : Hid (Nm.val [cc] = cc) := by simp [Hid, Nm.val]
  have BD : Hid (Nm.val za * mm < Nm.pw 4097 ∧ Nm.val za * mm + cc < Nm.pw 4097) := by
    have h := (Nm.tsize_le_iff ha.2.2.2.2 4096).1 T1.out
    have h0 := (Nm.val_bd za ha.2.2.2.2).1
    have h2 : Nm.val za * mm ≤ (Nm.pw 4096 - 1) * 18446744073709551615 := Int.mul_le_mul (by omega) (by omega) hm0 (by have := Nm.pw_pos 4096; omega)
    rw [Hid, Nm.pw_succ]
    have := Nm.pw_pos 4096
    omega
  clear ha h1
  have bm := (Below.refl w.heap.size w).alloc (Nat.le_refl _) (.cells #[.int .u64 mm] 28)
  have HA2 := hid (HA.out.below bm (Nat.le_refl _))
  have BM := hid bm
  clear bm
  go_enter Tryd.func25, Tryd.ntmps25
  go_wp2_with fail
  refine S1.out.mono ?_
  rintro e w' ⟨rfl, rfl⟩
  go_wp2_with fail
  refine (times_any p _ n cap 1 1 za [mm] _ HA2.out (arg_new w' [mm] 1 rfl (by omega) L1.out) (by have := T1.out; omega) (by have := Nm.tsize_le [mm]; simp at this; omega)).mono ?_
  rintro e w1 ⟨r, os, rfl, hA, hb1⟩
  rw [V1.out] at hA
  have l1 : os.length ≤ 4097 := by
    have h := (Nm.tsize_le_iff hA.2.1 4097).2 (by rw [hA.2.2.2.1]; exact BD.out.1)
    rw [hA.2.2.1] at h
    exact h
  have D1 := hid (chain BM.out hb1 (Nat.le_refl _))
  have bm2 := (Below.refl w1.heap.size w1).alloc (Nat.le_refl _) (.cells #[.int .u64 cc] 28)
  have A2 := hid ((hA.arg (by omega)).below bm2 (Nat.le_refl _))
  have VA : Hid (Nm.val os = Nm.val za * mm) := hA.2.2.2.1
  have D2 := hid (chain D1.out bm2 (Nat.le_refl _))
  clear hA hb1 bm2
  go_wp2_with fail
  refine (plus_any r _ _ _ 1 1 os [cc] _ A2.out (arg_new w1 [cc] 1 rfl (by omega) L2.out) (by have := Nm.tsize_le os; omega) (by have := Nm.tsize_le [cc]; simp at this; omega)).mono ?_
  rintro e w2 ⟨r2, o2, rfl, hA, hb1⟩
  rw [VA.out, V2.out] at hA
  have l2 : o2.length ≤ 4097 := by
    have h := (Nm.tsize_le_iff hA.2.1 4097).2 (by rw [hA.2.2.2.1]; exact BD.out.2)
    rw [hA.2.2.1] at h
    exact h
  have TI : Hid (Nm.val za * mm + cc < Nm.pw 4096 ↔ Nm.tsize o2 ≤ 4096) := by rw [Hid, ← hA.2.2.2.1]; exact (Nm.tsize_le_iff hA.2.1 4096).symm
  have A3 := hid (hA.mono D2.out.size)
  have AA := hid (hA.arg (by omega))
  have D3 := hid (chain D2.out hb1 (Nat.le_refl _))
  clear hA hb1
  by_cases h3 : 4096 < Nm.tsize o2
  · have S3 := hid (refBig_is true r2 _ _ o2 w2 AA.out (by simpa using h3))
    have E : Hid (Tells (4096 < Nm.tsize za ∨ Nm.pw 4096 ≤ Nm.val za * mm + cc) 2 (Nm.val za * mm + cc) w' (.returned (.tuple #[.slice none 0 0, .int .i64 2])) w2) := Tells.bad (.inr (by have := TI.out; omega)) D3.out
    clear h3
    go_wp2_with fail
    refine S3.out.mono ?_
    rintro e w3 ⟨rfl, rfl⟩
    go_wp2
    go_ret2
    exact E.out
  · have S3 := hid (refBig_is false r2 _ _ o2 w2 AA.out (by simp; omega))
    have E : Hid (Tells (4096 < Nm.tsize za ∨ Nm.pw 4096 ≤ Nm.val za * mm + cc) 2 (Nm.val za * mm + cc) w' (.returned (.tuple #[.slice r2 (List.length o2) (List.length o2), .int .i64 0])) w2) := Tells.good (by have := TI.out; have := T1.out; omega) A3.out D3.out
    clear h3
    go_wp2_with fail
    refine S3.out.mono ?_
    rintro e w3 ⟨rfl, rfl⟩
    go_wp2
    go_ret2
    exact E.out
end Go.Proofs.YtmglogncpfoldaaDoor
