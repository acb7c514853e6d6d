/-
  THE REFERENCE's Add, Sub.
-/
import Derived.Test.YtmglogncpfoldaaDoorRef7
namespace Go.Proofs.YtmglogncpfoldaaDoor
open Go.RowKit Go.Deep

/-- An answer of a natural and an error: f the error's number, os the limbs; where P holds it is the error E, else the number T. -/
def Tells (P : Prop) (E T : Int) (w : World) (e : Ending) (w' : World) : Prop :=
  ∃ r os f, e = .returned (.tuple #[.slice r (List.length os) (List.length os), .int .i64 f]) ∧ ((P ∧ f = E ∧ os = [] ∧ r = none) ∨ (¬ P ∧ f = 0 ∧ Ans w.heap.size w' r os T)) ∧ Below w.heap.size w w'

theorem Tells.bad {P : Prop} {E T : Int} {w w' : World} (h : P) (hb : Below w.heap.size w w') : Tells P E T w (.returned (.tuple #[.slice none 0 0, .int .i64 E])) w' :=
  ⟨none, [], E, rfl, .inl ⟨h, rfl, rfl, rfl⟩, hb⟩

theorem Tells.good {P : Prop} {E T : Int} {w w' : World} {r : Option Addr} {os : List Int} (h : ¬ P) (ha : Ans w.heap.size w' r os T) (hb : Below w.heap.size w w') : Tells P E T w (.returned (.tuple #[.slice r (List.length os) (List.length os), .int .i64 0])) w' :=
  ⟨r, os, 0, rfl, .inr ⟨h, rfl, ha⟩, hb⟩

set_option maxHeartbeats 1000000 in
theorem refAdd_any (p q : Option Addr) (n cap m cap' : Nat) (za zb : List Int) (w : World) (ha : Arg w p n cap za) (hb : Arg w q m cap' zb) :
    Calls Tryd.prog 22 #[.slice p n cap, .slice q m cap'] w fun e w' => Tells (4096 < Nm.tsize za ∨ 4096 < Nm.tsize zb ∨ Nm.pw 4096 ≤ Nm.val za + Nm.val zb) 2 (Nm.val za + Nm.val zb) w e w' := by
  have HA := hid ha
  have HB := hid hb
  by_cases h1 : 4096 < Nm.tsize za
  · have S1 := hid (refBig_is true p n cap za w ha (by simpa using h1))
    have E : Hid (Tells (4096 < Nm.tsize za ∨ 4096 < Nm.tsize zb ∨ Nm.pw 4096 ≤ Nm.val za + Nm.val zb) 2 (Nm.val za + Nm.val zb) w (.returned (.tuple #[.slice none 0 0, .int .i64 2])) w) := Tells.bad (.inl h1) (Below.refl _ _)
    clear ha hb h1 HA HB
    go_enter Tryd.func22, Tryd.ntmps22
    go_wp2_with fail
    refine S1.out.mono ?_
    rintro e w' ⟨rfl, rfl⟩
    go_wp2
    go_ret2
    exact E.out
  have S1 := hid (refBig_is false p n cap za w ha (by simp; omega))
  by_cases h2 : 4096 < Nm.tsize zb
  · have S2 := hid (refBig_is true q m cap' zb w hb (by simpa using h2))
    have E : Hid (Tells (4096 < Nm.tsize za ∨ 4096 < Nm.tsize zb ∨ Nm.pw 4096 ≤ Nm.val za + Nm.val zb) 2 (Nm.val za + Nm.val zb) w (.returned (.tuple #[.slice none 0 0, .int .i64 2])) w) := Tells.bad (.inr (.inl h2)) (Below.refl _ _)
    clear ha hb h1 h2 HA HB
    go_enter Tryd.func22, Tryd.ntmps22
    go_wp2_with fail
    refine S1.out.mono ?_
    rintro e w' ⟨rfl, rfl⟩
    go_wp2_with fail
    refine S2.out.mono ?_
    rintro e w' ⟨rfl, rfl⟩
    go_wp2
    go_ret2
    exact E.out
  have S2 := hid (refBig_is false q m cap' zb w hb (by simp; omega))
  have T1 : Hid (Nm.tsize za ≤ 4096) := by show _ ≤ _; omega
  have T2 : Hid (Nm.tsize zb ≤ 4096) := by show _ ≤ _; omega
  clear ha hb h1 h2
  go_enter Tryd.func22, Tryd.ntmps22
  go_wp2_with fail
  refine S1.out.mono ?_
  rintro e w' ⟨rfl, rfl⟩
  go_wp2_with fail
  refine S2.out.mono ?_
  rintro e w' ⟨rfl, rfl⟩
  go_wp2_with fail
  refine (plus_any p q n cap m cap' za zb _ HA.out HB.out (by have := T1.out; omega) (by have := T2.out; omega)).mono ?_
  rintro e w1 ⟨r, os, rfl, hA, hb1⟩
  have x1 := (Nm.tsize_le_iff HA.out.2.2.2.2 4096).1 T1.out
  have y1 := (Nm.tsize_le_iff HB.out.2.2.2.2 4096).1 T2.out
  have l1 : os.length ≤ 4097 := by
    have h := (Nm.tsize_le_iff hA.2.1 4097).2 (by rw [hA.2.2.2.1, Nm.pw_succ]; have := Nm.pw_pos 4096; omega)
    rw [hA.2.2.1] at h
    exact h
  have TI : Hid (Nm.val za + Nm.val zb < Nm.pw 4096 ↔ Nm.tsize os ≤ 4096) := by rw [Hid, ← hA.2.2.2.1]; exact (Nm.tsize_le_iff hA.2.1 4096).symm
  have AA := hid (hA.arg (by omega))
  have A := hid hA
  have D := hid hb1
  clear x1 y1 hA hb1
  by_cases h3 : 4096 < Nm.tsize os
  · have S3 := hid (refBig_is true r _ _ os w1 AA.out (by simpa using h3))
    have E : Hid (Tells (4096 < Nm.tsize za ∨ 4096 < Nm.tsize zb ∨ Nm.pw 4096 ≤ Nm.val za + Nm.val zb) 2 (Nm.val za + Nm.val zb) w' (.returned (.tuple #[.slice none 0 0, .int .i64 2])) w1) := Tells.bad (.inr (.inr (by have := TI.out; omega))) D.out
    clear h3
    go_wp2_with fail
    refine S3.out.mono ?_
    rintro e w2 ⟨rfl, rfl⟩
    go_wp2
    go_ret2
    exact E.out
  · have S3 := hid (refBig_is false r _ _ os w1 AA.out (by simp; omega))
    have E : Hid (Tells (4096 < Nm.tsize za ∨ 4096 < Nm.tsize zb ∨ Nm.pw 4096 ≤ Nm.val za + Nm.val zb) 2 (Nm.val za + Nm.val zb) w' (.returned (.tuple #[.slice r (List.length os) (List.length os), .int .i64 0])) w1) := Tells.good (by have := TI.out; have := T1.out; have := T2.out; omega) A.out D.out
    clear h3
    go_wp2_with fail
    refine S3.out.mono ?_
    rintro e w2 ⟨rfl, rfl⟩
    go_wp2
    go_ret2
    exact E.out
end Go.Proofs.YtmglogncpfoldaaDoor
