/-
  fixed's All.
-/
import Derived.Test.YtobiapniidaibaaGreatDoorWAT
import Derived.Test.YtobiapniidaibaaGreatDoorWAD
namespace Go.Proofs.YtobiapniidaibaaGreatDoor
open Go Go.RowKit Go.Deep

namespace Fx
/-- The exact digits of a double, and their power. -/
noncomputable def X (d : Int) : List Int := xd (Ie.dm d) (Ie.de d)
noncomputable def P (d : Int) : Int := ed (Ie.dm d) (Ie.de d)
/-- What All answers. -/
noncomputable def aS (d : Int) : List Int := if Ie.fnt d = true then X d else []
noncomputable def aE (d : Int) : Int := if Ie.fnt d = true then P d else 0
def aN (d : Int) : Bool := Ie.fnt d && decide (9223372036854775808 ≤ d)
def aR (d : Int) : Int := if Ie.fnt d = true then 0 else 5

theorem X_ex {d : Int} (h : Ie.fnt d = true) : Ex (Ie.dm d) (Ie.de d) (X d) (P d) := ex_is (Ie.fdec d (of_decide_eq_true h)).1
theorem X_digs {d : Int} (h : Ie.fnt d = true) : Digs (X d) ∧ X d ≠ [] := (X_ex h).digs (Ie.fdec d (of_decide_eq_true h)).1
theorem X_zero {d : Int} (h : Ie.fnt d = true) (hz : Ie.dm d = 0) : X d = [48] ∧ P d = 0 := (X_ex h).zero hz
theorem X_room {d : Int} (h : Ie.fnt d = true) : -323 ≤ (X d).length + P d ∧ (X d).length + P d ≤ 309 ∧ -1074 ≤ P d ∧ (X d).length ≤ 1383 ∧ 1 ≤ (X d).length := by
  obtain ⟨m0, m1, e0, e1, _⟩ := Ie.fdec d (of_decide_eq_true h)
  have lo := (X_ex h).lo
  have l1 := List.length_pos_iff.2 (X_digs h).2
  rcases (show Ie.dm d = 0 ∨ 0 < Ie.dm d by omega) with c | c
  · obtain ⟨a, b⟩ := X_zero h c
    rw [a, b] at *
    simp
  · have r := (X_ex h).room c m1 e1
    omega
end Fx

def AllTold (d : Int) (w : World) (e : Ending) (w' : World) : Prop :=
  ∃ s, e = .returned (.tuple #[.agg #[.bool (Fx.aN d), .string s, .int .i64 (Fx.aE d)], .int .i64 (Fx.aR d)]) ∧ Str s (Fx.aS d) ∧ Below w.heap.size w w'

theorem and_sign (d : Int) (h0 : 0 ≤ d) (h1 : d < 18446744073709551616) : (bits .and .u64 d 9223372036854775808 != 0) = decide (9223372036854775808 ≤ d) := by
  rw [Ib.sign_and d h0 h1]
  rcases (show d < 9223372036854775808 ∨ 9223372036854775808 ≤ d by omega) with c | c
  · have e : d / 9223372036854775808 = 0 := by omega
    rw [e]
    simp
    omega
  · have e : d / 9223372036854775808 = 1 := by omega
    rw [e]
    simp [c]

set_option maxRecDepth 100000 in
set_option maxHeartbeats 2000000 in
theorem fall_any (d : Int) (w : World) (hT : Tab w) (h0 : 0 ≤ d) (h1 : d < 18446744073709551616) :
    Calls Tryz.prog 9 #[.int .u64 d] w fun e w' => AllTold d w e w' := by
  have FN := hid (fun wx : World => ffinite_any d wx h0 h1)
  have Z := FR3.new w (.bool false) (.string ⟨#[]⟩) (.int .i64 0)
  have ZB := alloc_b w (.cells #[.bool false, .string ⟨#[]⟩, .int .i64 0] 25)
  by_cases hf : Ie.fnt d = true
  · have G : Hid (∀ (w' : World) (s : ByteArray), Str s (Fx.X d) → Below w.heap.size w w' → AllTold d w (.returned (.tuple #[.agg #[.bool (decide (9223372036854775808 ≤ d)), .string s, .int .i64 (Fx.P d)], .int .i64 0])) w') := by
      intro w' s hs hB
      refine ⟨s, ?_, by rw [Fx.aS, if_pos hf]; exact hs, hB⟩
      rw [Fx.aN, Fx.aE, Fx.aR, if_pos hf, if_pos hf, hf, Bool.true_and]
    have EX : Hid (∀ wx : World, Tab wx → Calls Tryz.prog 25 #[.int .u64 d] wx fun e w' => ExTold d wx e w') := fun wx h => exact_any d wx h h0 h1 (of_decide_eq_true hf)
    have AS := and_sign d h0 h1
    have E1 := hid (EX.out _ (hT.below ZB))
    have HZ := hid (And.intro Z ZB)
    rw [hf] at FN
    clear Z ZB EX hT h0 h1 hf
    unfold ExTold at E1
    rw [← Fx.X, ← Fx.P] at E1
    generalize Fx.X d = X at *
    generalize Fx.P d = P at *
    generalize decide (9223372036854775808 ≤ d) = sn at *
    go_enter Tryz.func9, Tryz.ntmps9
    go_wp2_with fail
    refine (FN.out _).mono ?_
    rintro e wz ⟨rfl, hz⟩
    replace hz := hz.symm
    subst hz
    go_wp2_with fail
    refine E1.out.mono ?_
    rintro e w1 ⟨s, rfl, hs, hB⟩
    have Z1 := hid (HZ.out.1.below hB HZ.out.1.lt)
    have B1 := hid (HZ.out.2.trans (hB.mono HZ.out.2.size))
    have K := hid (G.out _ s hs (fset3_below (u0 := .bool sn) (u1 := .string s) (u2 := .int .i64 P) B1.out (Nat.le_refl _)))
    obtain ⟨⟨c0, c1, c2⟩, f0, f1, f2⟩ := Z1.out.cells
    clear hs hB HZ G E1 FN
    go_wp2_with fail
    (try simp only [Exit.inBlock, Exit.then])
    refine bodyPost_ret (fresults_row_tmp rfl _ _ w.heap.size 25 _ (0, 0) _ rfl (Z1.out.put _ _ _) Tryz.underlying25 rfl (by kernel_rfl)) rfl ?_
    exact K.out
  · have hf' : Ie.fnt d = false := by simpa using hf
    have G : Hid (∀ (w' : World), Below w.heap.size w w' → AllTold d w (.returned (.tuple #[.agg #[.bool false, .string ⟨#[]⟩, .int .i64 0], .int .i64 5])) w') := by
      intro w' hB
      refine ⟨⟨#[]⟩, ?_, by rw [Fx.aS, if_neg hf]; rfl, hB⟩
      rw [Fx.aN, Fx.aE, Fx.aR, if_neg hf, if_neg hf, hf', Bool.false_and]
    rw [hf'] at FN
    have HZ := hid (And.intro Z ZB)
    have K := hid (G.out _ ZB)
    obtain ⟨⟨c0, c1, c2⟩, f0, f1, f2⟩ := Z.cells
    clear Z ZB hT h0 h1 hf hf' G
    go_enter Tryz.func9, Tryz.ntmps9
    go_wp2_with fail
    refine (FN.out _).mono ?_
    rintro e wz ⟨rfl, hz⟩
    replace hz := hz.symm
    subst hz
    go_wp2_with fail
    (try simp only [Exit.inBlock, Exit.then])
    refine bodyPost_ret (fresults_row_tmp rfl _ _ w.heap.size 25 _ (0, 0) _ rfl HZ.out.1 Tryz.underlying25 rfl (by kernel_rfl)) rfl ?_
    exact K.out
end Go.Proofs.YtobiapniidaibaaGreatDoor
