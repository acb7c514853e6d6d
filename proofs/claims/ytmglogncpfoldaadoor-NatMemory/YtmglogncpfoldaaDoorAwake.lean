/-
  THE WALK OF awake: two answers that the document fixes by number.
-/
import Derived.Test.YtmglogncpfoldaaDoorWalk4
import Derived.Test.YtmglogncpfoldaaDoorWalk3
namespace Go.Proofs.YtmglogncpfoldaaDoor
open Go.RowKit Go.Deep

theorem arg_new (w : World) (zs : List Int) (n : Nat) (hn : zs.length = n) (hm : n ≤ 17592186044000) (hl : Nm.Limbs zs) : Arg (w.alloc (.cells (zs.map (Value.int .u64)).toArray 28)) (some ⟨w.heap.size, 0, none⟩) n n zs :=
  ⟨hn, Nat.le_refl _, hm, (Own.alloc w zs).lies, hl⟩

/-- Two new lists. -/
def twoNew (w : World) (xs ys : List Int) : World := (w.alloc (.cells (xs.map (Value.int .u64)).toArray 28)).alloc (.cells (ys.map (Value.int .u64)).toArray 28)

theorem two_below (w : World) (xs ys : List Int) : Below w.heap.size w (twoNew w xs ys) := ((Below.refl _ _).alloc (Nat.le_refl _) _).alloc (by simp) _

theorem two_first (w : World) (xs ys : List Int) (n : Nat) (hn : xs.length = n) (hm : n ≤ 17592186044000) (hl : Nm.Limbs xs) : Arg (twoNew w xs ys) (some ⟨w.heap.size, 0, none⟩) n n xs :=
  (arg_new w xs n hn hm hl).below ((Below.refl _ _).alloc (Nat.le_refl _) _) (Nat.le_refl _)

theorem two_second (w : World) (xs ys : List Int) (n : Nat) (hn : ys.length = n) (hm : n ≤ 17592186044000) (hl : Nm.Limbs ys) : Arg (twoNew w xs ys) (some ⟨w.heap.size + 1, 0, none⟩) n n ys := by
  have h := arg_new (w.alloc (.cells (xs.map (Value.int .u64)).toArray 28)) ys n hn hm hl
  rw [World.size_alloc] at h
  exact h

theorem pw_two_le : 340282366920938463463374607431768211456 ≤ Nm.pw 4096 := Nm.pw_mono (a := 2) (b := 4096) (by omega)

theorem two_limbs {a b : Int} (h1 : 0 ≤ a ∧ a < 18446744073709551616) (h2 : 0 ≤ b ∧ b < 18446744073709551616) : Nm.Limbs [a, b] := Nm.Limbs.mk h1.1 h1.2 (Nm.Limbs.mk h2.1 h2.2 Nm.Limbs.nil)

theorem one_limb {a : Int} (h1 : 0 ≤ a ∧ a < 18446744073709551616) : Nm.Limbs [a] := Nm.Limbs.mk h1.1 h1.2 Nm.Limbs.nil

/-- An answer of two limbs, read. -/
theorem Ans.two {B : Nat} {w : World} {r : Option Addr} {os : List Int} {n a b : Int} (h : Ans B w r os n) (ha : 0 ≤ a ∧ a < 18446744073709551616) (hb : 0 < b ∧ b < 18446744073709551616) (hn : n = a + 18446744073709551616 * b) :
    os.length = 2 ∧ ∃ g o, r = some ⟨g, o, none⟩ ∧ w.cell? ⟨g, o, none⟩ = some (.int .u64 a) ∧ w.cell? ⟨g, o + 1, none⟩ = some (.int .u64 b) := by
  obtain ⟨h1, h2, h3, h4, _⟩ := h
  have hb' : b ≠ 0 := by omega
  have e : os = [a, b] := Nm.canon h2 (two_limbs ha ⟨by omega, hb.2⟩) h3 (by simp [Nm.tsize, hb']) (by rw [h4, hn]; simp [Nm.val])
  subst e
  refine ⟨rfl, ?_⟩
  rcases h1 with h1 | ⟨g, o, hr, hc⟩
  · cases h1
  · exact ⟨g, o, hr, by simpa using hc 0 (by simp), by simpa using hc 1 (by simp)⟩

theorem add_awake (w : World) : Calls Tryd.prog 13 #[.slice (some ⟨w.heap.size, 0, none⟩) 1 1, .slice (some ⟨w.heap.size + 1, 0, none⟩) 1 1] (twoNew w [18446744073709551615] [1]) fun e w' =>
    ∃ g o, e = .returned (.tuple #[.slice (some ⟨g, o, none⟩) 2 2, .int .i64 0]) ∧ w'.cell? ⟨g, o, none⟩ = some (.int .u64 0) ∧ w'.cell? ⟨g, o + 1, none⟩ = some (.int .u64 1) ∧ Below w.heap.size w w' := by
  have hp := pw_two_le
  refine (add_ok _ _ 1 1 1 1 _ _ _ (two_first w [18446744073709551615] [1] 1 rfl (by omega) (one_limb (by omega))) (two_second w [18446744073709551615] [1] 1 rfl (by omega) (one_limb (by omega))) (by simp only [Nm.val]; omega)).mono ?_
  rintro e w' ⟨r, os, rfl, ha, hb⟩
  obtain ⟨h2, g, o, rfl, c0, c1⟩ := ha.two (a := 0) (b := 1) (by omega) (by omega) (by simp only [Nm.val]; omega)
  rw [h2]
  exact ⟨g, o, rfl, c0, c1, (two_below w _ _).trans (hb.mono (two_below w _ _).size)⟩

theorem mul_awake (w : World) : Calls Tryd.prog 14 #[.slice (some ⟨w.heap.size, 0, none⟩) 2 2, .slice (some ⟨w.heap.size + 1, 0, none⟩) 1 1] (twoNew w [0, 3] [7]) fun e w' =>
    ∃ g o, e = .returned (.tuple #[.slice (some ⟨g, o, none⟩) 2 2, .int .i64 0]) ∧ w'.cell? ⟨g, o, none⟩ = some (.int .u64 0) ∧ w'.cell? ⟨g, o + 1, none⟩ = some (.int .u64 21) ∧ Below w.heap.size w w' := by
  have hp := pw_two_le
  refine (mul_ok _ _ 2 2 1 1 _ _ _ (two_first w [0, 3] [7] 2 rfl (by omega) (two_limbs (by omega) (by omega))) (two_second w [0, 3] [7] 1 rfl (by omega) (one_limb (by omega))) (by simp [Nm.tsize]) (by simp [Nm.tsize]) (by simp only [Nm.val]; omega)).mono ?_
  rintro e w' ⟨r, os, rfl, ha, hb⟩
  obtain ⟨h2, g, o, rfl, c0, c1⟩ := ha.two (a := 0) (b := 21) (by omega) (by omega) (by simp only [Nm.val]; omega)
  rw [h2]
  exact ⟨g, o, rfl, c0, c1, (two_below w _ _).trans (hb.mono (two_below w _ _).size)⟩

set_option maxHeartbeats 1000000 in
theorem awake_any (w : World) : Calls Tryd.prog 4 #[] w fun e w' => e = .returned (.bool true) ∧ Below w.heap.size w w' := by
  go_enter Tryd.func4, Tryd.ntmps4
  go_wp2_with fail
  refine (add_awake w).mono ?_
  rintro e w1 ⟨g, o, rfl, c0, c1, hb⟩
  have HB := hid hb
  clear hb
  go_wp2_with fail
  refine (mul_awake w1).mono ?_
  rintro e w2 ⟨g', o', rfl, d0, d1, hb⟩
  have HB2 := hid hb
  clear hb c0 c1
  go_wp2_with fail
  go_ret
  exact ⟨rfl, HB.out.trans (HB2.out.mono HB.out.size)⟩
end Go.Proofs.YtmglogncpfoldaaDoor
