/-
  layer 3's law: awake.
-/
import Derived.Test.YtbdilikdenhnkaaDoorNFrom
import Derived.Test.YtbdilikdenhnkaaDoorNInBase
import Derived.Test.YtbdilikdenhnkaaDoorNCopied
import Derived.Test.YtbdilikdenhnkaaDoorNSame
namespace Go.Proofs.YtbdilikdenhnkaaDoor
open Go.RowKit Go.Deep

theorem inIs_awake {xs : List Int} {E : Int} (h : InIs [255] 16 false xs E) : xs = [102, 102] ∧ E = 0 := by
  cases h with
  | big h => exact absurd h (by decide)
  | base h k => omega
  | zero h => exact absurd h (by decide)
  | ok L h1 h2 h3 h4 h5 =>
    have v : Nm.val [255] = 255 := by simp [Nm.val]
    rw [v] at h5 ⊢
    rw [Dn.strip_dg (by omega) (by omega) h5 (show (255 : Int) < 16 ^ 2 by decide)]
    exact ⟨by decide, rfl⟩

theorem ans_is {B : Nat} {w : World} {p : Option Addr} {os zs : List Int} {n : Int} (h : Ans B w p os n) (hl : Nm.Limbs zs) (ht : Nm.tsize zs = zs.length) (hv : Nm.val zs = n) : os = zs :=
  Nm.canon h.2.1 hl h.2.2.1 ht (by rw [h.2.2.2.1, hv])

theorem fromIs_awake {w w' : World} {r : Option Addr} {os : List Int} {at_ E : Int} (h : FromIs [90, 122] 36 w w' r os at_ E) : at_ = 0 ∧ E = 0 ∧ os = [1295] ∧ Ans w.heap.size w' r os 1295 := by
  cases h with
  | base h => omega
  | empty _ _ h => simp at h
  | digit t _ _ h1 h2 h3 =>
    exfalso
    simp at h1
    rcases (show t = 0 ∨ t = 1 by omega) with rfl | rfl <;> simp [wv] at h3
  | big _ _ _ _ h =>
    exfalso
    have h1 := Nm.pw_mono (show 1 ≤ 4096 by omega)
    have e : Nm.pw 1 = 18446744073709551616 := by simp [Nm.pw]
    have e2 : Dn.tv 36 0 ([90, 122].map wv) = 1295 := by decide
    rw [e2] at h
    rw [e] at h1
    generalize Nm.pw 4096 = x at *
    omega
  | ok r os _ _ _ _ _ h =>
    have e2 : Dn.tv 36 0 ([90, 122].map wv) = 1295 := by decide
    rw [e2] at h
    exact ⟨rfl, rfl, ans_is h (Nm.Limbs.mk (by omega) (by omega) Nm.Limbs.nil) (by decide) (by simp [Nm.val]), h⟩

set_option maxRecDepth 100000 in
set_option maxHeartbeats 1000000 in
theorem awake3_any (w : World) : Calls Tryd.prog 4 #[] w fun e w' => e = .returned (.bool true) ∧ Below w.heap.size w w' := by
  have b0 : Below w.heap.size w (w.alloc (.cells #[.int .u64 255] 32)) := (Below.refl _ _).alloc (Nat.le_refl _) _
  have a0 : Arg (w.alloc (.cells #[.int .u64 255] 32)) (some ⟨w.heap.size, 0, none⟩) 1 1 [255] := ⟨rfl, Nat.le_refl _, by omega, (Own.alloc w [255]).lies, limb_one (by omega)⟩
  have C0 := hid (inBase_any _ 1 1 [255] 16 false _ a0 (by omega) (by omega))
  have B0 := hid b0
  clear b0 a0
  go_enter Tryd.func4, Tryd.ntmps4
  go_wp2_with fail
  refine C0.out.mono ?_
  rintro e w1 ⟨s, xs, E, rfl, hs, hi, d1⟩
  obtain ⟨rfl, rfl⟩ := inIs_awake hi
  obtain rfl : s = ⟨#[102, 102]⟩ := hs.inj rfl
  have D1 := hid (chain B0.out d1 (Nat.le_refl _))
  have C1 := hid (fromBase_any ⟨#[90, 122]⟩ [90, 122] 36 w1 rfl (by simp) (by omega) (by omega))
  clear hs hi d1 C0 B0
  go_wp2_with fail
  refine C1.out.mono ?_
  rintro e w2 ⟨r, os, at_, E, rfl, hi, d2⟩
  obtain ⟨rfl, rfl, rfl, A2⟩ := fromIs_awake hi
  have D2 := hid (chain D1.out d2 (Nat.le_refl _))
  obtain ⟨g, off, hp, hc⟩ : ∃ g off, r = some ⟨g, off, none⟩ ∧ w2.cell? ⟨g, off, none⟩ = some (.int .u64 1295) := by
    rcases A2.1 with h | ⟨g, off, hp, h⟩
    · simp at h
    · exact ⟨g, off, hp, by have := h 0 (by simp); simpa using this⟩
  subst hp
  clear hi d2 C1 A2 D1
  go_wp2_with fail
  go_ret
  exact ⟨rfl, D2.out⟩
end Go.Proofs.YtbdilikdenhnkaaDoor
