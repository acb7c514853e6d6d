/-
  note, verdict, side, nothing, Count, New of package gather.
-/
import Derived.Test.YtdolgbojbmioeaaDoorGAcc
namespace Go.Proofs.YtdolgbojbmioeaaDoor
open Go.RowKit Go.Deep

namespace Ga
/-- The product of doubles of these classes is a NaN. -/
def Wild (x y : Int) : Prop := x = 4 ∨ y = 4 ∨ (x = 3 ∧ y = 0) ∨ (x = 0 ∧ y = 3)
instance (x y : Int) : Decidable (Wild x y) := by unfold Wild; infer_instance
/-- It is no number. -/
def odd (x y : Int) : Bool := decide (Wild x y) || decide (x = 3 ∨ y = 3)
def St.note (s : St) (x y : Int) (neg : Bool) : St := if Wild x y then { s with n := s.n + 1 } else if x = 3 ∨ y = 3 then (if neg = true then { s with d := s.d + 1 } else { s with u := s.u + 1 }) else s
def Cls (x : Int) : Prop := x = 0 ∨ x = 1 ∨ x = 2 ∨ x = 3 ∨ x = 4
end Ga

/-- The Acc in block g holds s'; nothing else that was there has turned. -/
def AccBy (g : Nat) (s' : Ga.St) (w w' : World) : Prop := AccAt w' g s' ∧ Only g w w' ∧ w'.heap.size = w.heap.size

theorem AccAt.by_set {w : World} {g : Nat} {s s' : Ga.St} (h : AccAt w g s) (i : Nat) (v : Int) (he : (head5 s).set i (.int .i64 v) = head5 s') (hi : i < 5) (hP : s'.P = s.P) (hN : s'.N = s.N) (hok : s'.Ok) : AccBy g s' w (w.setCell ⟨g, i, none⟩ (.int .i64 v)) :=
  ⟨h.set i v he hi hP hN hok, Only.set _ _, by simp [World.setCell]⟩

set_option maxRecDepth 100000 in
set_option maxHeartbeats 4000000 in
theorem note_any (g : Nat) (s : Ga.St) (w : World) (h : AccAt w g s) (hs : s.n + s.u + s.d + s.z < s.c) (x y : Int) (neg : Bool) (hx : Ga.Cls x) (hy : Ga.Cls y) :
    Calls Tryd.prog 23 #[.pointer (some ⟨g, 0, none⟩), .int .i64 x, .int .i64 y, .bool neg] w fun e w' => e = .returned (.bool (Ga.odd x y)) ∧ AccBy g (s.note x y neg) w w' := by
  have ok := h.ok
  obtain ⟨⟨c0, c1, c2, -, -⟩, fr⟩ := h.cells
  have f0 := fr 0
  have f1 := fr 1
  have f2 := fr 2
  obtain ⟨k1, k2, k3, k4, k5, k6, k7, k8, k9⟩ := ok
  have KN := hid (h.by_set (s' := { s with n := s.n + 1 }) 0 (s.n + 1) rfl (by decide) rfl rfl ⟨by simp only; omega, k2, k3, k4, by simp only; omega, k6, k7, k8, k9⟩)
  have KU := hid (h.by_set (s' := { s with u := s.u + 1 }) 1 (s.u + 1) rfl (by decide) rfl rfl ⟨k1, by simp only; omega, k3, k4, by simp only; omega, k6, k7, k8, k9⟩)
  have KD := hid (h.by_set (s' := { s with d := s.d + 1 }) 2 (s.d + 1) rfl (by decide) rfl rfl ⟨k1, k2, by simp only; omega, k4, by simp only; omega, k6, k7, k8, k9⟩)
  have K0 : Hid (AccBy g s w w) := ⟨h, Only.refl _ _, rfl⟩
  have b0 : s.n ≤ 1099511627776 := by omega
  have b1 : s.u ≤ 1099511627776 := by omega
  have b2 : s.d ≤ 1099511627776 := by omega
  obtain ⟨n, hn⟩ : ∃ n, s.n = n := ⟨_, rfl⟩
  obtain ⟨u, hu⟩ : ∃ u, s.u = u := ⟨_, rfl⟩
  obtain ⟨d, hd⟩ : ∃ d, s.d = d := ⟨_, rfl⟩
  clear h hs k4 k5 k6 k7 k8 k9 fr
  have R : Hid (∀ x y neg, Ga.St.note s x y neg = (if Ga.Wild x y then { s with n := s.n + 1 } else if x = 3 ∨ y = 3 then (if neg = true then { s with d := s.d + 1 } else { s with u := s.u + 1 }) else s)) := fun _ _ _ => rfl
  rw [hn] at c0 k1 b0
  rw [hu] at c1 k2 b1
  rw [hd] at c2 k3 b2
  simp only [hn, hu, hd] at KN KU KD
  rcases hx with rfl | rfl | rfl | rfl | rfl <;> rcases hy with rfl | rfl | rfl | rfl | rfl <;> cases neg <;>
  · go_enter Tryd.func23, Tryd.ntmps23
    go_wp2
    go_ret
    simp [Ga.Wild, Ga.odd, R.out, hn, hu, hd]
    first | exact K0.out | exact KN.out | exact KU.out | exact KD.out
end Go.Proofs.YtdolgbojbmioeaaDoor
