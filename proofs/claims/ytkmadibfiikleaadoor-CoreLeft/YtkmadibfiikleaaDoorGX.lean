/-
  Texts put together: GNote, GVerdict.
-/
import Derived.Test.YtkmadibfiikleaaDoorGAcc
namespace Go.Proofs.YtkmadibfiikleaaDoor
open Go.RowKit Go.Deep

namespace Ga
/-- The product of doubles of these classes is a NaN. -/
def Wild (x y : Int) : Prop := x = 4 ∨ y = 4 ∨ (x = 3 ∧ y = 0) ∨ (x = 0 ∧ y = 3)
instance (x y : Int) : Decidable (Wild x y) := by unfold Wild; infer_instance
/-- It is no number. -/
def odd (x y : Int) : Bool := decide (Wild x y) || decide (x = 3 ∨ y = 3)
def St.note (s : St) (x y : Int) (neg : Bool) : St := if Wild x y then { s with n := s.n + 1 } else if x = 3 ∨ y = 3 then (if neg = true then { s with d := s.d + 1 } else { s with u := s.u + 1 }) else s
def Cls (x : Int) : Prop := x = 0 ∨ x = 1 ∨ x = 2 ∨ x = 3 ∨ x = 4
end Ga

/-- The Acc in block g holds s'; nothing else that was there has turned. -/
def AccBy (g : Nat) (s' : Ga.St) (w w' : World) : Prop := AccAt w' g s' ∧ Only g w w' ∧ w'.heap.size = w.heap.size

theorem AccAt.by_set {w : World} {g : Nat} {s s' : Ga.St} (h : AccAt w g s) (i : Nat) (v : Int) (he : (head5 s).set i (.int .i64 v) = head5 s') (hi : i < 5) (hP : s'.P = s.P) (hN : s'.N = s.N) (hok : s'.Ok) : AccBy g s' w (w.setCell ⟨g, i, none⟩ (.int .i64 v)) :=
  ⟨h.set i v he hi hP hN hok, Only.set _ _, by simp [World.setCell]⟩

set_option maxRecDepth 100000 in
set_option maxHeartbeats 4000000 in
theorem note_any (g : Nat) (s : Ga.St) (w : World) (h : AccAt w g s) (hs : s.n + s.u + s.d + s.z < s.c) (x y : Int) (neg : Bool) (hx : Ga.Cls x) (hy : Ga.Cls y) :
    Calls Tryd.prog 53 #[.pointer (some ⟨g, 0, none⟩), .int .i64 x, .int .i64 y, .bool neg] w fun e w' => e = .returned (.bool (Ga.odd x y)) ∧ AccBy g (s.note x y neg) w w' := by
  have ok := h.ok
  obtain ⟨⟨c0, c1, c2, -, -⟩, fr⟩ := h.cells
  have f0 := fr 0
  have f1 := fr 1
  have f2 := fr 2
  obtain ⟨k1, k2, k3, k4, k5, k6, k7, k8, k9⟩ := ok
  have KN := hid (h.by_set (s' := { s with n := s.n + 1 }) 0 (s.n + 1) rfl (by decide) rfl rfl ⟨by simp only; omega, k2, k3, k4, by simp only; omega, k6, k7, k8, k9⟩)
  have KU := hid (h.by_set (s' := { s with u := s.u + 1 }) 1 (s.u + 1) rfl (by decide) rfl rfl ⟨k1, by simp only; omega, k3, k4, by simp only; omega, k6, k7, k8, k9⟩)
  have KD := hid (h.by_set (s' := { s with d := s.d + 1 }) 2 (s.d + 1) rfl (by decide) rfl rfl ⟨k1, k2, by simp only; omega, k4, by simp only; omega, k6, k7, k8, k9⟩)
  have K0 : Hid (AccBy g s w w) := ⟨h, Only.refl _ _, rfl⟩
  have b0 : s.n ≤ 1099511627776 := by omega
  have b1 : s.u ≤ 1099511627776 := by omega
  have b2 : s.d ≤ 1099511627776 := by omega
  obtain ⟨n, hn⟩ : ∃ n, s.n = n := ⟨_, rfl⟩
  obtain ⟨u, hu⟩ : ∃ u, s.u = u := ⟨_, rfl⟩
  obtain ⟨d, hd⟩ : ∃ d, s.d = d := ⟨_, rfl⟩
  clear h hs k4 k5 k6 k7 k8 k9 fr
  have R : Hid (∀ x y neg, Ga.St.note s x y neg = (if Ga.Wild x y then { s with n := s.n + 1 } else if x = 3 ∨ y = 3 then (if neg = true then { s with d := s.d + 1 } else { s with u := s.u + 1 }) else s)) := fun _ _ _ => rfl
  rw [hn] at c0 k1 b0
  rw [hu] at c1 k2 b1
  rw [hd] at c2 k3 b2
  simp only [hn, hu, hd] at KN KU KD
  rcases hx with rfl | rfl | rfl | rfl | rfl <;> rcases hy with rfl | rfl | rfl | rfl | rfl <;> cases neg <;>
  · go_enter Tryd.func53, Tryd.ntmps53
    go_wp2
    go_ret
    simp [Ga.Wild, Ga.odd, R.out, hn, hu, hd]
    first | exact K0.out | exact KN.out | exact KU.out | exact KD.out
end Go.Proofs.YtkmadibfiikleaaDoor

namespace Go.Proofs.YtkmadibfiikleaaDoor
open Go.RowKit Go.Deep

namespace Ga
/-- What is told by what is no number, if there is any. -/
def St.Odd (s : St) : Prop := 0 < s.n ∨ 0 < s.u ∨ 0 < s.d
def St.told (s : St) : Int := if 0 < s.n ∨ (0 < s.u ∧ 0 < s.d) then 9221120237041090560 else if 0 < s.u then 9218868437227405312 else if 0 < s.d then 18442240474082181120 else 0
instance (s : St) : Decidable s.Odd := by unfold St.Odd; infer_instance
end Ga

set_option maxRecDepth 100000 in
set_option maxHeartbeats 4000000 in
theorem verdict_any (g : Nat) (s : Ga.St) (w : World) (h : AccAt w g s) :
    Calls Tryd.prog 57 #[.pointer (some ⟨g, 0, none⟩)] w fun e w' => e = .returned (.tuple #[.int .u64 s.told, .bool (decide s.Odd)]) ∧ w' = w := by
  obtain ⟨⟨c0, c1, c2, -, -⟩, -⟩ := h.cells
  have k1 := h.ok.n0
  have k2 := h.ok.u0
  have k3 := h.ok.d0
  obtain ⟨T, hT⟩ : ∃ T, Hid (s.told = T) := ⟨_, rfl⟩
  obtain ⟨O, hO⟩ : ∃ O, Hid (decide s.Odd = O) := ⟨_, rfl⟩
  rw [hT.out, hO.out]
  obtain ⟨n, hn⟩ : ∃ n, s.n = n := ⟨_, rfl⟩
  obtain ⟨u, hu⟩ : ∃ u, s.u = u := ⟨_, rfl⟩
  obtain ⟨d, hd⟩ : ∃ d, s.d = d := ⟨_, rfl⟩
  rw [hn] at c0 k1
  rw [hu] at c1 k2
  rw [hd] at c2 k3
  have TO : Hid (T = (if 0 < n ∨ (0 < u ∧ 0 < d) then 9221120237041090560 else if 0 < u then 9218868437227405312 else if 0 < d then 18442240474082181120 else 0) ∧ O = decide (0 < n ∨ 0 < u ∨ 0 < d)) := by
    refine ⟨?_, ?_⟩
    · rw [← hT.out, Ga.St.told, hn, hu, hd]
    · rw [← hO.out, ← hn, ← hu, ← hd]
      rfl
  clear h hn hu hd hT hO
  rcases (show n = 0 ∨ 0 < n by omega) with rfl | h1 <;> rcases (show u = 0 ∨ 0 < u by omega) with rfl | h2 <;> rcases (show d = 0 ∨ 0 < d by omega) with rfl | h3 <;>
  · go_enter Tryd.func57, Tryd.ntmps57
    go_wp2
    go_ret2
    obtain ⟨t1, t2⟩ := TO.out
    refine ⟨?_, rfl⟩
    rw [t1, t2]
    simp [*]

theorem side_any (g : Nat) (neg : Bool) (w : World) :
    Calls Tryd.prog 55 #[.pointer (some ⟨g, 0, none⟩), .bool neg] w fun e w' => e = .returned (.pointer (some ⟨g, if neg = true then 72 else 5, none⟩)) ∧ w' = w := by
  cases neg <;>
  · go_enter Tryd.func55, Tryd.ntmps55
    go_wp2
    go_ret
    exact ⟨rfl, rfl⟩

set_option maxRecDepth 100000 in
theorem nothing_any (g : Nat) (s : Ga.St) (w : World) (h : AccAt w g s) :
    Calls Tryd.prog 59 #[.pointer (some ⟨g, 0, none⟩)] w fun e w' => e = .returned (.int .u64 (if 0 < s.c ∧ s.z = s.c then 9223372036854775808 else 0)) ∧ ∃ k, w' = w.drewN k := by
  obtain ⟨⟨-, -, -, c3, c4⟩, -⟩ := h.cells
  have k1 := h.ok.odd
  have k2 := h.ok.n0
  have k3 := h.ok.u0
  have k4 := h.ok.d0
  have k5 := h.ok.z0
  obtain ⟨c, hc⟩ : ∃ c, s.c = c := ⟨_, rfl⟩
  obtain ⟨z, hz⟩ : ∃ z, s.z = z := ⟨_, rfl⟩
  have c0 : 0 ≤ c := by omega
  rw [hc] at c3 ⊢
  rw [hz] at c4 ⊢
  obtain ⟨V, hV⟩ : ∃ V, Hid ((if 0 < c ∧ z = c then (9223372036854775808 : Int) else 0) = V) := ⟨_, rfl⟩
  rw [hV.out]
  clear h hc hz k1 k2 k3 k4 k5
  rcases (show c = 0 ∨ 0 < c by omega) with rfl | h1
  · have g1 : decide ((0 : Int) < 0) = false := rfl
    obtain rfl : V = 0 := by rw [← hV.out]; rfl
    clear hV
    go_enter Tryd.func59, Tryd.ntmps59
    go_wp2
    go_quiet (fail)
    go_wp2
    go_ret
    exact ⟨rfl, _, rfl⟩
  · rcases (show z = c ∨ z ≠ c by omega) with rfl | h2
    · obtain rfl : V = 9223372036854775808 := by rw [← hV.out, if_pos ⟨h1, rfl⟩]
      clear hV
      go_enter Tryd.func59, Tryd.ntmps59
      go_wp2
      go_quiet (fail)
      go_wp2
      go_ret
      exact ⟨rfl, _, rfl⟩
    · have g2 : (z == c) = false := by rw [beq_eq_false_iff_ne]; exact h2
      obtain rfl : V = 0 := by rw [← hV.out, if_neg (fun q => h2 q.2)]
      clear hV
      go_enter Tryd.func59, Tryd.ntmps59
      go_wp2
      go_quiet (fail)
      go_wp2
      go_ret
      exact ⟨rfl, _, rfl⟩

end Go.Proofs.YtkmadibfiikleaaDoor
