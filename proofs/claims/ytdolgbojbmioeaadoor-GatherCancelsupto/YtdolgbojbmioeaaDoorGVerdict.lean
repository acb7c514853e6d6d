/-
  verdict, side, nothing, New, Count of package gather.
-/
import Derived.Test.YtdolgbojbmioeaaDoorGAcc
namespace Go.Proofs.YtdolgbojbmioeaaDoor
open Go.RowKit Go.Deep

namespace Ga
/-- What is told by what is no number, if there is any. -/
def St.Odd (s : St) : Prop := 0 < s.n ∨ 0 < s.u ∨ 0 < s.d
def St.told (s : St) : Int := if 0 < s.n ∨ (0 < s.u ∧ 0 < s.d) then 9221120237041090560 else if 0 < s.u then 9218868437227405312 else if 0 < s.d then 18442240474082181120 else 0
instance (s : St) : Decidable s.Odd := by unfold St.Odd; infer_instance
end Ga

set_option maxRecDepth 100000 in
set_option maxHeartbeats 4000000 in
theorem verdict_any (g : Nat) (s : Ga.St) (w : World) (h : AccAt w g s) :
    Calls Tryd.prog 30 #[.pointer (some ⟨g, 0, none⟩)] w fun e w' => e = .returned (.tuple #[.int .u64 s.told, .bool (decide s.Odd)]) ∧ w' = w := by
  obtain ⟨⟨c0, c1, c2, -, -⟩, -⟩ := h.cells
  have k1 := h.ok.n0
  have k2 := h.ok.u0
  have k3 := h.ok.d0
  obtain ⟨T, hT⟩ : ∃ T, Hid (s.told = T) := ⟨_, rfl⟩
  obtain ⟨O, hO⟩ : ∃ O, Hid (decide s.Odd = O) := ⟨_, rfl⟩
  rw [hT.out, hO.out]
  obtain ⟨n, hn⟩ : ∃ n, s.n = n := ⟨_, rfl⟩
  obtain ⟨u, hu⟩ : ∃ u, s.u = u := ⟨_, rfl⟩
  obtain ⟨d, hd⟩ : ∃ d, s.d = d := ⟨_, rfl⟩
  rw [hn] at c0 k1
  rw [hu] at c1 k2
  rw [hd] at c2 k3
  have TO : Hid (T = (if 0 < n ∨ (0 < u ∧ 0 < d) then 9221120237041090560 else if 0 < u then 9218868437227405312 else if 0 < d then 18442240474082181120 else 0) ∧ O = decide (0 < n ∨ 0 < u ∨ 0 < d)) := by
    refine ⟨?_, ?_⟩
    · rw [← hT.out, Ga.St.told, hn, hu, hd]
    · rw [← hO.out, ← hn, ← hu, ← hd]
      rfl
  clear h hn hu hd hT hO
  rcases (show n = 0 ∨ 0 < n by omega) with rfl | h1 <;> rcases (show u = 0 ∨ 0 < u by omega) with rfl | h2 <;> rcases (show d = 0 ∨ 0 < d by omega) with rfl | h3 <;>
  · go_enter Tryd.func30, Tryd.ntmps30
    go_wp2
    go_ret2
    obtain ⟨t1, t2⟩ := TO.out
    refine ⟨?_, rfl⟩
    rw [t1, t2]
    simp [*]

theorem side_any (g : Nat) (neg : Bool) (w : World) :
    Calls Tryd.prog 25 #[.pointer (some ⟨g, 0, none⟩), .bool neg] w fun e w' => e = .returned (.pointer (some ⟨g, if neg = true then 72 else 5, none⟩)) ∧ w' = w := by
  cases neg <;>
  · go_enter Tryd.func25, Tryd.ntmps25
    go_wp2
    go_ret
    exact ⟨rfl, rfl⟩

theorem count_any (g : Nat) (s : Ga.St) (w : World) (h : AccAt w g s) :
    Calls Tryd.prog 13 #[.pointer (some ⟨g, 0, none⟩)] w fun e w' => e = .returned (.int .i64 s.c) ∧ w' = w := by
  obtain ⟨⟨-, -, -, c3, -⟩, -⟩ := h.cells
  clear h
  go_enter Tryd.func13, Tryd.ntmps13
  go_wp2
  go_ret
  exact ⟨rfl, rfl⟩

set_option maxRecDepth 100000 in
theorem nothing_any (g : Nat) (s : Ga.St) (w : World) (h : AccAt w g s) :
    Calls Tryd.prog 32 #[.pointer (some ⟨g, 0, none⟩)] w fun e w' => e = .returned (.int .u64 (if 0 < s.c ∧ s.z = s.c then 9223372036854775808 else 0)) ∧ ∃ k, w' = w.drewN k := by
  obtain ⟨⟨-, -, -, c3, c4⟩, -⟩ := h.cells
  have k1 := h.ok.odd
  have k2 := h.ok.n0
  have k3 := h.ok.u0
  have k4 := h.ok.d0
  have k5 := h.ok.z0
  obtain ⟨c, hc⟩ : ∃ c, s.c = c := ⟨_, rfl⟩
  obtain ⟨z, hz⟩ : ∃ z, s.z = z := ⟨_, rfl⟩
  have c0 : 0 ≤ c := by omega
  rw [hc] at c3 ⊢
  rw [hz] at c4 ⊢
  obtain ⟨V, hV⟩ : ∃ V, Hid ((if 0 < c ∧ z = c then (9223372036854775808 : Int) else 0) = V) := ⟨_, rfl⟩
  rw [hV.out]
  clear h hc hz k1 k2 k3 k4 k5
  rcases (show c = 0 ∨ 0 < c by omega) with rfl | h1
  · have g1 : decide ((0 : Int) < 0) = false := rfl
    obtain rfl : V = 0 := by rw [← hV.out]; rfl
    clear hV
    go_enter Tryd.func32, Tryd.ntmps32
    go_wp2
    go_quiet (fail)
    go_wp2
    go_ret
    exact ⟨rfl, _, rfl⟩
  · rcases (show z = c ∨ z ≠ c by omega) with rfl | h2
    · obtain rfl : V = 9223372036854775808 := by rw [← hV.out, if_pos ⟨h1, rfl⟩]
      clear hV
      go_enter Tryd.func32, Tryd.ntmps32
      go_wp2
      go_quiet (fail)
      go_wp2
      go_ret
      exact ⟨rfl, _, rfl⟩
    · have g2 : (z == c) = false := by rw [beq_eq_false_iff_ne]; exact h2
      obtain rfl : V = 0 := by rw [← hV.out, if_neg (fun q => h2 q.2)]
      clear hV
      go_enter Tryd.func32, Tryd.ntmps32
      go_wp2
      go_quiet (fail)
      go_wp2
      go_ret
      exact ⟨rfl, _, rfl⟩

end Go.Proofs.YtdolgbojbmioeaaDoor
