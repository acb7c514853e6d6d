/-
  code: within, isWord, holds, arguments (mkcda.py).
-/
import Derived.Test.YtnobafmleellhabDoorCdN
namespace Go.Proofs.YtnobafmleellhabDoor
open Go Go.RowKit Go.Deep

theorem cwith_any (x l h : Int) (w : World) : Calls Tryd.prog 27 #[.int .i64 x, .int .i64 l, .int .i64 h] w fun e w' => e = .returned (.bool (decide (l ≤ x ∧ x ≤ h))) ∧ w' = w := by
  by_cases h1 : l ≤ x
  · by_cases h2 : x ≤ h
    · rw [decide_eq_true (⟨h1, h2⟩ : l ≤ x ∧ x ≤ h)]
      go_enter Tryd.func27, Tryd.ntmps27
      go_wp2_with fail
      go_ret
      exact ⟨rfl, rfl⟩
    · rw [decide_eq_false (fun q : l ≤ x ∧ x ≤ h => h2 q.2)]
      go_enter Tryd.func27, Tryd.ntmps27
      go_wp2_with fail
      go_ret
      exact ⟨rfl, rfl⟩
  · rw [decide_eq_false (fun q : l ≤ x ∧ x ≤ h => h1 q.1)]
    go_enter Tryd.func27, Tryd.ntmps27
    go_wp2_with fail
    go_ret
    exact ⟨rfl, rfl⟩
theorem cisw_any (k : Int) (w : World) : Calls Tryd.prog 25 #[.int .i64 k] w fun e w' => e = .returned (.bool (decide (1 ≤ k ∧ k ≤ 33))) ∧ w' = w := by
  have WI := hid (cwith_any k 1 33)
  generalize decide ((1 : Int) ≤ k ∧ k ≤ 33) = q at *
  go_enter Tryd.func25, Tryd.ntmps25
  go_wp2_with (go_at_call 27; refine (WI.out _).mono ?_; rintro e w2 ⟨rfl, rfl⟩)
  go_ret
  exact ⟨rfl, rfl⟩
set_option maxRecDepth 100000 in
set_option maxHeartbeats 4000000 in
theorem chold_any (k x : Int) (w : World) : Calls Tryd.prog 37 #[.int .i64 k, .int .i64 x] w fun e w' => e = .returned (.bool (Cd.hd k x)) ∧ w' = w := by
  by_cases h1 : k = 1
  · subst h1
    rw [show Cd.hd 1 x = decide (0 ≤ x) by simp [Cd.hd]]
    go_enter Tryd.func37, Tryd.ntmps37
    go_wp2_with fail
    go_ret
    exact ⟨rfl, rfl⟩
  by_cases h2 : k = 2
  · subst h2
    rw [show Cd.hd 2 x = decide (0 ≤ x) by simp [Cd.hd]]
    go_enter Tryd.func37, Tryd.ntmps37
    go_wp2_with fail
    go_ret
    exact ⟨rfl, rfl⟩
  by_cases h3 : k = 3
  · subst h3
    rw [show Cd.hd 3 x = decide (1 ≤ x) by simp [Cd.hd]]
    go_enter Tryd.func37, Tryd.ntmps37
    go_wp2_with fail
    go_ret
    exact ⟨rfl, rfl⟩
  by_cases h4 : k = 4
  · subst h4
    rw [show Cd.hd 4 x = decide ((0 : Int) ≤ x ∧ x ≤ 255) by simp [Cd.hd]]
    have WI := hid (cwith_any x 0 255)
    generalize decide ((0 : Int) ≤ x ∧ x ≤ 255) = q at *
    go_enter Tryd.func37, Tryd.ntmps37
    go_wp2_with (go_at_call 27; refine (WI.out _).mono ?_; rintro e w2 ⟨rfl, rfl⟩)
    go_ret
    exact ⟨rfl, rfl⟩
  by_cases h5 : k = 5
  · subst h5
    rw [show Cd.hd 5 x = decide ((0 : Int) ≤ x ∧ x ≤ 63) by simp [Cd.hd]]
    have WI := hid (cwith_any x 0 63)
    generalize decide ((0 : Int) ≤ x ∧ x ≤ 63) = q at *
    go_enter Tryd.func37, Tryd.ntmps37
    go_wp2_with (go_at_call 27; refine (WI.out _).mono ?_; rintro e w2 ⟨rfl, rfl⟩)
    go_ret
    exact ⟨rfl, rfl⟩
  by_cases h6 : k = 6
  · subst h6
    rw [show Cd.hd 6 x = decide ((1 : Int) ≤ x ∧ x ≤ 6) by simp [Cd.hd]]
    have WI := hid (cwith_any x 1 6)
    generalize decide ((1 : Int) ≤ x ∧ x ≤ 6) = q at *
    go_enter Tryd.func37, Tryd.ntmps37
    go_wp2_with (go_at_call 27; refine (WI.out _).mono ?_; rintro e w2 ⟨rfl, rfl⟩)
    go_ret
    exact ⟨rfl, rfl⟩
  by_cases h7 : k = 7
  · subst h7
    rw [show Cd.hd 7 x = decide ((1 : Int) ≤ x ∧ x ≤ 4) by simp [Cd.hd]]
    have WI := hid (cwith_any x 1 4)
    generalize decide ((1 : Int) ≤ x ∧ x ≤ 4) = q at *
    go_enter Tryd.func37, Tryd.ntmps37
    go_wp2_with (go_at_call 27; refine (WI.out _).mono ?_; rintro e w2 ⟨rfl, rfl⟩)
    go_ret
    exact ⟨rfl, rfl⟩
  by_cases h8 : k = 8
  · subst h8
    rw [show Cd.hd 8 x = decide ((1 : Int) ≤ x ∧ x ≤ 6) by simp [Cd.hd]]
    have WI := hid (cwith_any x 1 6)
    generalize decide ((1 : Int) ≤ x ∧ x ≤ 6) = q at *
    go_enter Tryd.func37, Tryd.ntmps37
    go_wp2_with (go_at_call 27; refine (WI.out _).mono ?_; rintro e w2 ⟨rfl, rfl⟩)
    go_ret
    exact ⟨rfl, rfl⟩
  by_cases h9 : k = 9
  · subst h9
    rw [show Cd.hd 9 x = decide ((10 : Int) ≤ x ∧ x ≤ 11) by simp [Cd.hd]]
    have WI := hid (cwith_any x 10 11)
    generalize decide ((10 : Int) ≤ x ∧ x ≤ 11) = q at *
    go_enter Tryd.func37, Tryd.ntmps37
    go_wp2_with (go_at_call 27; refine (WI.out _).mono ?_; rintro e w2 ⟨rfl, rfl⟩)
    go_ret
    exact ⟨rfl, rfl⟩
  by_cases h11 : k = 11
  · subst h11
    rw [show Cd.hd 11 x = decide ((1 : Int) ≤ x ∧ x ≤ 32768) by simp [Cd.hd]]
    have WI := hid (cwith_any x 1 32768)
    generalize decide ((1 : Int) ≤ x ∧ x ≤ 32768) = q at *
    go_enter Tryd.func37, Tryd.ntmps37
    go_wp2_with (go_at_call 27; refine (WI.out _).mono ?_; rintro e w2 ⟨rfl, rfl⟩)
    go_ret
    exact ⟨rfl, rfl⟩
  rw [show Cd.hd k x = decide (x = 0) by simp [Cd.hd, h1, h2, h3, h4, h5, h6, h7, h8, h9, h11]]
  by_cases hx : x = 0
  · subst hx
    go_enter Tryd.func37, Tryd.ntmps37
    go_wp2_with fail
    go_ret
    exact ⟨rfl, rfl⟩
  · rw [decide_eq_false hx]
    have hx2 := beq_false_of_ne hx
    go_enter Tryd.func37, Tryd.ntmps37
    go_wp2_with fail
    go_ret
    exact ⟨rfl, rfl⟩
set_option maxRecDepth 100000 in
set_option maxHeartbeats 4000000 in
theorem cargs_any (f : Int) (w : World) : Calls Tryd.prog 36 #[.int .i64 f] w fun e w' => e = .returned (.tuple #[.int .i64 (Cd.args f).1, .int .i64 (Cd.args f).2]) ∧ w' = w := by
  by_cases h1 : f = 1
  · subst h1
    rw [show Cd.args 1 = (1, 1) by simp [Cd.args]]
    go_enter Tryd.func36, Tryd.ntmps36
    go_wp2_with fail
    go_ret2
    exact ⟨rfl, rfl⟩
  by_cases h6 : f = 6
  · subst h6
    rw [show Cd.args 6 = (1, 1) by simp [Cd.args]]
    go_enter Tryd.func36, Tryd.ntmps36
    go_wp2_with fail
    go_ret2
    exact ⟨rfl, rfl⟩
  by_cases h7 : f = 7
  · subst h7
    rw [show Cd.args 7 = (1, 1) by simp [Cd.args]]
    go_enter Tryd.func36, Tryd.ntmps36
    go_wp2_with fail
    go_ret2
    exact ⟨rfl, rfl⟩
  by_cases h8 : f = 8
  · subst h8
    rw [show Cd.args 8 = (1, 1) by simp [Cd.args]]
    go_enter Tryd.func36, Tryd.ntmps36
    go_wp2_with fail
    go_ret2
    exact ⟨rfl, rfl⟩
  by_cases h9 : f = 9
  · subst h9
    rw [show Cd.args 9 = (1, 1) by simp [Cd.args]]
    go_enter Tryd.func36, Tryd.ntmps36
    go_wp2_with fail
    go_ret2
    exact ⟨rfl, rfl⟩
  by_cases h3 : f = 3
  · subst h3
    rw [show Cd.args 3 = (2, 2) by simp [Cd.args]]
    go_enter Tryd.func36, Tryd.ntmps36
    go_wp2_with fail
    go_ret2
    exact ⟨rfl, rfl⟩
  by_cases h2 : f = 2
  · subst h2
    rw [show Cd.args 2 = (2, 3) by simp [Cd.args]]
    go_enter Tryd.func36, Tryd.ntmps36
    go_wp2_with fail
    go_ret2
    exact ⟨rfl, rfl⟩
  by_cases h4 : f = 4
  · subst h4
    rw [show Cd.args 4 = (1, 32768) by simp [Cd.args]]
    go_enter Tryd.func36, Tryd.ntmps36
    go_wp2_with fail
    go_ret2
    exact ⟨rfl, rfl⟩
  by_cases h12 : f = 12
  · subst h12
    rw [show Cd.args 12 = (1, 32768) by simp [Cd.args]]
    go_enter Tryd.func36, Tryd.ntmps36
    go_wp2_with fail
    go_ret2
    exact ⟨rfl, rfl⟩
  rw [show Cd.args f = (1, 0) by simp [Cd.args, h1, h6, h7, h8, h9, h3, h2, h4, h12]]
  go_enter Tryd.func36, Tryd.ntmps36
  go_wp2_with fail
  go_ret2
  exact ⟨rfl, rfl⟩
end Go.Proofs.YtnobafmleellhabDoor
