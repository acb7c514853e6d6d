/-
  token: digit, inName. abacusref23: digit, letter.
-/
import Derived.Test.YtcigpfnlkjoibaaDoorVStr
import Derived.Test.YtcigpfnlkjoibaaDoorChN
import Derived.Shelf.Vars
import Derived.Shelf.Pu.Clone
import Derived.Deep.LoopGhost
namespace Go.Proofs.YtcigpfnlkjoibaaDoor
open Go Go.RowKit Go.Deep Go.Shelf

namespace Tk
def dg (n : Int) : Bool := decide (48 ≤ n ∧ n ≤ 57)
def lt (n : Int) : Bool := decide (97 ≤ n ∧ n ≤ 122 ∨ 65 ≤ n ∧ n ≤ 90 ∨ n = 95)
def nm (n : Int) : Bool := lt n || dg n
end Tk

set_option maxRecDepth 100000 in
theorem tdigit_any (n : Int) (w : World) (b0 : 0 ≤ n) (b1 : n < 256) :
    Calls Tryd.prog 8 #[.int .u8 n] w fun e w' => e = .returned (.bool (Tk.dg n)) ∧ w' = w := by
  have hc : n ≤ 47 ∨ (48 ≤ n ∧ n ≤ 57) ∨ (58 ≤ n ∧ n ≤ 64) ∨ (65 ≤ n ∧ n ≤ 90) ∨ (91 ≤ n ∧ n ≤ 94) ∨ (95 ≤ n ∧ n ≤ 95) ∨ (96 ≤ n ∧ n ≤ 96) ∨ (97 ≤ n ∧ n ≤ 122) ∨ 123 ≤ n := by omega
  rcases hc with hc | hc | hc | hc | hc | hc | hc | hc | hc
  · have q0 : ¬ (97 : Int) ≤ n := by omega
    have q1 : n ≤ 122 := by omega
    have q2 : ¬ (65 : Int) ≤ n := by omega
    have q3 : n ≤ 90 := by omega
    have q4 : ¬ n = 95 := by omega
    have q5 : ¬ (48 : Int) ≤ n := by omega
    have q6 : n ≤ 57 := by omega
    have V : Hid (Tk.dg n = false) := by show _ = _; simp only [Tk.dg]; first | exact decide_eq_true (by omega) | exact decide_eq_false (by omega)
    have qb : (n == 95) = false := beq_eq_false_iff_ne.2 (by omega)
    clear hc
    go_enter Tryd.func8, Tryd.ntmps8
    go_wp2_with fail
    go_ret
    exact ⟨by rw [V.out]; rfl, rfl⟩
  · have q0 : ¬ (97 : Int) ≤ n := by omega
    have q1 : n ≤ 122 := by omega
    have q2 : ¬ (65 : Int) ≤ n := by omega
    have q3 : n ≤ 90 := by omega
    have q4 : ¬ n = 95 := by omega
    have q5 : (48 : Int) ≤ n := by omega
    have q6 : n ≤ 57 := by omega
    have V : Hid (Tk.dg n = true) := by show _ = _; simp only [Tk.dg]; first | exact decide_eq_true (by omega) | exact decide_eq_false (by omega)
    have qb : (n == 95) = false := beq_eq_false_iff_ne.2 (by omega)
    clear hc
    go_enter Tryd.func8, Tryd.ntmps8
    go_wp2_with fail
    go_ret
    exact ⟨by rw [V.out]; rfl, rfl⟩
  · have q0 : ¬ (97 : Int) ≤ n := by omega
    have q1 : n ≤ 122 := by omega
    have q2 : ¬ (65 : Int) ≤ n := by omega
    have q3 : n ≤ 90 := by omega
    have q4 : ¬ n = 95 := by omega
    have q5 : (48 : Int) ≤ n := by omega
    have q6 : ¬ n ≤ 57 := by omega
    have V : Hid (Tk.dg n = false) := by show _ = _; simp only [Tk.dg]; first | exact decide_eq_true (by omega) | exact decide_eq_false (by omega)
    have qb : (n == 95) = false := beq_eq_false_iff_ne.2 (by omega)
    clear hc
    go_enter Tryd.func8, Tryd.ntmps8
    go_wp2_with fail
    go_ret
    exact ⟨by rw [V.out]; rfl, rfl⟩
  · have q0 : ¬ (97 : Int) ≤ n := by omega
    have q1 : n ≤ 122 := by omega
    have q2 : (65 : Int) ≤ n := by omega
    have q3 : n ≤ 90 := by omega
    have q4 : ¬ n = 95 := by omega
    have q5 : (48 : Int) ≤ n := by omega
    have q6 : ¬ n ≤ 57 := by omega
    have V : Hid (Tk.dg n = false) := by show _ = _; simp only [Tk.dg]; first | exact decide_eq_true (by omega) | exact decide_eq_false (by omega)
    have qb : (n == 95) = false := beq_eq_false_iff_ne.2 (by omega)
    clear hc
    go_enter Tryd.func8, Tryd.ntmps8
    go_wp2_with fail
    go_ret
    exact ⟨by rw [V.out]; rfl, rfl⟩
  · have q0 : ¬ (97 : Int) ≤ n := by omega
    have q1 : n ≤ 122 := by omega
    have q2 : (65 : Int) ≤ n := by omega
    have q3 : ¬ n ≤ 90 := by omega
    have q4 : ¬ n = 95 := by omega
    have q5 : (48 : Int) ≤ n := by omega
    have q6 : ¬ n ≤ 57 := by omega
    have V : Hid (Tk.dg n = false) := by show _ = _; simp only [Tk.dg]; first | exact decide_eq_true (by omega) | exact decide_eq_false (by omega)
    have qb : (n == 95) = false := beq_eq_false_iff_ne.2 (by omega)
    clear hc
    go_enter Tryd.func8, Tryd.ntmps8
    go_wp2_with fail
    go_ret
    exact ⟨by rw [V.out]; rfl, rfl⟩
  · have e0 : n = 95 := by omega
    have V : Hid (Tk.dg n = false) := by show _ = _; simp only [Tk.dg]; first | exact decide_eq_true (by omega) | exact decide_eq_false (by omega)
    clear hc b0 b1
    subst e0
    go_enter Tryd.func8, Tryd.ntmps8
    go_wp2_with fail
    go_ret
    exact ⟨by rw [V.out]; rfl, rfl⟩
  · have e0 : n = 96 := by omega
    have V : Hid (Tk.dg n = false) := by show _ = _; simp only [Tk.dg]; first | exact decide_eq_true (by omega) | exact decide_eq_false (by omega)
    clear hc b0 b1
    subst e0
    go_enter Tryd.func8, Tryd.ntmps8
    go_wp2_with fail
    go_ret
    exact ⟨by rw [V.out]; rfl, rfl⟩
  · have q0 : (97 : Int) ≤ n := by omega
    have q1 : n ≤ 122 := by omega
    have q2 : (65 : Int) ≤ n := by omega
    have q3 : ¬ n ≤ 90 := by omega
    have q4 : ¬ n = 95 := by omega
    have q5 : (48 : Int) ≤ n := by omega
    have q6 : ¬ n ≤ 57 := by omega
    have V : Hid (Tk.dg n = false) := by show _ = _; simp only [Tk.dg]; first | exact decide_eq_true (by omega) | exact decide_eq_false (by omega)
    have qb : (n == 95) = false := beq_eq_false_iff_ne.2 (by omega)
    clear hc
    go_enter Tryd.func8, Tryd.ntmps8
    go_wp2_with fail
    go_ret
    exact ⟨by rw [V.out]; rfl, rfl⟩
  · have q0 : (97 : Int) ≤ n := by omega
    have q1 : ¬ n ≤ 122 := by omega
    have q2 : (65 : Int) ≤ n := by omega
    have q3 : ¬ n ≤ 90 := by omega
    have q4 : ¬ n = 95 := by omega
    have q5 : (48 : Int) ≤ n := by omega
    have q6 : ¬ n ≤ 57 := by omega
    have V : Hid (Tk.dg n = false) := by show _ = _; simp only [Tk.dg]; first | exact decide_eq_true (by omega) | exact decide_eq_false (by omega)
    have qb : (n == 95) = false := beq_eq_false_iff_ne.2 (by omega)
    clear hc
    go_enter Tryd.func8, Tryd.ntmps8
    go_wp2_with fail
    go_ret
    exact ⟨by rw [V.out]; rfl, rfl⟩
set_option maxRecDepth 100000 in
theorem tinname_any (n : Int) (w : World) (b0 : 0 ≤ n) (b1 : n < 256) :
    Calls Tryd.prog 13 #[.int .u8 n] w fun e w' => e = .returned (.bool (Tk.nm n)) ∧ w' = w := by
  have hc : n ≤ 47 ∨ (48 ≤ n ∧ n ≤ 57) ∨ (58 ≤ n ∧ n ≤ 64) ∨ (65 ≤ n ∧ n ≤ 90) ∨ (91 ≤ n ∧ n ≤ 94) ∨ (95 ≤ n ∧ n ≤ 95) ∨ (96 ≤ n ∧ n ≤ 96) ∨ (97 ≤ n ∧ n ≤ 122) ∨ 123 ≤ n := by omega
  rcases hc with hc | hc | hc | hc | hc | hc | hc | hc | hc
  · have q0 : ¬ (97 : Int) ≤ n := by omega
    have q1 : n ≤ 122 := by omega
    have q2 : ¬ (65 : Int) ≤ n := by omega
    have q3 : n ≤ 90 := by omega
    have q4 : ¬ n = 95 := by omega
    have q5 : ¬ (48 : Int) ≤ n := by omega
    have q6 : n ≤ 57 := by omega
    have V : Hid (Tk.nm n = false) := by show _ = _; simp only [Tk.nm, Tk.lt, Tk.dg, ← Bool.decide_or]; first | exact decide_eq_true (by omega) | exact decide_eq_false (by omega)
    have qb : (n == 95) = false := beq_eq_false_iff_ne.2 (by omega)
    clear hc
    go_enter Tryd.func13, Tryd.ntmps13
    go_wp2_with fail
    refine (tdigit_any _ w (by omega) (by omega)).mono ?_
    rintro e w1 ⟨rfl, hw⟩
    rw [hw]
    rw [show Tk.dg n = false by exact decide_eq_false (by omega)]
    go_wp2_with fail
    go_ret
    exact ⟨by rw [V.out]; rfl, rfl⟩
  · have q0 : ¬ (97 : Int) ≤ n := by omega
    have q1 : n ≤ 122 := by omega
    have q2 : ¬ (65 : Int) ≤ n := by omega
    have q3 : n ≤ 90 := by omega
    have q4 : ¬ n = 95 := by omega
    have q5 : (48 : Int) ≤ n := by omega
    have q6 : n ≤ 57 := by omega
    have V : Hid (Tk.nm n = true) := by show _ = _; simp only [Tk.nm, Tk.lt, Tk.dg, ← Bool.decide_or]; first | exact decide_eq_true (by omega) | exact decide_eq_false (by omega)
    have qb : (n == 95) = false := beq_eq_false_iff_ne.2 (by omega)
    clear hc
    go_enter Tryd.func13, Tryd.ntmps13
    go_wp2_with fail
    refine (tdigit_any _ w (by omega) (by omega)).mono ?_
    rintro e w1 ⟨rfl, hw⟩
    rw [hw]
    rw [show Tk.dg n = true by exact decide_eq_true (by omega)]
    go_wp2_with fail
    go_ret
    exact ⟨by rw [V.out]; rfl, rfl⟩
  · have q0 : ¬ (97 : Int) ≤ n := by omega
    have q1 : n ≤ 122 := by omega
    have q2 : ¬ (65 : Int) ≤ n := by omega
    have q3 : n ≤ 90 := by omega
    have q4 : ¬ n = 95 := by omega
    have q5 : (48 : Int) ≤ n := by omega
    have q6 : ¬ n ≤ 57 := by omega
    have V : Hid (Tk.nm n = false) := by show _ = _; simp only [Tk.nm, Tk.lt, Tk.dg, ← Bool.decide_or]; first | exact decide_eq_true (by omega) | exact decide_eq_false (by omega)
    have qb : (n == 95) = false := beq_eq_false_iff_ne.2 (by omega)
    clear hc
    go_enter Tryd.func13, Tryd.ntmps13
    go_wp2_with fail
    refine (tdigit_any _ w (by omega) (by omega)).mono ?_
    rintro e w1 ⟨rfl, hw⟩
    rw [hw]
    rw [show Tk.dg n = false by exact decide_eq_false (by omega)]
    go_wp2_with fail
    go_ret
    exact ⟨by rw [V.out]; rfl, rfl⟩
  · have q0 : ¬ (97 : Int) ≤ n := by omega
    have q1 : n ≤ 122 := by omega
    have q2 : (65 : Int) ≤ n := by omega
    have q3 : n ≤ 90 := by omega
    have q4 : ¬ n = 95 := by omega
    have q5 : (48 : Int) ≤ n := by omega
    have q6 : ¬ n ≤ 57 := by omega
    have V : Hid (Tk.nm n = true) := by show _ = _; simp only [Tk.nm, Tk.lt, Tk.dg, ← Bool.decide_or]; first | exact decide_eq_true (by omega) | exact decide_eq_false (by omega)
    have qb : (n == 95) = false := beq_eq_false_iff_ne.2 (by omega)
    clear hc
    go_enter Tryd.func13, Tryd.ntmps13
    go_wp2_with fail
    go_ret
    exact ⟨by rw [V.out]; rfl, rfl⟩
  · have q0 : ¬ (97 : Int) ≤ n := by omega
    have q1 : n ≤ 122 := by omega
    have q2 : (65 : Int) ≤ n := by omega
    have q3 : ¬ n ≤ 90 := by omega
    have q4 : ¬ n = 95 := by omega
    have q5 : (48 : Int) ≤ n := by omega
    have q6 : ¬ n ≤ 57 := by omega
    have V : Hid (Tk.nm n = false) := by show _ = _; simp only [Tk.nm, Tk.lt, Tk.dg, ← Bool.decide_or]; first | exact decide_eq_true (by omega) | exact decide_eq_false (by omega)
    have qb : (n == 95) = false := beq_eq_false_iff_ne.2 (by omega)
    clear hc
    go_enter Tryd.func13, Tryd.ntmps13
    go_wp2_with fail
    refine (tdigit_any _ w (by omega) (by omega)).mono ?_
    rintro e w1 ⟨rfl, hw⟩
    rw [hw]
    rw [show Tk.dg n = false by exact decide_eq_false (by omega)]
    go_wp2_with fail
    go_ret
    exact ⟨by rw [V.out]; rfl, rfl⟩
  · have e0 : n = 95 := by omega
    have V : Hid (Tk.nm n = true) := by show _ = _; simp only [Tk.nm, Tk.lt, Tk.dg, ← Bool.decide_or]; first | exact decide_eq_true (by omega) | exact decide_eq_false (by omega)
    clear hc b0 b1
    subst e0
    go_enter Tryd.func13, Tryd.ntmps13
    go_wp2_with fail
    go_ret
    exact ⟨by rw [V.out]; rfl, rfl⟩
  · have e0 : n = 96 := by omega
    have V : Hid (Tk.nm n = false) := by show _ = _; simp only [Tk.nm, Tk.lt, Tk.dg, ← Bool.decide_or]; first | exact decide_eq_true (by omega) | exact decide_eq_false (by omega)
    clear hc b0 b1
    subst e0
    go_enter Tryd.func13, Tryd.ntmps13
    go_wp2_with fail
    refine (tdigit_any _ w (by omega) (by omega)).mono ?_
    rintro e w1 ⟨rfl, hw⟩
    rw [hw]
    rw [show Tk.dg 96 = false by rfl]
    go_wp2_with fail
    go_ret
    exact ⟨by rw [V.out]; rfl, rfl⟩
  · have q0 : (97 : Int) ≤ n := by omega
    have q1 : n ≤ 122 := by omega
    have q2 : (65 : Int) ≤ n := by omega
    have q3 : ¬ n ≤ 90 := by omega
    have q4 : ¬ n = 95 := by omega
    have q5 : (48 : Int) ≤ n := by omega
    have q6 : ¬ n ≤ 57 := by omega
    have V : Hid (Tk.nm n = true) := by show _ = _; simp only [Tk.nm, Tk.lt, Tk.dg, ← Bool.decide_or]; first | exact decide_eq_true (by omega) | exact decide_eq_false (by omega)
    have qb : (n == 95) = false := beq_eq_false_iff_ne.2 (by omega)
    clear hc
    go_enter Tryd.func13, Tryd.ntmps13
    go_wp2_with fail
    go_ret
    exact ⟨by rw [V.out]; rfl, rfl⟩
  · have q0 : (97 : Int) ≤ n := by omega
    have q1 : ¬ n ≤ 122 := by omega
    have q2 : (65 : Int) ≤ n := by omega
    have q3 : ¬ n ≤ 90 := by omega
    have q4 : ¬ n = 95 := by omega
    have q5 : (48 : Int) ≤ n := by omega
    have q6 : ¬ n ≤ 57 := by omega
    have V : Hid (Tk.nm n = false) := by show _ = _; simp only [Tk.nm, Tk.lt, Tk.dg, ← Bool.decide_or]; first | exact decide_eq_true (by omega) | exact decide_eq_false (by omega)
    have qb : (n == 95) = false := beq_eq_false_iff_ne.2 (by omega)
    clear hc
    go_enter Tryd.func13, Tryd.ntmps13
    go_wp2_with fail
    refine (tdigit_any _ w (by omega) (by omega)).mono ?_
    rintro e w1 ⟨rfl, hw⟩
    rw [hw]
    rw [show Tk.dg n = false by exact decide_eq_false (by omega)]
    go_wp2_with fail
    go_ret
    exact ⟨by rw [V.out]; rfl, rfl⟩
set_option maxRecDepth 100000 in
theorem rdigit_any (n : Int) (w : World) (b0 : 0 ≤ n) (b1 : n < 256) :
    Calls Tryd.prog 15 #[.int .u8 n] w fun e w' => e = .returned (.bool (Tk.dg n)) ∧ w' = w := by
  have hc : n ≤ 47 ∨ (48 ≤ n ∧ n ≤ 57) ∨ (58 ≤ n ∧ n ≤ 64) ∨ (65 ≤ n ∧ n ≤ 90) ∨ (91 ≤ n ∧ n ≤ 94) ∨ (95 ≤ n ∧ n ≤ 95) ∨ (96 ≤ n ∧ n ≤ 96) ∨ (97 ≤ n ∧ n ≤ 122) ∨ 123 ≤ n := by omega
  rcases hc with hc | hc | hc | hc | hc | hc | hc | hc | hc
  · have q0 : ¬ (97 : Int) ≤ n := by omega
    have q1 : n ≤ 122 := by omega
    have q2 : ¬ (65 : Int) ≤ n := by omega
    have q3 : n ≤ 90 := by omega
    have q4 : ¬ n = 95 := by omega
    have q5 : ¬ (48 : Int) ≤ n := by omega
    have q6 : n ≤ 57 := by omega
    have V : Hid (Tk.dg n = false) := by show _ = _; simp only [Tk.dg]; first | exact decide_eq_true (by omega) | exact decide_eq_false (by omega)
    have qb : (n == 95) = false := beq_eq_false_iff_ne.2 (by omega)
    clear hc
    go_enter Tryd.func15, Tryd.ntmps15
    go_wp2_with fail
    go_ret
    exact ⟨by rw [V.out]; rfl, rfl⟩
  · have q0 : ¬ (97 : Int) ≤ n := by omega
    have q1 : n ≤ 122 := by omega
    have q2 : ¬ (65 : Int) ≤ n := by omega
    have q3 : n ≤ 90 := by omega
    have q4 : ¬ n = 95 := by omega
    have q5 : (48 : Int) ≤ n := by omega
    have q6 : n ≤ 57 := by omega
    have V : Hid (Tk.dg n = true) := by show _ = _; simp only [Tk.dg]; first | exact decide_eq_true (by omega) | exact decide_eq_false (by omega)
    have qb : (n == 95) = false := beq_eq_false_iff_ne.2 (by omega)
    clear hc
    go_enter Tryd.func15, Tryd.ntmps15
    go_wp2_with fail
    go_ret
    exact ⟨by rw [V.out]; rfl, rfl⟩
  · have q0 : ¬ (97 : Int) ≤ n := by omega
    have q1 : n ≤ 122 := by omega
    have q2 : ¬ (65 : Int) ≤ n := by omega
    have q3 : n ≤ 90 := by omega
    have q4 : ¬ n = 95 := by omega
    have q5 : (48 : Int) ≤ n := by omega
    have q6 : ¬ n ≤ 57 := by omega
    have V : Hid (Tk.dg n = false) := by show _ = _; simp only [Tk.dg]; first | exact decide_eq_true (by omega) | exact decide_eq_false (by omega)
    have qb : (n == 95) = false := beq_eq_false_iff_ne.2 (by omega)
    clear hc
    go_enter Tryd.func15, Tryd.ntmps15
    go_wp2_with fail
    go_ret
    exact ⟨by rw [V.out]; rfl, rfl⟩
  · have q0 : ¬ (97 : Int) ≤ n := by omega
    have q1 : n ≤ 122 := by omega
    have q2 : (65 : Int) ≤ n := by omega
    have q3 : n ≤ 90 := by omega
    have q4 : ¬ n = 95 := by omega
    have q5 : (48 : Int) ≤ n := by omega
    have q6 : ¬ n ≤ 57 := by omega
    have V : Hid (Tk.dg n = false) := by show _ = _; simp only [Tk.dg]; first | exact decide_eq_true (by omega) | exact decide_eq_false (by omega)
    have qb : (n == 95) = false := beq_eq_false_iff_ne.2 (by omega)
    clear hc
    go_enter Tryd.func15, Tryd.ntmps15
    go_wp2_with fail
    go_ret
    exact ⟨by rw [V.out]; rfl, rfl⟩
  · have q0 : ¬ (97 : Int) ≤ n := by omega
    have q1 : n ≤ 122 := by omega
    have q2 : (65 : Int) ≤ n := by omega
    have q3 : ¬ n ≤ 90 := by omega
    have q4 : ¬ n = 95 := by omega
    have q5 : (48 : Int) ≤ n := by omega
    have q6 : ¬ n ≤ 57 := by omega
    have V : Hid (Tk.dg n = false) := by show _ = _; simp only [Tk.dg]; first | exact decide_eq_true (by omega) | exact decide_eq_false (by omega)
    have qb : (n == 95) = false := beq_eq_false_iff_ne.2 (by omega)
    clear hc
    go_enter Tryd.func15, Tryd.ntmps15
    go_wp2_with fail
    go_ret
    exact ⟨by rw [V.out]; rfl, rfl⟩
  · have e0 : n = 95 := by omega
    have V : Hid (Tk.dg n = false) := by show _ = _; simp only [Tk.dg]; first | exact decide_eq_true (by omega) | exact decide_eq_false (by omega)
    clear hc b0 b1
    subst e0
    go_enter Tryd.func15, Tryd.ntmps15
    go_wp2_with fail
    go_ret
    exact ⟨by rw [V.out]; rfl, rfl⟩
  · have e0 : n = 96 := by omega
    have V : Hid (Tk.dg n = false) := by show _ = _; simp only [Tk.dg]; first | exact decide_eq_true (by omega) | exact decide_eq_false (by omega)
    clear hc b0 b1
    subst e0
    go_enter Tryd.func15, Tryd.ntmps15
    go_wp2_with fail
    go_ret
    exact ⟨by rw [V.out]; rfl, rfl⟩
  · have q0 : (97 : Int) ≤ n := by omega
    have q1 : n ≤ 122 := by omega
    have q2 : (65 : Int) ≤ n := by omega
    have q3 : ¬ n ≤ 90 := by omega
    have q4 : ¬ n = 95 := by omega
    have q5 : (48 : Int) ≤ n := by omega
    have q6 : ¬ n ≤ 57 := by omega
    have V : Hid (Tk.dg n = false) := by show _ = _; simp only [Tk.dg]; first | exact decide_eq_true (by omega) | exact decide_eq_false (by omega)
    have qb : (n == 95) = false := beq_eq_false_iff_ne.2 (by omega)
    clear hc
    go_enter Tryd.func15, Tryd.ntmps15
    go_wp2_with fail
    go_ret
    exact ⟨by rw [V.out]; rfl, rfl⟩
  · have q0 : (97 : Int) ≤ n := by omega
    have q1 : ¬ n ≤ 122 := by omega
    have q2 : (65 : Int) ≤ n := by omega
    have q3 : ¬ n ≤ 90 := by omega
    have q4 : ¬ n = 95 := by omega
    have q5 : (48 : Int) ≤ n := by omega
    have q6 : ¬ n ≤ 57 := by omega
    have V : Hid (Tk.dg n = false) := by show _ = _; simp only [Tk.dg]; first | exact decide_eq_true (by omega) | exact decide_eq_false (by omega)
    have qb : (n == 95) = false := beq_eq_false_iff_ne.2 (by omega)
    clear hc
    go_enter Tryd.func15, Tryd.ntmps15
    go_wp2_with fail
    go_ret
    exact ⟨by rw [V.out]; rfl, rfl⟩
set_option maxRecDepth 100000 in
theorem rletter_any (n : Int) (w : World) (b0 : 0 ≤ n) (b1 : n < 256) :
    Calls Tryd.prog 14 #[.int .u8 n] w fun e w' => e = .returned (.bool (Tk.lt n)) ∧ w' = w := by
  have hc : n ≤ 47 ∨ (48 ≤ n ∧ n ≤ 57) ∨ (58 ≤ n ∧ n ≤ 64) ∨ (65 ≤ n ∧ n ≤ 90) ∨ (91 ≤ n ∧ n ≤ 94) ∨ (95 ≤ n ∧ n ≤ 95) ∨ (96 ≤ n ∧ n ≤ 96) ∨ (97 ≤ n ∧ n ≤ 122) ∨ 123 ≤ n := by omega
  rcases hc with hc | hc | hc | hc | hc | hc | hc | hc | hc
  · have q0 : ¬ (97 : Int) ≤ n := by omega
    have q1 : n ≤ 122 := by omega
    have q2 : ¬ (65 : Int) ≤ n := by omega
    have q3 : n ≤ 90 := by omega
    have q4 : ¬ n = 95 := by omega
    have q5 : ¬ (48 : Int) ≤ n := by omega
    have q6 : n ≤ 57 := by omega
    have V : Hid (Tk.lt n = false) := by show _ = _; simp only [Tk.lt]; first | exact decide_eq_true (by omega) | exact decide_eq_false (by omega)
    have qb : (n == 95) = false := beq_eq_false_iff_ne.2 (by omega)
    clear hc
    go_enter Tryd.func14, Tryd.ntmps14
    go_wp2_with fail
    go_ret
    exact ⟨by rw [V.out]; rfl, rfl⟩
  · have q0 : ¬ (97 : Int) ≤ n := by omega
    have q1 : n ≤ 122 := by omega
    have q2 : ¬ (65 : Int) ≤ n := by omega
    have q3 : n ≤ 90 := by omega
    have q4 : ¬ n = 95 := by omega
    have q5 : (48 : Int) ≤ n := by omega
    have q6 : n ≤ 57 := by omega
    have V : Hid (Tk.lt n = false) := by show _ = _; simp only [Tk.lt]; first | exact decide_eq_true (by omega) | exact decide_eq_false (by omega)
    have qb : (n == 95) = false := beq_eq_false_iff_ne.2 (by omega)
    clear hc
    go_enter Tryd.func14, Tryd.ntmps14
    go_wp2_with fail
    go_ret
    exact ⟨by rw [V.out]; rfl, rfl⟩
  · have q0 : ¬ (97 : Int) ≤ n := by omega
    have q1 : n ≤ 122 := by omega
    have q2 : ¬ (65 : Int) ≤ n := by omega
    have q3 : n ≤ 90 := by omega
    have q4 : ¬ n = 95 := by omega
    have q5 : (48 : Int) ≤ n := by omega
    have q6 : ¬ n ≤ 57 := by omega
    have V : Hid (Tk.lt n = false) := by show _ = _; simp only [Tk.lt]; first | exact decide_eq_true (by omega) | exact decide_eq_false (by omega)
    have qb : (n == 95) = false := beq_eq_false_iff_ne.2 (by omega)
    clear hc
    go_enter Tryd.func14, Tryd.ntmps14
    go_wp2_with fail
    go_ret
    exact ⟨by rw [V.out]; rfl, rfl⟩
  · have q0 : ¬ (97 : Int) ≤ n := by omega
    have q1 : n ≤ 122 := by omega
    have q2 : (65 : Int) ≤ n := by omega
    have q3 : n ≤ 90 := by omega
    have q4 : ¬ n = 95 := by omega
    have q5 : (48 : Int) ≤ n := by omega
    have q6 : ¬ n ≤ 57 := by omega
    have V : Hid (Tk.lt n = true) := by show _ = _; simp only [Tk.lt]; first | exact decide_eq_true (by omega) | exact decide_eq_false (by omega)
    have qb : (n == 95) = false := beq_eq_false_iff_ne.2 (by omega)
    clear hc
    go_enter Tryd.func14, Tryd.ntmps14
    go_wp2_with fail
    go_ret
    exact ⟨by rw [V.out]; rfl, rfl⟩
  · have q0 : ¬ (97 : Int) ≤ n := by omega
    have q1 : n ≤ 122 := by omega
    have q2 : (65 : Int) ≤ n := by omega
    have q3 : ¬ n ≤ 90 := by omega
    have q4 : ¬ n = 95 := by omega
    have q5 : (48 : Int) ≤ n := by omega
    have q6 : ¬ n ≤ 57 := by omega
    have V : Hid (Tk.lt n = false) := by show _ = _; simp only [Tk.lt]; first | exact decide_eq_true (by omega) | exact decide_eq_false (by omega)
    have qb : (n == 95) = false := beq_eq_false_iff_ne.2 (by omega)
    clear hc
    go_enter Tryd.func14, Tryd.ntmps14
    go_wp2_with fail
    go_ret
    exact ⟨by rw [V.out]; rfl, rfl⟩
  · have e0 : n = 95 := by omega
    have V : Hid (Tk.lt n = true) := by show _ = _; simp only [Tk.lt]; first | exact decide_eq_true (by omega) | exact decide_eq_false (by omega)
    clear hc b0 b1
    subst e0
    go_enter Tryd.func14, Tryd.ntmps14
    go_wp2_with fail
    go_ret
    exact ⟨by rw [V.out]; rfl, rfl⟩
  · have e0 : n = 96 := by omega
    have V : Hid (Tk.lt n = false) := by show _ = _; simp only [Tk.lt]; first | exact decide_eq_true (by omega) | exact decide_eq_false (by omega)
    clear hc b0 b1
    subst e0
    go_enter Tryd.func14, Tryd.ntmps14
    go_wp2_with fail
    go_ret
    exact ⟨by rw [V.out]; rfl, rfl⟩
  · have q0 : (97 : Int) ≤ n := by omega
    have q1 : n ≤ 122 := by omega
    have q2 : (65 : Int) ≤ n := by omega
    have q3 : ¬ n ≤ 90 := by omega
    have q4 : ¬ n = 95 := by omega
    have q5 : (48 : Int) ≤ n := by omega
    have q6 : ¬ n ≤ 57 := by omega
    have V : Hid (Tk.lt n = true) := by show _ = _; simp only [Tk.lt]; first | exact decide_eq_true (by omega) | exact decide_eq_false (by omega)
    have qb : (n == 95) = false := beq_eq_false_iff_ne.2 (by omega)
    clear hc
    go_enter Tryd.func14, Tryd.ntmps14
    go_wp2_with fail
    go_ret
    exact ⟨by rw [V.out]; rfl, rfl⟩
  · have q0 : (97 : Int) ≤ n := by omega
    have q1 : ¬ n ≤ 122 := by omega
    have q2 : (65 : Int) ≤ n := by omega
    have q3 : ¬ n ≤ 90 := by omega
    have q4 : ¬ n = 95 := by omega
    have q5 : (48 : Int) ≤ n := by omega
    have q6 : ¬ n ≤ 57 := by omega
    have V : Hid (Tk.lt n = false) := by show _ = _; simp only [Tk.lt]; first | exact decide_eq_true (by omega) | exact decide_eq_false (by omega)
    have qb : (n == 95) = false := beq_eq_false_iff_ne.2 (by omega)
    clear hc
    go_enter Tryd.func14, Tryd.ntmps14
    go_wp2_with fail
    go_ret
    exact ⟨by rw [V.out]; rfl, rfl⟩
end Go.Proofs.YtcigpfnlkjoibaaDoor
