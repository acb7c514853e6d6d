import Derived.Test.YtjebdobopechfaaDoorXSL
import Derived.Test.YtjebdobopechfaaDoorYUnits
import Derived.Test.YtjebdobopechfaaDoorIDown
/-
  What is rounded is nearest, in the law's words; finite of law05.
-/
namespace Go.Proofs.YtjebdobopechfaaDoor
open Go Go.RowKit Go.Deep
namespace Ie

theorem us_sb (neg : Bool) (x : Int) (h0 : 0 ≤ x) (h1 : x < 9223372036854775808) : us (sb neg x) = sn neg (un x) := by
  obtain ⟨h2, h3⟩ := ab_sb neg x h0 h1
  rw [us, h2, h3]

theorem okd_sb (neg : Bool) (x : Int) (h0 : 0 ≤ x) (h1 : x ≤ 9218868437227405312) : okd (sb neg x) = true := by
  have := (ab_sb neg x h0 (by omega)).1
  rw [ab] at this
  rw [okd, this, decide_eq_true_eq]
  exact h1

theorem isn_sb (neg : Bool) (x : Int) (h0 : 0 ≤ x) (h1 : x ≤ 9218868437227405312) : isn (sb neg x) = false := by
  rw [isn, (ab_sb neg x h0 (by omega)).1, decide_eq_false_iff_not]
  omega

/-- The next double above, by its sign. -/
theorem upd_sb (neg : Bool) (x : Int) (h0 : 0 ≤ x) (h1 : x ≤ 9218868437227405312) :
    upd (sb neg x) = if neg = true then (if x = 0 then sb false 1 else sb true (x - 1)) else (if x = 9218868437227405312 then sb false x else sb false (x + 1)) := by
  rw [upd, okd_sb neg x h0 h1, if_neg (by decide)]
  cases neg <;> simp only [sb, Bool.false_eq_true, if_true, if_false]
  · split <;> (try split) <;> (try split) <;> omega
  · split
    · omega
    · split
      · rw [if_pos (by omega)]
      · rw [if_pos (by omega), if_neg (by omega)]; omega

theorem ng_sb (neg : Bool) (x : Int) (h0 : 0 ≤ x) (h1 : x ≤ 9218868437227405312) : ng (sb neg x) = sb (!neg) x := by
  cases neg <;> simp only [ng, sb, Bool.false_eq_true, if_true, if_false, Bool.not_true, Bool.not_false] <;> split <;> omega

theorem dnd_sb (neg : Bool) (x : Int) (h0 : 0 ≤ x) (h1 : x ≤ 9218868437227405312) :
    dnd (sb neg x) = if neg = true then (if x = 9218868437227405312 then sb true x else sb true (x + 1)) else (if x = 0 then sb true 1 else sb false (x - 1)) := by
  rw [dnd, okd_sb neg x h0 h1, if_neg (by decide), ng_sb neg x h0 h1, upd_sb _ x h0 h1]
  cases neg <;> simp only [Bool.false_eq_true, if_true, if_false, Bool.not_true, Bool.not_false]
  · split
    · exact ng_sb false 1 (by omega) (by omega)
    · exact ng_sb true (x - 1) (by omega) (by omega)
  · split
    · exact ng_sb false x (by omega) (by omega)
    · exact ng_sb false (x + 1) (by omega) (by omega)

theorem az_sub_sn (neg : Bool) (V W : Int) : az (sn neg V - sn neg W) = az (V - W) := by
  cases neg
  · rfl
  · rw [sn_true, sn_true, show -V - -W = -(V - W) by omega, az_neg]

/-- What is rounded lies as near as its neighbours. -/
theorem RS.near {S m : Int} {z : Bool} {r : Int} (m0 : 0 < m) (h : RS S m z r) :
    (az (S - us r * m) < az (S - us (upd r) * m) ∨ (az (S - us r * m) = az (S - us (upd r) * m) ∧ r % 2 = 0)) ∧
    (az (S - us r * m) < az (S - us (dnd r) * m) ∨ (az (S - us r * m) = az (S - us (dnd r) * m) ∧ r % 2 = 0)) ∧
    (0 ≤ r ∧ r < 18446744073709551616) ∧ isn r = false ∧ isn (upd r) = false ∧ isn (dnd r) = false := by
  obtain ⟨neg, V, x, rfl, rfl, v0, hN, -⟩ := h
  obtain ⟨x0, x1⟩ := hN.1
  have r2 : sb neg x % 2 = x % 2 := by cases neg <;> simp only [sb, Bool.false_eq_true, if_true, if_false] <;> omega
  have rb : 0 ≤ sb neg x ∧ sb neg x < 18446744073709551616 := by cases neg <;> simp only [sb, Bool.false_eq_true, if_true, if_false] <;> omega
  have hs : us (sb neg x) * m = sn neg (un x * m) := by rw [us_sb neg x x0 (by omega), sn_mul_right]
  -- a neighbour away from nothing, and one towards it
  have far : x < 9218868437227405312 → az (sn neg V - us (sb neg x) * m) < az (sn neg V - us (sb neg (x + 1)) * m) ∨ (az (sn neg V - us (sb neg x) * m) = az (sn neg V - us (sb neg (x + 1)) * m) ∧ sb neg x % 2 = 0) := by
    intro hx
    rw [r2, hs, us_sb neg (x + 1) (by omega) (by omega), sn_mul_right, az_sub_sn, az_sub_sn]
    exact near_up m0 hN hx
  have close : 0 < x → az (sn neg V - us (sb neg x) * m) < az (sn neg V - us (sb neg (x - 1)) * m) ∨ (az (sn neg V - us (sb neg x) * m) = az (sn neg V - us (sb neg (x - 1)) * m) ∧ sb neg x % 2 = 0) := by
    intro hx
    rw [r2, hs, us_sb neg (x - 1) (by omega) (by omega), sn_mul_right, az_sub_sn, az_sub_sn]
    exact near_down m0 hN hx
  have cross : x = 0 → az (sn neg V - us (sb neg x) * m) < az (sn neg V - us (sb (!neg) 1) * m) := by
    intro hx
    subst hx
    rw [hs, us_sb (!neg) 1 (by omega) (by omega), sn_not, Int.neg_mul, sn_mul_right, az_sub_sn]
    have := near_cross m0 v0
    rw [Int.neg_mul] at this
    rw [show sn neg V - -sn neg (un 1 * m) = sn neg V - sn neg (-(un 1 * m)) by cases neg <;> simp only [sn, Bool.false_eq_true, if_true, if_false] <;> omega, az_sub_sn]
    exact this
  have even : (9218868437227405312 : Int) % 2 = 0 := by decide
  rw [upd_sb neg x x0 x1, dnd_sb neg x x0 x1]
  refine ⟨?_, ?_, rb, isn_sb neg x x0 x1, ?_, ?_⟩
  · cases neg <;> simp only [Bool.false_eq_true, if_true, if_false]
    · split
      · rename_i hx; right; exact ⟨rfl, by rw [r2, hx]; rfl⟩
      · exact far (by omega)
    · split
      · rename_i hx; left; exact cross hx
      · exact close (by omega)
  · cases neg <;> simp only [Bool.false_eq_true, if_true, if_false]
    · split
      · rename_i hx; left; exact cross hx
      · exact close (by omega)
    · split
      · rename_i hx; right; exact ⟨rfl, by rw [r2, hx]; rfl⟩
      · exact far (by omega)
  · cases neg <;> simp only [Bool.false_eq_true, if_true, if_false] <;> split <;> apply isn_sb <;> omega
  · cases neg <;> simp only [Bool.false_eq_true, if_true, if_false] <;> split <;> apply isn_sb <;> omega
end Ie

set_option maxRecDepth 100000 in
theorem yfinite_any (d : Int) (w : World) (h0 : 0 ≤ d) (h1 : d < 18446744073709551616) :
    Calls Tryd.prog 16 #[.int .u64 d] w fun e w' => e = .returned (.bool (decide (Ie.ab d < 9218868437227405312))) ∧ w' = w := by
  have B := Ib.sign_andNot d h0 h1
  rw [← Ie.ab] at B
  generalize Ie.ab d = x at B
  go_enter Tryd.func16, Tryd.ntmps16
  go_wp2
  go_ret
  exact ⟨rfl, rfl⟩
end Go.Proofs.YtjebdobopechfaaDoor
