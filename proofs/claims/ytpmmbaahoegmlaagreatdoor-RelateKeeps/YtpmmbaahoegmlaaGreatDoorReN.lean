/-
  relate: the order of values (mathematics).
-/
import Derived.Test.YtpmmbaahoegmlaaGreatDoorIOrdD
import Derived.Test.YtpmmbaahoegmlaaGreatDoorIOrdC
import Derived.Test.YtpmmbaahoegmlaaGreatDoorVOrd
import Derived.Test.YtpmmbaahoegmlaaGreatDoorVStr
namespace Go.Proofs.YtpmmbaahoegmlaaGreatDoor
open Go

namespace Re
/-- A text's bytes. -/
def bl (s : ByteArray) : List Int := s.data.toList.map fun x => (x.toNat : Int)
theorem bl_inj {s t : ByteArray} (h : bl s = bl t) : s = t := (Str.self s).inj (by rw [Str]; exact h.symm)

/-- Where a value stands: a number's place, or a text. -/
inductive Rk where
  | nu (n : Int)
  | tx (s : ByteArray)
  deriving Inhabited
/-- A ticket: a place and a number of its own. -/
structure Tk where
  r : Rk
  i : Int
  deriving Inhabited

/-- The order of places. -/
def cm : Rk → Rk → Int
  | .nu a, .nu b => Ie.cm a b
  | .nu _, .tx _ => -1
  | .tx _, .nu _ => 1
  | .tx s, .tx t => Sc.lex (bl s) (bl t)
/-- The order of tickets. -/
def ct (x y : Tk) : Int := if cm x.r y.r = 0 then Sc.cmpI x.i y.i else cm x.r y.r

theorem icm_c (x y : Int) : (x < y ∧ Ie.cm x y = -1) ∨ (x = y ∧ Ie.cm x y = 0) ∨ (y < x ∧ Ie.cm x y = 1) := by
  unfold Ie.cm
  rcases Int.lt_trichotomy x y with h | h | h
  · exact Or.inl ⟨h, if_pos h⟩
  · exact Or.inr (Or.inl ⟨h, by rw [if_neg (by omega), if_neg (by omega)]⟩)
  · exact Or.inr (Or.inr ⟨h, by rw [if_neg (by omega), if_pos h]⟩)

theorem cm_b (a b : Rk) : cm a b = -1 ∨ cm a b = 0 ∨ cm a b = 1 := by
  cases a with
  | nu a => cases b with
    | nu b => rcases icm_c a b with h | h | h <;> simp [cm, h.2]
    | tx t => exact Or.inl rfl
  | tx s => cases b with
    | nu b => exact Or.inr (Or.inr rfl)
    | tx t => exact Sc.lex_b _ _
theorem cm_anti (a b : Rk) : cm b a = - cm a b := by
  cases a with
  | nu a => cases b with
    | nu b =>
      show Ie.cm b a = - Ie.cm a b
      rcases icm_c a b with h | h | h <;> rcases icm_c b a with g | g | g <;> rw [h.2, g.2] <;> omega
    | tx t => rfl
  | tx s => cases b with
    | nu b => rfl
    | tx t => exact Sc.lex_anti _ _
theorem cm_self (a : Rk) : cm a a = 0 := by
  have := cm_anti a a
  omega
theorem cm_trans (a b c : Rk) : cm a b ≤ 0 → cm b c ≤ 0 → cm a c ≤ 0 ∧ (cm a c = 0 → cm a b = 0 ∧ cm b c = 0) := by
  intro h k
  cases a with
  | nu a => cases b with
    | nu b => cases c with
      | nu c =>
        show Ie.cm a c ≤ 0 ∧ (Ie.cm a c = 0 → Ie.cm a b = 0 ∧ Ie.cm b c = 0)
        change Ie.cm a b ≤ 0 at h
        change Ie.cm b c ≤ 0 at k
        rcases icm_c a b with p | p | p <;> rcases icm_c b c with q | q | q <;> rcases icm_c a c with r | r | r <;> rw [p.2, q.2, r.2] <;> rw [p.2] at h <;> rw [q.2] at k <;> omega
      | tx t => exact ⟨(by show (-1 : Int) ≤ 0; decide), fun h => absurd h (by show ¬ (-1 : Int) = 0; decide)⟩
    | tx t => cases c with
      | nu c => exact absurd k (by show ¬ (1 : Int) ≤ 0; decide)
      | tx u => exact ⟨(by show (-1 : Int) ≤ 0; decide), fun h => absurd h (by show ¬ (-1 : Int) = 0; decide)⟩
  | tx s => cases b with
    | nu b => exact absurd h (by show ¬ (1 : Int) ≤ 0; decide)
    | tx t => cases c with
      | nu c => exact absurd k (by show ¬ (1 : Int) ≤ 0; decide)
      | tx u => exact Sc.lex_trans _ _ _ h k
theorem cm_zero {a b : Rk} (h : cm a b = 0) : a = b := by
  cases a with
  | nu a => cases b with
    | nu b =>
      change Ie.cm a b = 0 at h
      rcases icm_c a b with p | p | p
      · omega
      · rw [p.1]
      · omega
    | tx t => exact absurd h (by show ¬ (-1 : Int) = 0; decide)
  | tx s => cases b with
    | nu b => exact absurd h (by show ¬ (1 : Int) = 0; decide)
    | tx t => rw [bl_inj ((Sc.lex_zero _ _).1 h)]

theorem ct_zero {x y : Tk} (h : ct x y = 0) : x = y := by
  unfold ct at h
  by_cases c : cm x.r y.r = 0
  · rw [if_pos c] at h
    rcases Sc.cmpI_c x.i y.i with p | p | p
    · omega
    · cases x; cases y; simp only [Tk.mk.injEq]; exact ⟨cm_zero c, p.1⟩
    · omega
  · rw [if_neg c] at h; exact absurd h c
theorem ct_anti (x y : Tk) : ct y x = - ct x y := by
  unfold ct
  have e := cm_anti x.r y.r
  by_cases c : cm x.r y.r = 0
  · rw [if_pos c, if_pos (by omega)]
    rcases Sc.cmpI_c x.i y.i with h | h | h <;> rcases Sc.cmpI_c y.i x.i with g | g | g <;> rw [h.2, g.2] <;> omega
  · rw [if_neg c, if_neg (by omega), e]
theorem ct_b (x y : Tk) : ct x y = -1 ∨ ct x y = 0 ∨ ct x y = 1 := by
  unfold ct
  by_cases c : cm x.r y.r = 0
  · rw [if_pos c]; rcases Sc.cmpI_c x.i y.i with h | h | h <;> rw [h.2] <;> simp
  · rw [if_neg c]; exact cm_b _ _
theorem ct_le {x y : Tk} : ct x y ≤ 0 ↔ cm x.r y.r < 0 ∨ (cm x.r y.r = 0 ∧ x.i ≤ y.i) := by
  unfold ct
  by_cases c : cm x.r y.r = 0
  · rw [if_pos c]
    rcases Sc.cmpI_c x.i y.i with h | h | h <;> rw [h.2] <;> constructor <;> intro q <;> omega
  · rw [if_neg c]; constructor <;> intro q <;> omega
theorem ct_trans {x y z : Tk} (h : ct x y ≤ 0) (k : ct y z ≤ 0) : ct x z ≤ 0 := by
  rw [ct_le] at *
  have b1 : cm x.r y.r ≤ 0 := by omega
  have b2 : cm y.r z.r ≤ 0 := by omega
  obtain ⟨t1, t2⟩ := cm_trans _ _ _ b1 b2
  by_cases c : cm x.r z.r = 0
  · have := t2 c; omega
  · omega

/-- A raw value's number, where it is one. -/
def nu (k n : Int) : Int := if k = 1 ∨ k = 3 then n else 0
/-- A double's place among numbers. -/
def pl (n : Int) : Int := if Ie.okd n = true then Ie.rkv n else 9223372036854775807
/-- A raw value's place. -/
def rt (k n : Int) (s : ByteArray) : Rk := if k = 2 then .tx s else .nu (pl (nu k n))
/-- A place as it lies in memory. -/
def er : Rk → Array Value
  | .nu n => #[.bool false, .int .i64 n, .string ⟨#[]⟩]
  | .tx s => #[.bool true, .int .i64 0, .string s]
/-- A ticket as it lies in memory. -/
def et (x : Tk) : List Value := (er x.r).toList ++ [.int .i64 x.i]
theorem rt_tx {k n : Int} {s : ByteArray} (h : k = 2) : rt k n s = .tx s := if_pos h
theorem rt_nu {k n : Int} {s : ByteArray} (h : k ≠ 2) : rt k n s = .nu (pl (nu k n)) := if_neg h
end Re
end Go.Proofs.YtpmmbaahoegmlaaGreatDoor
